import PyProof.Rows.All
import Wide.All
import OpenK.AllK
import Wide.FinOn
import Lean
import PyProof.EqAt
import PyProof.EqKinds
import PyProof.TupleCall
import PyProof.NeKinds
import PyProof.WalksEnum
import PyProof.StrWalks
import PyProof.ExcAttrAll.ValueError
import PyProof.ZipIter
import KE.KRevIter
import PyProof.ListNew
import PyProof.WalksMore
import PyProof.ReprLoop
import PyProof.FactsAll.list
import PyProof.CollectIter
import PyProof.TupleOfGen
import PyProof.Draws
import PyProof.EnumMake
import PyProof.SeqI3
import KE.KMinBuiltin
import PyProof.SetRoads
import PyProof.CollectWalk
import KE.KDictSum
import PyProof.AttrMiss
import PyProof.IsiH_tuple
import KE.KDictOf
import PyProof.FitsBits
import PyProof.SliceList
import PyProof.InstFacts
import PyProof.Rows.StrNews2
import PyProof.StrBlockH
import PyProof.CallStr
import KE.KIntText
import PyProof.Rows.RuleB_pow
import KE.KSortTup
import PyProof.ReprRoads
import KE.KLam
import PySem.Challenge.RW_worthkinds_k60_whole_finder
open PySem renaming wpAny_bind->aa,wpAny_pure->ar,wpAny_newObj_type->aX,wpAny_field->bf,wpAny_truthy_bool->bp,wpAny_callSpecial?_slot->bx,wpAny_setField_rec->bz,builtinLookup_eq_fast->bJ,wpAny_call_entry->bU,sizeLine_eq->bY,wpAny_mono->ce,mem_of_lookup->ci,wpAny_Call_Name_kw->cq,wpAny_seqItems->cx,wpAny_passesOwn->cA,codeAny_builtin->cB,typeLookup_type->cC,isSubtype_type->cM,wpAny_of_eq->cP,wpAny_holding->cV,wpAny_attempt->cW,call_meets->dq,codeAny_mono->dz,wpAny_rule->dX,Within->eT,seqSlot_of->i5,call->iA
open PySem.W renaming Frag->ac,kitOne->aQ,findIn->bj,keepIn->bn,kia_one->bB,fnOf->bF,emptyDict->bH,mg_of->bQ,nsIn->bX,instObj->cb,codeIn->dA,methodCall_KW->dI,plainGet->dJ,excIn->dM,plainGet_of->dR,lookIn->dZ,callWith_K->d_,methodObj->eD,hasDictIn->eF,isFn->eW,cellsFrom_some->eY,takerIn->fj,mroIn->fL,plainOver->fR,specialIn->fS,kitx_list->fT,kitx_dict->fU,handedIn->hW,makesIn->ip,takesIn->iq
open List renaming replicate->ad,length_map->ae,mem_cons_of_mem->af,length_cons->ah,getElem?_eq_getElem->aj,getElem?_eq_some_iff->aq,getElem?_map->au,mem_cons_self->aw,getElem?_append_right->ay,size_toArray->aA,length_append->aB,getElem?_replicate->aC,getElem?_append_left->aD,length_singleton->aE,mem_cons->aG,map_cons->aI,getElem?_set_ne->aJ,lookup_cons->aM,length_replicate->aN,mem_map->aO,length_set->aP,map_replicate->aS,all_eq_true->aT,replicate_succ->aU,getElem?_set_self->aV,range->aW,mem_singleton->aY,Nodup->a_,mem_append_right->bb,append_nil->bh,length_nil->bi,getElem?_cons_succ->bo,mem_of_getElem?->bq,map_map->br,mem_range->bu,getElem?_eq_none->bw,nil_append->bC,map_append->bE,append_assoc->bI,eq_of_mem_replicate->bL,not_mem_nil->bP,length_range->bR,reverse_cons->bS,length_take->bT,cons_append->bV,all_cons->bW,flatten_cons->c8,flatMap_cons->c9,map_congr_left->cj,length_reverse->ck,drop_eq_getElem_cons->cz,length_drop->cJ,prefix_refl->cK,mem_flatMap->cO,map_nil->cQ,range_succ_eq_map->cR,sum_cons->cY,mem_append_left->db,reverse_reverse->de,filterMap_cons->di,getElem?_range->dj,of_mem_zip->dm,lookup->dt,filter_cons_of_pos->dw,filter_cons_of_neg->dy,foldl->dL,mem_append->dN,nodup_cons->dO,forIn_cons->dQ,mem_filterMap->dY,getElem?_take_of_lt->eH,take_of_length_le->f7,mem_filter->fg,getElem?_reverse->fw,length_filter_le->fx,drop_zero->fA,getElem_toArray->fD,map_id->fG,filter_eq_self->fK,map_singleton->fQ,all_map->fY,ext_getElem?->f_,getElem_inj->hV,drop_length->i6,zipIdx_cons->i8,length_tail->ib,getElem_mem->ie,any_eq_true->ig,map_reverse->ii,mem_reverse->ij,range'->im,zipIdx_nil->ix,range_succ->iy
open PySem.Heap renaming get?_push_of_some->ai,get?_push_size->ao,lt_size->ax,size_push->bZ,SameBut->cD,FlyingW->dC,ExtBut->fB
open Bool renaming and_eq_true->ak,false_ne_true->av,false_eq_true->az,not_true->bc,true_and->cH
open Nat renaming le_refl->am,le_trans->aF,lt_of_lt_of_le->aK,ne_of_lt->aL,mul_comm->bG,lt_irrefl->bK,zero_le->bO,one_mul->b_,lt_of_le_of_lt->cu,mul_assoc->cI,le_mul_of_pos_right->cN,pow_succ->cU,lt_succ_self->df,le_add_right->dg,min_eq_left->dn,lt_succ_of_lt->dE,sub_self->dG,mul_le_mul->dH,add_le_add_left->dS,mul_pos->eG,add_sub_cancel_left->eR,le_of_lt->eU,ne_of_gt->eV,zero_add->f8,div_add_mod->fu,div_lt_of_lt_mul->fH,succ_ne_zero->i9,le_succ->ik,add_mul->io
open Option.some renaming inj->aH
open PySem.Str renaming ofString->aR
open PyProof.Rows renaming callWith_type1->aZ,slot_tuple_getitem->bg
open Int renaming toNat_natCast->ba,emod_lt_of_pos->eC,eq_ofNat_of_zero_le->eS,zero_add->f9,emod_nonneg->fo,natCast_add->fq,natCast_mul->iw
open PySem.Builtin.Tuple renaming tupleExact->bv,tupleItemsOf->eA,tupleTooMany->eB
open PySem.F renaming excBase_ValueError->bA,plainAttrs_list->cL,called_set->cT,slot_zip_next->c_,args_tuple_add_2->dl,entry_tuple_add->du,slot_tuple_add->dB,slot_tuple_iterator_next->dF,slot_int_rmul->dP,slot_tuple_mul->eL,attr_ValueError->eN,args_zip_next_1->eO,slot_list_count->eP,slot_list_index->eQ,entry_zip_next->f6,called_tuple->fE,args_int_rmul_2->fX,slot_tuple_rmul->fZ,plain_list_iadd->g_,plain_tuple_new->h9,slot_int_index->h_,entry_int_rmul->i4,fills_int_mul->ir
open Ne renaming symm->bM
open False renaming elim->cf
open Array renaming length_toList->cg,getElem?_eq_none->cS,getD->iB
open PySem.Builtin.Slice renaming slicePlaces->cy,sliceAdjust->dh,sliceApplied->e9
open PySem.Around renaming under_plainId->cF,under->eX
open PySem.Builtin.List renaming listTooLong->cG,listExtendWith->dU,listSameRef->eI
open PySem.SeqAt renaming EqAt->da,RcNeAt->dD,RcAt->e_
open Option renaming isSome_iff_exists->dk,some_ne_none->fJ,getD_none->hZ,map->iC
open PyProof.Rows.F renaming plain_set_update_loop->dv,entry_set_update_loop->eM
open PySem.Calls renaming Name_function_global->dW,callWith_builtin->eZ,evalArgs_plain->fy,spliced_cons->fM,spliced_nil->fW
open PyProof.Rows.KeyOrd renaming klt_of_klt_of_kle->eJ,kle_of_klt->hJ
open PySem.Builtin.Range renaming rangeSize->eK
open PySem.Heap.SameBut renaming update->fI
open PySem.SeqAt.EqAt renaming of_refs->fN,same->iu
open PySem.Code renaming quiet_builtin->fO,isFrame->fV
open PySem.Obj renaming data_mapFields->fP
open PySem.PassesOwn renaming leaving->hU,never->iz
open PySem.WalksT renaming enumerate->i7
open Classical renaming skolem->ic
noncomputable section
set_option maxHeartbeats 4000000
set_option Elab.async false
set_option linter.all false
set_option maxRecDepth 100000
namespace L2
open PySem PySem.Spec PyProof.Rows
abbrev Key:=Sum Int Str
def XD:Key->Value->Bool
 | .inl k,v=>Value.isInt k v
 | .inr x,v=>Value.isStrOf x v
def keyH (w:World):Key->Int
 | .inl k=>hashInt k
 | .inr x=>hashStr w x
theorem zX:∀{k:Key} {v:Value},XD k v=true->(∃i t,k=Sum.inl i/\v=Value.int i t)\/(∃x t,k=Sum.inr x/\v=Value.str x t)
 | .inl i,v,h=>by
  obtain⟨t,e⟩:=Value.isInt_shape (k:=i) (v:=v) h;exact .inl ⟨i,t,rfl,e⟩
 | .inr x,v,h=>by
  obtain⟨t,e⟩:=Value.isStrOf_shape (x:=x) (v:=v) h;exact .inr ⟨x,t,rfl,e⟩
theorem XF (a b:Int):decide ((Sum.inl a:Key)=Sum.inl b)=(a == b):=by
 by_cases e:a=b
 ·subst e;simp
 ·have h:¬ (Sum.inl a:Key)=Sum.inl b:=λq=>e (Sum.inl.inj q);rw[decide_eq_false h];exact(beq_eq_false_iff_ne.mpr e).symm
theorem XG (a b:Str):decide ((Sum.inr a:Key)=Sum.inr b)=decide (a=b):=by
 by_cases e:a=b
 ·subst e;simp
 ·have h:¬ (Sum.inr a:Key)=Sum.inr b:=λq=>e (Sum.inr.inj q);rw[decide_eq_false h,decide_eq_false e]
theorem XH (a:Int)(b:Str):decide ((Sum.inl a:Key)=Sum.inr b)=false:=decide_eq_false (λq=>nomatch q)
theorem XI (a:Str)(b:Int):decide ((Sum.inr a:Key)=Sum.inl b)=false:=decide_eq_false (λq=>nomatch q)
def WY (prog:Program)(w:World):PySem.KeyKind prog w Key where
 is:=XD
 hash:=keyH w
 inj:=λv a b ha hb=>by
  rcases zX ha with ⟨i,t,rfl,rfl⟩ | ⟨x,t,rfl,rfl⟩
  ·rcases zX hb with ⟨j,u,rfl,e⟩ | ⟨y,u,rfl,e⟩
   ·injection e with e1 _;rw[e1]
   ·exact nomatch e
  ·rcases zX hb with ⟨j,u,rfl,e⟩ | ⟨y,u,rfl,e⟩
   ·exact nomatch e
   ·injection e with e1 _;rw[e1]
 byValue:=λk v h=>by
  rcases zX h with ⟨i,t,rfl,rfl⟩ | ⟨x,t,rfl,rfl⟩ <;> rfl
 pyHash:=λhv h=>by
  rcases zX hv with ⟨i,t,rfl,rfl⟩ | ⟨x,t,rfl,rfl⟩
  ·exact wpAny_pyHash_int h
  ·exact wpAny_pyHash_str h
 eqBool:=λhu hv h=>by
  rcases zX hu with ⟨i,t,rfl,rfl⟩ | ⟨x,t,rfl,rfl⟩
  ·rcases zX hv with ⟨j,u,rfl,rfl⟩ | ⟨y,u,rfl,rfl⟩
   ·rw[XF]at h;exact wpAny_eqBool_int h
   ·rw[XH]at h;exact da.int_str i t y u _ _ _ _ h
  ·rcases zX hv with ⟨j,u,rfl,rfl⟩ | ⟨y,u,rfl,rfl⟩
   ·rw[XI]at h;exact da.str_int x t j u _ _ _ _ h
   ·rw[XG]at h;exact wpAny_eqBool_str h
 «strs»:=λk x t v h=>by
  rcases zX h with ⟨i,u,rfl,e⟩ | ⟨y,u,rfl,e⟩
  ·exact nomatch e
  ·injection e with e1 _;subst e1;cases v <;> rfl
end L2
namespace L2
open PySem PySem.Spec PyProof.Rows
inductive V where
 | non | bl (b:Bool) | int (i:Int) | str (x:Str) | byt (b:Array UInt8) | flt (b:UInt64) | ref (a:Addr) | ty (n:String)
 deriving DecidableEq
def Zg:V->Value->Prop
 | .non,u=>u=Value.none
 | .bl b,u=>u=Value.bool b
 | .int i,u=>∃t,u=Value.int i t
 | .str x,u=>∃t,u=Value.str x t
 | .byt b,u=>∃t,u=Value.bytes b t
 | .flt b,u=>∃t,u=Value.float b t
 | .ref a,u=>u=Value.ref a
 | .ty n,u=>u=Value.type n
abbrev zU:List V->List Value->Prop:=Paired Zg
theorem zU.length (r:zU xs us):xs.length=us.length:=Paired.length r
theorem zU.get:∀{xs:List V} {us:List Value} {i:Nat} {x:V},zU xs us->xs[i]? =some x->∃u,us[i]? =some u/\Zg x u
 | _,_,_,_,.nil,e=>by simp at e
 | _,_,0,_,.cons r _,e=>by simp at e;subst e;exact⟨_,rfl,r⟩
 | _,_,i+1,x,.cons _ t,e=>by
  obtain⟨u,h1,h2⟩:=zU.get (i:=i) (x:=x) t (by simpa using e)
  exact⟨u,by simpa using h1,h2⟩
theorem zU.append:∀{xs ys:List V} {us ws:List Value},zU xs us->zU ys ws->zU (xs++ys) (us++ws)
 | _,_,_,_,.nil,s=>s
 | _,_,_,_,.cons r t,s=> .cons r (zU.append t s)
theorem zU.take:∀{xs:List V} {us:List Value} (n:Nat),zU xs us->zU (xs.take n) (us.take n)
 | _,_,0,_=> .nil
 | _,_,_+1,.nil=> .nil
 | _,_,n+1,.cons r t=> .cons r (zU.take n t)
theorem zU.drop:∀{xs:List V} {us:List Value} (n:Nat),zU xs us->zU (xs.drop n) (us.drop n)
 | _,_,0,r=>r
 | _,_,_+1,.nil=> .nil
 | _,_,n+1,.cons _ t=>zU.drop n t
def qG:Option V->Option Value->Prop
 | some v,some u=>Zg v u
 | none,none=>True
 | _,_=>False
def KV {κ:Type}:List (κ×V)->List (κ×Value)->Prop:=Paired λ(p:κ×V) (q:κ×Value)=>p.1=q.1/\Zg p.2 q.2
def kV:Key->V
 | .inl i=> .int i
 | .inr x=> .str x
inductive HO where
 | lst (xs:List V)
 | tup (xs:List V)
 | dK (kvs:List (Key×V)) | dT (kvs:List (List Key×V))
 | set (S:Int->Bool) (n:Nat)
 | ins (C dx:Addr) (fs:List (Str×V))
 | own (x:Addr)
 | xd (fs:List (Str×V))
 | met (f x:Addr)
 | rng (lo hi:Int)
 | frz (o:Obj) (u:HO)
 | tbl (ps:Array Value) (q:Str)
 | ext (φ:Heap->Prop)
abbrev Hp:=Addr->Option HO
def upd (H:Hp)(a:Addr)(o:HO):Hp:=λb=>if b=a then some o else H b
theorem zB:upd H a o a=some o:=by unfold upd;rw[if_pos rfl]
theorem zn (h:b ≠ a):upd H a o b=H b:=by unfold upd;rw[if_neg h]
theorem zC {H:Hp}{a b:Addr}{o:HO}(h:H a=some o)(h' :H b=none):a ≠ b:=by
 intro e;subst e;rw[h]at h';cases h'
def ITN (h:Heap)(a:Addr)(its:Array Value):Prop:=IsTup h a its/\((∃i t,its[0]? =some (Value.int i t))\/∃o,h.get? a=some o/\o.dict=none)
theorem ITN.new (h:Heap)(its:Array Value):ITN (h.push { cls:= .type "tuple",data:= .seq its }) h.objs.size its:=⟨IsTup.new h its,.inr ⟨_,ao _ rfl,rfl⟩⟩
section
variable (P:Program)(w:World)
def Zi (H:Hp)(h:Heap)(a:Addr):HO->Prop
 | .lst xs=>xs.length<=sizeLine/\∃(its:List Value) (n:Nat),zU xs its/\h.get? a=some { cls:= .type "list",data:= .seq its.toArray n }
 | .tup xs=>xs.length<=sizeLine/\∃its:List Value,zU xs its/\ITN h a its.toArray
 | .dK kvs=>kvs.length<=sizeLine/\(a == sysModules)=false/\∃vs,KV kvs vs/\h.DictOf (WY P w) a vs
 | .dT kvs=>kvs.length<=sizeLine/\(a == sysModules)=false/\∃xs:List (List Key×Addr×Value),
   Paired (λ(p:List Key×V) (q:List Key×Addr×Value)=>p.1=q.1/\H q.2.1=some (.tup (p.1.map kV))/\Zg p.2 q.2.2) kvs xs/\
   ∃o es ep,h.get? a=some o/\o.ExactDict/\o.data= .dict es ep/\es.toList=xs.map (entryOfKey (tupleKind (WY P w)))/\(xs.map (·.1)).Nodup
 | .set S n=>h.SetOf (intKind P w) a S n
 | .ins C dx fs=>H dx=some (.own a)/\fs.length<=1000/\dx ≠ a/\h.get? a=some (cb C dx)/\
   ∃mA,h.Ns1 dx mA/\(∀f,qG (fs.lookup f) (mA f))/\eT mA (fs.map (·.1))
 | .own _=>∃o,h.get? a=some o
 | .xd fs=>∃mA,h.Ns1 a mA/\∀f,qG (fs.lookup f) (mA f)
 | .rng lo hi=>∃t u v,h.get? a=some { cls:= .type "range",data:= .fields #[.int lo t,.int hi u,.int 1 v] }
 | .frz o u=>h.get? a=some o/\Zi H h a u
 | .tbl ps q=>∃more:Array Value,h.get? a=some { cls:= .none,data:= .fields (ps++more) }/\TriplesOk (ps++more).toList/\∀p cv,codeAmong p (ps++more).toList=some cv->∃c oc vs t,cv= .ref c/\H c=some (.frz oc (.own c))/\oc.data= .fields vs/\vs[1]? =some (.str q t)
 | .met f x=>h.get? a=some (eD (.ref f) (.ref x))
 | .ext φ=>φ h/\(∃o,h.get? a=some o)/\∀h1 h2:Heap,φ h1->(∀o,h1.get? a=some o->h2.get? a=some o)->φ h2
def HOk (H:Hp)(h:Heap):Prop:=∀a o,H a=some o->Zi P w H h a o
end
section
variable {P:Program}{w:World}{H H' :Hp}{h h' :Heap}{a:Addr}{o:HO}
theorem Zi.lt (x:Zi P w H h a o):a < h.objs.size:=by
 cases o with
 | lst xs=>obtain⟨_,_,_,_,e⟩:=x;exact ax e
 | tup xs=>obtain⟨_,_,_,p,_⟩:=x;exact p.lt
 | dK kvs=>obtain⟨_,_,_,_,o,_,_,e,_⟩:=x;exact ax e
 | dT kvs=>obtain⟨_,_,_,_,o,_,_,e,_⟩:=x;exact ax e
 | set S n=>obtain⟨o,_,_,_,e,_⟩:=x;exact ax e
 | ins C dx fs=>obtain⟨_,_,_,e,_⟩:=x;exact ax e
 | own y=>obtain⟨_,e⟩:=x;exact ax e
 | xd fs=>obtain⟨_,⟨_,_,_,e,_⟩,_⟩:=x;exact ax e
 | rng lo hi=>obtain⟨_,_,_,e⟩:=x;exact ax e
 | frz ob u=>obtain⟨e,_⟩:=x;exact ax e
 | tbl ps q=>obtain⟨_,e,_⟩:=x;exact ax e
 | met f y=>exact ax (show h.get? a=some _ from x)
 | ext φ=>obtain⟨_,⟨_,e⟩,_⟩:=x;exact ax e
theorem Paired.mapP {α β:Type}{F G:α->β->Prop}:∀{l₁:List α} {l₂:List β},Paired F l₁ l₂->(∀a b,F a b->G a b)->Paired G l₁ l₂
 | _,_,.nil,_=> .nil
 | _,_,.cons r t,f=> .cons (f _ _ r) (Paired.mapP t f)
theorem Zi.stay (x:Zi P w H h a o)(k:∀b u,(b=a\/H b=some (.own a))->h.get? b=some u->h'.get? b=some u)
  (ho:∀b,H b=some (.own a)->H' b=some (.own a)) (ht:∀b xs,H b=some (.tup xs)->H' b=some (.tup xs)) (hf:∀b o u,H b=some (.frz o u)->H' b=some (.frz o u):=by exact λ_ _ _ q=>q):Zi P w H' h' a o:=by
 induction o with
 | lst xs=>obtain⟨z,its,n,r,e⟩:=x;exact⟨z,its,n,r,k _ _ (.inl rfl) e⟩
 | tup xs=>obtain⟨z,its,r,⟨ob,e,c⟩,q⟩:=x;exact⟨z,its,r,⟨ob,k _ _ (.inl rfl) e,c⟩,q.imp id λ⟨o2,e2,d2⟩=>⟨o2,k _ _ (.inl rfl) e2,d2⟩⟩
 | dK kvs=>obtain⟨z,y,vs,r,ob,es,ep,e,c⟩:=x;exact⟨z,y,vs,r,ob,es,ep,k _ _ (.inl rfl) e,c⟩
 | dT kvs=>
  obtain⟨z,y,xs,r,ob,es,ep,e,c⟩:=x;exact⟨z,y,xs,Paired.mapP r λp q z=>⟨z.1,ht _ _ z.2.1,z.2.2⟩,ob,es,ep,k _ _ (.inl rfl) e,c⟩
 | set S n=>obtain⟨ob,es,ep,t,e,c⟩:=x;exact⟨ob,es,ep,t,k _ _ (.inl rfl) e,c⟩
 | ins C dx fs=>
  obtain⟨d,z,ne,e,mA,⟨od,es,ep,e2,c⟩,r⟩:=x;exact⟨ho _ d,z,ne,k _ _ (.inl rfl) e,mA,⟨od,es,ep,k _ _ (.inr d) e2,c⟩,r⟩
 | own y=>obtain⟨ob,e⟩:=x;exact⟨ob,k _ _ (.inl rfl) e⟩
 | xd fs=>obtain⟨mA,⟨od,es,ep,e,c⟩,r⟩:=x;exact⟨mA,⟨od,es,ep,k _ _ (.inl rfl) e,c⟩,r⟩
 | rng lo hi=>obtain⟨t,u,v,e⟩:=x;exact⟨t,u,v,k _ _ (.inl rfl) e⟩
 | frz ob u ih=>obtain⟨e,q⟩:=x;exact⟨k _ _ (.inl rfl) e,ih q⟩
 | tbl ps q=>
  obtain⟨m,e,tr,al⟩:=x;exact⟨m,k a _ (.inl rfl) e,tr,λp cv z=>let ⟨c,oc,vs,t,e1,e2,e3⟩:=al p cv z;⟨c,oc,vs,t,e1,hf _ _ _ e2,e3⟩⟩
 | met f y=>
  have e:h.get? a=some (eD (.ref f) (.ref y)):=x;show h'.get? a=some (eD (.ref f) (.ref y));exact k a _ (.inl rfl) e
 | ext φ=>obtain⟨p,⟨o,e⟩,st⟩:=x;exact⟨st _ _ p λo q=>k _ _ (.inl rfl) q,⟨o,k _ _ (.inl rfl) e⟩,st⟩
theorem HOk.lt (x:HOk P w H h)(e:H a=some o):a < h.objs.size:=(x a o e).lt
theorem HOk.fresh (x:HOk P w H h)(e:h.objs.size<=a):H a=none:=by
 cases q:H a with
 | none=>rfl
 | some u=>exact absurd (aK (x.lt q) e) (bK _)
theorem HOk.kept (x:HOk P w H h)(k:∀b u,h.get? b=some u->h'.get? b=some u):HOk P w H h' :=λa o e=>
 (x a o e).stay (λb u _ q=>k b u q) (λ_ q=>q) λ_ _ q=>q
theorem HOk.laid (x:HOk P w H h)(k:∀b u,h.get? b=some u->h'.get? b=some u)(hp:h.objs.size<=a)(new:Zi P w (upd H a o) h' a o):HOk P w (upd H a o) h' :=λb u e=>by
 have hn:=x.fresh hp
 by_cases hb:b=a
 ·subst hb;rw[zB]at e;cases e;exact new
 ·rw[zn hb]at e;exact(x b u e).stay (λc v _ q=>k c v q) (λc q=>by rw[zn (zC q hn)];exact q) (λc xs q=>by rw[zn (zC q hn)];exact q) λc o u q=>by rw[zn (zC q hn)];exact q
end
def Rd (H:Hp)(a:Addr)(u:HO):Prop:=H a=some u\/∃o,H a=some (.frz o u)
theorem Rd.ok (r:Rd H a u)(x:HOk P w H h):Zi P w H h a u:=by
 rcases r with r | ⟨o,r⟩
 ·exact x a u r
 ·obtain⟨_,q⟩:=x a _ r;exact q
def Mut:Option HO->Prop
 | some (.lst _)=>True
 | some (.dK _)=>True
 | some (.dT _)=>True
 | some (.set _ _)=>True
 | some (.ins _ _ _)=>True
 | some (.ext _)=>True
 | _=>False
section
theorem HOk.write (ok:HOk P w H h)(mu:Mut (H x))(he:e=x\/H e=some (.own x))(k:∀b u,b ≠ e->h.get? b=some u->h'.get? b=some u)(heo:∃u,h'.get? e=some u)
  (new:Zi P w (upd H x o') h' x o'):HOk P w (upd H x o') h' :=λb u q=>by
 have nown:∀c y,H c=some (.own y)->c ≠ x:=λc y r z=>by subst z;rw[r]at mu;exact mu
 have ntup:∀c xs,H c=some (.tup xs)->c ≠ x:=λc xs r z=>by subst z;rw[r]at mu;exact mu
 by_cases hb:b=x
 ·subst hb;rw[zB]at q;cases q;exact new
 ·rw[zn hb]at q
  by_cases hbe:b=e
  ·have q' :H b=some (.own x):=by
    rcases he with z | z
    ·exact absurd (hbe.trans z) hb
    ·rw[hbe];exact z
   rw[q]at q';cases q';obtain⟨v,hv⟩:=heo;exact⟨v,by rw[hbe];exact hv⟩
  ·refine(ok b u q).stay (λc v hc r=>k c v ?_ r) (λc r=>by rw[zn (nown c b r)];exact r) (λc xs r=>by rw[zn (ntup c xs r)];exact r) λc o u r=>by rw[zn (λz=>by subst z;rw[r]at mu;exact mu)];exact r
   rcases hc with rfl | hc
   ·exact hbe
   ·rintro rfl
    rcases he with z | z
    ·exact nown c b hc z
    ·rw[hc]at z;cases z;exact hb rfl
end
structure Un (fs ex:List Addr) (H H' :Hp) (h h' :Heap):Prop where
 keep:∀b o,h.get? b=some o->H b=none->b ∉ fs->b ∉ ex->h'.get? b=some o
 slot:∀b o,h.get? b=some o->H b=none->b∈fs->b ∉ ex->∃sl,h'.get? b=some { o with slots:=sl }
 free:∀b o,h.get? b=some o->H b=none->b ∉ ex->H' b=none
 there:∀b o,h.get? b=some o->b ∉ ex->∃o',h'.get? b=some o'
 tups:∀b xs,H b=some (.tup xs)->H' b=some (.tup xs)
 frzs:∀b o u,H b=some (.frz o u)->H' b=some (.frz o u)
 tbls:∀b ps q,H b=some (.tbl ps q)->H' b=some (.tbl ps q)
section
variable {fs fs' ex ex' :List Addr}{H H1 H2:Hp}{h h1 h2 h' :Heap}{a x e:Addr}{o:HO}
theorem Un.any (u:Un fs ex H H1 h h1)(q:h.get? b=some ob)(n:H b=none)(hx:b ∉ ex):∃sl,h1.get? b=some { ob with slots:=sl }:=by
 by_cases hb:b∈fs
 ·exact u.slot b ob q n hb hx
 ·exact⟨ob.slots,u.keep b ob q n hb hx⟩
theorem Un.kept (k:∀b u,h.get? b=some u->h'.get? b=some u):Un fs ex H H h h' :=
 ⟨λb ob q _ _ _=>k b ob q,λb ob q _ _ _=>⟨ob.slots,k b ob q⟩,λ_ _ _ n _=>n,λb ob q _=>⟨ob,k b ob q⟩,λ_ _ q=>q,λ_ _ _ q=>q,λ_ _ _ q=>q⟩
theorem Un.refl:Un fs ex H H h h:=Un.kept λ_ _ q=>q
theorem Un.laid (k:∀b u,h.get? b=some u->h'.get? b=some u)(hp:h.objs.size<=a)(hn:H a=none):Un fs ex H (upd H a o) h h' where
 keep:=λb u q _ _ _=>k b u q
 slot:=λb u q _ _ _=>⟨u.slots,k b u q⟩
 free:=λb u q n _=>by rw[zn (aL (aK (ax q) hp))];exact n
 there:=λb u q _=>⟨u,k b u q⟩
 tups:=λb xs q=>by rw[zn (zC q hn)];exact q
 frzs:=λb u xs q=>by rw[zn (zC q hn)];exact q
 tbls:=λb ps q e=>by rw[zn (zC e hn)];exact e
theorem Un.write (mu:Mut (H x))(he:e=x\/H e=some (.own x))(k:∀b u,b ≠ e->h.get? b=some u->h'.get? b=some u)(heo:∃u,h'.get? e=some u):Un fs ex H (upd H x o) h h' :=by
 have hx:∀b,H b=none->b ≠ x:=λb n z=>by subst z;rw[n]at mu;exact mu
 have hb:∀b,H b=none->b ≠ e:=λb n z=>by
  subst z;rcases he with r | r
  ·exact hx b n r
  ·rw[n]at r;cases r
 have hm:∀b u,H b=some u->¬ Mut (some u)->b ≠ x:=λb u q nm z=>by subst z;rw[q]at mu;exact nm mu
 refine⟨λb u q n _ _=>k b u (hb b n) q,λb u q n _ _=>⟨u.slots,k b u (hb b n) q⟩,λb u q n _=>by rw[zn (hx b n)];exact n,λb u q _=> ?_,
  λb xs q=>by rw[zn (hm b _ q λz=>z)];exact q,λb u xs q=>by rw[zn (hm b _ q λz=>z)];exact q,λb ps q e=>by rw[zn (hm b _ e λz=>z)];exact e⟩
 by_cases hbe:b=e
 ·subst hbe;exact heo
 ·exact⟨u,k b u hbe q⟩
end
def trk (h:Heap)(H:Hp):List Addr:=(aW h.objs.size).filter λa=>(H a).isSome
def qN (h:Heap)(H:Hp):Heap:=PySem.W.hideAll h (trk h H)
theorem yc (h:Heap)(H:Hp):(qN h H).objs.size=h.objs.size:=PySem.W.hideAll_size _ _
theorem qO (e:h.get? b=some o)(n:H b=none):(qN h H).get? b=some o:=
 PySem.W.hideAll_get _ e λhm=>by
  have q:(H b).isSome=true:=(fg.mp hm).2;rw[n]at q;simp at q
theorem V1 (e:(qN h H).get? b=some o):h.get? b=some o/\H b=none:=by
 have e' :h.get? b=some o:=PySem.W.of_hideAll (trk h H) e;refine⟨e', ?_⟩;cases q:H b with
 | none=>rfl
 | some x=>
  have hm:b∈trk h H:=fg.mpr ⟨bu.mpr (ax e'),by simp[q]⟩
  have z:(qN h H).get? b=none:=PySem.W.hideAll_none (trk h H) hm;rw[z]at e;cases e
end L2
namespace L2
open PySem PySem.Spec PyProof.Rows
structure Mod (K:ac) (mg:Str->Option Value) (base:Heap):Prop where
 kin:K.In base
 glob:base.Ns mainGlobals mg
 blt:∃mb,base.Ns builtinsNs mb/\∀x:Str,x ≠ "__name__"->mb x=bootBuiltins x
 nolimit:base.NoLimit
structure Cx where
 prog:Program
 w:World
 K:ac
 mg:Str->Option Value
 base:Heap
 A:Around
 N:List Str
 s₀:Shared
 H₀:Hp
 env:Env
 outer:List Env
 stack:List Env
 ex:List Addr
 fn:Str->Bool
 calm:Bool
 pn:List (Addr×Obj)
 xe:Value->Shared->Prop
def frs (l:List Env):List Addr:=l.filterMap (·.frame)
abbrev Cx.fs (X:Cx):List Addr:=frs X.outer
def Vis (sc:Scope)(x:Str):Prop:=sc.names.lookup x=some .local\/sc.names.lookup x=some .cell\/sc.names.lookup x=some .free
def Loc (sc:Scope)(x:Str):Prop:=sc.names.lookup x=some .local\/sc.names.lookup x=some .cell
def Look (env:Env)(h:Heap)(m:Str->Option Value)(x:Str)(u:Value):Prop:=
 (env.kindOf x=some .local/\m x=some u)\/((env.kindOf x=some .cell\/env.kindOf x=some .free)/\∃c,env.cells.lookup x=some c/\h.IsCell c (some u))
structure Cx.Ok (X:Cx):Prop where
 mod:Mod X.K X.mg X.base
 kind:X.env.scope.kind= .function
 glob:X.env.globals=mainGlobals
 blt:X.env.builtins=builtinsNs
 above:X.s₀.heap.objs.size<=X.env.locals
 inj:∀x y c,X.env.cells.lookup x=some c->X.env.cells.lookup y=some c->x=y
 has:∀x,(X.env.kindOf x=some .cell\/X.env.kindOf x=some .free)->∃c,X.env.cells.lookup x=some c
 cab:∀x c,X.fn x=true->X.env.cells.lookup x=some c->X.s₀.heap.objs.size<=c
 hd:X.calm=true->X.A.handled=none
 frames:X.A.frames=some X.stack
 stk:X.stack=X.outer\/(X.stack=X.env :: X.outer/\X.env.frame=some X.env.locals)
 exf:∀b∈X.ex,b ≠ X.env.locals/\∀x c,X.env.cells.lookup x=some c->c ≠ b
 bs:∀b o,X.base.get? b=some o->X.s₀.heap.get? b=some o/\X.H₀ b=none
 bsz:X.base.objs.size<=X.s₀.heap.objs.size
 noex:∀b o,X.base.get? b=some o->b ∉ X.ex
 exfs:∀b∈X.ex,b ∉ X.fs
 funs:X.s₀.heap.FunFrames X.base X.outer
 frf:∀b∈X.fs,X.H₀ b=none
structure Inv (X:Cx) (pins:List (Addr×Obj)) (σ:List (Option V)) (H:Hp) (s:Shared):Prop where
 ok:X.Ok
 os:s.os=X.s₀.os
 bare:AllBare s.gens
 base:Un X.fs X.ex X.H₀ H X.s₀.heap s.heap
 loc:∃m,s.heap.Ns X.env.locals m/\∀(i:Nat) (x:Str) (v:V),X.N[i]? =some x->σ[i]? =some (some v)->Vis X.env.scope x->∃u,Zg v u/\Look X.env s.heap m x u
 cell:∀x c,X.env.cells.lookup x=some c->∃v,s.heap.IsCell c v
 free:H X.env.locals=none
 freeC:∀x c,X.env.cells.lookup x=some c->H c=none
 pin:∀p∈X.pn++pins,s.heap.get? p.1=some p.2/\H p.1=none/\p.1 ≠ X.env.locals/\p.1 ∉ X.fs/\∀v,p.2.data ≠ .cell v
 hok:HOk X.prog X.w H s.heap
 len:σ.length=X.N.length
section
variable {X:Cx}{pins:List (Addr×Obj)}{σ:List (Option V)}{H H' :Hp}{s:Shared}{h' :Heap}
theorem Cx.Ok.nofr (ok:X.Ok){b:Addr}{o:Obj}(e:X.base.get? b=some o):b ∉ X.fs:=λhb=>by
 have:=(ok.funs.mem hb).1;rw[e]at this;cases this
theorem Inv.bs (I:Inv X pins σ H s):∀b o,X.base.get? b=some o->s.heap.get? b=some o/\H b=none:=λb o e=>
 ⟨I.base.keep b o (I.ok.bs b o e).1 (I.ok.bs b o e).2 (I.ok.nofr e) (I.ok.noex b o e),I.base.free b o (I.ok.bs b o e).1 (I.ok.bs b o e).2 (I.ok.noex b o e)⟩
theorem Inv.bk (I:Inv X pins σ H s):∀b o,X.base.get? b=some o->s.heap.get? b=some o:=λb o e=>(I.bs b o e).1
theorem Inv.mod (I:Inv X pins σ H s):Mod X.K X.mg X.base:=I.ok.mod
theorem Inv.kIn (I:Inv X pins σ H s):X.K.In s.heap:=I.ok.mod.kin.keeps I.bk
theorem Inv.lt (I:Inv X pins σ H s):X.env.locals < s.heap.objs.size:=let ⟨_,hn,_⟩:=I.loc;hn.lt
theorem Inv.sz (I:Inv X pins σ H s):X.s₀.heap.objs.size<=s.heap.objs.size:=aF I.ok.above (eU I.lt)
theorem Inv.nofs (I:Inv X pins σ H s)(h:s.heap.objs.size<=a):a ∉ X.fs:=λhb=>by
 obtain⟨_,o,ho,_⟩:=I.ok.funs.mem hb;exact absurd (aK (ax ho) (aF I.sz h)) (bK _)
theorem Inv.cne (I:Inv X pins σ H s):∀x c,X.env.cells.lookup x=some c->c ≠ X.env.locals:=λx c e z=>by
 obtain⟨v,o,ho,hd⟩:=I.cell x c e;obtain⟨m,⟨o',es,ep,ho',hd',_⟩,_⟩:=I.loc;rw[z,ho']at ho;cases ho;rw[hd']at hd;cases hd
theorem Inv.funs (I:Inv X pins σ H s):s.heap.FunFrames X.base X.outer:=by
 have all:∀(l:List Env),(∀b∈frs l,b∈X.fs)->X.s₀.heap.FunFrames X.base l->s.heap.FunFrames X.base l:=by
  intro l
  induction l with
  | nil=>intro _ _;trivial
  | cons env r ih=>
   intro hs hl;obtain⟨hk,⟨L,o,hf,hn,ho,hd⟩,hr⟩:=hl;have hL:L∈X.fs:=hs L (by unfold frs;rw[di,hf];exact aw)
   obtain⟨sl,e⟩:=I.base.slot L o ho (I.ok.frf L hL) hL λz=>I.ok.exfs L z hL;exact⟨hk,⟨L,_,hf,hn,e,hd⟩,ih (λb hb=>hs b (by unfold frs;rw[di,hf];exact af _ hb)) hr⟩
 exact all X.outer (λ_ hb=>hb) I.ok.funs
theorem Inv.stack (I:Inv X pins σ H s):s.heap.FunFrames X.base X.stack:=by
 rcases I.ok.stk with e | ⟨e,hf⟩
 ·rw[e];exact I.funs
 ·rw[e];obtain⟨m,hn,_⟩:=I.loc;refine .cons (by rw[I.ok.kind];decide) hf hn ?_ I.funs
  exact Heap.get?_none_of_le (aF I.ok.bsz I.ok.above)
theorem Inv.stkSub (I:Inv X pins σ H s):∀b∈frs X.stack,b∈X.env.locals :: X.fs:=λb hb=>by
 rcases I.ok.stk with e | ⟨e,hf⟩
 ·rw[e]at hb;exact af _ hb
 ·rw[e]at hb;unfold frs at hb;rw[di,hf]at hb;exact hb
theorem Inv.stkFree (I:Inv X pins σ H s):∀b∈frs X.stack,H b=none:=λb hb=>by
 rcases aG.mp (I.stkSub b hb) with e | hb
 ·rw[e];exact I.free
 ·obtain⟨_,o,ho,_⟩:=I.ok.funs.mem hb;exact I.base.free b o ho (I.ok.frf b hb) λz=>I.ok.exfs b z hb
theorem Inv.step {g' :Array GenState}{t' :Nat}{d' :Drawn}{ch:List Addr}(I:Inv X pins σ H s)
  (hch:∀b∈ch,(b∈X.ex\/X.s₀.heap.objs.size<=b)/\b ≠ X.env.locals/\(∀x c,X.env.cells.lookup x=some c->c ≠ b)/\∀p∈X.pn++pins,p.1 ≠ b)
  (keep:∀b o,b ≠ X.env.locals->b ∉ X.fs->b ∉ ch->s.heap.get? b=some o->H b=none->h'.get? b=some o)
  (slot:∀b o,b ≠ X.env.locals->b∈X.fs->b ∉ ch->s.heap.get? b=some o->H b=none->∃sl,h'.get? b=some { o with slots:=sl }) (free:∀b o,b ∉ ch->s.heap.get? b=some o->H b=none->H' b=none)
  (there:∀b o,b ∉ ch->s.heap.get? b=some o->∃o',h'.get? b=some o')
  (tups:∀b xs,H b=some (.tup xs)->H' b=some (.tup xs)) (frzs:∀b o u,H b=some (.frz o u)->H' b=some (.frz o u)) (tbls:∀b ps q,H b=some (.tbl ps q)->H' b=some (.tbl ps q))
  (ns:∀m,s.heap.Ns X.env.locals m->h'.Ns X.env.locals m) (hok:HOk X.prog X.w H' h') (hg:AllBare g'):
  Inv X pins σ H' { s with heap:=h',gens:=g',drawn:=d',toks:=t' }:=by
 have neL:∀b o,X.s₀.heap.get? b=some o->b ≠ X.env.locals:=λb o e=>aL (aK (ax e) I.ok.above);have neC:∀b o,X.s₀.heap.get? b=some o->b ∉ X.ex->b ∉ ch:=λb o e hx hb=>by
  rcases(hch b hb).1 with z | z
  ·exact hx z
  ·exact absurd (aK (ax e) z) (bK _)
 have cellK:∀x c,X.env.cells.lookup x=some c->∀v,s.heap.IsCell c v->h'.IsCell c v:=λx c e v ⟨o,ho,hd⟩=>by
  have nch:c ∉ ch:=λz=>(hch c z).2.2.1 x c e rfl
  by_cases hc:c∈X.fs
  ·obtain⟨sl,q⟩:=slot c o (I.cne x c e) hc nch ho (I.freeC x c e);exact⟨_,q,hd⟩
  ·exact⟨o,keep c o (I.cne x c e) hc nch ho (I.freeC x c e),hd⟩
 refine⟨I.ok,I.os,hg,⟨λb o e n hb hx=> ?_,λb o e n hb hx=> ?_,λb o e n hx=> ?_,λb o e hx=> ?_,λb xs e=>tups b xs (I.base.tups b xs e),λb o xs e=>frzs b o xs (I.base.frzs b o xs e),λb ps q e=>tbls b ps q (I.base.tbls b ps q e)⟩, ?_,λx c e=> ?_, ?_,λx c e=> ?_,λp hp=> ?_,hok,I.len⟩
 ·exact keep b o (neL b o e) hb (neC b o e hx) (I.base.keep b o e n hb hx) (I.base.free b o e n hx)
 ·obtain⟨sl,e1⟩:=I.base.slot b o e n hb hx;obtain⟨sl',e2⟩:=slot b _ (neL b o e) hb (neC b o e hx) e1 (I.base.free b o e n hx);exact⟨sl',e2⟩
 ·obtain⟨o',e1⟩:=I.base.there b o e hx;exact free b o' (neC b o e hx) e1 (I.base.free b o e n hx)
 ·obtain⟨o',e1⟩:=I.base.there b o e hx;exact there b o' (neC b o e hx) e1
 ·obtain⟨m,hn,hl⟩:=I.loc;refine⟨m,ns m hn,λi x v e1 e2 e3=> ?_⟩;obtain⟨u,r,l⟩:=hl i x v e1 e2 e3;refine⟨u,r, ?_⟩;rcases l with l | ⟨k,c,e,z⟩
  ·exact .inl l
  ·exact .inr ⟨k,c,e,cellK x c e _ z⟩
 ·obtain⟨v,z⟩:=I.cell x c e;exact⟨v,cellK x c e v z⟩
 ·obtain⟨m,⟨o,_,_,ho,_⟩,_⟩:=I.loc;exact free _ o (λz=>(hch _ z).2.1 rfl) ho I.free
 ·obtain⟨v,o,ho,hd⟩:=I.cell x c e;exact free c o (λz=>(hch c z).2.2.1 x c e rfl) ho (I.freeC x c e)
 ·obtain⟨e,n,ne,nf,d⟩:=I.pin p hp;have nch:p.1 ∉ ch:=λz=>(hch p.1 z).2.2.2 p hp rfl;exact⟨keep p.1 p.2 ne nf nch e n,free p.1 p.2 nch e n,ne,nf,d⟩
theorem Inv.un {t' :Nat}(I:Inv X pins σ H s)(u:Un X.fs [] H H' s.heap h')(hok:HOk X.prog X.w H' h'):Inv X pins σ H' { s with heap:=h',toks:=t' }:=by
 obtain⟨m,⟨o,es,ep,ho,r⟩,_⟩:=id I.loc;obtain⟨sl,hL⟩:=u.any ho I.free (by simp)
 exact I.step (g' :=s.gens) (d' :=s.drawn) (ch:=[]) (λ_ z=>nomatch z) (λb o _ hb _ e n=>u.keep b o e n hb (by simp)) (λb o _ hb _ e n=>u.slot b o e n hb (by simp)) (λb o _ e n=>u.free b o e n (by simp)) (λb o _ e=>u.there b o e (by simp)) u.tups u.frzs u.tbls (λm' hm=>by
  obtain⟨o',es',ep',ho',r'⟩:=hm;rw[ho]at ho';cases ho';exact⟨_,es',ep',hL,r'⟩) hok I.bare
theorem Inv.call {g' :Array GenState}{t' :Nat}{d' :Drawn}{ch:List Addr}(I:Inv X pins σ H s)(u:Un (frs X.stack) ch H H' s.heap h')(hok:HOk X.prog X.w H' h')(hg:AllBare g')
  (hch:∀b∈ch,(b∈X.ex\/X.s₀.heap.objs.size<=b)/\b ≠ X.env.locals/\(∀x c,X.env.cells.lookup x=some c->c ≠ b)/\∀p∈X.pn++pins,p.1 ≠ b):
  Inv X pins σ H' { s with heap:=h',gens:=g',drawn:=d',toks:=t' }:=by
 obtain⟨m,⟨o,es,ep,ho,r⟩,_⟩:=id I.loc;obtain⟨sl,hL⟩:=u.any ho I.free λz=>(hch _ z).2.1 rfl;exact I.step (ch:=ch) hch (λb o hL hb hc e n=>u.keep b o e n (λz=>(aG.mp (I.stkSub b z)).elim hL hb) hc) (λb o _ _ hc e n=>u.any e n hc) (λb o hc e n=>u.free b o e n hc) (λb o hc e=>u.there b o e hc) u.tups u.frzs u.tbls (λm' hm=>by
  obtain⟨o',es',ep',ho',r'⟩:=hm;rw[ho]at ho';cases ho';exact⟨_,es',ep',hL,r'⟩) hok hg
theorem Inv.turned {t' :Nat}{it:Addr}(I:Inv X pins σ H s)(k:∀b o,b ≠ it->s.heap.get? b=some o->h'.get? b=some o)(hn:H it=none)(hL:it ≠ X.env.locals)
  (h1:it∈X.ex\/X.s₀.heap.objs.size<=it) (h2:∀x c,X.env.cells.lookup x=some c->c ≠ it) (h3:∀p∈X.pn++pins,p.1 ≠ it):Inv X pins σ H { s with heap:=h',toks:=t' }:=by
 have nit:∀b u,H b=some u->b ≠ it:=λb u e z=>by rw[z,hn]at e;cases e
 refine I.step (g' :=s.gens) (d' :=s.drawn) (ch:=[it]) (λb hb=> ?_) (λb o _ _ hc e _=>k b o (λz=>hc (by simp[z])) e) (λb o _ _ hc e _=>⟨o.slots,k b o (λz=>hc (by simp[z])) e⟩) (λ_ _ _ _ n=>n)
  (λb o hc e=>⟨o,k b o (λz=>hc (by simp[z])) e⟩) (λ_ _ e=>e) (λ_ _ _ e=>e) (λ_ _ _ e=>e) (λm hm=> ?_) (λb u e=> ?_) I.bare
 ·have e:b=it:=by simpa using hb
  subst e;exact⟨h1,hL,h2,h3⟩
 ·obtain⟨o,es,ep,ho,r⟩:=hm;exact⟨o,es,ep,k _ o (bM hL) ho,r⟩
 ·refine(I.hok b u e).stay (λc v hc q=>k c v ?_ q) (λ_ q=>q) λ_ _ q=>q;rcases hc with z | z
  ·rw[z];exact nit b u e
  ·exact nit c _ z
theorem Inv.tok (I:Inv X pins σ H s)(t:Nat):Inv X pins σ H { s with toks:=t }:=I.un (h' :=s.heap) (t' :=t) Un.refl I.hok
theorem Inv.kept {t' :Nat}(I:Inv X pins σ H s)(k:∀b u,s.heap.get? b=some u->h'.get? b=some u):Inv X pins σ H { s with heap:=h',toks:=t' }:=I.un (Un.kept k) (I.hok.kept k)
theorem Inv.laid {t' :Nat}(I:Inv X pins σ H s)(k:∀b u,s.heap.get? b=some u->h'.get? b=some u)(hp:s.heap.objs.size<=a)(new:Zi X.prog X.w (upd H a o) h' a o):
  Inv X pins σ (upd H a o) { s with heap:=h',toks:=t' }:=I.un (Un.laid k hp (I.hok.fresh hp)) (I.hok.laid k hp new)
theorem Inv.write {t' :Nat}(I:Inv X pins σ H s)(mu:Mut (H x))(he:e=x\/H e=some (.own x))(k:∀b u,b ≠ e->s.heap.get? b=some u->h'.get? b=some u)(heo:∃u,h'.get? e=some u)
  (new:Zi X.prog X.w (upd H x o) h' x o):Inv X pins σ (upd H x o) { s with heap:=h',toks:=t' }:=I.un (Un.write mu he k heo) (I.hok.write mu he k heo new)
theorem Inv.pins_of (I:Inv X pins σ H s)(h:∀p∈pins',s.heap.get? p.1=some p.2/\H p.1=none/\p.1 ≠ X.env.locals/\p.1 ∉ X.fs/\∀v,p.2.data ≠ .cell v):Inv X pins' σ H s:=
 ⟨I.ok,I.os,I.bare,I.base,I.loc,I.cell,I.free,I.freeC,λp hp=>(dN.mp hp).elim (λz=>I.pin p (db _ z)) (h p),I.hok,I.len⟩
theorem wA {N:List Str}(hN:N.Nodup){i j:Nat}{x:Str}(a:N[i]? =some x)(b:N[j]? =some x):i=j:=by
 obtain⟨h1,e1⟩:=aq.mp a;obtain⟨h2,e2⟩:=aq.mp b;exact(hV hN).mp (e1.trans e2.symm)
theorem Wd {M:Model}{A:Around}{E:Value->Shared->Prop}{i:Nat}{x:Str}{v:V}{u:Value}{Q:Unit->Shared->Prop}(I:Inv X pins σ H s)(hN:X.N.Nodup)(hi:X.N[i]? =some x)(hx:Loc X.env.scope x)(r:Zg v u)
  (h:∀s',Inv X pins (σ.set i (some v)) H s' ->(∃a,cD a s.heap s'.heap/\(a=X.env.locals\/X.env.cells.lookup x=some a))->Q () s') (hf:X.fn x=true\/X.env.scope.names.lookup x=some .local:=by first | exact .inl rfl | exact .inr rfl | assumption):wpAny M A (storeName X.env x u) Q E s:=by
 obtain⟨m,hn,hl⟩:=id I.loc;have hcls:(X.env.scope.kind == .class || (X.env.scope.kind == .module && X.env.locals != X.env.globals))=false:=by rw[I.ok.kind];rfl
 have hiσ:i < σ.length:=by rw[I.len];exact(aq.mp hi).1
 have cne:=I.cne;have tracked:∀{a:Addr} {h' :Heap},(∃o,s.heap.get? a=some o/\H a=none)->cD a s.heap h' ->HOk X.prog X.w H h' :=λ{a h'} ha hs b ob e=>by
  obtain⟨_,_,hfree⟩:=ha;refine(I.hok b ob e).stay (λc w' hc q=>(hs.2 c ?_).trans q) (λ_ q=>q) λ_ _ q=>q
  rintro rfl
  rcases hc with rfl | hc
  ·rw[hfree]at e;cases e
  ·rw[hfree]at hc;cases hc
 rcases hx with hk | hk
 ·refine wpAny_storeName_local hk hn (λh' hn' hs=> ?_) hcls;obtain⟨oL,_,_,hoL,_⟩:=id hn;refine h _ ⟨I.ok,I.os,I.bare,⟨λb o e n hb hx=> ?_,λb o e n hb hx=> ?_,I.base.free,λb o e hx=> ?_,I.base.tups,I.base.frzs,I.base.tbls⟩,⟨_,hn',λj y v' e1 e2 e3=> ?_⟩,λy c e=> ?_,I.free,I.freeC,λp hp=> ?_,tracked ⟨oL,hoL,I.free⟩ hs,by simpa using I.len⟩ ⟨_,hs,.inl rfl⟩
  ·exact(hs.2 b (aL (aK (ax e) I.ok.above))).trans (I.base.keep b o e n hb hx)
  ·obtain⟨sl,e1⟩:=I.base.slot b o e n hb hx;exact⟨sl,(hs.2 b (aL (aK (ax e) I.ok.above))).trans e1⟩
  ·obtain⟨o',e1⟩:=I.base.there b o e hx;exact⟨o',(hs.2 b (aL (aK (ax e) I.ok.above))).trans e1⟩
  ·by_cases hj:j=i
   ·subst hj;rw[hi]at e1;cases e1;rw[aV hiσ]at e2;cases e2;exact⟨u,r,.inl ⟨hk,by simp⟩⟩
   ·rw[aJ (bM hj)]at e2;obtain⟨u',r',q⟩:=hl j y v' e1 e2 e3;refine⟨u',r', ?_⟩;rcases q with ⟨k,e⟩ | ⟨k,c,e,z⟩
    ·refine .inl ⟨k, ?_⟩;have:y ≠ x:=λe=>hj (wA hN e1 (e ▸ hi));simp[this,e]
    ·exact .inr ⟨k,c,e,z.sameBut hs (cne y c e)⟩
  ·obtain⟨w',z⟩:=I.cell y c e;exact⟨w',z.sameBut hs (cne y c e)⟩
  ·obtain⟨e,n,ne,nf,d⟩:=I.pin p hp;exact⟨(hs.2 p.1 ne).trans e,n,ne,nf,d⟩
 ·have hfn:X.fn x=true:=by
   rcases hf with z | z
   ·exact z
   ·rw[z]at hk;cases hk
  obtain⟨c,hc⟩:=I.ok.has x (.inl hk);obtain⟨w',z⟩:=I.cell x c hc;refine wpAny_storeName_cell I.ok.kind hk hc z (λh' hc' hs=> ?_);obtain⟨oc,hoc,hocd⟩:=id z;refine h { s with heap:=h' } ⟨I.ok,I.os,I.bare,⟨λb o e n hb hx=> ?_,λb o e n hb hx=> ?_,I.base.free,λb o e hx=> ?_,I.base.tups,I.base.frzs,I.base.tbls⟩,⟨m,hn.sameBut hs (bM (cne x c hc)),λj y v' e1 e2 e3=> ?_⟩,λy c' e=> ?_,I.free,I.freeC,λp hp=> ?_,tracked ⟨oc,hoc,I.freeC x c hc⟩ hs,by simpa using I.len⟩ ⟨c,hs,.inr hc⟩
  ·exact(hs.2 b (aL (aK (ax e) (I.ok.cab x c hfn hc)))).trans (I.base.keep b o e n hb hx)
  ·obtain⟨sl,e1⟩:=I.base.slot b o e n hb hx;exact⟨sl,(hs.2 b (aL (aK (ax e) (I.ok.cab x c hfn hc)))).trans e1⟩
  ·obtain⟨o',e1⟩:=I.base.there b o e hx;exact⟨o',(hs.2 b (aL (aK (ax e) (I.ok.cab x c hfn hc)))).trans e1⟩
  ·by_cases hj:j=i
   ·subst hj;rw[hi]at e1;cases e1;rw[aV hiσ]at e2;cases e2;exact⟨u,r,.inr ⟨.inl hk,c,hc,hc'⟩⟩
   ·rw[aJ (bM hj)]at e2;obtain⟨u',r',q⟩:=hl j y v' e1 e2 e3;refine⟨u',r', ?_⟩;rcases q with q | ⟨k,c',e,z'⟩
    ·exact .inl q
    ·refine .inr ⟨k,c',e,z'.sameBut hs ?_⟩
     rintro rfl
     exact hj (wA hN e1 (I.ok.inj _ _ _ e hc ▸ hi))
  ·by_cases hcc:c' =c
   ·subst hcc;exact⟨_,hc'⟩
   ·obtain⟨w2,z2⟩:=I.cell y c' e;exact⟨w2,z2.sameBut hs hcc⟩
  ·obtain⟨e,n,ne,nf,d⟩:=I.pin p hp;refine⟨(hs.2 p.1 ?_).trans e,n,ne,nf,d⟩;intro q;rw[q,hoc]at e;have q' :oc=p.2:=aH e;exact d w' (by rw[← q'];exact hocd)
theorem jJ {i:Nat}{Q:Unit->Shared->Prop}(I:Inv X pins σ H s)(hN:X.N.Nodup)(hi:X.N[i]? =some x)(hx:Loc X.env.scope x)(r:Zg v u)
  (h:∀s',Inv X pins (σ.set i (some v)) H s' ->Q () s') (hf:X.fn x=true\/X.env.scope.names.lookup x=some .local:=by first | exact .inl rfl | exact .inr rfl | assumption):wpAny M A (storeName X.env x u) Q E s:=
 Wd I hN hi hx r (λs' I' _=>h s' I') hf
theorem Inv.call' (I:Inv X pins σ H s)(ho:s'.os=s.os)(u:Un (frs X.stack) ch H H' s.heap s'.heap)(hok:HOk X.prog X.w H' s'.heap)(hg:AllBare s'.gens)
  (hch:∀b∈ch,(b∈X.ex\/X.s₀.heap.objs.size<=b)/\b ≠ X.env.locals/\(∀x c,X.env.cells.lookup x=some c->c ≠ b)/\∀p∈X.pn++pins,p.1 ≠ b):Inv X pins σ H' s' :=by
 obtain⟨h',g',d',t',o'⟩:=s';have e:o' =s.os:=ho;subst e;exact I.call (g' :=g') (t' :=t') (d' :=d') u hok hg hch
end
abbrev XK:=Value->Option Addr->Hp->Prop
abbrev St:=List (Option V)
abbrev VK:=V->Hp->Prop
abbrev TE:=St->Hp->VK->Prop
abbrev TT:=St->Hp->(Bool->Hp->Prop)->Prop
abbrev TA:=St->Hp->(List V->Hp->Prop)->Prop
structure yd where
 nx:St->Hp->Prop
 rt:VK
 bk:St->Hp->Prop:=λ_ _=>False
 ct:St->Hp->Prop:=λ_ _=>False
abbrev TS:=yd->St->Hp->Prop
def EP (X:Cx)(pins:List (Addr×Obj))(σ:St)(Q:VK)(u:Value)(s' :Shared):Prop:=∃v H',Inv X pins σ H' s' /\Zg v u/\Q v H'
def TP (X:Cx)(pins:List (Addr×Obj))(σ:St)(Q:Bool->Hp->Prop)(b:Bool)(s' :Shared):Prop:=∃H',Inv X pins σ H' s' /\Q b H'
def AP (X:Cx)(pins:List (Addr×Obj))(σ:St)(Q:List V->Hp->Prop)(us:List Value)(s' :Shared):Prop:=∃vs H',Inv X pins σ H' s' /\zU vs us/\Q vs H'
def SP (X:Cx)(pins:List (Addr×Obj))(D:yd)(f:Flow)(s' :Shared):Prop:=
 match f with
 | .next=>∃σ' H',Inv X pins σ' H' s' /\D.nx σ' H'
 | .brk=>∃σ' H',Inv X pins σ' H' s' /\D.bk σ' H'
 | .cont=>∃σ' H',Inv X pins σ' H' s' /\D.ct σ' H'
 | .ret u=>∃v σ' H',Inv X pins σ' H' s' /\Zg v u/\D.rt v H'
def PE (X:Cx)(e:Expr)(t:TE):Prop:=
 ∀(pins:List (Addr×Obj)) (s:Shared) (σ:St) (H:Hp) (Q:VK),Inv X pins σ H s->t σ H Q->wpAny (model X.prog X.w) X.A (eval e X.env) (EP X pins σ Q) X.xe s
def PT (X:Cx)(e:Expr)(t:TT):Prop:=
 ∀(pins:List (Addr×Obj)) (s:Shared) (σ:St) (H:Hp) (Q:Bool->Hp->Prop),Inv X pins σ H s->t σ H Q->wpAny (model X.prog X.w) X.A (isTrue e X.env (eval e X.env)) (TP X pins σ Q) X.xe s
def PW (X:Cx)(e:Expr)(t:TT):Prop:=
 ∀(whole:Sem Value) (pins:List (Addr×Obj)) (s:Shared) (σ:St) (H:Hp) (Q:Bool->Hp->Prop),Inv X pins σ H s->t σ H Q->wpAny (model X.prog X.w) X.A (isTrue e X.env whole) (TP X pins σ Q) X.xe s
theorem PW.pt (h:PW X e t):PT X e t:=h _
def PA (X:Cx)(es:List Expr)(t:TA):Prop:=
 ∀(pos:Pos) (pins:List (Addr×Obj)) (s:Shared) (σ:St) (H:Hp) (Q:List V->Hp->Prop),Inv X pins σ H s->t σ H Q->wpAny (model X.prog X.w) X.A (spliced (backTo pos (starEach es X.env))) (AP X pins σ Q) X.xe s
def PS (X:Cx)(st:Stmt)(t:TS):Prop:=
 ∀(pins:List (Addr×Obj)) (s:Shared) (σ:St) (H:Hp) (D:yd),Inv X pins σ H s->t D σ H->wpAny (model X.prog X.w) X.A (exec st X.env) (SP X pins D) X.xe s
def PSs (X:Cx)(st:List Stmt)(t:TS):Prop:=
 ∀(pins:List (Addr×Obj)) (s:Shared) (σ:St) (H:Hp) (D:yd),Inv X pins σ H s->t D σ H->wpAny (model X.prog X.w) X.A (execs st X.env) (SP X pins D) X.xe s
theorem thn {α:Type}{t:Sem α}{Q Q' :α->Shared->Prop}(h:wpAny M A t Q E s)(hQ:∀a s,Q a s->Q' a s):wpAny M A t Q' E s:=ce h hQ λ_ _ x=>x
end L2
namespace L2
open PySem PySem.Spec PyProof.Rows
section
theorem bin (ha:PE X a ta)(hb:PE X b tb){R:V->V->Hp->Prop}(I:Inv X pins σ H s)(h:ta σ H λx H1=>tb σ H1 λy H2=>R x y H2)
  {α:Type} {Q:α->Shared->Prop} {f:Value->Value->Sem α}
  (hf:∀v u s2 x y H2,Inv X pins σ H2 s2->Zg x v->Zg y u->R x y H2->wpAny (model X.prog X.w) X.A (f v u) Q X.xe s2):
  wpAny (model X.prog X.w) X.A (eval a X.env) (λv s₁=>wpAny (model X.prog X.w) X.A (eval b X.env) (λu s₂=>wpAny (model X.prog X.w) X.A (f v u) Q X.xe s₂) X.xe s₁) X.xe s:=by
 refine thn (ha pins s σ H _ I h) λv s1 ⟨x,H1,I1,r1,q1⟩=> ?_;refine thn (hb pins s1 σ H1 _ I1 q1) λu s2 ⟨y,H2,I2,r2,q2⟩=> ?_;exact hf v u s2 x y H2 I2 r1 r2 q2
def wC (i:Nat):TE:=λσ H Q=>∃v,σ[i]? =some (some v)/\Q v H
def tC (v:V):TE:=λ_ H Q=>Q v H
theorem vb {i:Nat}(hN:X.N[i]? =some x)(hv:Vis X.env.scope x)(hd:(x == ("__debug__":Str))=false:=by decide)(hcd:(x == ("__classdict__":Str))=false:=by decide):PE X (.Name x pos) (wC i):=by
 intro pins s σ H Q I h;obtain⟨v,e,h⟩:=h;obtain⟨m,hn,hl⟩:=I.loc;obtain⟨u,r,l⟩:=hl i x v hN e hv;have fin:EP X pins σ Q u s:=⟨v,H,I,r,h⟩;rcases l with ⟨hk,hm⟩ | ⟨hk,c,hc,hcell⟩
 ·exact wpAny_Name (wpAny_loadName_local I.ok.kind hk hn hm fin) hd
 ·rcases hk with hk | hk
  ·exact wpAny_Name (wpAny_loadName_cell I.ok.kind hk hc hcell fin) hd
  ·exact wpAny_Name (wpAny_loadName_free I.ok.kind hk hc hcell fin hcd) hd
theorem XJ {i j pos}:PE X (.Constant (.int i) j pos) (tC (.int i)):=λ_ _ _ H _ I h=>wpAny_Constant_int ⟨.int i,H,I.tok _,⟨_,rfl⟩,h⟩
theorem GD {b j pos}:PE X (.Constant (.bool b) j pos) (tC (.bl b)):=λ_ _ _ H _ I h=>Constant_bool ⟨.bl b,H,I,rfl,h⟩
theorem vc {j pos}:PE X (.Constant .none j pos) (tC .non):=λ_ _ _ H _ I h=>Constant_none ⟨.non,H,I,rfl,h⟩
theorem vd {x j pos}:PE X (.Constant (.str x) j pos) (tC (.str x)):=λ_ _ _ H _ I h=>Calls.Constant_str ⟨.str x,H,I.tok _,⟨_,rfl⟩,h⟩
def Gl (X:Cx)(x:Str):Prop:=X.env.kindOf x=some .globalImplicit
theorem Jv (I:Inv X pins σ H s)(hg:Gl X x)(hm:X.mg x=some u)(h:Q u s)
  (hd:(x == ("__debug__":Str))=false:=by decide):wpAny (model X.prog X.w) X.A (eval (.Name x pos) X.env) Q E s:=
 dW I.ok.kind hg (Calls.loadGlobal_global (by rw[I.ok.glob];exact I.mod.glob.keeps I.bk) hm h) hd
theorem jv (I:Inv X pins σ H s)(hg:Gl X x)(hm:X.mg x=none)(hv:bootBuiltins x=some u)(h:Q u s)
  (hn:x ≠ "__name__":=by decide) (hd:(x == ("__debug__":Str))=false:=by decide):wpAny (model X.prog X.w) X.A (eval (.Name x pos) X.env) Q E s:=by
 obtain⟨mb,h1,h2⟩:=I.mod.blt;exact dW I.ok.kind hg (Calls.loadGlobal_builtin (by rw[I.ok.glob];exact I.mod.glob.keeps I.bk) hm (by rw[I.ok.blt];exact h1.keeps I.bk) ((h2 x hn).trans hv) h) hd
theorem ye (hg:Gl X x)(hm:X.mg x=some u)(r:Zg v u)(hd:(x == ("__debug__":Str))=false:=by decide):PE X (.Name x pos) (tC v):=
 λ_ _ _ H _ I h=>Jv I hg hm ⟨v,H,I,r,h⟩ hd
theorem yf (hg:Gl X x)(hm:X.mg x=none)(hv:bootBuiltins x=some u)(r:Zg v u)(hn:x ≠ "__name__":=by decide)(hd:(x == ("__debug__":Str))=false:=by decide):PE X (.Name x pos) (tC v):=
 λ_ _ _ H _ I h=>jv I hg hm hv ⟨v,H,I,r,h⟩ hn hd
def tB (t:TE):TT:=λσ H Q=>t σ H λx H1=>∃c,x= .bl c/\Q c H1
variable {tA tB' :TT}{rest:List Expr}
def tAnd (t u:TT):TT:=λσ H Q=>t σ H λc H1=>if c=true then u σ H1 Q else Q false H1
def tOr (t u:TT):TT:=λσ H Q=>t σ H λc H1=>if c=true then Q true H1 else u σ H1 Q
def tNot (t:TT):TT:=λσ H Q=>t σ H λc H1=>Q (!c) H1
theorem V2 (ha:PT X a tA):PW X (.BoolOp .And [a] pos) tA:=by
 intro wh pins s σ H Q I h;refine isTrue_and (thn (ha pins s σ H Q I h) λc s1 e=> ?_);cases c with
 | true=>exact isTrue_and_nil e
 | false=>exact e
theorem XL (ha:PT X a tA):PW X (.BoolOp .Or [a] pos) tA:=by
 intro wh pins s σ H Q I h;refine isTrue_or (thn (ha pins s σ H Q I h) λc s1 e=> ?_);cases c with
 | false=>exact isTrue_or_nil e
 | true=>exact e
theorem XM (ha:PT X a tA)(hb:PW X (.BoolOp .And (b :: rest) pos) tB'):PW X (.BoolOp .And (a :: b :: rest) pos) (tAnd tA tB'):=by
 intro wh pins s σ H Q I h;refine isTrue_and (thn (ha pins s σ H _ I h) λc s1 ⟨H1,I1,q1⟩=> ?_);cases c with
 | true=>exact hb wh pins s1 σ H1 Q I1 q1
 | false=>exact⟨H1,I1,q1⟩
theorem GE (ha:PT X a tA)(hb:PW X (.BoolOp .Or (b :: rest) pos) tB'):PW X (.BoolOp .Or (a :: b :: rest) pos) (tOr tA tB'):=by
 intro wh pins s σ H Q I h;refine isTrue_or (thn (ha pins s σ H _ I h) λc s1 ⟨H1,I1,q1⟩=> ?_);cases c with
 | true=>exact⟨H1,I1,q1⟩
 | false=>exact hb wh pins s1 σ H1 Q I1 q1
theorem XN (ha:PT X a tA):PT X (.UnaryOp .Not a pos) (tNot tA):=by
 intro pins s σ H Q I h;exact isTrue_not (ha pins s σ H (λc H1=>Q (!c) H1) I h)
def GF (ta tb:TE):TE:=λσ H Q=>ta σ H λx H1=>∃c,x= .bl c/\if c=true then tb σ H1 Q else Q (.bl false) H1
def tOrV (ta tb:TE):TE:=λσ H Q=>ta σ H λx H1=>∃c,x= .bl c/\if c=true then Q (.bl true) H1 else tb σ H1 Q
def GG (ta:TE):TE:=λσ H Q=>ta σ H λx H1=>∃c,x= .bl c/\Q (.bl (!c)) H1
theorem XO {op}(h:PE X a t):PE X (.BoolOp op [a] pos) t:=λpins s σ H Q I hw=>BoolOp_one (h pins s σ H Q I hw)
theorem XQ (ha:PE X a ta)(hb:PE X (.BoolOp .And (b :: rest) pos) tb):PE X (.BoolOp .And (a :: b :: rest) pos) (GF ta tb):=by
 intro pins s σ H Q I h;refine BoolOp_and (thn (ha pins s σ H _ I h) λv s1 ⟨x,H1,I1,r1,q1⟩=> ?_);obtain⟨c,rfl,q1⟩:=q1;cases r1;refine bp ?_;cases c with
 | true=>exact hb pins s1 σ H1 Q I1 q1
 | false=>exact⟨.bl false,H1,I1,rfl,q1⟩
theorem GH (ha:PE X a ta)(hb:PE X (.BoolOp .Or (b :: rest) pos) tb):PE X (.BoolOp .Or (a :: b :: rest) pos) (tOrV ta tb):=by
 intro pins s σ H Q I h;refine BoolOp_or (thn (ha pins s σ H _ I h) λv s1 ⟨x,H1,I1,r1,q1⟩=> ?_);obtain⟨c,rfl,q1⟩:=q1;cases r1;refine bp ?_;cases c with
 | false=>exact hb pins s1 σ H1 Q I1 q1
 | true=>exact⟨.bl true,H1,I1,rfl,q1⟩
theorem XR (ha:PE X a ta):PE X (.UnaryOp .Not a pos) (GG ta):=by
 intro pins s σ H Q I h;refine UnaryOp_ (thn (ha pins s σ H _ I h) λv s1 ⟨x,H1,I1,r1,q1⟩=> ?_);obtain⟨c,rfl,q1⟩:=q1;cases r1;exact not_of (bp ⟨.bl (!c),H1,I1,rfl,q1⟩)
def tIf (t:TT)(ta tb:TE):TE:=λσ H Q=>t σ H λc H1=>if c=true then ta σ H1 Q else tb σ H1 Q
theorem qP (hc:PT X c tA)(ha:PE X a ta)(hb:PE X b tb):PE X (.IfExp c a b pos) (tIf tA ta tb):=by
 intro pins s σ H Q I h;refine wpAny_IfExp (thn (hc pins s σ H _ I h) λd s1 ⟨H1,I1,q1⟩=> ?_);cases d with
 | true=>exact ha pins s1 σ H1 Q I1 q1
 | false=>exact hb pins s1 σ H1 Q I1 q1
end
end L2
namespace L2
open PySem PySem.Spec PyProof.Rows
def SqL (K:ac)(H:Hp)(a:Addr)(xs:List V):Prop:=
 Rd H a (.lst xs)\/
  ∃(o:Obj) (its:Array Value) (n:Nat),K.lookup a=some o/\o.cls= .type "list"/\o.dict=none/\o.data= .seq its n/\its.size<=sizeLine/\zU xs its.toList
def SqT (K:ac)(H:Hp)(a:Addr)(xs:List V):Prop:=
 Rd H a (.tup xs)\/
  ∃(o:Obj) (its:Array Value) (n:Nat),K.lookup a=some o/\o.cls= .type "tuple"/\o.data= .seq its n/\its.size<=sizeLine/\zU xs its.toList
def absV:Value->Option V
 | .none=>some .non
 | .bool b=>some (.bl b)
 | .int i _=>some (.int i)
 | .str x _=>some (.str x)
 | .bytes b _=>some (.byt b)
 | .float b _=>some (.flt b)
 | .ref a=>some (.ref a)
 | .type n=>some (.ty n)
 | _=>none
theorem Zg.abs (r:Zg x u):absV u=some x:=by
 cases x with
 | non=>cases r;rfl
 | bl _=>cases r;rfl
 | int _=>obtain⟨t,rfl⟩:=r;rfl
 | str _=>obtain⟨t,rfl⟩:=r;rfl
 | byt _=>obtain⟨t,rfl⟩:=r;rfl
 | flt _=>obtain⟨t,rfl⟩:=r;rfl
 | ref _=>cases r;rfl
 | ty _=>cases r;rfl
theorem Zg.inj (r:Zg x u)(q:Zg y u):x=y:=aH (r.abs.symm.trans q.abs)
theorem zU.inj:∀{xs ys:List V} {us:List Value},zU xs us->zU ys us->xs=ys
 | _,_,_,.nil,.nil=>rfl
 | _,_,_,.cons r t,.cons r' t' =>by rw[r.inj r',zU.inj t t']
section
variable {X:Cx}{pins:List (Addr×Obj)}{σ:St}{H:Hp}{s:Shared}{a:Addr}{xs ys:List V}
theorem SqL.of {K:ac}(h:H a=some (.lst xs)):SqL K H a xs:= .inl (.inl h)
theorem SqT.of {K:ac}(h:H a=some (.tup xs)):SqT K H a xs:= .inl (.inl h)
theorem Inv.list (I:Inv X pins σ H s)(h:SqL X.K H a xs):∃its:List Value,zU xs its/\PlainL s.heap a its.toArray/\xs.length<=sizeLine:=by
 rcases h with h | ⟨o,its,n,hk,hc,hd,hs,hz,r⟩
 ·obtain⟨z,its,n,r,e⟩:=h.ok I.hok;exact⟨its,r,⟨_,n,e,rfl,rfl,rfl⟩,z⟩
 ·refine⟨its.toList,r,⟨o,n,I.kIn a o hk,hc,hd,by simpa using hs⟩, ?_⟩
  have e:=r.length;simp only[cg]at e;omega
theorem Inv.tuple (I:Inv X pins σ H s)(h:SqT X.K H a xs):∃its:List Value,zU xs its/\IsTup s.heap a its.toArray/\xs.length<=sizeLine:=by
 rcases h with h | ⟨o,its,n,hk,hc,hs,hz,r⟩
 ·obtain⟨z,its,r,p,_⟩:=h.ok I.hok;exact⟨its,r,p,z⟩
 ·refine⟨its.toList,r,⟨o,I.kIn a o hk,hc,n,by simpa using hs⟩, ?_⟩
  have e:=r.length;simp only[cg]at e;omega
theorem Inv.list_inj (I:Inv X pins σ H s)(h:SqL X.K H a xs)(h' :SqL X.K H a ys):xs=ys:=by
 obtain⟨its,r,⟨o,n,e,_,_,d⟩,_⟩:=I.list h;obtain⟨its',r',⟨o',n',e',_,_,d'⟩,_⟩:=I.list h';rw[e]at e';cases e';rw[d]at d';injection d' with d1 _;have:its=its' :=by simpa using congrArg Array.toList d1
 subst this;exact r.inj r'
theorem Inv.tuple_inj (I:Inv X pins σ H s)(h:SqT X.K H a xs)(h' :SqT X.K H a ys):xs=ys:=by
 obtain⟨its,r,⟨o,e,_,n,d⟩,_⟩:=I.tuple h;obtain⟨its',r',⟨o',e',_,n',d'⟩,_⟩:=I.tuple h';rw[e]at e';cases e';rw[d]at d';injection d' with d1 _;have:its=its' :=by simpa using congrArg Array.toList d1
 subst this;exact r.inj r'
end
abbrev Cx.wish (X:Cx)(E:Value->Shared->Prop):Cx:={ X with xe:=E }
abbrev Cx.nox (X:Cx):Cx:=X.wish λ_ _=>False
theorem Cx.Ok.wish {X:Cx}(ok:X.Ok)(E:Value->Shared->Prop):(X.wish E).Ok:=
 ⟨ok.mod,ok.kind,ok.glob,ok.blt,ok.above,ok.inj,ok.has,ok.cab,ok.hd,ok.frames,ok.stk,ok.exf,ok.bs,ok.bsz,ok.noex,ok.exfs,ok.funs,ok.frf⟩
theorem Cx.Ok.unwish {X:Cx}{E:Value->Shared->Prop}(ok:(X.wish E).Ok):X.Ok:=
 ⟨ok.mod,ok.kind,ok.glob,ok.blt,ok.above,ok.inj,ok.has,ok.cab,ok.hd,ok.frames,ok.stk,ok.exf,ok.bs,ok.bsz,ok.noex,ok.exfs,ok.funs,ok.frf⟩
section
variable {X:Cx}{pins:List (Addr×Obj)}{σ:St}{H:Hp}{s:Shared}{E:Value->Shared->Prop}
theorem Inv.wish (I:Inv X pins σ H s)(E:Value->Shared->Prop):Inv (X.wish E) pins σ H s:=⟨I.ok.wish E,I.os,I.bare,I.base,I.loc,I.cell,I.free,I.freeC,I.pin,I.hok,I.len⟩
theorem Inv.unwish (I:Inv (X.wish E) pins σ H s):Inv X pins σ H s:=⟨I.ok.unwish,I.os,I.bare,I.base,I.loc,I.cell,I.free,I.freeC,I.pin,I.hok,I.len⟩
theorem SP.unwish {D:yd}{f:Flow}(h:SP (X.wish E) pins D f s'):SP X pins D f s' :=by
 cases f with
 | next=>obtain⟨σ',H',I,q⟩:=h;exact⟨σ',H',I.unwish,q⟩
 | brk=>obtain⟨σ',H',I,q⟩:=h;exact⟨σ',H',I.unwish,q⟩
 | cont=>obtain⟨σ',H',I,q⟩:=h;exact⟨σ',H',I.unwish,q⟩
 | ret u=>obtain⟨v,σ',H',I,r,q⟩:=h;exact⟨v,σ',H',I.unwish,r,q⟩
theorem PSs.nox {st:List Stmt}{t:TS}(h:PSs X.nox st t):PSs X st t:=λpins s σ H D I hw=>
 ce (h pins s σ H D (I.wish _) hw) (λ_ _ q=>q.unwish) λ_ _ z=>cf z
end
section
variable {X:Cx}{st:Stmt}{rest:List Stmt}{t u:TS}{e:Expr}{te:TE}{pos:Pos}
def GI:TS:=λD σ H=>D.nx σ H
def tSeq (t u:TS):TS:=λD σ H=>t { D with nx:=u D } σ H
theorem WZ:PSs X [] GI:=λ_ _ σ H _ I h=>wpAny_execs_nil ⟨σ,H,I,h⟩
theorem wD (h1:PS X st t)(h2:PSs X rest u):PSs X (st :: rest) (tSeq t u):=by
 intro pins s σ H D I h;refine wpAny_execs_cons (thn (h1 pins s σ H { D with nx:=u D } I h) λf s1 q=> ?_);cases f with
 | next=>
  obtain⟨σ',H',I',q⟩:=q;exact h2 pins s1 σ' H' D I' q
 | ret v=>exact q
 | brk=>exact q
 | cont=>exact q
theorem wE (h1:PS X st t):PSs X [st] t:=by
 intro pins s σ H D I h;refine wpAny_execs_cons (thn (h1 pins s σ H D I h) λf s1 q=> ?_);cases f with
 | next=>exact wpAny_execs_nil q
 | ret v=>exact q
 | brk=>exact q
 | cont=>exact q
theorem Inv.quiet (I:Inv X pins σ H s):interactive X.env=false:=by simp[interactive,I.ok.kind]
def GJ (te:TE):TS:=λD σ H=>te σ H λ_ H1=>D.nx σ H1
theorem u0 (he:PE X e te)(hs:swapsWith e none pos.line X.env=pure false:=by rfl):PS X (.Expr e pos) (GJ te):=by
 intro pins s σ H D I h;exact wpAny_Expr_any (thn (he pins s σ H _ I h) λv s1 ⟨x,H1,I1,r1,q1⟩=>⟨σ,H1,I1,q1⟩) I.quiet hs
def tRet (te:TE):TS:=λD σ H=>te σ H D.rt
theorem yg (he:PE X e te):PS X (.Return (some e) pos) (tRet te):=by
 intro pins s σ H D I h;exact wpAny_Return_some (thn (he pins s σ H _ I h) λv s1 ⟨x,H1,I1,r1,q1⟩=>⟨x,σ,H1,I1,r1,q1⟩)
def tIfS (c:TT)(t u:TS):TS:=λD σ H=>c σ H λb H1=>if b=true then t D σ H1 else u D σ H1
theorem V3 (hc:PT X c tc)(ha:PSs X a t)(hb:PSs X b u):PS X (.If c a b pos) (tIfS tc t u):=by
 intro pins s σ H D I h;refine wpAny_If (thn (hc pins s σ H _ I h) λd s1 ⟨H1,I1,q1⟩=> ?_);cases d with
 | true=>exact ha pins s1 σ H1 D I1 q1
 | false=>exact hb pins s1 σ H1 D I1 q1
end
abbrev TG:=V->St->Hp->(St->Hp->Prop)->Prop
abbrev TGs:=List V->St->Hp->(St->Hp->Prop)->Prop
def PG (X:Cx)(target:Expr)(t:TG):Prop:=
 ∀(pins:List (Addr×Obj)) (s:Shared) (σ:St) (H:Hp) (v:V) (u:Value) (Q:St->Hp->Prop),Inv X pins σ H s->Zg v u->t v σ H Q->
  wpAny (model X.prog X.w) X.A (assign target X.env u) (λ_ s' =>∃σ' H',Inv X pins σ' H' s' /\Q σ' H') X.xe s
def PGs (X:Cx)(ts:List Expr)(t:TGs):Prop:=
 ∀(pins:List (Addr×Obj)) (s:Shared) (σ:St) (H:Hp) (vs:List V) (us:List Value) (Q:St->Hp->Prop),Inv X pins σ H s->zU vs us->t vs σ H Q->
  wpAny (model X.prog X.w) X.A (assignInOrder ((assignEach ts X.env).map (·.2)) us) (λ_ s' =>∃σ' H',Inv X pins σ' H' s' /\Q σ' H') X.xe s
section
def We (i:Nat):TG:=λv σ H Q=>Q (σ.set i (some v)) H
theorem zA {i:Nat}(hN:X.N.Nodup)(hi:X.N[i]? =some x)(hx:Loc X.env.scope x)(hf:X.fn x=true\/X.env.scope.names.lookup x=some .local:=by first | exact .inl rfl | exact .inr rfl | assumption):PG X (.Name x pos) (We i):=by
 intro pins s σ H v u Q I r h;exact wpAny_assign_Name (jJ I hN hi hx r (λs' I' =>⟨_,H,I',h⟩) hf)
def GK:TGs:=λvs σ H Q=>vs=[]/\Q σ H
def yh (t:TG)(u:TGs):TGs:=λvs σ H Q=>∃v r,vs=v :: r/\t v σ H λσ' H' =>u r σ' H' Q
theorem wF:PGs X [] GK:=by
 intro pins s σ H vs us Q I r h;obtain⟨e,h⟩:=h;subst e;cases r;exact assignInOrder_nil ⟨σ,H,I,h⟩
theorem ZM {u:TGs}(h1:PG X e t)(h2:PGs X es u)
  (hs:(assignEach (e :: es) X.env).map (·.2)=assign e X.env :: (assignEach es X.env).map (·.2):=by rfl):PGs X (e :: es) (yh t u):=by
 intro pins s σ H vs us Q I r h;obtain⟨v,vr,e1,h⟩:=h;subst e1;cases r with
 | cons r rr=>
  rw[hs];refine assignInOrder_cons (thn (h1 pins s σ H _ _ _ I r h) λ_ s1 ⟨σ1,H1,I1,q1⟩=> ?_);exact h2 pins s1 σ1 H1 _ _ Q I1 rr q1
def GL (K:ac)(n:Nat)(t:TGs):TG:=λv σ H Q=>∃a xs,v= .ref a/\SqT K H a xs/\xs.length=n/\t xs σ H Q
theorem uD {k:Nat}{t:TGs}{n:Nat}(hc:X.calm=true)(h:PGs X es t)
  (hn:(assignEach es X.env).length=n:=by rfl) (hst:(assignEach es X.env).findIdx? (·.1)=none:=by rfl):PG X (.Tuple es k pos) (GL X.K n t):=by
 intro pins s σ H v u Q I r hw;obtain⟨a,xs,e1,hq,hl,hw⟩:=hw;subst e1;cases r;obtain⟨its,rv,ht,hz⟩:=I.tuple hq;refine assign_Tuple_tuple (I.ok.hd hc) ht (by simp[hn,← hl,rv.length]) hst λh' hx=> ?_
 have I1:Inv X pins σ H { s with heap:=h' }:=I.kept (t' :=s.toks) λb o e=>hx b o (aL (ax e)) e;exact h pins _ σ H xs _ Q I1 (by simpa using rv) hw
def tAsg (te:TE)(g:TG):TS:=λD σ H=>te σ H λx H1=>g x σ H1 D.nx
theorem XS (he:PE X e te)(hg:PG X tg g)(hs:swapsWithSole [tg] e pos.line X.env=pure false:=by rfl)(hw:swappedStores [tg] e X.env=pure none:=by rfl)
  (h1:(assignEach [tg] X.env).map (·.2)=[assign tg X.env]:=by rfl):PS X (.Assign [tg] e pos) (tAsg te g):=by
 intro pins s σ H D I h;refine wpAny_Assign_stores (thn (he pins s σ H _ I h) λv s1 ⟨x,H1,I1,r1,q1⟩=> ?_) hs hw;rw[h1];exact thn (hg pins s1 σ H1 x v _ I1 r1 q1) λ_ s2 q=>q
theorem wd {i:Nat}(hN:X.N.Nodup)(hi:X.N[i]? =some x)(hx:Loc X.env.scope x)(he:PE X e te)(hs:swapsWith e (some (.Name x pos')) pos.line X.env=pure false:=by rfl)(hf:X.fn x=true\/X.env.scope.names.lookup x=some .local:=by first | exact .inl rfl | exact .inr rfl | assumption):
  PS X (.Assign [.Name x pos'] e pos) (tAsg te (We i)):=by
 intro pins s σ H D I h;refine wpAny_Assign_Name (thn (he pins s σ H _ I h) λv s1 ⟨y,H1,I1,r1,q1⟩=> ?_) hs;exact jJ I1 hN hi hx r1 (λs2 I2=>⟨_,H1,I2,q1⟩) hf
def tPar (i j:Nat)(ta:TA):TS:=λD σ H=>ta σ H λvs H1=>∃v w,vs=[v,w]/\D.nx ((σ.set i (some v)).set j (some w)) H1
theorem XT {i j:Nat}{kt k2 pt2}(hc:X.calm=true)(hN:X.N.Nodup)(hi:X.N[i]? =some x)(hj:X.N[j]? =some y)(hij:i ≠ j)
  (hx:X.env.scope.names.lookup x=some .local) (hy:X.env.scope.names.lookup y=some .local) (ha:PA X [a,b] ta)
  (hw:swappedStores [.Tuple [.Name x px,.Name y py] kt pt] (.Tuple [a,b] k2 pt2) X.env=pure (some [x,y]))
  (hs:swapsWithSole [.Tuple [.Name x px,.Name y py] kt pt] (.Tuple [a,b] k2 pt2) pos.line X.env=pure false:=by rfl):
  PS X (.Assign [.Tuple [.Name x px,.Name y py] kt pt] (.Tuple [a,b] k2 pt2) pos) (tPar i j ta):=by
 intro pins s σ H D I h;rw[exec_Assign_arm];refine aa (wpAny_standAt ?_);rw[hs];refine aa (ar ?_);rw[if_neg (by decide)]
 refine aa (Tuple_ (thn (ha _ pins s σ H _ I h) λus s1 ⟨vs,H1,I1,r1,q1⟩=> ?_));obtain⟨v,w,e1,q1⟩:=q1;subst e1;obtain⟨u1,u2,rfl,rv,rw'⟩:∃u1 u2,us=[u1,u2]/\Zg v u1/\Zg w u2:=by
  cases r1 with
  | cons p q=>
   cases q with
   | cons p' q' =>
    cases q';exact⟨_,_,rfl,p,p'⟩
 refine aX ?_ (by show 2<=sizeLine;decide)
 have I2:Inv X pins σ H1 { s1 with heap:=s1.heap.push { cls:= .type "tuple",data:= .seq [u1,u2].toArray } }:=I1.kept (t' :=s1.toks) λb o e=>ai _ e;rw[hw];refine aa (ar ?_);show wpAny (model X.prog X.w) X.A (do rule "assign.swapped-stores";let items ← unpackItems (.ref s1.heap.objs.size) 2 none;assignInOrder [λv=>bindName X.env y v,λv=>bindName X.env x v] items.reverse;pure Flow.next) _ _ _
 refine aa (dX (aa (unpackItems_tuple (items:= #[u1,u2]) (I.ok.hd hc) (IsTup.new s1.heap _) λh' hx' => ?_)));have I3:=I2.kept (h' :=h') (t' :=s1.toks) λb o e=>hx' b o (aL (ax e)) e;show wpAny _ _ (assignInOrder [λv=>bindName X.env y v,λv=>bindName X.env x v] [u2,u1] >>= λ_=>pure Flow.next) _ _ _;refine aa (assignInOrder_cons (wpAny_bindName (jJ I3 hN hj (.inl hy) rw' (λs2 I4=> ?_) (.inr hy))));refine assignInOrder_cons (wpAny_bindName (jJ I4 hN hi (.inl hx) rv (λs3 I5=>assignInOrder_nil (ar ?_)) (.inr hx)));rw[List.set_comm _ _ (bM hij)]at I5;exact⟨_,H1,I5,q1⟩
end
section
def XU (c:TT)(tb:TS):TS:=λD σ H=>∃W:Nat->St->Hp->Prop,(∃m,W m σ H)/\∀m σ H,W m σ H->
 c σ H λb H1=>if b=true then ∃N:St->Hp->Prop,(∀σ' H',N σ' H' ->∃m',m' < m/\W m' σ' H')/\tb { D with nx:=N,ct:=N,bk:=D.nx } σ H1 else D.nx σ H1
theorem qQ (hp:PassesOwn (model X.prog X.w) X.A X.env X.xe)(hc:PT X c tc)(hb:PSs X body tb):PS X (.While c body [] pos) (XU tc tb):=by
 intro pins s σ H D I h;obtain⟨W,⟨m0,w0⟩,turn⟩:=h;refine wpAny_While (codeAny_whileLoop (λn s' =>∃σ' H',Inv X pins σ' H' s' /\W n σ' H') ?_ m0 ⟨σ,H,I,w0⟩)
 rintro n s1 ⟨σ1,H1,I1,w1⟩
 refine cA hp (thn (hc pins s1 σ1 H1 _ I1 (turn n σ1 H1 w1)) λb s2 ⟨H2,I2,q2⟩=> ?_);cases b with
 | true=>
  obtain⟨N,hN,q2⟩:=q2;rw[if_pos rfl];refine cA hp (thn (hb pins s2 σ1 H2 _ I2 q2) λf s3 q3=> ?_);cases f with
  | next=>
   obtain⟨σ3,H3,I3,n3⟩:=q3;obtain⟨m',hm,w3⟩:=hN σ3 H3 n3;exact⟨m',hm,σ3,H3,I3,w3⟩
  | cont=>
   obtain⟨σ3,H3,I3,n3⟩:=q3;obtain⟨m',hm,w3⟩:=hN σ3 H3 n3;exact⟨m',hm,σ3,H3,I3,w3⟩
  | brk=>exact q3
  | ret v=>exact q3
 | false=>
  rw[if_neg av];exact wpAny_execs_nil ⟨σ1,H2,I2,q2⟩
end
structure It where
 go:Nat->Hp->Prop
 yld:Nat->Hp->V->Hp->Prop
 stop:Nat->Hp->Prop
def WT (X:Cx)(pins:List (Addr×Obj))(H:Hp)(b:Addr):Prop:=
 H b=none/\b ≠ X.env.locals/\b ∉ X.fs/\(b∈X.ex\/X.s₀.heap.objs.size<=b)/\(∀x c,X.env.cells.lookup x=some c->c ≠ b)/\∀p∈X.pn++pins,p.1 ≠ b
theorem Inv.fpOk (I:Inv X pins σ H s)(hb:s.heap.objs.size<=b)(hn:H' b=none):WT X pins H' b:=by
 refine⟨hn,eV (aK I.lt hb),I.nofs hb,.inr (aF I.sz hb),λx c e z=> ?_,λp hp z=> ?_⟩
 ·obtain⟨v,q⟩:=I.cell x c e;exact absurd (aK q.lt (by rw[z];exact hb)) (bK _)
 ·exact absurd (aK (ax (I.pin p hp).1) (by rw[z];exact hb)) (bK _)
structure yi (P:Program) (w:World) (K:ac) (tg:Expr) (J:It) (fp:List Addr) (it:Addr) (tn:Nat->Heap->Prop):Prop where
 mem:it∈fp
 obj:∀i h,tn i h->∀b∈fp,∃o,h.get? b=some o/\∀v,o.data ≠ .cell v
 keep:∀i h h',tn i h->(∀b∈fp,∀o,h.get? b=some o->h'.get? b=some o)->tn i h'
 item:∀(X:Cx),X.prog=P->X.w=w->X.K=K->X.calm=true->∀(i:Nat) (pins:List (Addr×Obj)) (s:Shared) (σ:St) (H:Hp) (E:Value->Shared->Prop),Inv X pins σ H s->(∀b∈fp,WT X pins H b)->tn i s.heap->J.go i H->
  wpAny (model P w) X.A (pyNext (.ref it)) (λr s1=>∃u,r=some u/\
   wpAny (model P w) X.A (letOwnedTupleGo tg (.ref it) u) (λ_ s2=>∃x H',Inv X pins σ H' s2/\Zg x u/\J.yld i H x H' /\tn (i+1) s2.heap/\∀b∈fp,H' b=none) E s1) E s
 done:∀(X:Cx),X.prog=P->X.w=w->X.K=K->X.calm=true->∀(i:Nat) (pins:List (Addr×Obj)) (s:Shared) (σ:St) (H:Hp) (E:Value->Shared->Prop),Inv X pins σ H s->(∀b∈fp,WT X pins H b)->tn i s.heap->J.stop i H->
  wpAny (model P w) X.A (pyNext (.ref it)) (λr s1=>r=none/\Inv X pins σ H s1) E s
 self:∀(A:Around) (i:Nat) (s:Shared) (Q:Value->Shared->Prop) (E:Value->Shared->Prop),tn i s.heap->Q (.ref it) s->wpAny (model P w) A (pyIter (.ref it)) Q E s
abbrev TI:=St->Hp->(It->Hp->Prop)->Prop
def PIE (X:Cx)(pins:List (Addr×Obj))(σ:St)(tg:Expr)(R:It->Hp->Prop)(itv:Value)(s2:Shared):Prop:=
 ∃(it:Addr) (fp:List Addr) (tn:Nat->Heap->Prop) (J:It) (H' :Hp),itv= .ref it/\Inv X pins σ H' s2/\yi X.prog X.w X.K tg J fp it tn/\tn 0 s2.heap/\(∀b∈fp,WT X pins H' b)/\R J H'
def PI (X:Cx)(tg iter:Expr)(wi:TI):Prop:=
 ∀(pins:List (Addr×Obj)) (s:Shared) (σ:St) (H:Hp) (R:It->Hp->Prop),Inv X pins σ H s->wi σ H R->
  wpAny (model X.prog X.w) X.A (eval iter X.env) (λv s1=>wpAny (model X.prog X.w) X.A (pyIter v) (PIE X pins σ tg R) X.xe s1) X.xe s
theorem Uo {Q:Unit->Shared->Prop}(ho:s.heap.get? it=some o)(hc:o.cls= .type n)(hd:o.data= .fields vs)
  (hn:["enumerate","zip","dict_itemiterator","dict_reverseitemiterator","odict_iterator","itertools.zip_longest","itertools.pairwise"].contains n=false) (hQ:Q () s):wpAny M A (letOwnedTupleGo tg (.ref it) u) Q E s:=by
 unfold letOwnedTupleGo;cases tg <;> first
  | exact ar hQ
  | (cases u <;> first
    | exact ar hQ
    | (refine aa (wpAny_load ho ?_);rw[hc,hd];show wpAny M A (if (["enumerate","zip","dict_itemiterator","dict_reverseitemiterator","odict_iterator","itertools.zip_longest","itertools.pairwise"].contains n && vs[0]? == some (rawInt _))=true then _ else _) Q E s;rw[if_neg (by intro h;rw[hn,Bool.false_and]at h;cases h)];exact ar hQ))
def Itl (K:ac)(a:Addr):It:=
 ⟨λi H=>∃xs x,SqL K H a xs/\xs[i]? =some x,λi H x H' =>H' =H/\∀xs,SqL K H a xs->xs[i]? =some x,λi H=>∃xs,SqL K H a xs/\xs.length<=i⟩
def Itt (K:ac)(a:Addr):It:=
 ⟨λi H=>∃xs x,SqT K H a xs/\xs[i]? =some x,λi H x H' =>H' =H/\∀xs,SqT K H a xs->xs[i]? =some x,λi H=>∃xs,SqT K H a xs/\xs.length<=i⟩
def Itr (lo:Int)(n:Nat):It:=⟨λi _=>i < n,λi H x H' =>H' =H/\x= .int (lo+i),λi _=>n<=i⟩
theorem yj {P:Program}{w:World}{K:ac}{tg:Expr}(a it:Addr):yi P w K tg (Itl K a) [it] it (λi h=>h.IsListIter it a i) where
 mem:=by simp
 obj:=λi h st b hb=>by
  have e:b=it:=by simpa using hb
  subst e;obtain⟨o,e,c,d⟩:=st;exact⟨o,e,λv z=>by rw[d]at z;cases z⟩
 keep:=λi h h' st k=>st.at λo e=>k it (by simp) o e
 item:=by
  intro X hP hw hK hc i pins s σ H E I hf st hg;subst hP hw hK;obtain⟨xs,x,hq,hx⟩:=hg;obtain⟨its,rv,p,hz⟩:=I.list hq;obtain⟨u,hu,ru⟩:=rv.get hx;obtain⟨f0,f1,f2,f3,f4,f5⟩:=hf it (by simp)
  refine wpAny_pyNext_list_item st p.isList (x:=u) (by simpa using hu) λh' st' sb=> ?_
  have I1:Inv X pins σ H { s with heap:=h' }:=I.turned (t' :=s.toks) (λb o hb e=>(sb.2 b hb).trans e) f0 f1 f3 f4 f5;obtain⟨o,e,c,d⟩:=id st';exact⟨u,rfl,Uo (s:={ s with heap:=h' }) e c d (by decide) ⟨x,H,I1,ru,⟨rfl,λys hy=>by rw[I.list_inj hy hq];exact hx⟩,st',λb hb=>(hf b hb).1⟩⟩
 done:=by
  intro X hP hw hK hc i pins s σ H E I hf st hg;subst hP hw hK;obtain⟨xs,hq,hx⟩:=hg;obtain⟨its,rv,p,hz⟩:=I.list hq;obtain⟨f0,f1,f2,f3,f4,f5⟩:=hf it (by simp)
  have hl:=rv.length;exact wpAny_pyNext_list_end (I.ok.hd hc) st p.isList (by simp;omega) λh' eb=>⟨rfl,I.turned (t' :=s.toks) (λb o hb e=>eb b o hb e) f0 f1 f3 f4 f5⟩
 self:=λ_ _ _ _ _ st h=>wpAny_pyIter_listiter st h
theorem Up {P:Program}{w:World}{K:ac}{tg:Expr}(a it:Addr):yi P w K tg (Itt K a) [it] it (λi h=>h.IsTupleIter it a i) where
 mem:=by simp
 obj:=λi h st b hb=>by
  have e:b=it:=by simpa using hb
  subst e;obtain⟨o,e,c,d⟩:=st;exact⟨o,e,λv z=>by rw[d]at z;cases z⟩
 keep:=λi h h' st k=>st.at λo e=>k it (by simp) o e
 item:=by
  intro X hP hw hK hc i pins s σ H E I hf st hg;subst hP hw hK;obtain⟨xs,x,hq,hx⟩:=hg;obtain⟨its,rv,p,hz⟩:=I.tuple hq;obtain⟨u,hu,ru⟩:=rv.get hx;obtain⟨f0,f1,f2,f3,f4,f5⟩:=hf it (by simp)
  refine wpAny_pyNext_tuple_item st (show s.heap.IsTuple a its.toArray from p) (x:=u) (by simpa using hu) λh' st' sb=> ?_
  have I1:Inv X pins σ H { s with heap:=h' }:=I.turned (t' :=s.toks) (λb o hb e=>(sb.2 b hb).trans e) f0 f1 f3 f4 f5;obtain⟨o,e,c,d⟩:=id st';exact⟨u,rfl,Uo (s:={ s with heap:=h' }) e c d (by decide) ⟨x,H,I1,ru,⟨rfl,λys hy=>by rw[I.tuple_inj hy hq];exact hx⟩,st',λb hb=>(hf b hb).1⟩⟩
 done:=by
  intro X hP hw hK hc i pins s σ H E I hf st hg;subst hP hw hK;obtain⟨xs,hq,hx⟩:=hg;obtain⟨its,rv,p,hz⟩:=I.tuple hq;obtain⟨f0,f1,f2,f3,f4,f5⟩:=hf it (by simp)
  have hl:=rv.length;exact wpAny_pyNext_tuple_end (I.ok.hd hc) st (show s.heap.IsTuple a its.toArray from p) (by simp;omega) λh' eb=>⟨rfl,I.turned (t' :=s.toks) (λb o hb e=>eb b o hb e) f0 f1 f3 f4 f5⟩
 self:=λ_ _ _ _ _ st h=>wpAny_pyIter_tupleiter st h
theorem Uq {P:Program}{w:World}{K:ac}{tg:Expr}(it:Addr)(lo:Int)(n:Nat):yi P w K tg (Itr lo n) [it] it (λi h=>IsRangeIter h it (lo+(i:Nat)*1) ((n:Int) - (i:Nat)) 1) where
 mem:=by simp
 obj:=λi h st b hb=>by
  have e:b=it:=by simpa using hb
  subst e;exact⟨_,st,λv z=>by
   have z' :Data.fields _=Data.cell v:=z;cases z'⟩
 keep:=λi h h' st k=>k it (by simp) _ st
 item:=by
  intro X hP hw hK hc i pins s σ H E I hf st hg;subst hP hw hK;obtain⟨f0,f1,f2,f3,f4,f5⟩:=hf it (by simp)
  have W:=Walks.range (prog:=X.prog) (w:=X.w) (I.ok.hd hc) it lo 1 n;refine W.item i s _ _ hg st λv h' tk hv st' kk=> ?_;obtain⟨t,rfl⟩:=hv;have I1:Inv X pins σ H { s with heap:=h',toks:=tk }:=I.turned (λb o hb e=>kk b o (by simpa using hb) e) f0 f1 f3 f4 f5
  refine⟨_,rfl,Uo (s:={ s with heap:=h',toks:=tk }) (n:="range_iterator") st' rfl rfl (by decide) ⟨.int (lo+i),H,I1,⟨t, ?_⟩,⟨rfl,rfl⟩,st',λb hb=>(hf b hb).1⟩⟩
  rw[Int.mul_one]
 done:=by
  intro X hP hw hK hc i pins s σ H E I hf st hg;subst hP hw hK;obtain⟨f0,f1,f2,f3,f4,f5⟩:=hf it (by simp)
  exact wpAny_pyNext_range_end (I.ok.hd hc) st (by have:n<=i:=hg;omega) λh' eb=>⟨rfl,I.turned (t' :=s.toks) (λb o hb e=>eb b o hb e) f0 f1 f3 f4 f5⟩
 self:=λ_ _ _ _ _ st h=>wpAny_pyIter_rangeiter st h
end L2
namespace L2
open PySem PySem.Spec PyProof.Rows
section
theorem uE {R:It->Hp->Prop}{lo hi:Int}{t u v:Tok}{tk:Nat}(I:Inv X pins σ H s)(h1: -(2 ^ 62)<=lo)(h2:lo < 2 ^ 62)(h3: -(2 ^ 62)<=hi)(h4:hi < 2 ^ 62)
  (q:R (Itr lo (hi - lo).toNat) H):wpAny (model X.prog X.w) X.A (pyIter (.ref s.heap.objs.size)) (PIE X pins σ tg R) E { s with heap:=s.heap.push { cls:= .type "range",data:= .fields #[.int lo t,.int hi u,.int 1 v] },toks:=tk }:=by
 refine wpAny_pyIter_range (IsRange.new ..) (small_one h1 h2 h3 h4) ?_;have I1:Inv X pins σ H { s with heap:=s.heap.push { cls:= .type "range",data:= .fields #[.int lo t,.int hi u,.int 1 v] },toks:=tk }:=I.kept λb o e=>ai _ e;refine⟨(s.heap.push { cls:= .type "range",data:= .fields #[.int lo t,.int hi u,.int 1 v] }).objs.size,[(s.heap.push { cls:= .type "range",data:= .fields #[.int lo t,.int hi u,.int 1 v] }).objs.size],_,_,H,rfl,
  I1.kept (t' :=tk) λb o e=>ai _ e,Uq _ lo (hi - lo).toNat, ?_,λb hb=> ?_,q⟩
 ·have e1:lo+((0:Nat):Int)*1=lo:=by simp
  have e2:(((hi - lo).toNat:Nat):Int) - ((0:Nat):Int)=eK lo hi 1:=by rw[rangeSize_one];split <;> omega
  show IsRangeIter _ _ (lo+((0:Nat):Int)*1) ((((hi - lo).toNat:Nat):Int) - ((0:Nat):Int)) 1;rw[e1,e2];exact ao _ rfl
 ·have e:b=(s.heap.push { cls:= .type "range",data:= .fields #[.int lo t,.int hi u,.int 1 v] }).objs.size:=by simpa using hb
  subst e;exact I1.fpOk (am _) (I1.hok.fresh (am _))
def GM (ta:TA):TI:=λσ H R=>ta σ H λvs H1=>∃j:Int,vs=[.int j]/\ -(2 ^ 62)<=j/\j < 2 ^ 62/\R (Itr 0 j.toNat) H1
def GN (ta:TA):TI:=λσ H R=>ta σ H λvs H1=>∃i j:Int,vs=[.int i,.int j]/\(-(2 ^ 62)<=i/\i < 2 ^ 62/\ -(2 ^ 62)<=j/\j < 2 ^ 62)/\R (Itr i (j - i).toNat) H1
theorem yk (hg:Gl X "range")(hm:X.mg "range"=none)(ha:PA X [a] ta)(hs:starEach [a] X.env=[(false,eval a X.env)]:=by rfl):PI X tg (.Call (.Name "range" p) [a] [] pos) (GM ta):=by
 intro pins s σ H R I h;refine Call_ (jv I hg hm boot_range (aZ (thn (ha pos pins s σ H _ I h) λus s1 ⟨vs,H1,I1,r1,q1⟩=> ?_) hs rfl));obtain⟨j,e,q1,q2,q⟩:=q1;subst e;cases r1 with
 | cons r rr=>
  cases rr;obtain⟨t,rfl⟩:=r;exact call_range_1 (uE I1 (by omega) (by omega) q1 q2 (by simpa using q))
theorem yl (hg:Gl X "range")(hm:X.mg "range"=none)(ha:PA X [a,b] ta)(hs:starEach [a,b] X.env=[(false,eval a X.env),(false,eval b X.env)]:=by rfl)(hs2:starEach [b] X.env=[(false,eval b X.env)]:=by rfl):
  PI X tg (.Call (.Name "range" p) [a,b] [] pos) (GN ta):=by
 intro pins s σ H R I h;refine Call_ (jv I hg hm boot_range (aZ (thn (ha pos pins s σ H _ I h) λus s1 ⟨vs,H1,I1,r1,q1⟩=> ?_) (by rw[hs,hs2]) (by rw[hs2];rfl)))
 obtain⟨i,j,e,⟨q1,q2,q3,q4⟩,q⟩:=q1;subst e;cases r1 with
 | cons r rr=>
  cases rr with
  | cons r' rr=>
   cases rr;obtain⟨t,rfl⟩:=r;obtain⟨t',rfl⟩:=r';exact call_range_2 (uE I1 q1 q2 q3 q4 q)
def tFor (wi:TI)(g:TG)(tb:TS):TS:=λD σ H=>wi σ H λJ H1=>∃W:Nat->Nat->St->Hp->Prop,(∃m,W 0 m σ H1)/\∀i m σ H,W i m σ H->
 (J.stop i H/\D.nx σ H)\/(J.go i H/\∃N:St->Hp->Prop,(∀σ' H',N σ' H' ->∃m',m' < m/\W (i+1) m' σ' H')/\∀x H',J.yld i H x H' ->g x σ H' λσ2 H2=>tb { D with nx:=N,ct:=N,bk:=D.nx } σ2 H2)
def Wf (fp:List Addr)(h:Heap):List (Addr×Obj):=fp.filterMap λb=>(h.get? b).map λo=>(b,o)
theorem ji (hb:b∈fp)(e:h.get? b=some o):(b,o)∈Wf fp h:=dY.mpr ⟨b,hb,by rw[e];rfl⟩
theorem ym {p:Addr×Obj}(hp:p∈Wf fp h):p.1∈fp/\h.get? p.1=some p.2:=by
 obtain⟨b,hb,e⟩:=dY.mp hp;cases q:h.get? b with
 | none=>rw[q]at e;cases e
 | some o=>
  rw[q]at e;have e' :(b,o)=p:=aH e;subst e';exact⟨hb,q⟩
theorem Inv.pinned (I:Inv X pins σ H s)(hf:∀b∈fp,WT X pins H b)(ho:∀b∈fp,∃o,s.heap.get? b=some o/\∀v,o.data ≠ .cell v):Inv X (pins++Wf fp s.heap) σ H s:=
 I.pins_of λp hp=>(dN.mp hp).elim (λz=>I.pin p (bb _ z)) λz=>by
  obtain⟨hb,e⟩:=ym z;obtain⟨f0,f1,f2,_⟩:=hf p.1 hb;obtain⟨o,e',d⟩:=ho p.1 hb;rw[e]at e';cases e';exact⟨e,f0,f1,f2,d⟩
theorem Inv.unpinned (I:Inv X (pins++pl) σ H s):Inv X pins σ H s:=I.pins_of λp hp=>I.pin p (bb _ (db _ hp))
theorem XV (hp:PassesOwn (model X.prog X.w) X.A X.env X.xe)(hc:X.calm=true)(hi:PI X tg iter wi)(hg:PG X tg g)(hb:PSs X body tb)
  (hs:∀x,foldedSetIterable iter X.env x=pure x:=by intro _;rfl):PS X (.For tg iter body [] pos) (tFor wi g tb):=by
 intro pins s σ H D I h;refine wpAny_For (thn (hi pins s σ H _ I h) λv s1 h1=>thn h1 λitv s2 h2=> ?_) hs;obtain⟨it,fp,tn,J,H2,e,I2,T,st2,f2,W,⟨m0,w0⟩,turn⟩:=h2;subst e;have stat:∀{H' :Hp},(∀b∈fp,H' b=none)->∀b∈fp,WT X pins H' b:=λhn b hb=>⟨hn b hb,(f2 b hb).2⟩;refine codeAny_forLoop_any (λn s' =>∃i σ' H',Inv X pins σ' H' s' /\tn i s'.heap/\(∀b∈fp,H' b=none)/\W i n σ' H') ?_ m0 ⟨0,σ,H2,I2,st2,λb hb=>(f2 b hb).1,w0⟩
 rintro n s3 ⟨i,σ3,H3,I3,st3,fr3,w3⟩
 rcases turn i n σ3 H3 w3 with ⟨stop,qn⟩ | ⟨go,N,hN,step⟩
 ·refine cA hp (thn (T.done X rfl rfl rfl hc i pins s3 σ3 H3 X.xe I3 (stat fr3) st3 stop) λr s4 ⟨hr,I4⟩=> ?_);subst hr;exact wpAny_execs_nil ⟨σ3,H3,I4,qn⟩
 ·refine cA hp (thn (T.item X rfl rfl rfl hc i pins s3 σ3 H3 X.xe I3 (stat fr3) st3 go) λr s4 ⟨u,hr,h4⟩=> ?_);subst hr;refine cA hp (thn h4 λ_ s5 ⟨x,H5,I5,r5,y5,st5,fr5⟩=> ?_);have I5' :=I5.pinned (stat fr5) (T.obj _ _ st5);refine cA hp (thn (hg _ s5 σ3 H5 x u _ I5' r5 (step x H5 y5)) λ_ s6 ⟨σ6,H6,I6,q6⟩=> ?_);refine cA hp (thn (hb _ s6 σ6 H6 _ I6 q6) λf s7 q7=> ?_);have again:∀{σ7:St} {H7:Hp},Inv X (pins++Wf fp s5.heap) σ7 H7 s7->N σ7 H7->∃m,m < n/\∃i σ' H',Inv X pins σ' H' s7/\tn i s7.heap/\(∀b∈fp,H' b=none)/\W i m σ' H' :=λ{σ7 H7} I7 n7=>by
   obtain⟨m',hm,w7⟩:=hN σ7 H7 n7;refine⟨m',hm,i+1,σ7,H7,I7.unpinned,T.keep _ _ _ st5 λb hb o e=>(I7.pin (b,o) (bb _ (bb _ (ji hb e)))).1,λb hb=> ?_,w7⟩;obtain⟨o,e,d⟩:=T.obj _ _ st5 b hb;exact(I7.pin (b,o) (bb _ (bb _ (ji hb e)))).2.1
  cases f with
  | next=>obtain⟨σ7,H7,I7,n7⟩:=q7;exact again I7 n7
  | cont=>obtain⟨σ7,H7,I7,n7⟩:=q7;exact again I7 n7
  | brk=>obtain⟨σ7,H7,I7,q7⟩:=q7;exact⟨σ7,H7,I7.unpinned,q7⟩
  | ret v=>obtain⟨x7,σ7,H7,I7,r7,q7⟩:=q7;exact⟨x7,σ7,H7,I7.unpinned,r7,q7⟩
end
end L2
namespace L2
open PySem PySem.Spec PyProof.Rows
abbrev R2:=V->V->Hp->VK->Prop
def OpR (X:Cx)(f:Value->Value->Sem Value)(r:R2):Prop:=
 ∀(pins:List (Addr×Obj)) (s:Shared) (σ:St) (H:Hp) (x y:V) (v u:Value) (Q:VK),Inv X pins σ H s->Zg x v->Zg y u->r x y H Q->
  wpAny (model X.prog X.w) X.A (f v u) (EP X pins σ Q) X.xe s
def UnR (X:Cx)(f:Value->Sem Value)(r:V->Hp->VK->Prop):Prop:=
 ∀(pins:List (Addr×Obj)) (s:Shared) (σ:St) (H:Hp) (x:V) (v:Value) (Q:VK),Inv X pins σ H s->Zg x v->r x H Q->
  wpAny (model X.prog X.w) X.A (f v) (EP X pins σ Q) X.xe s
def ZQ (X:Cx)(f:Value)(r:List V->Hp->VK->Prop):Prop:=
 ∀(pins:List (Addr×Obj)) (s:Shared) (σ:St) (H:Hp) (xs:List V) (us:List Value) (Q:VK),Inv X pins σ H s->zU xs us->r xs H Q->
  wpAny (model X.prog X.w) X.A (call f us) (EP X pins σ Q) X.xe s
def TruR (X:Cx)(r:V->Hp->(Bool->Hp->Prop)->Prop):Prop:=
 ∀(pins:List (Addr×Obj)) (s:Shared) (σ:St) (H:Hp) (x:V) (v:Value) (Q:Bool->Hp->Prop),Inv X pins σ H s->Zg x v->r x H Q->
  wpAny (model X.prog X.w) X.A (truthy v) (TP X pins σ Q) X.xe s
def tOp (r:R2)(ta tb:TE):TE:=λσ H Q=>ta σ H λx H1=>tb σ H1 λy H2=>r x y H2 Q
def tUn (r:V->Hp->VK->Prop)(ta:TE):TE:=λσ H Q=>ta σ H λx H1=>r x H1 Q
def rI (C:Int->Int->Prop)(g:Int->Int->V):R2:=λx y H Q=>∃i j,x= .int i/\y= .int j/\C i j/\Q (g i j) H
def rI0 (g:Int->Int->V):R2:=λx y H Q=>∃i j,x= .int i/\y= .int j/\Q (g i j) H
def rU (g:Int->V):V->Hp->VK->Prop:=λx H Q=>∃i,x= .int i/\Q (g i) H
section
theorem GO (ha:PE X a ta)(hb:PE X b tb){R:V->V->Hp->Prop}(I:Inv X pins σ H s)
  (h:ta σ H λx H1=>tb σ H1 λy H2=>R x y H2) {Q:Value->Shared->Prop} {f:Value->Value->Sem Value}
  (hf:∀v u s2 x y H2,Inv X pins σ H2 s2->Zg x v->Zg y u->R x y H2->wpAny (model X.prog X.w) X.A (f v u) Q X.xe s2):
  wpAny (model X.prog X.w) X.A (eval a X.env) (λv s₁=>wpAny (model X.prog X.w) X.A (eval b X.env) (λu s₂=>wpAny (model X.prog X.w) X.A (f v u) Q X.xe s₂) X.xe s₁) X.xe s:=by
 refine thn (ha pins s σ H _ I h) λv s1 ⟨x,H1,I1,r1,q1⟩=> ?_;refine thn (hb pins s1 σ H1 _ I1 q1) λu s2 ⟨y,H2,I2,r2,q2⟩=> ?_;exact hf v u s2 x y H2 I2 r1 r2 q2
theorem GP (ho:OpR X (binaryOp op) r)(ha:PE X a ta)(hb:PE X b tb):PE X (.BinOp a op b pos) (tOp r ta tb):=by
 intro pins s σ H Q I h;exact wpAny_BinOp (GO ha hb I h λv u s2 x y H2 I2 rx ry q=>ho pins s2 σ H2 x y v u Q I2 rx ry q)
theorem GQ {op:UnaryOp}{r:V->Hp->VK->Prop}(ho:UnR X (unaryOp op) r)(ha:PE X a ta):PE X (.UnaryOp op a pos) (tUn r ta):=by
 intro pins s σ H Q I h;exact UnaryOp_ (thn (ha pins s σ H _ I h) λv s1 ⟨x,H1,I1,r1,q1⟩=>ho pins s1 σ H1 x v Q I1 r1 q1)
theorem opI {f:Value->Value->Sem Value}{C:Int->Int->Prop}{g:Int->Int->Int}
  (rule:∀(i j:Int) (t u:Tok) (s:Shared) (Q:Value->Shared->Prop) (E:Value->Shared->Prop),C i j->Q (.int (g i j) s.toks) { s with toks:=s.toks+1 }->wpAny (model X.prog X.w) X.A (f (.int i t) (.int j u)) Q E s):
  OpR X f (rI C λi j=> .int (g i j)):=by
 intro pins s σ H x y v u Q I rx ry h;obtain⟨i,j,rfl,rfl,hc,q⟩:=h;obtain⟨t,rfl⟩:=rx;obtain⟨t',rfl⟩:=ry;exact rule i j t t' s _ _ hc ⟨.int (g i j),H,I.tok _,⟨_,rfl⟩,q⟩
theorem opI0 {f:Value->Value->Sem Value}{g:Int->Int->Int}
  (rule:∀(i j:Int) (t u:Tok) (s:Shared) (Q:Value->Shared->Prop) (E:Value->Shared->Prop),Q (.int (g i j) s.toks) { s with toks:=s.toks+1 }->wpAny (model X.prog X.w) X.A (f (.int i t) (.int j u)) Q E s):
  OpR X f (rI0 λi j=> .int (g i j)):=by
 intro pins s σ H x y v u Q I rx ry h;obtain⟨i,j,rfl,rfl,q⟩:=h;obtain⟨t,rfl⟩:=rx;obtain⟨t',rfl⟩:=ry;exact rule i j t t' s _ _ ⟨.int (g i j),H,I.tok _,⟨_,rfl⟩,q⟩
theorem G2 {f:Value->Value->Sem Value}{g:Int->Int->Bool}
  (rule:∀(i j:Int) (t u:Tok) (s:Shared) (Q:Value->Shared->Prop) (E:Value->Shared->Prop),Q (.bool (g i j)) s->wpAny (model X.prog X.w) X.A (f (.int i t) (.int j u)) Q E s):
  OpR X f (rI0 λi j=> .bl (g i j)):=by
 intro pins s σ H x y v u Q I rx ry h;obtain⟨i,j,rfl,rfl,q⟩:=h;obtain⟨t,rfl⟩:=rx;obtain⟨t',rfl⟩:=ry;exact rule i j t t' s _ _ ⟨.bl (g i j),H,I,rfl,q⟩
def CDiv (i j:Int):Prop:=0 < j/\j < 1073741824
def W9 (i j:Int):Prop:=(-(2 ^ 64) < i/\i < 2 ^ 64)\/(-(2 ^ 64) < j/\j < 2 ^ 64)
theorem W9.ok {i j:Int}(h:W9 i j):IntMulOk i j:=by
 rcases h with ⟨h1,h2⟩ | ⟨h1,h2⟩
 ·exact .of_left (intBits_le_64 h1 h2)
 ·exact .of_right (intBits_le_64 h1 h2)
theorem XW:OpR X (binaryOp .Add) (rI0 λi j=> .int (i+j)):=opI0 λ_ _ _ _ _ _ _ q=>add_int q
theorem XX:OpR X (binaryOp .Sub) (rI0 λi j=> .int (i - j)):=opI0 λ_ _ _ _ _ _ _ q=>sub_int q
theorem XY:OpR X (binaryOp .Mult) (rI W9 λi j=> .int (i*j)):=opI λ_ _ _ _ _ _ _ hc q=>mul_int q hc.ok
theorem V4:OpR X (binaryOp .FloorDiv) (rI CDiv λi j=> .int (i / j)):=opI λi j _ _ _ _ _ hc q=>by
 have h1:(0:Int) < j:=hc.1;have h2:j < 1073741824:=hc.2;exact floordiv_int (by omega) (by rw[Int.fdiv_eq_ediv_of_nonneg i (by omega)];exact q) (.inl (PyProof.noPylong_small (by omega)))
theorem XZ:OpR X (binaryOp .Mod) (rI (λ_ j=>0 < j) λi j=> .int (i % j)):=opI λi j _ _ _ _ _ hc q=>by
 have h1:(0:Int) < j:=hc;exact mod_int' (by omega) (by rw[Int.fmod_eq_emod_of_nonneg i (by omega)];exact q)
theorem unI {f:Value->Sem Value}{g:Int->Int}
  (rule:∀(i:Int) (t:Tok) (s:Shared) (Q:Value->Shared->Prop) (E:Value->Shared->Prop),Q (.int (g i) s.toks) { s with toks:=s.toks+1 }->wpAny (model X.prog X.w) X.A (f (.int i t)) Q E s):
  UnR X f (rU λi=> .int (g i)):=by
 intro pins s σ H x v Q I rx h;obtain⟨i,rfl,q⟩:=h;obtain⟨t,rfl⟩:=rx;exact rule i t s _ _ ⟨.int (g i),H,I.tok _,⟨_,rfl⟩,q⟩
theorem k6:UnR X (unaryOp .USub) (rU λi=> .int (-i)):=unI λ_ _ _ _ _ q=>neg_int q
theorem yn:OpR X (binaryOp .Add) (λx y H Q=>∃i k,x= .int i/\y= .bl k/\Q (.int (i+b2i k)) H):=by
 intro pins s σ H x y v u Q I rx ry h;obtain⟨i,k,rfl,rfl,q⟩:=h;obtain⟨t,rfl⟩:=rx;cases ry;exact add_int_bool ⟨.int (i+b2i k),H,I.tok _,⟨_,rfl⟩,q⟩
end
section
theorem GR:OpR X (compareOp .Lt) (rI0 λi j=> .bl (decide (i < j))):=G2 λ_ _ _ _ _ _ _ q=>lt_int q
theorem GS:OpR X (compareOp .LtE) (rI0 λi j=> .bl (decide (i<=j))):=G2 λ_ _ _ _ _ _ _ q=>le_int q
theorem GT:OpR X (compareOp .Gt) (rI0 λi j=> .bl (decide (j < i))):=G2 λ_ _ _ _ _ _ _ q=>gt_int q
theorem GU:OpR X (compareOp .GtE) (rI0 λi j=> .bl (decide (j<=i))):=G2 λ_ _ _ _ _ _ _ q=>ge_int q
theorem jw (b:Expr)(h:op ≠ .In:=by decide)(h2:op ≠ .NotIn:=by decide):behindInMarks op b=false:=by
 have e1:(op == CmpOp.In)=false:=by cases op <;> first | rfl | exact absurd rfl h
 have e2:(op == CmpOp.NotIn)=false:=by cases op <;> first | rfl | exact absurd rfl h2
 cases b <;> simp[behindInMarks,e1,e2]
theorem V5 (ho:OpR X (compareOp op) r)(ha:PE X a ta)(hb:PE X b tb)(hm:behindInMarks op b=false):PE X (.Compare a [op] [b] pos) (tOp r ta tb):=by
 intro pins s σ H Q I h;exact wpAny_Compare1 (GO ha hb I h λv u s2 x y H2 I2 rx ry q=>ho pins s2 σ H2 x y v u Q I2 rx ry q) hm
def k7 (t:TE):TT:=λσ H Q=>t σ H λx H' =>∃k,x= .bl k/\Q k H'
theorem u3 (ho:OpR X (compareOp op) r)(ha:PE X a ta)(hb:PE X b tb)(hm:behindInMarks op b=false):PT X (.Compare a [op] [b] pos) (k7 (tOp r ta tb)):=by
 intro pins s σ H Q I h;refine wpAny_isTrue_Compare1 (thn (ha pins s σ H _ I h) λv s1 ⟨x,H1,I1,r1,q1⟩=>thn (hb pins s1 σ H1 _ I1 q1) λu s2 ⟨y,H2,I2,r2,q2⟩=>
  thn (ho pins s2 σ H2 x y v u _ I2 r1 r2 q2) λc s3 ⟨z,H3,I3,r3,k,e,q3⟩=> ?_) hm
 subst e;cases r3;exact bp ⟨H3,I3,q3⟩
def ve (r r' :R2)(ta tb tc:TE):TE:=λσ H Q=>ta σ H λx H1=>tb σ H1 λy H2=>r x y H2 λz H3=>∃k,z= .bl k/\
 (if k=true then tc σ H3 λw' H4=>r' y w' H4 Q else Q (.bl false) H3)
theorem qR (ho:OpR X (compareOp op) r)(ho' :OpR X (compareOp op') r')(ha:PE X a ta)(hb:PE X b tb)(hc:PE X c tc)
  (hm:lastMarks [op,op'] [b,c]=false:=by with_unfolding_all rfl):PE X (.Compare a [op,op'] [b,c] pos) (ve r r' ta tb tc):=by
 intro pins s σ H Q I h;refine Compare_chain (thn (ha pins s σ H _ I h) λv s1 ⟨x,H1,I1,r1,q1⟩=>chain_link (thn (hb pins s1 σ H1 _ I1 q1) λu s2 ⟨y,H2,I2,r2,q2⟩=>
  thn (ho pins s2 σ H2 x y v u _ I2 r1 r2 q2) λd s3 ⟨z,H3,I3,r3,k,e,q3⟩=> ?_)) hm
 subst e;cases r3;refine bp ?_;cases k with
 | false=>exact ite_ff ⟨.bl false,H3,I3,rfl,q3⟩
 | true=>exact ite_tt (chain_last (thn (hc pins s3 σ H3 _ I3 q3) λw' s4 ⟨z',H4,I4,r4,q4⟩=>ho' pins s4 σ H4 y z' u w' Q I4 r2 r4 q4))
theorem qS (ho:OpR X (compareOp op) r)(ho' :OpR X (compareOp op') r')(ha:PE X a ta)(hb:PE X b tb)(hc:PE X c tc)
  (hm:lastMarks [op,op'] [b,c]=false:=by with_unfolding_all rfl):PT X (.Compare a [op,op'] [b,c] pos) (k7 (ve r r' ta tb tc)):=by
 intro pins s σ H Q I h;refine isTrue_chain (thn (ha pins s σ H _ I h) λv s1 ⟨x,H1,I1,r1,q1⟩=>test_link (thn (hb pins s1 σ H1 _ I1 q1) λu s2 ⟨y,H2,I2,r2,q2⟩=>
  thn (ho pins s2 σ H2 x y v u _ I2 r1 r2 q2) λd s3 ⟨z,H3,I3,r3,k,e,q3⟩=> ?_)) hm
 subst e;cases r3;refine bp ?_;cases k with
 | false=>
  obtain⟨k',e',q'⟩:=q3;cases e';exact ite_ff ⟨H3,I3,q'⟩
 | true=>
  refine ite_tt (test_last (thn (hc pins s3 σ H3 _ I3 q3) λw' s4 ⟨z',H4,I4,r4,q4⟩=>thn (ho' pins s4 σ H4 y z' u w' _ I4 r2 r4 q4) λd' s5 ⟨z2,H5,I5,r5,k2,e2,q5⟩=> ?_));subst e2;cases r5;exact bp ⟨H5,I5,q5⟩
def TruV (K:ac)(x:V)(H:Hp)(k:Bool):Prop:=
 match x with
 | .non=>k=false
 | .bl b=>k=b
 | .int i=>k=(i != 0)
 | .str y=>y.length<=sizeLine/\k=((y.length:Int) != 0)
 | .byt y=>y.size<=sizeLine/\k=((y.size:Int) != 0)
 | .ref p=>(∃xs,SqL K H p xs/\k= !xs.isEmpty)\/(∃xs,SqT K H p xs/\k= !xs.isEmpty)\/∃kvs,H p=some (.dK kvs)/\k= !kvs.isEmpty
 | _=>False
theorem Ur {κ:Type}{kvs:List (κ×V)}{vs:List (κ×Value)}(r:KV kvs vs):(!vs.isEmpty)= !kvs.isEmpty:=by
 cases r <;> rfl
theorem we (r:zU xs its):(!its.toArray.isEmpty)= !xs.isEmpty:=by
 cases r <;> simp
theorem wf:(sizeLine:Nat) < 2 ^ 63:=by rw[bY];decide
theorem k8:TruR X (λx H Q=>∃k,TruV X.K x H k/\Q k H):=by
 intro pins s σ H x v Q I rx h;obtain⟨k,e,q⟩:=h;have hl:=wf;have hs:sizeLine=16777216:=bY;cases x with
 | non=>
  cases rx;have e' :k=false:=e;subst e';exact truthy_none ⟨H,I,q⟩
 | bl b=>
  cases rx;have e' :k=b:=e;subst e';exact bp ⟨H,I,q⟩
 | int i=>
  obtain⟨t,rfl⟩:=rx;have e' :k=(i != 0):=e;subst e';exact PySem.P.truthy_int ⟨H,I,q⟩
 | str y=>
  obtain⟨t,rfl⟩:=rx;obtain⟨hy,e'⟩:y.length<=sizeLine/\k=((y.length:Int) != 0):=e;subst e';exact PySem.P.truthy_str (by omega) ⟨H,I.tok _,q⟩
 | byt y=>
  obtain⟨t,rfl⟩:=rx;obtain⟨hy,e'⟩:y.size<=sizeLine/\k=((y.size:Int) != 0):=e;subst e';exact PySem.W.truthy_bytes (by omega) ⟨H,I.tok _,q⟩
 | ref p=>
  cases rx;have e' :(∃xs,SqL X.K H p xs/\k= !xs.isEmpty)\/(∃xs,SqT X.K H p xs/\k= !xs.isEmpty)\/∃kvs,H p=some (.dK kvs)/\k= !kvs.isEmpty:=e;rcases e' with ⟨xs,hx,e'⟩ | ⟨xs,hx,e'⟩ | ⟨kvs,hx,e'⟩
  ·subst e';obtain⟨its,r,pl,hz⟩:=I.list hx;have hlen:=r.length;exact wpAny_truthy_list pl.isList (by simp only[aA];omega) ⟨H,I.tok _,by rw[we r];exact q⟩
  ·subst e';obtain⟨its,r,pl,hz⟩:=I.tuple hx;have hlen:=r.length;exact truthy_tuple pl (by simp only[aA];omega) ⟨H,I.tok _,by rw[we r];exact q⟩
  ·subst e';obtain⟨hz,hS,vs,r,m⟩:kvs.length<=sizeLine/\(p == sysModules)=false/\∃vs,KV kvs vs/\s.heap.DictOf (WY X.prog X.w) p vs:=I.hok p _ hx;have hlen:kvs.length=vs.length:=Paired.length r;exact wpAny_truthy_dict hS m (by omega) ⟨H,I.tok _,by rw[Ur r];exact q⟩
 | _=>exact(show False from e).elim
theorem qT (ha:PE X a ta)(he:∀whole,isTrue a X.env whole=(do let v ← whole;standAt a.pos;holding [v] (truthy v))):
  PT X a (λσ H Q=>ta σ H λx H' =>∃k,TruV X.K x H' k/\Q k H'):=by
 intro pins s σ H Q I h;exact isTrue_plain (thn (ha pins s σ H _ I h) λv s1 ⟨x,H1,I1,r1,q1⟩=>k8 pins s1 σ H1 x v Q I1 r1 q1) (he _)
theorem Us:OpR X (binaryOp .Add) (λx y H Q=>∃i j,x= .str i/\y= .str j/\i.length+j.length<=sizeLine/\Q (.str (i++j)) H):=by
 intro pins s σ H x y v u Q I rx ry h;obtain⟨i,j,rfl,rfl,hz,q⟩:=h;obtain⟨t,rfl⟩:=rx;obtain⟨t',rfl⟩:=ry;exact add_str (λt' tk=>⟨.str (i++j),H,I.tok _,⟨_,rfl⟩,q⟩) hz
theorem jr (r:zU [x] us):∃u,us=[u]/\Zg x u:=by
 cases r with
 | cons r1 r2=>cases r2;exact⟨_,rfl,r1⟩
theorem yo (r:zU [x,y] us):∃u w',us=[u,w']/\Zg x u/\Zg y w' :=by
 cases r with
 | cons r1 r2=>
  cases r2 with
  | cons r3 r4=>cases r4;exact⟨_,_,rfl,r1,r3⟩
theorem yq (hc:X.calm=true):ZQ X (.builtin "min") (λxs H Q=>∃i j,xs=[.int i,.int j]/\Q (.int (if j < i then j else i)) H):=by
 intro pins s σ H xs us Q I r h;obtain⟨i,j,rfl,q⟩:=h;obtain⟨u,w',rfl,⟨t,rfl⟩,⟨t',rfl⟩⟩:=yo r;refine min_two_ints (I.ok.hd hc) λh' tk k=>⟨_,H,I.kept k, ?_,q⟩
 by_cases hj:j < i
 ·rw[if_pos hj,if_pos hj];exact⟨_,rfl⟩
 ·rw[if_neg hj,if_neg hj];exact⟨_,rfl⟩
theorem yr:ZQ X (.type "int") (λxs H Q=>(∃i,xs=[.int i]/\Q (.int i) H)\/∃k,xs=[.bl k]/\Q (.int (if k then 1 else 0)) H):=by
 intro pins s σ H xs us Q I r h;rcases h with ⟨i,rfl,q⟩ | ⟨k,rfl,q⟩
 ·obtain⟨u,rfl,t,rfl⟩:=jr r;exact call_int_int ⟨.int i,H,I,⟨_,rfl⟩,q⟩
 ·obtain⟨u,rfl,r1⟩:=jr r;cases r1;exact call_int_bool ⟨.int (if k then 1 else 0),H,I.tok _,⟨_,rfl⟩,q⟩
end
end L2
namespace L2
open PySem PySem.Spec PyProof.Rows
structure V6 (h:Heap) (x dx C:Addr) (mA:Str->Option Value):Prop where
 obj:h.get? x=some (cb C dx)
 ns:h.Ns1 dx mA
 ne:dx ≠ x
theorem yt {h:Heap}{dx:Addr}{mA:Str->Option Value}(n:h.Ns1 dx mA):∃od,h.get? dx=some od/\∀name,dZ name od=some (mA name):=by
 obtain⟨o,es,ep,ho,hd,hk,_,hm⟩:=n;refine⟨o,ho,λname=> ?_⟩;have e:=hm name;unfold nsFind findBy at e;rw[← Array.find?_toList]at e;unfold dZ;rw[hd];dsimp only;split
 ·rename_i y q;rw[q]at e;exact congrArg some e
 ·rename_i q;rw[q]at e;have a:es.toList.any (·.refKey)=false:=by
   rw[List.any_eq_false];intro y hy;obtain⟨z,t,hkey⟩:=hk y (Array.mem_toList_iff.mp hy);simp[DictEntry.refKey,hkey]
  have a' :¬ es.toList.any (·.refKey)=true:=by rw[a];exact av
  rw[if_neg a'];exact congrArg some e
theorem V6.look (I:V6 h x dx C mA):∃od,PySem.W.InstAt h x (cb C dx) C (some od)/\∀name,dZ name od=some (mA name):=
 let ⟨od,ho,hl⟩:=yt I.ns
 ⟨od,⟨I.obj,rfl,rfl,ho⟩,hl⟩
section
variable {prog:Program}{w:World}{A:Around}{E:Value->Shared->Prop}{s:Shared}{K:ac}{x dx C f:Addr}{mA:Str->Option Value}{name:Str}{v:Value}
theorem V7 {expr:Bool}{Q:Value->Shared->Prop}(X:K.In s.heap)(I:V6 s.heap x dx C mA)(hg:dJ K C name=true)(hh:eF K C=true)
  (ha:bj K (.ref C) name=some none) (hv:mA name=some v) (hv' :hW v=true) (h:Q v { s with toks:=s.toks+1 }):
  wpAny (model prog w) A (getAttr (.ref x) name expr) Q E s:=by
 obtain⟨od,J,hl⟩:=I.look;exact PySem.W.get_value X J (dR hg).1 (PySem.W.findObj_own hh ha rfl (by rw[hl,hv])) hv' h
theorem qU {pl:Sem Bool}{Q:Value×List Value->Shared->Prop}(X:K.In s.heap)(I:V6 s.heap x dx C mA)(hg:dJ K C name=true)
  (hf:bj K (.ref C) name=some (some (.ref f))) (ht:eW K (.ref f)=true) (hv:mA name=none) (h:Q (.ref f,[.ref x]) s):
  wpAny (model prog w) A (getMethod (.ref x) name pl) Q E s:=by
 obtain⟨od,J,hl⟩:=I.look;exact PySem.W.method_fn X J (dR hg).1 (dR hg).2 hf (beq_iff_eq.mp ht) (by show (dZ name od).map (·.isSome)=some false;rw[hl,hv];rfl) h
theorem V8 {ns:List Str}{Q:Unit->Shared->Prop}(X:K.In s.heap)(I:V6 s.heap x dx C mA)
  (hs:bj K (.ref C) "__setattr__"=some (some (.builtin "object.__setattr__"))) (hp:fR K C=true) (ht:fj K C name=some none) (hh:eF K C=true)
  (hw:eT mA ns) (hsz:ns.length<=sizeLine)
  (h:∀h',V6 h' x dx C (λy=>if y=name then some v else mA y)->cD dx s.heap h' ->Q () { s with heap:=h',toks:=s.toks+2 }):
  wpAny (model prog w) A (setAttr (.ref x) name v) Q E s:=by
 obtain⟨od,J,hl⟩:=I.look;refine PySem.W.set_plain X J hs (PySem.W.osa_open (s:={ s with toks:=s.toks+1 }) (r:=none) X J hp ht λb=> ?_);obtain⟨cd,hc,hd'⟩:=PySem.W.any_some hh;have hx:s.heap.get? x=some ⟨.ref C,some dx,.plain, #[]⟩:=I.obj;refine aa (ar (aa (aa (wpAny_loadPart hx (aa (PySem.W.Looks.here (s:={ s with toks:=s.toks+1 }) (PySem.W.looks_clsIn X hc) ?_))))));rw[hd'];refine ar (a:=some dx) (aa (ar (aa ?_)));refine wpAny_nsSet1 (s:={ s with toks:=s.toks+1 }) I.ns λh' hn2 hs2=> ?_;obtain⟨oD,esD,epD,hoD,hdD,hcD⟩:=hn2.count (eT.cons name v hw);refine aa (wpAny_lookBehind hoD (by rw[hdD];exact pastItsLine_dict (aF hcD (by rw[ah];omega))) ?_)
 exact ar (h _ ⟨(hs2.2 _ (bM I.ne)).trans I.obj,hn2,I.ne⟩ hs2)
theorem qV {R:Result->Shared->Prop}{vs:List Value}{kw:List (Str×Value)}(X:K.In s.heap)(hm:ip K C=true)
  (hi:bj K (.ref C) "__init__"=some (some (.ref f))) (hf:PySem.W.typeIn K (.ref f)=some (.type "function"))
  (h:codeAny (model prog w) (A.under (.builtin "type.__call__" ⟨.ref C :: vs,kw⟩)) (.call (.ref f) ⟨.ref (s.heap.objs.size+1) :: vs,kw⟩) (PySem.W.InitBack (s.heap.objs.size+1) R)
   { s with heap:=(s.heap.push bH).push (cb C s.heap.objs.size) }):
  codeAny (model prog w) A (.call (.ref C) ⟨vs,kw⟩) R s:=by
 obtain⟨hh,g,d,t,os⟩:=s;exact PySem.W.make_core (PySem.W.makes_of X hm) (PySem.W.looks_findIn X hi) (λself=>PySem.W.bind_fn X self hf) (.inl rfl) h
end
def putF (f:Str)(v:V):List (Str×V)->List (Str×V)
 | []=>[(f,v)]
 | (g,x) :: r=>if g=f then (g,v) :: r else (g,x) :: putF f v r
theorem lookup_putF (f g:Str)(v:V):∀fs:List (Str×V),(putF f v fs).lookup g=if g=f then some v else fs.lookup g
 | []=>by
  show dt g [(f,v)]=_
  by_cases h:g=f
  ·have hb:(g == f)=true:=beq_iff_eq.mpr h;simp only[dt,hb,if_pos h]
  ·have hb:(g == f)=false:=beq_eq_false_iff_ne.mpr h;simp only[dt,hb,if_neg h]
 | (k,x) :: r=>by
  have ih:=lookup_putF f g v r;rw[show putF f v ((k,x) :: r)=(if k=f then (k,v) :: r else (k,x) :: putF f v r) from rfl]
  by_cases hk:k=f
  ·rw[if_pos hk]
   by_cases h:g=k
   ·have hb:(g == k)=true:=beq_iff_eq.mpr h;simp only[dt,hb,if_pos (h.trans hk)]
   ·have hb:(g == k)=false:=beq_eq_false_iff_ne.mpr h;simp only[dt,hb,if_neg (λe:g=f=>h (e.trans hk.symm))]
  ·rw[if_neg hk]
   by_cases h:g=k
   ·have hb:(g == k)=true:=beq_iff_eq.mpr h;simp only[dt,hb,if_neg (λe:g=f=>hk (h.symm.trans e))]
   ·have hb:(g == k)=false:=beq_eq_false_iff_ne.mpr h;simp only[dt,hb];exact ih
theorem Jw (f:Str)(v:V):∀fs:List (Str×V),f∈(putF f v fs).map (·.1)/\∀g,g∈fs.map (·.1)->g∈(putF f v fs).map (·.1)
 | []=>⟨by simp[putF],λg h=>by simp at h⟩
 | (k,x) :: r=>by
  obtain⟨i1,i2⟩:=Jw f v r;rw[show putF f v ((k,x) :: r)=(if k=f then (k,v) :: r else (k,x) :: putF f v r) from rfl]
  by_cases hk:k=f
  ·rw[if_pos hk];subst hk;exact⟨by simp,λg h=>by simpa using h⟩
  ·rw[if_neg hk];refine⟨?_,λg h=> ?_⟩
   ·rw[aI];exact af _ i1
   ·rw[aI]at h ⊢;rcases aG.mp h with e | e
    ·exact aG.mpr (.inl e)
    ·exact af _ (i2 g e)
theorem Jx (f:Str)(v:V):∀fs:List (Str×V),(putF f v fs).length<=fs.length+1
 | []=>by simp[putF]
 | (k,x) :: r=>by
  have ih:=Jx f v r;rw[show putF f v ((k,x) :: r)=(if k=f then (k,v) :: r else (k,x) :: putF f v r) from rfl]
  by_cases hk:k=f
  ·rw[if_pos hk,ah,ah];omega
  ·rw[if_neg hk,ah,ah];omega
theorem qG.some_of (r:qG (some v) o):∃u,o=some u/\Zg v u:=by
 cases o with
 | none=>exact(show False from r).elim
 | some u=>exact⟨u,rfl,r⟩
theorem qG.none_of (r:qG none o):o=none:=by
 cases o with
 | none=>rfl
 | some u=>exact(show False from r).elim
theorem yu (r:Zg v u):hW u=true:=by
 cases v with
 | non=>cases (show u=Value.none from r);rfl
 | bl b=>cases (show u=Value.bool b from r);rfl
 | int i=>obtain⟨t,e⟩:=(show ∃t,u=Value.int i t from r);cases e;rfl
 | str x=>obtain⟨t,e⟩:=(show ∃t,u=Value.str x t from r);cases e;rfl
 | byt b=>obtain⟨t,e⟩:=(show ∃t,u=Value.bytes b t from r);cases e;rfl
 | flt b=>obtain⟨t,e⟩:=(show ∃t,u=Value.float b t from r);cases e;rfl
 | ref a=>cases (show u=Value.ref a from r);rfl
 | ty n=>cases (show u=Value.type n from r);rfl
section
theorem wG (hok:HOk P w H h)(e:H a=some (.ins C dx fs)):∃mA,V6 h a dx C mA/\(∀f,qG (fs.lookup f) (mA f))/\eT mA (fs.map (·.1))/\fs.length<=1000/\H dx=some (.own a):=by
 obtain⟨d,z,ne,ob,mA,n,r,q⟩:=(show Zi P w H h a (.ins C dx fs) from hok a _ e);exact⟨mA,⟨ob,n,ne⟩,r,q,z,d⟩
end
structure Cls (K:ac) (C:Addr):Prop where
 pg:dJ K C Str.empty=true
 hd:eF K C=true
 po:fR K C=true
 sa:bj K (.ref C) "__setattr__"=some (some (.builtin "object.__setattr__"))
theorem Cls.get {K:ac}{C:Addr}(c:Cls K C)(f:Str):dJ K C f=true:=c.pg
def NoAttr (K:ac)(C:Addr)(f:Str):Prop:=bj K (.ref C) f=some none
theorem NoAttr.taker {K:ac}{C:Addr}{f:Str}(n:NoAttr K C f):fj K C f=some none:=by
 unfold fj;rw[show bj K (.ref C) f=some none from n];rfl
structure Meth (K:ac) (C:Addr) (m:Str) (f:Addr):Prop where
 at_:bj K (.ref C) m=some (some (.ref f))
 fn:eW K (.ref f)=true
 kp:bn K (.ref f)=true
section
theorem Ut {b:Bool}(I:Inv X pins σ H s)(e:H a=some (.ins C dx fs))(c:Cls X.K C)(n:NoAttr X.K C f)(l:fs.lookup f=some v)
  (h:∀u s',Inv X pins σ H s' ->Zg v u->Q u s'):wpAny (model X.prog X.w) A (getAttr (.ref a) f b) Q E s:=by
 obtain⟨mA,O,r,_,_,_⟩:=wG I.hok e;obtain⟨u,hu,ru⟩:=qG.some_of (v:=v) (o:=mA f) (by rw[← l];exact r f)
 exact V7 I.kIn O (c.get f) c.hd n hu (yu ru) (h u _ (I.tok _) ru)
theorem jV {Q:Value×List Value->Shared->Prop}(I:Inv X pins σ H s)(e:H a=some (.ins C dx fs))(c:Cls X.K C)(k:Meth X.K C m g)(l:fs.lookup m=none)
  (h:Q (.ref g,[.ref a]) s):wpAny (model X.prog X.w) A (getMethod (.ref a) m pl) Q E s:=by
 obtain⟨mA,O,r,_,_,_⟩:=wG I.hok e;have hn:mA m=none:=qG.none_of (by rw[← l];exact r m)
 exact qU I.kIn O (c.get m) k.at_ k.fn hn h
theorem Uu {Q:Unit->Shared->Prop}(I:Inv X pins σ H s)(e:H a=some (.ins C dx fs))(c:Cls X.K C)(n:NoAttr X.K C f)(hl:fs.length < 1000)(ry:Zg y u)
  (h:∀s',Inv X pins σ (upd H a (.ins C dx (putF f y fs))) s' ->Q () s'):wpAny (model X.prog X.w) A (setAttr (.ref a) f u) Q E s:=by
 obtain⟨mA,O,r,wi,_,ho⟩:=wG I.hok e;have hz:(fs.map (·.1)).length<=sizeLine:=by rw[ae,bY];omega
 refine V8 I.kIn O c.sa c.po n.taker c.hd wi hz λh' O' sb=>h _ ?_;have hd:∃o,h'.get? dx=some o:=let ⟨o,_,_,e',_⟩:=O'.ns;⟨o,e'⟩;refine I.write (x:=a) (e:=dx) (by rw[e];exact True.intro) (.inr ho) (λb q hb z=>(sb.2 b hb).trans z) hd ?_
 refine⟨by rw[zn O.ne];exact ho, ?_,O.ne,O'.obj,_,O'.ns,λg=> ?_,λg hg=> ?_⟩
 ·have:=Jx f y fs;omega
 ·show qG ((putF f y fs).lookup g) (if g=f then some u else mA g)
  rw[lookup_putF]
  by_cases q:g=f
  ·rw[if_pos q,if_pos q];exact ry
  ·rw[if_neg q,if_neg q];exact r g
 ·by_cases q:g=f
  ·rw[q];exact(Jw f y fs).1
  ·refine(Jw f y fs).2 g (wi g λz=>hg ?_);show (if g=f then some u else mA g)=none
   rw[if_neg q];exact z
theorem Inv.made (I:Inv X pins σ H s):Inv X pins σ (upd (upd H s.heap.objs.size (.own (s.heap.objs.size+1))) (s.heap.objs.size+1) (.ins C s.heap.objs.size []))
  { s with heap:=(s.heap.push bH).push (cb C s.heap.objs.size) }:=by
 have e1:(s.heap.push bH).get? s.heap.objs.size=some bH:=ao s.heap rfl;have e2:((s.heap.push bH).push (cb C s.heap.objs.size)).get? (s.heap.objs.size+1)=some (cb C s.heap.objs.size):=by
  have:=ao (s.heap.push bH) (o:=cb C s.heap.objs.size) rfl;rwa[bZ]at this
 have e3:(s.heap.push bH).Ns s.heap.objs.size (λ_=>none):=⟨bH, #[],_,e1,rfl,(λe he=>absurd he (by simp)),λ_=>rfl⟩
 have I1:=I.laid (a:=s.heap.objs.size) (o:= .own (s.heap.objs.size+1)) (h' :=s.heap.push bH) (t' :=s.toks) (λb u q=>ai _ q) (am _) ⟨_,e1⟩;refine I1.laid (a:=s.heap.objs.size+1) (o:= .ins C s.heap.objs.size []) (t' :=s.toks) (λb u q=>ai _ q) (Nat.le_of_eq (bZ _ _)) ?_;have ne:s.heap.objs.size ≠ s.heap.objs.size+1:=aL (df _);refine⟨by rw[zn ne,zB],bO _,ne,e2,λ_=>none,(Heap.Ns1.of_empty e3).at λo q=>ai _ q,λ_=>True.intro,λy hy=>absurd rfl hy⟩
theorem V9 (hb:attributeBase e f env (eval e env)=eval e env)
  (h:wpAny (model prog w) A (eval e env) (λo s₁=>wpAny (model prog w) A (getAttr o f true) Q E s₁) E s):wpAny (model prog w) A (eval (.Attribute e f pos) env) Q E s:=
 Attribute_any_ h (by rw[arm_eval_Attribute,hb])
end
def tFld (K:ac)(ta:TE)(f:Str):TE:=λσ H Q=>ta σ H λx H1=>∃a C dx fs v,x= .ref a/\H1 a=some (.ins C dx fs)/\Cls K C/\NoAttr K C f/\fs.lookup f=some v/\Q v H1
def sFld (K:ac)(ta tv:TE)(f:Str):TS:=λD σ H=>tv σ H λy H1=>ta σ H1 λx H2=>∃a C dx fs,x= .ref a/\H2 a=some (.ins C dx fs)/\Cls K C/\NoAttr K C f/\fs.length < 1000/\
 D.nx σ (upd H2 a (.ins C dx (putF f y fs)))
section
theorem k9 (he:PE X e ta)(hb:attributeBase e f X.env (eval e X.env)=eval e X.env):PE X (.Attribute e f pos) (tFld X.K ta f):=by
 intro pins s σ H Q I h;refine V9 hb (thn (he pins s σ H _ I h) λu s1 ⟨x,H1,I1,rx,a,C,dx,fs,v,ex,ea,c,n,l,q⟩=> ?_);subst ex;obtain rfl:u=Value.ref a:=rx;exact Ut I1 ea c n l λu' s2 I2 ru=>⟨v,H1,I2,ru,q⟩
theorem ka (ha:PE X o ta)(hv:PE X value tv)(hs:swapsWith value (some (.Attribute o f pos')) pos.line X.env=pure false):PS X (.Assign [.Attribute o f pos'] value pos) (sFld X.K ta tv f):=by
 intro pins s σ H D I h;refine plainObj_wpAny_Assign_Attribute (thn (hv pins s σ H _ I h) λu s1 ⟨y,H1,I1,ry,q⟩=>thn (ha pins s1 σ H1 _ I1 q) λov s2 ⟨x,H2,I2,rx,a,C,dx,fs,ex,ea,c,n,l,q2⟩=> ?_) hs;subst ex;obtain rfl:ov=Value.ref a:=rx;exact Uu I2 ea c n l ry λs3 I3=>⟨σ,_,I3,q2⟩
theorem Va (he:PE X e te)(I:Inv X pins σ H s)
  (h:te σ H λx H1=>∃a C dx fs g,x= .ref a/\H1 a=some (.ins C dx fs)/\Cls X.K C/\Meth X.K C m g/\fs.lookup m=none/\
   ∀s1,Inv X pins σ H1 s1->wpAny (model X.prog X.w) X.A (callWith pos (.ref g) [.ref a] (backTo pos (starEach args X.env)) (backToKw pos (keywordEach [] X.env))) Q X.xe s1)
  (ht:eval (.Call (.Attribute e m apos) args [] pos) X.env=(do
   let ov ← eval e X.env
   standAt apos.atName
   let (f,first) ← holding [ov] (getMethod ov m pl)
   callWith pos f first (backTo pos (starEach args X.env)) (backToKw pos (keywordEach [] X.env)))):
  wpAny (model X.prog X.w) X.A (eval (.Call (.Attribute e m apos) args [] pos) X.env) Q X.xe s:=by
 refine dI (pl:=pl) (thn (he pins s σ H _ I h) λu s1 ⟨x,H1,I1,rx,a,C,dx,fs,g,ex,ea,c,k,l,q⟩=> ?_) ht;subst ex;obtain rfl:u=Value.ref a:=rx;exact jV I1 ea c k l (q s1 I1)
end
section
variable {b:Bool}
inductive Uv (K:ac) (H:Hp):V->Value->Prop where
 | non:Uv K H .non (.type "NoneType")
 | bl (x:Bool):Uv K H (.bl x) (.type "bool")
 | int (i:Int):Uv K H (.int i) (.type "int")
 | str (x:Str):Uv K H (.str x) (.type "str")
 | flt (x:UInt64):Uv K H (.flt x) (.type "float")
 | lst {a:Addr} {xs:List V} (e:H a=some (.lst xs)):Uv K H (.ref a) (.type "list")
 | frz {a:Addr} {o:Obj} {xs:List V} (e:H a=some (.frz o (.lst xs))):Uv K H (.ref a) (.type "list")
 | tup {a:Addr} {xs:List V} (e:H a=some (.tup xs)):Uv K H (.ref a) (.type "tuple")
 | dK {a:Addr} {kvs:List (Key×V)} (e:H a=some (.dK kvs)):Uv K H (.ref a) (.type "dict")
 | dT {a:Addr} {kvs:List (List Key×V)} (e:H a=some (.dT kvs)):Uv K H (.ref a) (.type "dict")
 | ins {a C dx:Addr} {fs:List (Str×V)} (e:H a=some (.ins C dx fs)) (cl:Cls K C) (ha:bj K (.ref C) "__class__"=some (some (.builtin "object.__class__")))
   (hn:fS K (.builtin "object.__class__") "__get__"=some (some (.builtin "getset_descriptor.__get__"))) (htk:iq K (.builtin "object.__class__")=some true)
   (hm:fL K C (.type "object")=some true):Uv K H (.ref a) (.ref C)
theorem yv (I:Inv X pins σ H s)(rx:Zg x u)(ty:Uv X.K H x t)(e:aQ X.K t c=some b)(h:∀tk,Q (.bool b) { s with toks:=tk }):
  wpAny (model X.prog X.w) A (call (.builtin "isinstance") [u,c]) Q E s:=by
 cases ty with
 | non=>cases (show u=Value.none from rx);exact bB PySem.W.kitx_none I.kIn True.intro e (λz=>nomatch z) h
 | bl y=>cases (show u=Value.bool y from rx);exact bB PySem.W.kitx_bool I.kIn True.intro e (λz=>nomatch z) h
 | int i=>obtain⟨t,q⟩:=(show ∃t,u=Value.int i t from rx);cases q;exact bB PySem.W.kitx_int I.kIn True.intro e (λz=>nomatch z) h
 | str y=>obtain⟨t,q⟩:=(show ∃t,u=Value.str y t from rx);cases q;exact bB PySem.W.kitx_str I.kIn True.intro e (λz=>nomatch z) h
 | flt y=>obtain⟨t,q⟩:=(show ∃t,u=Value.float y t from rx);cases q;exact bB PySem.W.kitx_float I.kIn True.intro e (λz=>nomatch z) h
 | @lst a xs ea=>
  cases (show u=Value.ref a from rx);obtain⟨_,_,n,_,h1⟩:=(show Zi X.prog X.w H s.heap a (.lst xs) from I.hok a _ ea);exact bB fT I.kIn ⟨_,h1,rfl⟩ e (λz=>nomatch z) h
 | @frz a ob xs ea=>
  cases (show u=Value.ref a from rx);obtain⟨_,_,_,n,_,h1⟩:=(show Zi X.prog X.w H s.heap a (.frz ob (.lst xs)) from I.hok a _ ea);exact bB fT I.kIn ⟨_,h1,rfl⟩ e (λz=>nomatch z) h
 | @tup a xs ea=>
  cases (show u=Value.ref a from rx);obtain⟨_,_,_,p,_⟩:=(show Zi X.prog X.w H s.heap a (.tup xs) from I.hok a _ ea);obtain⟨o,h1,h2,_⟩:=p;exact bB PySem.W.kitx_tuple I.kIn ⟨o,h1,h2⟩ e (λz=>nomatch z) h
 | @dK a kvs ea=>
  cases (show u=Value.ref a from rx);obtain⟨_,_,vs,_,p⟩:=(show Zi X.prog X.w H s.heap a (.dK kvs) from I.hok a _ ea);obtain⟨o,es,ep,h1,h2,_⟩:=p;exact bB fU I.kIn ⟨o,h1,h2.1⟩ e (λz=>nomatch z) h
 | @dT a kvs ea=>
  cases (show u=Value.ref a from rx);obtain⟨_,_,xs,_,o,es,ep,h1,h2,_⟩:=(show Zi X.prog X.w H s.heap a (.dT kvs) from I.hok a _ ea);exact bB fU I.kIn ⟨o,h1,h2.1⟩ e (λz=>nomatch z) h
 | @ins a C dx fs ea cl ha hn htk hm=>
  cases (show u=Value.ref a from rx);obtain⟨mA,O,_⟩:=wG I.hok ea;obtain⟨od,J,_⟩:=O.look;exact bB (PySem.W.kitx_own (cl.get _) cl.hd ha hn htk hm) I.kIn J e (λz=>nomatch z) h
end
end L2
namespace L2
open PySem PySem.Spec PyProof.Rows
structure ZL (k:Nat) (A:Around):Prop where
 hd:A.handled=none
 dp:A.depth+3*k+5 < recursionLimit
 un:A.units+16*k+200 < cLine
 gd:A.guards=some []
theorem ZL.mono {j k:Nat}(r:ZL k A)(h:j<=k):ZL j A:=⟨r.hd,by have:=r.dp;omega,by have:=r.un;omega,r.gd⟩
theorem ZL.deeper {k:Nat}(r:ZL (k+1) A)(env:Env):ZL k (A.deeper env):=
 ⟨r.hd,by have:=r.dp;show A.depth+1+3*k+5 < _;omega,by have:=r.un;show A.units+3+16*k+200 < _;omega,r.gd⟩
theorem Uw {A:Around}{C:Addr}{us:List Value}{kw:List (Str×Value)}:(A.under (.builtin "type.__call__" ⟨.ref C :: us,kw⟩)).depth=A.depth+1:=by
 first | rfl | simp[eX,Code.weight,Code.isCreation,Code.isGuard,Code.isCaller,Code.frames,fV,guardIds]
theorem Ux {A:Around}{C:Addr}{us:List Value}{kw:List (Str×Value)}:(A.under (.builtin "type.__call__" ⟨.ref C :: us,kw⟩)).units=A.units+1:=by
 first | rfl | simp[eX,Code.cUnits,Code.frames,fV]
theorem ZL.make {k:Nat}(r:ZL (k+1) A)(C:Addr)(us:List Value)(kw:List (Str×Value)):ZL k (A.under (.builtin "type.__call__" ⟨.ref C :: us,kw⟩)):=
 ⟨r.hd,by have:=r.dp;rw[Uw];omega,by have:=r.un;rw[Ux];omega,by first | exact r.gd | simpa[eX,Code.guards,Code.isGuard,pushGuards,guardIds] using r.gd⟩
theorem ZL.depth {k:Nat}(r:ZL k A):A.depth < recursionLimit:=by have:=r.dp;omega
theorem ZL.units {k:Nat}(r:ZL k A):A.units+64 < cLine:=by have:=r.un;omega
def tNil:TA:=λ_ H Q=>Q [] H
def GV (ta:TE)(tr:TA):TA:=λσ H Q=>ta σ H λx H1=>tr σ H1 λxs H2=>Q (x :: xs) H2
section
theorem Z6:PA X [] tNil:=λ_ _ _ _ H Q I h=>fW ⟨[],H,I,.nil,h⟩
theorem zq (ha:PE X e te)(hr:PA X es t)(hs:starEach (e :: es) X.env=(false,eval e X.env) :: starEach es X.env:=by rfl):PA X (e :: es) (GV te t):=by
 intro pos pins s σ H Q I h;rw[hs];show wpAny _ _ (spliced ((false,eval e X.env) :: backTo pos (starEach es X.env))) _ _ s;refine fM (thn (ha pins s σ H _ I h) λu s1 ⟨x,H1,I1,r1,q1⟩=> ?_);exact thn (hr pos pins s1 σ H1 _ I1 q1) λus s2 ⟨xs,H2,I2,r2,q2⟩=>⟨x :: xs,H2,I2,.cons r1 r2,q2⟩
def tTup (t:TA):TE:=λσ H Q=>t σ H λxs H1=>xs.length<=sizeLine/\∀p,H1 p=none->Q (.ref p) (upd H1 p (.tup xs))
def tLst (t:TA):TE:=λσ H Q=>t σ H λxs H1=>xs.length<=sizeLine/\∀p,H1 p=none->Q (.ref p) (upd H1 p (.lst xs))
theorem kb {x1}(h:PA X es t):PE X (.Tuple es x1 pos) (tTup t):=by
 intro pins s σ H Q I hq;refine wpAny_Tuple_spliced (thn (h pos pins s σ H _ I hq) λus s1 ⟨xs,H1,I1,r,z,q⟩=>⟨by rw[← r.length];exact z, ?_⟩)
 have hf:H1 s1.heap.objs.size=none:=I1.hok.fresh (am _);refine⟨.ref s1.heap.objs.size,upd H1 s1.heap.objs.size (.tup xs),I1.laid (t' :=s1.toks) (λb u e=>ai _ e) (am _) ?_,rfl,q _ hf⟩;exact⟨z,us,r,⟨_,ao _ rfl,rfl,_,rfl⟩,.inr ⟨_,ao _ rfl,rfl⟩⟩
theorem vf (h:PA X es t):PE X (.List es pos) (tLst t):=by
 intro pins s σ H Q I hq;refine wpAny_List_spliced (thn (h pos pins s σ H _ I hq) λus s1 ⟨xs,H1,I1,r,z,q⟩=>⟨by rw[← r.length];exact z, ?_⟩)
 have hf:H1 s1.heap.objs.size=none:=I1.hok.fresh (am _);refine⟨.ref s1.heap.objs.size,upd H1 s1.heap.objs.size (.lst xs),I1.laid (t' :=s1.toks) (λb u e=>ai _ e) (am _) ?_,rfl,q _ hf⟩;exact⟨z,us,0,r,ao _ rfl⟩
end
abbrev Sp:=List V->Hp->VK->XK->Prop
abbrev CXT:=List Env->Hp->Shared->XK->Value->Shared->Prop
structure Vb (P:Program) (w:World) (K:ac) (mg:Str->Option Value) (base:Heap) (A:Around) (outer:List Env) (s:Shared) (H:Hp):Prop where
 frames:A.frames=some outer
 mod:Mod K mg base
 bs:∀b o,base.get? b=some o->s.heap.get? b=some o/\H b=none
 bsz:base.objs.size<=s.heap.objs.size
 funs:s.heap.FunFrames base outer
 frf:∀b∈frs outer,H b=none
 hok:HOk P w H s.heap
 bare:AllBare s.gens
def CE (outer:List Env)(P:Program)(w:World)(H:Hp)(s:Shared)(Q:VK)(u:Value)(s' :Shared):Prop:=
 ∃v H',s'.os=s.os/\AllBare s'.gens/\Un (frs outer) [] H H' s.heap s'.heap/\HOk P w H' s'.heap/\Zg v u/\Q v H'
def CR (CX:CXT)(outer:List Env)(P:Program)(w:World)(H:Hp)(s:Shared)(Q:VK)(E:XK)(r:Result)(s' :Shared):Prop:=
 match r with
 | .ok (.ret u)=>CE outer P w H s Q u s'
 | .ok _=>False
 | .error e=>CX outer H s E e s'
structure zK (P:Program) (w:World) (K:ac) (mg:Str->Option Value) (base:Heap) (CX:CXT) (k:Nat) (f:Addr) (fd:FuncData) (ps:List Str) (sp:Sp):Prop where
 len:∀vs H Q E,sp vs H Q E->vs.length=ps.length
 run:∀(A:Around) (outer:List Env) (s:Shared) (H:Hp) (args:Args) (us:List Value) (vs:List V) (Q:VK) (E:XK),ZL k A->Vb P w K mg base A outer s H->BindsTo s fd args (ps.zip us)->zU vs us->sp vs H Q E->
  codeAny (model P w) A (.call (.ref f) args) (CR CX outer P w H s Q E) s
theorem Vb.make {P:Program}{w:World}{K:ac}{mg:Str->Option Value}{base:Heap}{A:Around}{outer:List Env}{s:Shared}{H:Hp}(e:Vb P w K mg base A outer s H)(C:Addr)(us:List Value)(kw:List (Str×Value)):
  Vb P w K mg base (A.under (.builtin "type.__call__" ⟨.ref C :: us,kw⟩)) outer s H:=⟨by first | exact e.frames | (simpa[eX,Code.envs,fV,pushEnvs] using e.frames),e.mod,e.bs,e.bsz,e.funs,e.frf,e.hok,e.bare⟩
section
theorem Inv.env0 (I:Inv X pins σ H s):Vb X.prog X.w X.K X.mg X.base X.A X.stack s H:=
 ⟨I.ok.frames,I.ok.mod,I.bs,aF I.ok.bsz I.sz,I.stack,I.stkFree,I.hok,I.bare⟩
theorem Inv.after (I:Inv X pins σ H s)(h:CE X.stack X.prog X.w H s Q u s'):EP X pins σ Q u s' :=by
 obtain⟨v,H',os,bare,un,hok,r,q⟩:=h;obtain⟨hh,g,d,t,os'⟩:=s';obtain rfl:os' =s.os:=os;exact⟨v,H',I.call (h' :=hh) (g' :=g) (d' :=d) (t' :=t) (ch:=[]) un hok bare (λb z=>absurd z (by simp)),r,q⟩
end
def GW (sp:Sp)(dvs:List V)(E:XK)(t:TA):TE:=λσ H Q=>t σ H λvs H1=>sp (vs++dvs) H1 Q E
def kd (C:Addr)(m:Str)(sp:Sp)(dvs:List V)(E:XK)(ta:TE)(t:TA):TE:=λσ H Q=>ta σ H λx H1=>∃a dx fs,x= .ref a/\H1 a=some (.ins C dx fs)/\fs.lookup m=none/\
 t σ H1 λvs H2=>sp (x :: (vs++dvs)) H2 Q E
def GX (C:Addr)(sp:Sp)(dvs:List V)(E:XK)(t:TA):TE:=λσ H Q=>t σ H λvs H1=>∀x dx,H1 x=none->H1 dx=none->dx ≠ x->
 sp (.ref x :: (vs++dvs)) (upd (upd H1 dx (.own x)) x (.ins C dx [])) (λv H2=>v= .non/\Q (.ref x) H2) E
def Binds (K:ac)(fd:FuncData)(ps:List Str)(ds:List Value):Prop:=
 ∀(s:Shared) (us:List Value),K.In s.heap->(us++ds).length=ps.length->BindsTo s fd ⟨us,[]⟩ (ps.zip (us++ds))
theorem Binds.all {K:ac}{fd:FuncData}{ps:List Str}(h:∀us:List Value,us.length=ps.length->bindArgs fd ⟨us,[]⟩=pure (ps.zip us)):Binds K fd ps []:=λs us _ hl=>by
 rw[bh]at hl ⊢;exact .of_eq (h us hl)
def Z4 (CX:CXT)(X:Cx)(E:XK):Prop:=∀(pins:List (Addr×Obj)) (σ:St) (H:Hp) (s:Shared) (e:Value) (s' :Shared),Inv X pins σ H s->CX X.stack H s E e s' ->X.xe e s'
section
variable {k:Nat}
theorem yw (F:zK X.prog X.w X.K X.mg X.base CX k f fd ps sp)(hr:ZL k X.A)(hb:Binds X.K fd ps ds)(hd:zU dvs ds)(hx:Z4 CX X E)
  (I:Inv X pins σ H s) (r:zU vs us) (h:sp (vs++dvs) H Q E):wpAny (model X.prog X.w) X.A (call (.ref f) us) (EP X pins σ Q) X.xe s:=by
 have r2:zU (vs++dvs) (us++ds):=r.append hd;have hl:(us++ds).length=ps.length:=by rw[← r2.length];exact F.len _ _ _ _ h
 refine wpAny_call (dz (F.run X.A X.stack s H ⟨us,[]⟩ (us++ds) (vs++dvs) Q E hr I.env0 (hb s us I.kIn hl) r2 h) λr s' hq=> ?_);cases r with
 | error e=>exact hx pins σ H s e s' I hq
 | ok fl=>
  cases fl with
  | ret u=>exact I.after hq
  | next=>exact cf hq
  | brk=>exact cf hq
  | cont=>exact cf hq
theorem Jy (F:zK X.prog X.w X.K X.mg X.base CX k f fd ps sp)(hr:ZL k X.A)(hg:Gl X x)(hm:X.mg x=some (.ref f))(hk:bn X.K (.ref f)=true)(hb:Binds X.K fd ps ds)(hd:zU dvs ds)(hx:Z4 CX X E)
  (ha:PA X (e :: es) t) (hdb:(x == ("__debug__":Str))=false:=by decide) (he:starEach (e :: es) X.env=(false,eval e X.env) :: starEach es X.env:=by rfl) (hpl:(backTo pos (starEach es X.env)).any (·.1)=false:=by rfl):
  PE X (.Call (.Name x p) (e :: es) [] pos) (GW sp dvs E t):=by
 intro pins s σ H Q I h;refine cq (Jv I hg hm ?_ hdb);refine d_ (h₀:=X.base) I.ok.mod.kin hk (thn (ha pos pins s σ H _ I h) λus s1 ⟨vs,H1,I1,r,q⟩=>⟨I1.kIn, ?_⟩) he hpl;exact yw F hr hb hd hx I1 r q
theorem yx (he:PE X o ta)(c:Cls X.K C)(hm:Meth X.K C m f)(F:zK X.prog X.w X.K X.mg X.base CX k f fd ps sp)(hr:ZL k X.A)(hb:Binds X.K fd ps ds)(hd:zU dvs ds)(hx:Z4 CX X E)(ha:PA X (e :: es) t)
  (hst:starEach (e :: es) X.env=(false,eval e X.env) :: starEach es X.env:=by rfl) (hpl:(backTo pos (starEach es X.env)).any (·.1)=false:=by rfl)
  (ht:eval (.Call (.Attribute o m apos) (e :: es) [] pos) X.env=(do
   let ov ← eval o X.env
   standAt apos.atName
   let (f,first) ← holding [ov] (getMethod ov m pl)
   callWith pos f first (backTo pos (starEach (e :: es) X.env)) (backToKw pos (keywordEach [] X.env))):=by rfl):
  PE X (.Call (.Attribute o m apos) (e :: es) [] pos) (kd C m sp dvs E ta t):=by
 intro pins s σ H Q I h;refine dI (pl:=pl) (thn (he pins s σ H _ I h) λu s1 ⟨x,H1,I1,rx,a,dx,fs,ex,ea,l,q⟩=> ?_) ht;subst ex;obtain rfl:u=Value.ref a:=rx;refine jV I1 ea c hm l ?_;refine d_ (first:=[.ref a]) (h₀:=X.base) I.ok.mod.kin hm.kp (thn (ha pos pins s1 σ H1 _ I1 q) λus s2 ⟨vs,H2,I2,r,q2⟩=>⟨I2.kIn, ?_⟩) hst hpl;exact yw (us:= .ref a :: us) (vs:= .ref a :: vs) F hr hb hd hx I2 (.cons rfl r) q2
theorem qW (he:PE X o ta)(c:Cls X.K C)(hm:Meth X.K C m f)(F:zK X.prog X.w X.K X.mg X.base CX k f fd ps sp)(hr:ZL k X.A)(hb:Binds X.K fd ps ds)(hd:zU dvs ds)(hx:Z4 CX X E)
  (ht:eval (.Call (.Attribute o m apos) [] [] pos) X.env=(do
   let ov ← eval o X.env
   standAt apos.atName
   let (f,first) ← holding [ov] (getMethod ov m pl)
   callWith pos f first (backTo pos (starEach [] X.env)) (backToKw pos (keywordEach [] X.env))):=by rfl):
  PE X (.Call (.Attribute o m apos) [] [] pos) (kd C m sp dvs E ta tNil):=by
 intro pins s σ H Q I h;refine dI (pl:=pl) (thn (he pins s σ H _ I h) λu s1 ⟨x,H1,I1,rx,a,dx,fs,ex,ea,l,q⟩=> ?_) ht;subst ex;obtain rfl:u=Value.ref a:=rx;refine jV I1 ea c hm l ?_;exact PySem.W.callWith_K0 (first:=[.ref a]) I1.kIn hm.kp (yw (us:=[.ref a]) (vs:=[.ref a]) F hr hb hd hx I1 (.cons rfl .nil) q)
structure Mk (K:ac) (C f:Addr):Prop where
 makes:ip K C=true
 init:bj K (.ref C) "__init__"=some (some (.ref f))
 fn:eW K (.ref f)=true
 kp:bn K (.ref C)=true
theorem qX (M:Mk X.K C f)(F:zK X.prog X.w X.K X.mg X.base CX k f fd ps sp)(hr:ZL (k+1) X.A)(hb:Binds X.K fd ps ds)(hd:zU dvs ds)
  (hx:Z4 CX X E) (I:Inv X pins σ H s) (r:zU vs us)
  (h:∀x dx,H x=none->H dx=none->dx ≠ x->sp (.ref x :: (vs++dvs)) (upd (upd H dx (.own x)) x (.ins C dx [])) (λv H2=>v= .non/\Q (.ref x) H2) E):
  wpAny (model X.prog X.w) X.A (call (.ref C) us) (EP X pins σ Q) X.xe s:=by
 have hq:=h (s.heap.objs.size+1) s.heap.objs.size (I.hok.fresh (ik _)) (I.hok.fresh (am _)) (aL (df _));have I2:=Inv.made (C:=C) I;have r2:zU (V.ref (s.heap.objs.size+1) :: (vs++dvs)) (Value.ref (s.heap.objs.size+1) :: (us++ds)):= .cons rfl (r.append hd);have hl:(Value.ref (s.heap.objs.size+1) :: us++ds).length=ps.length:=by
  have e:=r2.length;rw[F.len _ _ _ _ hq]at e;exact e.symm
 refine wpAny_call (qV (f:=f) I.kIn M.makes M.init (beq_iff_eq.mp M.fn) (dz (F.run _ X.stack _ _ ⟨Value.ref (s.heap.objs.size+1) :: us,[]⟩ (Value.ref (s.heap.objs.size+1) :: (us++ds)) _ _ E (hr.make C us [])
  (I2.env0.make C us []) (hb _ (Value.ref (s.heap.objs.size+1) :: us) I2.kIn hl) r2 hq) λr s' hq' => ?_))
 cases r with
 | error e=>exact hx pins σ _ _ e s' I2 hq'
 | ok fl=>
  cases fl with
  | ret u=>
   obtain⟨v,H',I3,rv,ev,q3⟩:=I2.after hq';subst ev;exact⟨rv,⟨V.ref (s.heap.objs.size+1),H',I3,rfl,q3⟩⟩
  | next=>exact cf hq'
  | brk=>exact cf hq'
  | cont=>exact cf hq'
theorem yy (M:Mk X.K C f)(F:zK X.prog X.w X.K X.mg X.base CX k f fd ps sp)(hr:ZL (k+1) X.A)(hg:Gl X x)(hm:X.mg x=some (.ref C))(hb:Binds X.K fd ps ds)(hd:zU dvs ds)(hx:Z4 CX X E)
  (ha:PA X (e :: es) t) (hdb:(x == ("__debug__":Str))=false:=by decide) (he:starEach (e :: es) X.env=(false,eval e X.env) :: starEach es X.env:=by rfl) (hpl:(backTo pos (starEach es X.env)).any (·.1)=false:=by rfl):
  PE X (.Call (.Name x p) (e :: es) [] pos) (GX C sp dvs E t):=by
 intro pins s σ H Q I h;refine cq (Jv I hg hm ?_ hdb);refine d_ (h₀:=X.base) I.ok.mod.kin M.kp (thn (ha pos pins s σ H _ I h) λus s1 ⟨vs,H1,I1,r,q⟩=>⟨I1.kIn, ?_⟩) he hpl;exact qX M F hr hb hd hx I1 r q
end
section
variable {k:Nat}{kws:List Keyword}{nm:Option Str}
variable {g:List Value->List Value->List Value}{gV:List V->List V->List V}
end
structure zi (N P:List Str) (sc:Scope):Prop where
 kind:sc.kind= .function
 co:sc.isCoroutine=false
 gen:sc.isGenerator=false
 nd:N.Nodup
 pre:N.take P.length=P
 par:∀x∈P,sc.names.lookup x=some .local\/sc.names.lookup x=some .cell
 nofree:∀y∈sc.names,y.2 ≠ .free
theorem Wg {kindOf:Str->Option NameKind}{x:Str}:∀{binds:List (Str×Value)} {m:Str->Option Value},(∀v,(x,v) ∉ binds)->bindL kindOf binds m x=m x
 | [],_,_=>rfl
 | (n,v) :: r,m,h=>by
  unfold bindL;rw[Wg λw hw=>h w (af _ hw)];split
  ·have:x ≠ n:=by rintro rfl;exact h v aw
   simp[this]
  ·rfl
theorem Wh {kindOf:Str->Option NameKind}{x:Str}:∀{binds:List (Str×Value)} {m:Str->Option Value},(∀v,(x,v) ∉ binds)->bindC kindOf binds m x=m x
 | [],_,_=>rfl
 | (n,v) :: r,m,h=>by
  unfold bindC;rw[Wh λw hw=>h w (af _ hw)];split
  ·rfl
  ·have:x ≠ n:=by rintro rfl;exact h v aw
   simp[this]
theorem Wi {kindOf:Str->Option NameKind}{x:Str}{v:Value}:∀{P:List Str} {vs:List Value} {i:Nat} {m:Str->Option Value},P.Nodup->P[i]? =some x->vs[i]? =some v->kindOf x=some .local->
  bindL kindOf (P.zip vs) m x=some v
 | [],_,_,_,_,h,_,_=>by simp at h
 | _ :: _,[],_,_,_,_,h,_=>by simp at h
 | p :: P,w :: vs,0,m,nd,h1,h2,hk=>by
  simp at h1 h2;subst h1;subst h2;show bindL kindOf ((p,w) :: P.zip vs) m p=_;unfold bindL;rw[Wg λv hv=>(dO.mp nd).1 (dm hv).1,if_pos hk];simp
 | p :: P,w :: vs,i+1,m,nd,h1,h2,hk=>by
  show bindL kindOf ((p,w) :: P.zip vs) m x=_;unfold bindL;exact Wi (i:=i) (dO.mp nd).2 (by simpa using h1) (by simpa using h2) hk
theorem Wj {kindOf:Str->Option NameKind}{x:Str}{v:Value}:∀{P:List Str} {vs:List Value} {i:Nat} {m:Str->Option Value},P.Nodup->P[i]? =some x->vs[i]? =some v->kindOf x ≠ some .local->
  bindC kindOf (P.zip vs) m x=some v
 | [],_,_,_,_,h,_,_=>by simp at h
 | _ :: _,[],_,_,_,_,h,_=>by simp at h
 | p :: P,w :: vs,0,m,nd,h1,h2,hk=>by
  simp at h1 h2;subst h1;subst h2;show bindC kindOf ((p,w) :: P.zip vs) m p=_;unfold bindC;rw[Wh λv hv=>(dO.mp nd).1 (dm hv).1,if_neg hk];simp
 | p :: P,w :: vs,i+1,m,nd,h1,h2,hk=>by
  show bindC kindOf ((p,w) :: P.zip vs) m x=_;unfold bindC;exact Wj (i:=i) (dO.mp nd).2 (by simpa using h1) (by simpa using h2) hk
def start (N:List Str)(vs:List V):St:=vs.map some++ad (N.length - vs.length) none
def Jf (CX:CXT)(P:Program)(w:World)(K:ac)(mg:Str->Option Value)(base:Heap)(N:List Str)(qual:Str)(scope:Scope)(f:Addr)(cd:Value)(A:Around)(outer:List Env)(s:Shared)(H:Hp)(E:XK):Cx where
 prog:=P
 w:=w
 K:=K
 mg:=mg
 base:=base
 A:=A.deeper (envOfC qual scope s.heap.objs.size f cd)
 N:=N
 s₀:=s
 H₀:=H
 env:=envOfC qual scope s.heap.objs.size f cd
 outer:=outer
 stack:=envOfC qual scope s.heap.objs.size f cd :: outer
 ex:=[]
 calm:=true
 fn:=λ_=>true
 pn:=[]
 xe:=λe s' =>wpAny (model P w) (A.deeper (envOfC qual scope s.heap.objs.size f cd)) (leaving (envOfC qual scope s.heap.objs.size f cd) e) (λ_ s'' =>CX outer H s E e s'') (λe' s'' =>CX outer H s E e' s'') s'
theorem uF {sc:Scope}{n:Nat}{x:Str}(h:sc.names.lookup x=some .cell):∃c,(cellsFrom n sc.names []).lookup x=some c:=by
 have q:=eY sc.names n [] (.inl h);exact dk.mp q
theorem yz {CX:CXT}{P:Program}{w:World}{K:ac}{mg:Str->Option Value}{base:Heap}{N ps:List Str}{qual:Str}{scope:Scope}{f:Addr}{cd:Value}{A:Around}{outer:List Env}{s s1:Shared}{H:Hp}{E:XK}{us:List Value}{vs:List V}
  (S:zi N ps scope) (hd:A.handled=none) (e0:Vb P w K mg base A outer s H) (hl:vs.length=ps.length) (r:zU vs us)
  (x:InCallC s s.heap.objs.size (bindL (envOfC qual scope s.heap.objs.size f cd).kindOf (ps.zip us) λ_=>none) (cellsFrom (s.heap.objs.size+1) scope.names []) (bindC (envOfC qual scope s.heap.objs.size f cd).kindOf (ps.zip us) λ_=>none) s1):
  Inv (Jf CX P w K mg base N qual scope f cd A outer s H E) [] (start N vs) H s1:=by
 have hpl:ps.length<=N.length:=by have:=congrArg List.length S.pre;rw[bT]at this;omega
 obtain⟨h1,tk,rfl,hk⟩:=x.done;have noA:∀b:Addr,b ∉ (Jf CX P w K mg base N qual scope f cd A outer s H E).ex:=λb z=>absurd (show b∈([]:List Addr) from z) (by simp)
 refine⟨⟨e0.mod,S.kind,rfl,rfl,am _,λy z c h1 h2=> ?_,λy hy=> ?_,λy c _ h=> ?_,λ_=>hd,Around.frames_deeper e0.frames,.inr ⟨rfl,rfl⟩,λb z=>absurd z (noA b),e0.bs,e0.bsz,λb _ _=>noA b,λb z=>absurd z (noA b),e0.funs,e0.frf⟩,
  rfl,e0.bare,Un.kept hk,⟨_,x.toInCall.ns,λi y v h1 h2 h3=> ?_⟩,λy c h=>⟨_,x.cell y c h⟩,e0.hok.fresh (am _),λy c h=> ?_,λp hp=>absurd (show p∈([]:List (Addr×Obj)) from hp) (by simp),e0.hok.kept hk, ?_⟩
 ·exact name_of_addr x.apart (ci h1) (ci h2)
 ·have hy:scope.names.lookup y=some .cell\/scope.names.lookup y=some .free:=hy;rcases hy with hy | hy
  ·exact uF hy
  ·exact absurd rfl (S.nofree _ (ci hy))
 ·exact eU (x.above y c (ci h))
 ·have hi:i < vs.length:=by
   unfold start at h2
   by_cases hi:i < vs.length
   ·exact hi
   ·rw[ay (by simpa using hi)]at h2
    rw[aC]at h2;split at h2 <;> cases h2
  have ha:vs[i]? =some v:=by
   unfold start at h2;rw[aD (by simpa using hi),au]at h2
   cases e:vs[i]? with
   | none=>rw[e]at h2;cases h2
   | some a=>rw[e]at h2;cases h2;rfl
  obtain⟨u,hu,rv⟩:=r.get ha;have hp:ps[i]? =some y:=by
   rw[← S.pre,eH (by omega)];exact h1
  have ndP:ps.Nodup:=by rw[← S.pre];exact S.nd.sublist (List.take_sublist _ _)
  refine⟨u,rv, ?_⟩;rcases S.par y (bq hp) with k | k
  ·exact .inl ⟨k,Wi ndP hp hu k⟩
  ·obtain⟨c,e⟩:=uF (n:=s.heap.objs.size+1) k;refine .inr ⟨.inl k,c,e, ?_⟩;have q:=x.cell y c e;rw[Wj ndP hp hu (by show scope.names.lookup y ≠ _;rw[k];decide)]at q
   exact q
 ·exact e0.hok.fresh (eU (x.above y c (ci h)))
 ·unfold start;show _=N.length;rw[aB,ae,aN];omega
theorem ke {CX:CXT}{P:Program}{w:World}{K:ac}{mg:Str->Option Value}{base:Heap}{k:Nat}{f:Addr}{name qual:Str}{params:Arguments}{body:List Stmt}{scope:Scope}{dV kV doc pm cdv ct oc:Value}{an od:Option Addr}
  {osl:Array (Option Value)} {N ps:List Str} {sp:Sp} (lk:K.lookup f=some ⟨oc,od,.func (bF name qual params body scope dV kV doc pm an cdv ct),osl⟩) (hcd:dA K cdv qual=true) (S:zi N ps scope)
  (len:∀vs H Q E,sp vs H Q E->vs.length=ps.length)
  (hbody:∀(A:Around) (outer:List Env) (s:Shared) (H:Hp) (vs:List V) (Q:VK) (E:XK),ZL k (A.deeper (envOfC qual scope s.heap.objs.size f cdv))->sp vs H Q E->
   ∃t,PSs (Jf CX P w K mg base N qual scope f cdv A outer s H E) body t/\t { nx:=λ_ H' =>Q .non H',rt:=Q } (start N vs) H):
  zK P w K mg base CX (k+1) f (bF name qual params body scope dV kV doc pm an cdv ct) ps sp:=by
 refine⟨len,λA outer s H args us vs Q E hr e0 hb r hsp=> ?_⟩;have hl:=len _ _ _ _ hsp;have KX:K.In s.heap:=e0.mod.kin.keeps λb o e=>(e0.bs b o e).1;have lim:s.heap.NoLimit:=e0.mod.nolimit.keeps λb o e=>(e0.bs b o e).1;have hkind:∀y∈ps.zip us,scope.names.lookup y.1=some .local\/(scope.names.lookup y.1=some .cell/\((cellsFrom (s.heap.objs.size+1) scope.names []).lookup y.1).isSome=true):=λ⟨n,v⟩ hy=>by
  rcases S.par n (dm hy).1 with q | q
  ·exact .inl q
  ·exact .inr ⟨q,eY _ _ _ (.inl q)⟩
 refine codeAny_call_function hr.depth (KX _ _ lk) rfl S.co S.gen rfl (PySem.W.codeRec_of KX hcd) (hb _ _ _ _ ?_);refine wpAny_newFunctionEnv_cells S.kind hkind λenv he s1 x=> ?_;subst he;refine⟨lim.keeps x.toInCall.keep,codeAny_func ?_⟩;obtain⟨t,ht,hq⟩:=hbody A outer s H vs Q E (hr.deeper _) hsp;have I:Inv (Jf CX P w K mg base N qual scope f cdv A outer s H E) [] (start N vs) H s1:=yz S hr.hd e0 hl r x;refine ce (ht [] s1 (start N vs) H _ I hq) (λfl s' hs=> ?_) λe s' hs=>hs;have fin:∀{σ' :St} {H' :Hp} {v:V} {u:Value},Inv (Jf CX P w K mg base N qual scope f cdv A outer s H E) [] σ' H' s' ->Zg v u->Q v H' ->CE outer P w H s Q u s' :=
  λ{σ' H' v u} J rv q=>⟨v,H',J.os,J.bare,J.base,J.hok,rv,q⟩
 cases fl with
 | ret u=>
  obtain⟨v,σ',H',J,rv,q⟩:=hs;exact fin J rv q
 | next=>
  obtain⟨σ',H',J,q⟩:=hs;exact fin (v:=V.non) (u:=Value.none) J rfl q
 | brk=>
  obtain⟨_,_,_,q⟩:=hs;exact cf q
 | cont=>
  obtain⟨_,_,_,q⟩:=hs;exact cf q
end L2
namespace L2
open PySem PySem.Spec PyProof.Rows
section
variable {X:Cx}{x:Str}{p pos:Pos}{e:Expr}{es:List Expr}{t:TA}{id T:String}{r:List V->Hp->VK->Prop}
def tCB (r:List V->Hp->VK->Prop)(t:TA):TE:=λσ H Q=>t σ H λvs H1=>r vs H1 Q
theorem jj (hc:ZQ X (.builtin id) r)(hg:Gl X x)(hm:X.mg x=none)(hv:bootBuiltins x=some (.builtin id))(ha:PA X (e :: es) t)(hn:x ≠ "__name__":=by decide)(hdb:(x == ("__debug__":Str))=false:=by decide)
  (he:starEach (e :: es) X.env=(false,eval e X.env) :: starEach es X.env:=by rfl) (hpl:(backTo pos (starEach es X.env)).any (·.1)=false:=by rfl):PE X (.Call (.Name x p) (e :: es) [] pos) (tCB r t):=by
 intro pins s σ H Q I h;refine cq (jv I hg hm hv ?_ hn hdb);exact PyProof.Rows.callWith_builtin1 (thn (ha pos pins s σ H _ I h) λus s1 ⟨vs,H1,I1,r1,q1⟩=>hc pins s1 σ H1 vs us Q I1 r1 q1) he hpl
theorem jK (hc:ZQ X (.type T) r)(hg:Gl X x)(hm:X.mg x=none)(hv:bootBuiltins x=some (.type T))(ha:PA X (e :: es) t)(hn:x ≠ "__name__":=by decide)(hdb:(x == ("__debug__":Str))=false:=by decide)
  (he:starEach (e :: es) X.env=(false,eval e X.env) :: starEach es X.env:=by rfl) (hpl:(backTo pos (starEach es X.env)).any (·.1)=false:=by rfl):PE X (.Call (.Name x p) (e :: es) [] pos) (tCB r t):=by
 intro pins s σ H Q I h;refine cq (jv I hg hm hv ?_ hn hdb);exact aZ (thn (ha pos pins s σ H _ I h) λus s1 ⟨vs,H1,I1,r1,q1⟩=>hc pins s1 σ H1 vs us Q I1 r1 q1) he hpl
end
end L2
namespace HT
open PySem PyProof.Rows
section
open PySem.SeqAt
open PySem.AutoSeq1 (wpAny_loadPart')
open PySem.MeetsSeq PySem.MeetsSeq2 PySem.MeetsSeq3
end
section
theorem cat_tup (ht:IsTup s.heap t vs.toArray)(hb:IsTup s.heap b ws.toArray)(hv:vs ≠ [])
  (h1:ws=[]->Q (.ref t) s) (h2:ws ≠ []->Q (.ref s.heap.objs.size) { s with heap:=s.heap.push { cls:= .type "tuple",data:= .seq (vs++ws).toArray } })
  (hsz:vs.length+ws.length<=sizeLine):wpAny (model prog w) A (binaryOp .Add (.ref t) (.ref b)) Q E s:=by
 obtain⟨⟨cls,dd,data,sl⟩,ho,hc,n,hd⟩:=id ht;obtain⟨⟨cls2,dd2,data2,sl2⟩,ho2,hc2,n2,hd2⟩:=id hb;simp only at hc hd hc2 hd2;subst hc hd hc2 hd2;have e:vs.toArray++ws.toArray=(vs++ws).toArray:=by simp
 by_cases hw:ws=[]
 ·exact concat_meets ⟨_,ho,rfl⟩ ⟨_,ho2,rfl⟩ noFill_tuple_add seq_tuple_add dB du (dl _ _)
   (tuple_addW1 t b vs.toArray ws.toArray n n2 dd dd2 sl sl2 (by simpa using hv) (by simp[hw])) ⟨ho,ho2,h1 hw⟩
 ·refine concat_meets ⟨_,ho,rfl⟩ ⟨_,ho2,rfl⟩ noFill_tuple_add seq_tuple_add dB du (dl _ _)
   (tuple_addW2 t b vs.toArray ws.toArray n n2 dd dd2 sl sl2 (by simpa using hv) (by simpa using hw) (by rw[aA,aA];exact hsz)) ⟨ho,ho2, ?_⟩
  rw[e];exact h2 hw
def sIx (n d:Nat):Option Int->Nat
 | none=>d
 | some v=>if v < 0 then (v+(n:Int)).toNat else min v.toNat n
theorem sIx_none (n d:Nat):sIx n d none=d:=rfl
theorem sIx_nat (n d k:Nat):sIx n d (some (k:Int))=min k n:=by
 show (if (k:Int) < 0 then ((k:Int)+(n:Int)).toNat else min (k:Int).toNat n)=min k n
 rw[if_neg (by omega),ba]
theorem kf (n d:Nat)(hd:d<=n)(o:Option Int):sIx n d o<=n:=by
 cases o with
 | none=>exact hd
 | some v=>
  show (if v < 0 then (v+(n:Int)).toNat else min v.toNat n)<=n
  by_cases hv:v < 0
  ·rw[if_pos hv];omega
  ·rw[if_neg hv];exact Nat.min_le_right _ _
theorem yA (v:Int)(n d:Nat):(if v < 0 then max (v+(n:Int)) 0 else min v (n:Int))=((sIx n d (some v):Nat):Int):=by
 show (if v < 0 then max (v+(n:Int)) 0 else min v (n:Int))=(((if v < 0 then (v+(n:Int)).toNat else min v.toNat n):Nat):Int)
 by_cases hv:v < 0
 ·simp only[if_pos hv];omega
 ·simp only[if_neg hv];omega
theorem Uy (lo hi:Option Int)(n:Nat):dh lo hi 1 (n:Int)=(((sIx n 0 lo:Nat):Int),((sIx n n hi:Nat):Int)):=by
 have h1:¬ ((1:Int) < 0):=by omega
 unfold dh;simp only[h1,if_false];refine Prod.ext ?_ ?_
 ·cases lo with
  | none=>rfl
  | some v=>exact yA v n 0
 ·cases hi with
  | none=>rfl
  | some v=>exact yA v n n
theorem Uz (i j:Nat):cy (i:Int) (j:Int) 1=j - i:=by
 unfold cy;have h1:(1:Int) > 0:=by omega
 simp only[h1,if_true,Int.ediv_one];split <;> omega
theorem wg {o:Option Int}{Q:Option Int->Shared->Prop}(p:IsPart v o)(h:Q o s):wpAny (model prog w) A (Builtin.Slice.slicePartIndex v) Q E s:=by
 cases p with
 | none=>exact slicePart_none h
 | int i t=>exact slicePart_int h
theorem sliceApplied_gen {lo hi:Option Int}{n:Nat}{Q:Int×Int×Nat->Shared->Prop}(hs:s.heap.IsSliceOf sl vl vu .none)(pl:IsPart vl lo)(pu:IsPart vu hi)
  (h:Q (((sIx n 0 lo:Nat):Int),1,sIx n n hi - sIx n 0 lo) s):wpAny (model prog w) A (e9 (.ref sl) (pure (n:Int))) Q E s:=by
 obtain⟨os,hos,hcs,hds⟩:=id hs;unfold e9 Builtin.Slice.sliceFields;refine aa (aa (bf hos hds (x:=vl) rfl (aa (bf hos hds (x:=vu) rfl (aa (bf hos hds (x:= .none) rfl (ar ?_)))))));refine aa (slicePart_none ?_);show wpAny _ _ (if ((1:Int) == 0)=true then _ else _) _ _ s
 rw[if_neg (by decide)]
 refine aa (wg pl (aa (wg pu (aa (ar ?_)))));show wpAny _ _ (match dh lo hi 1 (n:Int) with | (lo,hi)=>pure (lo,(1:Int),cy lo hi 1)) _ _ s
 rw[Uy lo hi n];show wpAny _ _ (pure (((sIx n 0 lo:Nat):Int),(1:Int),cy ((sIx n 0 lo:Nat):Int) ((sIx n n hi:Nat):Int) 1)) _ _ s;rw[Uz];exact ar h
theorem qY (xs:Array Value)(i k:Nat):((aW k).filterMap λ(m:Nat)=>xs[((i:Int)+(m:Int)*1).toNat]?).toArray=((xs.toList.drop i).take k).toArray:=by
 have e:(λ(m:Nat)=>xs[((i:Int)+(m:Int)*1).toNat]?)=λm=>xs[i+m]? :=by
  funext m
  have:((i:Int)+(m:Int)*1).toNat=i+m:=by omega
  rw[this]
 rw[e];have:=pick_run xs i k;rw[List.filterMap_map]at this;have e2:((λx=>xs[x]?) ∘ λx=>i+x)=λm=>xs[i+m]? :=rfl;rw[e2]at this;rw[this]
theorem getItem_tuple_cut {lo hi:Option Int}(ht:IsTup s.heap t items)(hs:s.heap.IsSliceOf sl vl vu .none)(pl:IsPart vl lo)(pu:IsPart vu hi)
  (hw:¬ (sIx items.size 0 lo=0/\sIx items.size items.size hi=items.size))
  (h:Q (.ref s.heap.objs.size) { s with heap:=s.heap.push { cls:= .type "tuple",data:= .seq ((items.toList.drop (sIx items.size 0 lo)).take (sIx items.size items.size hi - sIx items.size 0 lo)).toArray } })
  (hsz:items.size<=sizeLine):wpAny (model prog w) A (getItem (.ref t) (.ref sl)) Q E s:=by
 have htake:sizeOk (.seq ((items.toList.drop (sIx items.size 0 lo)).take (sIx items.size items.size hi - sIx items.size 0 lo)).toArray):=by
  show ((items.toList.drop (sIx items.size 0 lo)).take (sIx items.size items.size hi - sIx items.size 0 lo)).toArray.size<=sizeLine;rw[aA,bT,cJ,cg];omega
 have hj:sIx items.size items.size hi<=items.size:=kf _ _ (am _) hi;obtain⟨os,hos,hcs,hds⟩:=id hs;have hTs:s.TypeIs (.ref sl) "slice":=⟨os,hos,hcs⟩;unfold getItem
 try with_reducible refine cV ?_
 first | refine aa (ar ?_) | skip
 refine aa (wpAny_sequenceKey ht.typeIs (by decide) ?_)
 refine aa (bx (name:=aR "__getitem__") ht.typeIs bg
  (bU bg ht.typeIs entry_tuple_getitem ?_ (args_tuple_getitem _ _)))
 show wpAny _ _ (eA (.ref t) >>= _) _ _ s;refine aa (tupleItemsOf_ ht ?_);refine aa (wpAny_typeOf hTs ?_);rw[if_pos (by decide)]
 refine aa (sliceApplied_gen hs pl pu ?_);have hno:¬ ((((sIx items.size 0 lo:Nat):Int) == 0 && (1:Int) == 1 && (sIx items.size items.size hi - sIx items.size 0 lo) == items.size)=true):=by
  intro q;rw[ak,ak]at q;have q1:((sIx items.size 0 lo:Nat):Int)=0:=eq_of_beq q.1.1;have q2:sIx items.size items.size hi - sIx items.size 0 lo=items.size:=eq_of_beq q.2;exact hw ⟨by omega,by omega⟩
 show wpAny _ _ (if (((sIx items.size 0 lo:Nat):Int) == 0 && (1:Int) == 1 && (sIx items.size items.size hi - sIx items.size 0 lo) == items.size)=true then _ else _) _ _ s
 rw[if_neg hno,qY]
 first
  | exact aa (m:=bv _) (aX (ar ⟨_,rfl,ar h⟩) htake)
  | exact aa (m:=bv _) (aX (aa (ar (ar ⟨_,rfl,ar h⟩))) htake)
  | exact aa (aa (m:=bv _) (aX (ar (ar ⟨_,rfl,ar h⟩)) htake))
  | exact aa (aa (m:=bv _) (aX (ar ⟨_,rfl,ar h⟩) htake))
end
end HT
namespace L2
open PySem PySem.Spec PyProof.Rows
abbrev TO:=St->Hp->(Option Int->Hp->Prop)->Prop
def PO (X:Cx)(e:Option Expr)(t:TO):Prop:=
 ∀(pins:List (Addr×Obj)) (s:Shared) (σ:St) (H:Hp) (Q:Option Int->Hp->Prop),Inv X pins σ H s->t σ H Q->
  wpAny (model X.prog X.w) X.A (evalPart e X.env) (λu s' =>∃o H',Inv X pins σ H' s' /\IsPart u o/\Q o H') X.xe s
def Vc:TO:=λ_ H Q=>Q none H
def GY (t:TE):TO:=λσ H Q=>t σ H λx H1=>∃i,x= .int i/\Q (some i) H1
section
variable {X:Cx}{e:Expr}{te:TE}{lo hi:Option Expr}{tl th:TO}{pos p2:Pos}
theorem Vd:PO X none Vc:=by
 intro pins s σ H Q I h;rw[evalPart_none];exact ar ⟨none,H,I,.none,h⟩
theorem Ve (h:PE X e te):PO X (some e) (GY te):=by
 intro pins s σ H Q I hw;rw[evalPart_some];refine thn (h pins s σ H _ I hw) λu s1 ⟨x,H1,I1,r1,q1⟩=> ?_;obtain⟨i,rfl,q⟩:=q1;obtain⟨t,rfl⟩:=r1;exact⟨some i,H1,I1,.int i t,q⟩
def SlR (X:Cx)(r:V->Option Int->Option Int->Hp->VK->Prop):Prop:=
 ∀(pins:List (Addr×Obj)) (s:Shared) (σ:St) (H:Hp) (x:V) (v vl vu:Value) (lo hi:Option Int) (sl:Addr) (Q:VK),Inv X pins σ H s->Zg x v->s.heap.IsSliceOf sl vl vu .none->IsPart vl lo->IsPart vu hi->r x lo hi H Q->
  ∃T id,typeLookup (.type T) "__getitem__"=pure (some (.builtin id))/\s.TypeIs v T/\wpAny (model X.prog X.w) X.A (getItem v (.ref sl)) (EP X pins σ Q) X.xe s
theorem SlR.or {r r' :V->Option Int->Option Int->Hp->VK->Prop}(h:SlR X r)(h' :SlR X r'):SlR X (λx lo hi H Q=>r x lo hi H Q\/r' x lo hi H Q):=by
 intro pins s σ H x v vl vu lo hi sl Q I rx hs pl pu q;rcases q with q | q
 ·exact h pins s σ H x v vl vu lo hi sl Q I rx hs pl pu q
 ·exact h' pins s σ H x v vl vu lo hi sl Q I rx hs pl pu q
def tSl (r:V->Option Int->Option Int->Hp->VK->Prop)(te:TE)(tl th:TO):TE:=λσ H Q=>te σ H λx H1=>tl σ H1 λl H2=>th σ H2 λu H3=>r x l u H3 Q
theorem qZ {r:V->Option Int->Option Int->Hp->VK->Prop}(hr:SlR X r)(he:PE X e te)(hl:PO X lo tl)(hu:PO X hi th):PE X (.Subscript e (.Slice lo hi none p2) pos) (tSl r te tl th):=by
 intro pins s σ H Q I h;refine Subscript_ (thn (he pins s σ H _ I h) λv s1 ⟨x,H1,I1,r1,q1⟩=> ?_);refine wpAny_Slice (thn (hl pins s1 σ H1 _ I1 q1) λvl s2 ⟨l,H2,I2,pl,q2⟩=>thn (hu pins s2 σ H2 _ I2 q2) λvu s3 ⟨u,H3,I3,pu,q3⟩=> ?_);rw[evalPart_none];refine ar ?_;have I4:Inv X pins σ H3 { s3 with heap:=s3.heap.push { cls:= .type "slice",data:= .fields #[vl,vu,.none] } }:=I3.kept (t' :=s3.toks) λb ob q=>ai _ q;obtain⟨T,id,hT,ht,hg⟩:=hr pins { s3 with heap:=s3.heap.push { cls:= .type "slice",data:= .fields #[vl,vu,.none] } } σ H3 x v vl vu l u s3.heap.objs.size Q I4 r1 (Heap.IsSliceOf.new ..) pl pu q3;show wpAny (model X.prog X.w) X.A (subscriptTail e (.Slice lo hi none p2) v (.ref s3.heap.objs.size)) (EP X pins σ Q) X.xe { s3 with heap:=s3.heap.push { cls:= .type "slice",data:= .fields #[vl,vu,.none] } };exact tail_any (ops:=[.ref s3.heap.objs.size,v]) ht hT hg (by with_unfolding_all rfl)
def vg (xs:List V)(lo hi:Option Int):List V:=(xs.drop (HT.sIx xs.length 0 lo)).take (HT.sIx xs.length xs.length hi - HT.sIx xs.length 0 lo)
theorem Jz (xs:List V)(lo hi:Option Int):(vg xs lo hi).length<=xs.length:=by
 unfold vg;rw[bT,cJ];omega
def rSlT (K:ac):V->Option Int->Option Int->Hp->VK->Prop:=λx lo hi H Q=>∃a xs,x= .ref a/\SqT K H a xs/\
 ¬ (HT.sIx xs.length 0 lo=0/\HT.sIx xs.length xs.length hi=xs.length)/\∀p,H p=none->Q (.ref p) (upd H p (.tup (vg xs lo hi)))
theorem kg:SlR X (rSlT X.K):=by
 intro pins s σ H x v vl vu lo hi sl Q I rx hs pl pu h;obtain⟨a,xs,rfl,hx,hw,q⟩:=h;cases rx;obtain⟨its,r,ht,hz⟩:=I.tuple hx;have hlen:its.toArray.size=xs.length:=by rw[aA];exact r.length.symm
 refine⟨"tuple",_,bg.lookup,ht.typeIs, ?_⟩;refine HT.getItem_tuple_cut ht hs pl pu (by rw[hlen];exact hw) ?_ (by rw[hlen];exact hz)
 rw[hlen];refine⟨.ref s.heap.objs.size,_,I.laid (t' :=s.toks) (o:= .tup (vg xs lo hi)) (λb ob q=>ai _ q) (am _) ?_,rfl,q _ (I.hok.fresh (am _))⟩;exact⟨aF (Jz xs lo hi) hz,_,(r.drop (HT.sIx xs.length 0 lo)).take (HT.sIx xs.length xs.length hi - HT.sIx xs.length 0 lo),ITN.new _ _⟩
def GZ (K:ac):R2:=λx y H Q=>∃a b xs ys,x= .ref a/\y= .ref b/\SqT K H a xs/\SqT K H b ys/\xs ≠ []/\xs.length+ys.length<=sizeLine/\
 (ys=[]->Q (.ref a) H)/\(ys ≠ []->∀p,H p=none->Q (.ref p) (upd H p (.tup (xs++ys))))
theorem zU.nil_iff (r:zU xs us):us=[]↔xs=[]:=by
 cases r with
 | nil=>simp
 | cons _ _=>simp
theorem Vf:OpR X (binaryOp .Add) (GZ X.K):=by
 intro pins s σ H x y v u Q I rx ry h;obtain⟨a,b,xs,ys,rfl,rfl,ha,hb,hx,hz,q1,q2⟩:=h;cases rx;cases ry;obtain⟨its,r1,p1,_⟩:=I.tuple ha;obtain⟨its2,r2,p2,_⟩:=I.tuple hb;refine HT.cat_tup p1 p2 (λz=>hx (r1.nil_iff.mp z)) (λz=>⟨.ref a,H,I,rfl,q1 (r2.nil_iff.mp z)⟩) (λz=> ?_) (by rw[← r1.length,← r2.length];exact hz)
 refine⟨.ref s.heap.objs.size,_,I.laid (t' :=s.toks) (o:= .tup (xs++ys)) (λb ob q=>ai _ q) (am _) ?_,rfl,q2 (λw=>z (r2.nil_iff.mpr w)) _ (I.hok.fresh (am _))⟩;exact⟨by rw[aB];exact hz,_,r1.append r2,ITN.new _ _⟩
end
end L2
namespace L2
open PySem PySem.Spec PyProof.Rows
def ixN (n:Nat)(i:Int):Option Nat:=if 0<=i then (if i < n then some i.toNat else none) else if -(n:Int)<=i then some (i+n).toNat else none
def atI {α:Type}(xs:List α)(i:Int):Option α:=(ixN xs.length i).bind λj=>xs[j]?
theorem Vg {n:Nat}{i:Int}{j:Nat}(h:ixN n i=some j):seqIndex? i n=some j/\j < n/\ -(n:Int)<=i/\i < n:=by
 unfold ixN at h
 by_cases h0:0<=i
 ·rw[if_pos h0]at h
  by_cases h1:i < n
  ·rw[if_pos h1]at h;have e:i.toNat=j:=aH h;exact⟨by rw[seqIndex_of h0 h1,e],by omega,by omega,h1⟩
  ·rw[if_neg h1]at h;cases h
 ·rw[if_neg h0]at h
  by_cases h1: -(n:Int)<=i
  ·rw[if_pos h1]at h;have e:(i+n).toNat=j:=aH h;exact⟨by rw[seqIndex_neg (by omega) h1,e],by omega,h1,by omega⟩
  ·rw[if_neg h1]at h;cases h
theorem u4 {α:Type}{xs:List α}{i:Int}{v:α}(h:atI xs i=some v):∃j,seqIndex? i xs.length=some j/\xs[j]? =some v/\j < xs.length/\ -(xs.length:Int)<=i/\i < xs.length:=by
 unfold atI at h;cases e:ixN xs.length i with
 | none=>rw[e]at h;cases h
 | some j=>
  rw[e]at h;obtain⟨h1,h2,h3,h4⟩:=Vg e;exact⟨j,h1,h,h2,h3,h4⟩
theorem ZD {α:Type}{xs:List α}{j:Nat}{v:α}(h:xs[j]? =some v):atI xs (j:Int)=some v:=by
 have hj:j < xs.length:=(aq.mp h).1;have e:ixN xs.length (j:Int)=some j:=by
  unfold ixN;rw[if_pos (by omega),if_pos (by omega)];simp
 unfold atI;rw[e];exact h
def yB (b:Expr):Prop:=∀o i,subscripted b false o i=operate [o,i] (getItem o i)
def IxR (X:Cx)(r:R2):Prop:=
 ∀(value slice:Expr) (pins:List (Addr×Obj)) (s:Shared) (σ:St) (H:Hp) (x y:V) (v u:Value) (Q:VK),Inv X pins σ H s->Zg x v->Zg y u->r x y H Q->
  subscripted slice false v u=operate [v,u] (getItem v u)->wpAny (model X.prog X.w) X.A (subscriptTail value slice v u) (EP X pins σ Q) X.xe s
def MtR (X:Cx)(id:String)(r:V->List V->Hp->VK->Prop):Prop:=
 ∀(pins:List (Addr×Obj)) (s:Shared) (σ:St) (H:Hp) (x:V) (xs:List V) (v:Value) (us:List Value) (Q:VK),Inv X pins σ H s->Zg x v->zU xs us->r x xs H Q->
  wpAny (model X.prog X.w) X.A (call (.builtin id) (v :: us)) (EP X pins σ Q) X.xe s
section
variable {X:Cx}{a b:Expr}{ta tb:TE}{pos:Pos}
theorem IxR.or (h:IxR X r)(h' :IxR X r'):IxR X (λx y H Q=>r x y H Q\/r' x y H Q):=by
 intro value slice pins s σ H x y v u Q I rx ry q hs;rcases q with q | q
 ·exact h value slice pins s σ H x y v u Q I rx ry q hs
 ·exact h' value slice pins s σ H x y v u Q I rx ry q hs
theorem z00 (hr:IxR X r)(ha:PE X a ta)(hb:PE X b tb)(hs:yB b):PE X (.Subscript a b pos) (tOp r ta tb):=by
 intro pins s σ H Q I h;exact Subscript_ (GO ha hb I h λv u s2 x y H2 I2 rx ry q=>hr a b pins s2 σ H2 x y v u Q I2 rx ry q (hs _ _))
def rIxL (K:ac):R2:=λx y H Q=>∃p xs i v,x= .ref p/\y= .int i/\SqL K H p xs/\atI xs i=some v/\Q v H
def rIxT (K:ac):R2:=λx y H Q=>∃p xs i v,x= .ref p/\y= .int i/\SqT K H p xs/\atI xs i=some v/\Q v H
def rIxS:R2:=λx y H Q=>∃z i c,x= .str z/\y= .int i/\z.length<=sizeLine/\atI z.cps.toList i=some c/\Q (.str ⟨#[c]⟩) H
theorem Vh:IxR X (rIxL X.K):=by
 intro value slice pins s σ H x y v u Q I rx ry h hs;obtain⟨p,xs,i,z,rfl,rfl,hq,he,q⟩:=h;cases rx;obtain⟨t,rfl⟩:=ry;obtain⟨its,r,pl,hz⟩:=I.list hq;obtain⟨j,h1,h2,h3,h4,h5⟩:=u4 he;obtain⟨w,ew,rw'⟩:=r.get h2;have hl:=r.length;have hn:=wf;have fin:EP X pins σ Q w s:=⟨z,H,I,rw',q⟩
 by_cases h0:0<=i
 ·have hj:i.toNat=j:=by
   rw[seqIndex_of h0 h5]at h1;exact aH h1
  exact item_listR pl.isList h0 (by omega) (by rw[hj];simpa using ew) fin hs
 ·have hj:(i+(its.toArray.size:Int)).toNat=j:=by
   rw[seqIndex_neg (by omega) h4]at h1
   rw[aA,← hl];exact aH h1
  exact subscriptTail_builtinR (x:=w) pl.isList.typeIs slot_list_getitem.lookup
   (wpAny_getItem_list_neg (Q:=λr s' =>r=w/\EP X pins σ Q r s') pl.isList (by omega) (by rw[aA] <;> omega) (by omega) (by rw[hj];simpa using ew) ⟨rfl,fin⟩) hs
theorem kh:IxR X (rIxT X.K):=by
 intro value slice pins s σ H x y v u Q I rx ry h hs;obtain⟨p,xs,i,z,rfl,rfl,hq,he,q⟩:=h;cases rx;obtain⟨t,rfl⟩:=ry;obtain⟨its,r,pl,hz⟩:=I.tuple hq;obtain⟨j,h1,h2,h3,h4,h5⟩:=u4 he;obtain⟨w,ew,rw'⟩:=r.get h2;have hl:=r.length;have hn:=wf;have fin:EP X pins σ Q w s:=⟨z,H,I,rw',q⟩;exact subscriptTail_builtinR (x:=w) pl.typeIs slot_tuple_getitem.lookup
  (getItem_tuple (j:=j) (Q:=λr s' =>r=w/\EP X pins σ Q r s') pl (by omega) (by omega) (by rw[aA,← hl];exact h1) (by simpa using ew) ⟨rfl,fin⟩) hs
theorem ki:IxR X rIxS:=by
 intro value slice pins s σ H x y v u Q I rx ry h hs;obtain⟨z,i,c,rfl,rfl,hz,he,q⟩:=h;obtain⟨t,rfl⟩:=rx;obtain⟨t',rfl⟩:=ry;obtain⟨j,h1,h2,h3,h4,h5⟩:=u4 he;have hl:z.cps.toList.length=z.length:=by simp[Str.length]
 rw[hl]at h1 h4 h5;have hn:=wf;exact tail_any (typeIs_str s z t) slot_str_getitem.lookup (getItem_str (c:=c) (by
  have e1:decide (i < -(2 ^ 63:Int))=false:=decide_eq_false (by omega)
  have e2:decide (i ≥ 2 ^ 63)=false:=decide_eq_false (by omega)
  rw[e1,e2,Bool.or_false]) (by rw[h1];simpa using h2) ⟨.str ⟨#[c]⟩,H,I.tok _,⟨_,rfl⟩,q⟩) hs
def rIx (K:ac):R2:=λx y H Q=>rIxL K x y H Q\/rIxT K x y H Q\/rIxS x y H Q
theorem kl:IxR X (rIx X.K):=Vh.or (kh.or ki)
theorem Wk (lo hi:Option Int)(n:Nat):(sliceBounds lo hi none n).1=((HT.sIx n 0 lo:Nat):Int)/\(sliceBounds lo hi none n).2.1=((HT.sIx n n hi:Nat):Int)/\(sliceBounds lo hi none n).2.2=1:=by
 refine⟨?_, ?_,rfl⟩
 ·cases lo with
  | none=>simp[sliceBounds,HT.sIx]
  | some i=>
   simp only[sliceBounds,HT.sIx,hZ,show (1:Int) > 0 by decide,if_true]
   by_cases h:i < 0
   ·simp only[h,if_true] <;> omega
   ·simp only[h,if_false] <;> omega
 ·cases hi with
  | none=>simp[sliceBounds,HT.sIx]
  | some i=>
   simp only[sliceBounds,HT.sIx,hZ,show (1:Int) > 0 by decide,if_true]
   by_cases h:i < 0
   ·simp only[h,if_true] <;> omega
   ·simp only[h,if_false] <;> omega
theorem wH (its:List Value)(lo hi:Option Int):slicePick its.toArray lo hi none=((its.drop (HT.sIx its.length 0 lo)).take (HT.sIx its.length its.length hi - HT.sIx its.length 0 lo)).toArray:=by
 obtain⟨h1,h2,h3⟩:=Wk lo hi its.toArray.size;unfold slicePick;rw[h1,h2,h3];simp only[sliceRange_one,pick_run,aA] <;> rfl
def rSlL (K:ac):V->Option Int->Option Int->Hp->VK->Prop:=λx lo hi H Q=>∃a xs,x= .ref a/\SqL K H a xs/\∀p,H p=none->Q (.ref p) (upd H p (.lst (vg xs lo hi)))
theorem Vi:SlR X (rSlL X.K):=by
 intro pins s σ H x v vl vu lo hi sl Q I rx hs pl pu h;obtain⟨a,xs,rfl,hx,q⟩:=h;cases rx;obtain⟨its,r,ht,hz⟩:=I.list hx;have hlen:=r.length;refine⟨"list",_,slot_list_getitem.lookup,ht.isList.typeIs, ?_⟩;refine wpAny_getItem_list_slice ht.isList hs pl pu .none (by simp) ?_ (by rw[aA] <;> omega)
 rw[wH,← hlen];refine⟨.ref s.heap.objs.size,_,I.laid (t' :=s.toks) (o:= .lst (vg xs lo hi)) (λb ob q=>ai _ q) (am _) ?_,rfl,q _ (I.hok.fresh (am _))⟩;exact⟨aF (Jz xs lo hi) hz,_,0,(r.drop (HT.sIx xs.length 0 lo)).take (HT.sIx xs.length xs.length hi - HT.sIx xs.length 0 lo),ao _ rfl⟩
theorem Wl:ZQ X (.builtin "len") (λxs H Q=>∃p ys,xs=[.ref p]/\(SqL X.K H p ys\/SqT X.K H p ys)/\Q (.int ys.length) H):=by
 intro pins s σ H xs us Q I r h;obtain⟨p,ys,rfl,hq,q⟩:=h;obtain⟨u,rfl,rx⟩:=jr r;cases rx;have hn:=wf;rcases hq with hq | hq
 ·obtain⟨its,r',pl,hz⟩:=I.list hq;have hlen:=r'.length;exact Calls.call_len_list pl.isList (by simp only[aA] <;> omega) ⟨.int ys.length,H,I.tok _,⟨s.toks+1,by rw[aA,hlen]⟩,q⟩
 ·obtain⟨its,r',pl,hz⟩:=I.tuple hq;have hlen:=r'.length;exact len_tuple pl (by simp only[aA] <;> omega) ⟨.int ys.length,H,I.tok _,⟨s.toks+1,by rw[aA,hlen]⟩,q⟩
theorem Wm:ZQ X (.builtin "len") (λxs H Q=>∃z,xs=[.str z]/\z.length<=sizeLine/\Q (.int z.length) H):=by
 intro pins s σ H xs us Q I r h;obtain⟨z,rfl,hz,q⟩:=h;obtain⟨u,rfl,t,rfl⟩:=jr r;have hn:=wf;exact len_str (by omega) ⟨.int z.length,H,I.tok _,⟨_,rfl⟩,q⟩
theorem ZQ.or {r r' :List V->Hp->VK->Prop}(h:ZQ X f r)(h' :ZQ X f r'):ZQ X f (λxs H Q=>r xs H Q\/r' xs H Q):=by
 intro pins s σ H xs us Q I rs q;rcases q with q | q
 ·exact h pins s σ H xs us Q I rs q
 ·exact h' pins s σ H xs us Q I rs q
theorem wI:ZQ X (.type "tuple") (λxs H Q=>∃p ys,xs=[.ref p]/\((SqL X.K H p ys/\∀l,H l=none->Q (.ref l) (upd H l (.tup ys)))\/(SqT X.K H p ys/\Q (.ref p) H))):=by
 intro pins s σ H xs us Q I r h;obtain⟨p,ys,rfl,h⟩:=h;obtain⟨u,rfl,rx⟩:=jr r;cases rx;rcases h with ⟨hq,q⟩ | ⟨hq,q⟩
 ·obtain⟨its,r',pl,hz⟩:=I.list hq;have hlen:=r'.length;refine call_tuple_list pl.isList (λh' kp=> ?_) (by simp only[aA] <;> omega)
  have I1:Inv X pins σ H { s with heap:=h' }:=I.kept (t' :=s.toks) kp;have I2:Inv X pins σ (upd H h'.objs.size (.tup ys)) { s with heap:=h'.push { cls:= .type "tuple",data:= .seq its.toArray } }:=
   I1.laid (t' :=s.toks) (λb o e=>ai _ e) (am _) (show Zi X.prog X.w _ _ _ (.tup ys) from ⟨hz,its,r',ITN.new _ _⟩)
  exact⟨.ref h'.objs.size,_,I2,rfl,q _ (I1.hok.fresh (am _))⟩
 ·obtain⟨its,r',pl,hz⟩:=I.tuple hq;exact call_tuple_same pl ⟨.ref p,H,I,rfl,q⟩
def tyV (K:ac)(T:String)(x:V)(H:Hp):Prop:=match x with
 | .str _=>T="str"
 | .int _=>T="int"
 | .ref p=>(T="list"/\∃xs,SqL K H p xs)\/(T="tuple"/\∃o,K.lookup p=some o/\o.cls= .type "tuple"/\o.dict=none)\/
   (T="dict"/\((∃kvs,H p=some (.dK kvs))\/∃kvs,H p=some (.dT kvs)))\/(T="set"/\∃S n,H p=some (.set S n))
 | _=>False
theorem vh (I:Inv X pins σ H s)(r:Zg x v)(ty:tyV X.K T x H):
  s.TypeIs v T/\∀a,v= .ref a->∃ob,s.heap.get? a=some ob/\ob.dict=none:=by
 cases x with
 | str z=>
  obtain⟨t,rfl⟩:=r;cases (show T="str" from ty);exact⟨typeIs_str s z t,λ_ e=>nomatch e⟩
 | int i=>
  obtain⟨t,rfl⟩:=r;cases (show T="int" from ty);exact⟨typeIs_int s i t,λ_ e=>nomatch e⟩
 | ref p=>
  cases r;rcases ty with ⟨rfl,xs,hq⟩ | ⟨rfl,o,hk,hc,hd⟩ | ⟨rfl,hk⟩ | ⟨rfl,S,n,hk⟩
  ·obtain⟨its,_,pl,_⟩:=I.list hq;refine⟨pl.isList.typeIs,λa e=> ?_⟩;cases e;obtain⟨o,n,e,c,hd,_⟩:=pl;exact⟨o,e,hd⟩
  ·refine⟨⟨o,I.kIn p o hk,hc⟩,λa e=> ?_⟩;cases e;exact⟨o,I.kIn _ o hk,hd⟩
  ·have z:∃o,s.heap.get? p=some o/\o.ExactDict:=by
    rcases hk with ⟨kvs,hk⟩ | ⟨kvs,hk⟩
    ·obtain⟨_,_,_,_,o,_,_,e,ex,_⟩:=I.hok p _ hk;exact⟨o,e,ex⟩
    ·obtain⟨_,_,_,_,o,_,_,e,ex,_⟩:=I.hok p _ hk;exact⟨o,e,ex⟩
   obtain⟨o,e,ex⟩:=z;refine⟨⟨o,e,ex.1⟩,λa e2=> ?_⟩;cases e2;exact⟨o,e,ex.2.1⟩
  ·obtain⟨o,_,_,_,e,ex,_⟩:=I.hok p _ hk;refine⟨⟨o,e,ex.1⟩,λa e2=> ?_⟩;cases e2;exact⟨o,e,ex.2.1⟩
 | _=>exact cf ty
def tBM0 (K:ac)(T:String)(r:V->List V->Hp->VK->Prop)(to:TE):TE:=λσ H Q=>to σ H λx H1=>tyV K T x H1/\r x [] H1 Q
def tBM (K:ac)(T:String)(r:V->List V->Hp->VK->Prop)(to:TE)(t:TA):TE:=λσ H Q=>to σ H λx H1=>tyV K T x H1/\t σ H1 λxs H2=>r x xs H2 Q
variable {o e:Expr}{es:List Expr}{to:TE}{t:TA}{name:Str}{apos cpos:Pos}{T id:String}{r:V->List V->Hp->VK->Prop}
theorem km (pa:PlainAttrs T)(slot:Slot T name id)(hty:typeOf (.builtin id)=pure (.type "method_descriptor"))(hm:MtR X id r)(ho:PE X o to)
  (hbase:attributeBase o name X.env (eval o X.env)=eval o X.env:=by rfl) (hline:(apos.endLine == cpos.line)=true:=by rfl):PE X (.Call (.Attribute o name apos) [] [] cpos) (tBM0 X.K T r to):=by
 intro pins s σ H Q I h;refine wpAny_Call_method0_late hbase hline (thn (ho pins s σ H _ I h) λv s1 ⟨x,H1,I1,r1,ty,q1⟩=> ?_);obtain⟨h1,h2⟩:=vh I1 r1 ty;exact⟨T,id,pa,slot,hty,h1,h2,eZ rfl (PySem.evalArgs_none (hm pins s1 σ H1 x [] v [] Q I1 r1 .nil q1))⟩
theorem yC (pa:PlainAttrs T)(slot:Slot T name id)(hty:typeOf (.builtin id)=pure (.type "method_descriptor"))(hm:MtR X id r)(ho:PE X o to)(ha:PA X (e :: es) t)
  (hbase:attributeBase o name X.env (eval o X.env)=eval o X.env:=by rfl)
  (hfew:((backTo cpos (starEach (e :: es) X.env)).all (λx=> !x.1) && (backToKw cpos (keywordEach [] X.env)).all (λx=>x.1.isSome)
   && decide ((e :: es).length+([]:List Keyword).length+(if ([]:List Keyword).isEmpty then 0 else 1) < 30))=true:=by rfl)
  (hline:(apos.endLine == cpos.line)=true:=by rfl) (hs:starEach (e :: es) X.env=(false,eval e X.env) :: starEach es X.env:=by rfl) (hplain:(backTo cpos (starEach es X.env)).any (·.1)=false:=by rfl):
  PE X (.Call (.Attribute o name apos) (e :: es) [] cpos) (tBM X.K T r to t):=by
 intro pins s σ H Q I h;refine wpAny_Call_method_late hbase hfew hline rfl (thn (ho pins s σ H _ I h) λv s1 ⟨x,H1,I1,r1,ty,q1⟩=> ?_);obtain⟨h1,h2⟩:=vh I1 r1 ty;refine⟨T,id,pa,slot,hty,h1,h2, ?_⟩;have hA:=ha cpos pins s1 σ H1 _ I1 q1;rw[hs]at hA ⊢;refine eZ (by show (false || (backTo cpos (starEach es X.env)).any (·.1))=false;rw[hplain] <;> rfl) (fy ?_)
 exact thn hA λus s2 ⟨vs,H2,I2,r2,q2⟩=>hm pins s2 σ H2 x vs v us Q I2 r1 r2 q2
end
end L2
namespace L2
open PySem PySem.Spec PyProof.Rows
def MtM (X:Cx)(id:String)(r:V->List V->Hp->VK->Prop):Prop:=
 ∀(pins:List (Addr×Obj)) (s:Shared) (σ:St) (H:Hp) (x:V) (xs:List V) (v:Value) (us:List Value) (Q:VK),Inv X pins σ H s->Zg x v->zU xs us->r x xs H Q->
  wpAny (model X.prog X.w) X.A (call (.builtin id) (v :: us)) (EP X pins σ Q) X.xe s
theorem zU.one:∀{x:V} {us:List Value},zU [x] us->∃u,us=[u]/\Zg x u
 | _,_,.cons r .nil=>⟨_,rfl,r⟩
theorem zU.zero:∀{us:List Value},zU [] us->us=[]
 | _,.nil=>rfl
theorem zU.rep (h:zU xs us):∀k:Nat,zU (ad k xs).flatten (ad k us).flatten
 | 0=> .nil
 | k+1=>by
  rw[aU,aU,c8,c8];exact zU.append h (zU.rep h k)
theorem jL (its:List Value):∀(k:Nat) (acc:List Value),
  dL (λx1 x2=>x1++x2) acc.toArray (ad k its.toArray)=(acc++(ad k its).flatten).toArray
 | 0,acc=>by simp
 | k+1,acc=>by
  have e:acc.toArray++its.toArray=(acc++its).toArray:=by simp
  have e2:(acc++its)++(ad k its).flatten=acc++(ad (k+1) its).flatten:=by
   rw[aU,c8,bI]
  rw[← e2,← jL its k (acc++its),← e,aU,List.foldl_cons]
section
theorem Inv.lset {its its' :List Value}{n:Nat}{f:Array Value->Array Value}{t' :Nat}(I:Inv X pins σ H s)(hH:H l=some (.lst xs))
  (e:s.heap.get? l=some { cls:= .type "list",data:= .seq its.toArray n }) (hf:f its.toArray=its'.toArray) (hv:zU ys its') (hz:ys.length<=sizeLine):
  Inv X pins σ (upd H l (.lst ys)) { s with heap:=s.heap.update l (Obj.mapSeq f),toks:=t' }:=by
 have q:=PySem.IsL.update e f;rw[hf]at q;refine I.write (x:=l) (e:=l) (by rw[hH];exact trivial) (.inl rfl) (λb' u hb hu=>(Heap.get?_update_other s.heap (Obj.mapSeq f) (bM hb)).trans hu) ⟨_,q⟩ ?_
 exact⟨hz,its',_,hv,q⟩
theorem Inv.lnew {t' :Nat}(I:Inv X pins σ H s)(hv:zU ys its)(hz:ys.length<=sizeLine):
  Inv X pins σ (upd H s.heap.objs.size (.lst ys)) { s with heap:=s.heap.push { cls:= .type "list",data:= .seq its.toArray },toks:=t' }:=
 I.laid (λ_ _ q=>ai _ q) (am _) ⟨hz,its,0,hv,ao _ rfl⟩
theorem Inv.fresh (I:Inv X pins σ H s):H s.heap.objs.size=none:=I.hok.fresh (am _)
theorem Inv.lstM (I:Inv X pins σ H s)(hH:H l=some (.lst xs)):xs.length<=sizeLine/\∃(its:List Value) (n:Nat),zU xs its/\xs.length=its.length/\s.heap.get? l=some { cls:= .type "list",data:= .seq its.toArray n }:=by
 obtain⟨z,its,n,r,e⟩:=I.hok l _ hH;exact⟨z,its,n,r,r.length,e⟩
theorem uG {n:Nat}(h:n<=sizeLine):cG n=false:=by
 unfold cG;exact decide_eq_false (by omega)
end
section
variable {X:Cx}
def Vj:V->List V->Hp->VK->Prop:=λx vs H Q=>∃l xs y,x= .ref l/\vs=[y]/\H l=some (.lst xs)/\xs.length < sizeLine/\Q .non (upd H l (.lst (xs++[y])))
theorem Wn:MtM X "list.append" Vj:=by
 intro pins s σ H x vs v us Q I rx rv h;obtain⟨l,xs,y,rfl,rfl,hH,hz,q⟩:=h;cases rx;obtain⟨u,rfl,ru⟩:=rv.one;obtain⟨z,its,n,r,hl,e⟩:=I.lstM hH;refine dq F.slot_list_append ⟨_,e,rfl⟩ F.entry_list_append (F.args_list_append_2 _ _) (PySem.list_append l its.toArray n u (by rw[aA];omega)) ⟨e, ?_⟩
 refine⟨.non,_,I.lset (its' :=its++[u]) hH e (by simp) (r.append (.cons ru .nil)) ?_,rfl,q⟩
 rw[aB,aE];omega
def Vk:V->List V->Hp->VK->Prop:=λx vs H Q=>∃l b xs zs,x= .ref l/\vs=[.ref b]/\H l=some (.lst xs)/\H b=some (.lst zs)/\xs.length+zs.length<=sizeLine/\Q .non (upd H l (.lst (xs++zs)))
theorem yD:MtM X "list.extend" Vk:=by
 intro pins s σ H x vs v us Q I rx rv h;obtain⟨l,b,xs,zs,rfl,rfl,hH,hB,hz,q⟩:=h;cases rx;obtain⟨u,rfl,ru⟩:=rv.one;cases ru;obtain⟨z,its,n,r,hl,e⟩:=I.lstM hH;obtain⟨z2,its2,n2,r2,hl2,e2⟩:=I.lstM hB;have hsz:its.toArray.size+its2.toArray.size<=sizeLine:=by rw[aA,aA];omega
 have hlong:¬ (!its.toArray.isEmpty && cG (its.toArray.size+its2.toArray.size))=true:=by
  rw[uG hsz,Bool.and_false];exact av
 refine dq F.slot_list_extend ⟨_,e,rfl⟩ F.entry_list_extend (F.args_list_extend_2 _ _)
  (AutoSeq1.list_extend_list_list_0 l its.toArray n b its2.toArray n2 hlong (by rw[aA];omega) (by omega)) ⟨e,e2, ?_⟩
 refine⟨.non,_,I.lset (its' :=its++its2) hH e (by simp) (r.append r2) ?_,rfl,q⟩
 rw[aB];omega
def rCat:R2:=λx y H Q=>∃l b xs zs,x= .ref l/\y= .ref b/\H l=some (.lst xs)/\H b=some (.lst zs)/\xs.length+zs.length<=sizeLine/\∀p,H p=none->Q (.ref p) (upd H p (.lst (xs++zs)))
theorem kn:OpR X (binaryOp .Add) rCat:=by
 intro pins s σ H x y v u Q I rx ry h;obtain⟨l,b,xs,zs,rfl,rfl,hH,hB,hz,q⟩:=h;cases rx;cases ry;obtain⟨z,its,n,r,hl,e⟩:=I.lstM hH;obtain⟨z2,its2,n2,r2,hl2,e2⟩:=I.lstM hB;refine PySem.P.add_list e e2 ?_ (by rw[aA,aA];omega)
 have ea:its.toArray++its2.toArray=(its++its2).toArray:=by simp
 rw[ea];exact⟨.ref _,_,I.lnew (t' :=s.toks) (r.append r2) (by rw[aB];omega),rfl,q _ I.fresh⟩
def rRep:R2:=λx y H Q=>∃l k xs,x= .ref l/\y= .int k/\H l=some (.lst xs)/\ -(2 ^ 63)<=k/\k < 2 ^ 63/\xs.length*k.toNat<=sizeLine/\
 ∀p,H p=none->Q (.ref p) (upd H p (.lst (ad k.toNat xs).flatten))
theorem jW {α:Type}(xs:List α)(k:Nat):(ad k xs).flatten.length=k*xs.length:=by
 induction k with
 | zero=>simp
 | succ k ih=>rw[aU,c8,aB,ih,Nat.succ_mul,Nat.add_comm]
theorem ko:OpR X (binaryOp .Mult) rRep:=by
 intro pins s σ H x y v u Q I rx ry h;obtain⟨l,k,xs,rfl,rfl,hH,h1,h2,hz,q⟩:=h;cases rx;obtain⟨t,rfl⟩:=ry;obtain⟨z,its,n,r,hl,e⟩:=I.lstM hH;have hlen:its.toArray.size*k.toNat<=sizeLine:=by rw[aA,← hl];exact hz
 have hcap:¬ its.toArray.size*k.toNat > (2 ^ 63 - 1) / 8:=by
  have:(sizeLine:Nat)<=(2 ^ 63 - 1) / 8:=by decide
  omega
 have hfit:¬ (!Builtin.List.listFitsIndex k)=true:=by
  rw[fitsIndex_both h1 h2];exact av
 have hlong:¬ cG (its.toArray.size*k.toNat)=true:=by
  rw[uG hlen];exact av
 have hnew:dL (λx1 x2=>x1++x2) #[] (ad (if its.toArray.isEmpty=true then 0 else k.toNat) its.toArray)=(ad k.toNat its).flatten.toArray:=by
  have f0:∀m:Nat,dL (λx1 x2=>x1++x2) #[] (ad m its.toArray)=(ad m its).flatten.toArray:=λm=>by
   have:=jL its m [];rw[bC]at this;exact this
  rw[f0];cases its with
  | nil=>simp
  | cons a r' =>rw[if_neg (by simp)]
 refine wpAny_binaryOp_repeat_ref (T:="list") (U:="int") (by decide) ⟨_,e,rfl⟩ (λs' =>typeIs_int s' k t) noFill_list_mul ir dP repeat_list h_.lookup
  (dq dP (typeIs_int s k t) i4 (fX _ _) (int___rmul___int_list k t l its.toArray n)
   ⟨e,rfl,⟨_,e,rfl⟩,dq F.slot_list_mul ⟨_,e,rfl⟩ F.entry_list_mul (F.args_list_mul_2 _ _) (AutoListH.list___mul___list_int_3 l its.toArray n k t hfit hcap hlong) ⟨e, ?_⟩⟩)
 rw[hnew];exact⟨.ref _,_,I.lnew (t' :=s.toks) (r.rep k.toNat) (by rw[jW,bG];exact hz),rfl,q _ I.fresh⟩
end
section
end
section
end
end L2
namespace Att
open PySem PySem.W PySem.Calls PyProof.Rows
theorem JA {P:Params}:∀(ns:List Int) (vs:List Value),WellAll P h vs (ns.map WData.int)->IntsAre vs ns:=by
 intro ns
 induction ns with
 | nil=>
  intro vs w;rw[cQ]at w;cases w;exact .nil
 | cons n ns ih=>
  intro vs w;rw[aI]at w;cases w with
  | cons a b=>
   cases a;exact .cons _ _ (ih _ b)
theorem yE {l:OpenLaw}{n:Nat}(hn:l.most=some n){P:Params}{args:List WData}
  (hpre:l.row.toRowW.claim.pre args=true) (hwl:WellAll P h vals args):
  ∃a vs ns,vals=[Value.ref a]/\args=[WData.list (ns.map WData.int)]/\h.get? a=some { cls:= .type "list",data:= .seq vs.toArray }/\IntsAre vs ns/\ns.length<=n:=by
 have hsh:WShape.hasAll [] args [.list .int]=true:=(pre_splitW hpre).1;have hc:l.pre.holds [] { args:=args }=true:=(pre_splitW hpre).2;obtain⟨d,r,rfl,h1,h2⟩:=hasAllW_cons hsh;obtain rfl:=hasAllW_nil h2;obtain⟨xs,rfl,h3⟩:=hasW_list h1;obtain⟨ns,rfl⟩:=items_int h3;have hlen:ns.length<=n:=by
  unfold OpenLaw.pre at hc;have h4:(WTm.not (.lt (.lit (.int (n:Int))) (.len (.arg 0)))).holds [] { args:=[.list (ns.map .int)] }=true:=by
   have h4:=(holds_andW hc).1;rw[hn]at h4;exact h4
  have h5:=condW_of h4 (w_not (w_lt w_lit (w_len_list (w_arg rfl))));rw[ae]at h5;refine Nat.le_of_not_lt λq=> ?_;have q' :(n:Int) < ((ns.length:Nat):Int):=by omega
  first
   | (rw[decide_eq_true q']at h5;exact absurd h5 (by decide))
   | (simp at h5;omega)
 cases hwl with
 | cons w1 w2=>
  cases w2;cases w1 with
  | list ho hall=>exact⟨_,_,ns,rfl,rfl,ho,JA ns _ hall,hlen⟩
theorem yF (l:OpenLaw)(args:List WData):l.row.toRowW.claim.post args (.bool true) args=true:=
 postW_of (r:=l.row.toRowW) (X:=(true == true))
  (show WShape.has [] (.bool true) .bool=true by first | rfl | decide | simp[WShape.has,WShape.arms,WShape.armsAll])
  (show (WTm.eq .res (.lit (.bool true))).value [] { args:=args,res:=some (.bool true),after:=args }=some (.bool (true == true)) from w_eq_bool (w_res rfl) w_lit) rfl
theorem attach_call {l:OpenLaw}{n:Nat}{XP:(Str->Option Value)->Heap->Prop}{YP:World->Heap->Prop}{d:DefRec}
  (hn:l.most=some n) (hdf:d.params.defaults=[])
  (call:∀(w:World) (s₀ s₁:Shared) (mg mb:Str->Option Value) (fa:Addr) (o:Obj) (pm cd doc:Value) (a:Addr) (vs:List Value) (ns:List Int),
   Ground q loose [] XP w s₀ mg mb s₁.heap->YP w s₁.heap->
   s₁.heap.get? fa=some o->o.data= .func (docDef d.name d.params d.body d.scope pm cd doc)->s₁.heap.CodeRec cd d.name->mg d.name=some (.ref fa)->
   s₁.heap.get? a=some { cls:= .type "list",data:= .seq vs.toArray }->IntsAre vs ns->ns.length<=n->s₁.gens= #[]->
   codeAny (model l.prog w) callerA (.call (.ref fa) ⟨[.ref a],[]⟩) (λr s' =>r= .ok (.ret (.bool true))/\OldK s₁.heap s'.heap/\s'.os=s₁.os/\AllBare s'.gens) s₁):
  WalkO q loose XP YP l.row.toRowW d [] (λf vs=>iA f vs):=by
 intro w s₀ s₁ mg mb G Y fa o pm cd doc dV kV ho hd hcd hD hmg hg args vals as hpre hlay hrd hwl hlo;obtain rfl:dV= .none:=Dflts.none hD hdf;obtain rfl:kV= .none:=Dflts.noKw hD;obtain⟨a,vs,ns,rfl,rfl,hobj,hints,hlen⟩:=yE hn hpre hwl;refine enter_call (dz (call w s₀ s₁ mg mb fa o pm cd doc a vs ns G Y ho (fd_plain hd) hcd hmg hobj hints hlen hg) λr s' hq=> ?_);obtain⟨rfl,h2,h3,h4⟩:=hq;exact⟨.inl ⟨.bool true,.bool true,[],rfl,λ_=>rfl,.bool true,yF l _,λ_=>⟨List.Pairwise.nil,λ_ hm=>(nomatch hm)⟩⟩,h2,h3,h4⟩
end Att
namespace L2
open PySem PySem.Spec PyProof.Rows
theorem Wo:∀{vs:List Value} {ns:List Int},IntsAre vs ns->zU (ns.map V.int) vs
 | _,_,.nil=> .nil
 | _,_,.cons n t h=> .cons ⟨t,rfl⟩ (Wo h)
def G4 (H:Hp):Prop:=∀b,H b=none\/∃o xs,H b=some (.frz o (.lst xs))
theorem Q0 {P:Program}{w:World}{K:ac}{mg mb:Str->Option Value}{CX:CXT}{k:Nat}{fa a:Addr}{fd:FuncData}{x:Str}{sp:Sp}{s₁:Shared}{vs:List Value}{ns:List Int}
  (KX:K.In s₁.heap) (hns:s₁.heap.Ns mainGlobals mg) (hb:s₁.heap.Ns builtinsNs mb) (hbb:∀x:Str,x ≠ "__name__"->mb x=bootBuiltins x) (hlim:s₁.heap.NoLimit) (hg:s₁.gens= #[])
  (ha:s₁.heap.get? a=some { cls:= .type "list",data:= .seq vs.toArray }) (hi:IntsAre vs ns) (hl:ns.length<=sizeLine) (hr:ZL k callerA)
  (F:∀base:Heap,K.In base->base.Ns mainGlobals mg->zK P w K mg base CX k fa fd [x] sp) (hbind:∀(s:Shared) (u:Value),BindsTo s fd ⟨[u],[]⟩ [(x,u)])
  (hsp:∀H:Hp,G4 H->SqL K H a (ns.map V.int)->sp [.ref a] H (λv _=>v= .bl true) λ_ _ _=>False)
  (hCX:∀H e s',CX [] H s₁ (λ_ _ _=>False) e s' ->False):
  codeAny (model P w) callerA (.call (.ref fa) ⟨[.ref a],[]⟩) (λr s' =>r= .ok (.ret (.bool true))/\OldK s₁.heap s'.heap/\s'.os=s₁.os/\AllBare s'.gens) s₁:=by
 have rv:=Wo hi;have lenV:=hi.length;have core:∀H:Hp,G4 H->SqL K H a (ns.map V.int)->HOk P w H s₁.heap->(∀b,H b ≠ none->b=a)->(H a ≠ none->K.lookup a=none)->
   codeAny (model P w) callerA (.call (.ref fa) ⟨[.ref a],[]⟩) (λr s' =>r= .ok (.ret (.bool true))/\OldK s₁.heap s'.heap/\s'.os=s₁.os/\AllBare s'.gens) s₁:=by
  intro H hO hS hok hA hK;have base_of:∀{b:Addr} {o:Obj},s₁.heap.get? b=some o->H b=none->(qN s₁.heap H).get? b=some o:=λe n=>qO e n;have noA:∀{b:Addr} {o:Obj} {es:Array DictEntry} {ep:Nat},s₁.heap.get? b=some o->o.data= .dict es ep->H b=none:=λ{b o es ep} e d=>by
   cases q:H b with
   | none=>rfl
   | some u=>
    have e' :b=a:=hA b (by rw[q];simp)
    subst e';rw[ha]at e;cases e;have d' :Data.seq vs.toArray _=Data.dict es ep:=d;cases d'
  have nsK:∀{b:Addr} {m:Str->Option Value},s₁.heap.Ns b m->(qN s₁.heap H).Ns b m:=λ{b m} ⟨o,es,ep,e,d,r⟩=>⟨o,es,ep,base_of e (noA e d),d,r⟩;have hKb:K.In (qN s₁.heap H):=λb o e=>base_of (KX b o e) (by
   cases q:H b with
   | none=>rfl
   | some u=>
    have e' :b=a:=hA b (by rw[q];simp)
    subst e';rw[hK (by rw[q];simp)]at e;cases e)
  have hM:Mod K mg (qN s₁.heap H):=⟨hKb,nsK hns,⟨mb,nsK hb,hbb⟩,let ⟨mc,h1,h2⟩:=hlim;⟨mc,nsK h1,h2⟩⟩;have e0:Vb P w K mg (qN s₁.heap H) callerA [] s₁ H:=⟨rfl,hM,λb o e=>V1 e,Nat.le_of_eq (yc _ _),trivial,λb hb=>absurd (show b∈([]:List Addr) from hb) (by simp),hok,.of_eq hg⟩
  refine dz ((F _ hKb (nsK hns)).run callerA [] s₁ H ⟨[.ref a],[]⟩ [.ref a] [.ref a] _ _ hr e0 (hbind s₁ (.ref a)) (.cons rfl .nil) (hsp H hO hS)) λr s' h=> ?_;cases r with
  | error e=>exact(hCX H e s' h).elim
  | ok fl=>
   cases fl with
   | next=>exact cf h
   | brk=>exact cf h
   | cont=>exact cf h
   | ret u=>
    obtain⟨v,H',os,bare,un,hok',r',q⟩:=h;have q' :v= .bl true:=q;subst q';obtain rfl:u=Value.bool true:=r';refine⟨rfl,OldK.of_keep λb o e=> ?_,os,bare⟩;cases q:H b with
    | none=>exact un.keep b o e q (by intro z;exact absurd (show b∈([]:List Addr) from z) (by simp)) (by simp)
    | some u=>
     rcases hO b with z | ⟨ob,xs,z⟩
     ·rw[q]at z;cases z
     ·have z2:=un.frzs b ob _ z;obtain⟨e1,_⟩:=hok b _ z;obtain⟨e2,_⟩:=hok' b _ z2;rw[e]at e1;cases e1;exact e2
 cases hk:K.lookup a with
 | some o=>
  have e:=KX a o hk;rw[ha]at e;cases e;refine core (λ_=>none) (λ_=> .inl rfl) (.inr ⟨_,vs.toArray,_,hk,rfl,rfl,rfl,by rw[aA,lenV];exact hl,by simpa using rv⟩) (λb u z=>by have z' :(none:Option HO)=some u:=z;cases z') (λb z=>absurd rfl z) λz=>absurd rfl z
 | none=>
  refine core (λb=>if b=a then some (.frz { cls:= .type "list",data:= .seq vs.toArray } (.lst (ns.map V.int))) else none) (λb=> ?_) (.inl (.inr ⟨{ cls:= .type "list",data:= .seq vs.toArray },if_pos rfl⟩)) (λb u z=> ?_) (λb z=> ?_) λ_=>hk
  ·by_cases hb:b=a
   ·exact .inr ⟨_,_,if_pos hb⟩
   ·exact .inl (if_neg hb)
  ·by_cases hb:b=a
   ·have z' :=(if_pos hb).symm.trans z;cases z';subst hb;exact⟨ha,by rw[ae];exact hl,vs,_,rv,ha⟩
   ·have z' :=(if_neg hb).symm.trans z;cases z'
  ·by_cases hb:b=a
   ·exact hb
   ·exact absurd (if_neg hb) z
end L2
namespace L2
open PySem PySem.Spec PyProof.Rows
theorem walk_of {l:PySem.W.OpenLaw}{n k:Nat}{XP:(Str->Option Value)->Heap->Prop}{YP:World->Heap->Prop}{d:DefRec}{K:Params->ac}{CX:World->CXT}{sp:World->Sp}
  (hn:l.most=some n) (hn2:n<=sizeLine) (hdf:d.params.defaults=[]) (hr:ZL k callerA)
  (hY:∀(w:World) (h:Heap),YP w h->(K w.params).In h)
  (F:∀(w:World) (mg:Str->Option Value) (fa:Addr) (h:Heap),(K w.params).In h->h.Ns mainGlobals mg->mg d.name=some (.ref fa)->
   ∃fd:FuncData,(∀(s:Shared) (u:Value),BindsTo s fd ⟨[u],[]⟩ [(x,u)])/\
    ∀base:Heap,(K w.params).In base->base.Ns mainGlobals mg->zK l.prog w (K w.params) mg base (CX w) k fa fd [x] (sp w))
  (hsp:∀(w:World) (H:Hp) (a:Addr) (ns:List Int),ns.length<=n->G4 H->SqL (K w.params) H a (ns.map V.int)->sp w [.ref a] H (λv _=>v= .bl true) λ_ _ _=>False)
  (hCX:∀(w:World) (H:Hp) (s:Shared) (e:Value) (s' :Shared),CX w [] H s (λ_ _ _=>False) e s' ->False):
  PySem.W.WalkO q loose XP YP l.row.toRowW d [] (λf vs=>iA f vs):=by
 refine Att.attach_call hn hdf λw s₀ s₁ mg mb fa o pm cd doc a vs ns G Y ho hd hcd hmg hobj hints hlen hg=> ?_;have KX:=hY w _ Y;obtain⟨fd,hb,hF⟩:=F w mg fa _ KX G.T.g hmg;exact Q0 KX G.T.g G.T.b G.T.builtins G.T.nolimit hg hobj hints (aF hlen hn2) hr hF hb (λH hO hS=>hsp w H a ns hlen hO hS) λH e s' =>hCX w H s₁ e s'
end L2
namespace L2
open PySem PySem.Spec PyProof.Rows
def ZA (s:Stmt):Arguments:=match s with
 | .FunctionDef _ a _ _ _ _ _ _ _ _=>a
 | _=>{ posonlyargs:=[],args:=[],vararg:=none,kwonlyargs:=[],kw_defaults:=[],kwarg:=none,defaults:=[] }
def zN (s:Stmt):List Stmt:=match s with
 | .FunctionDef _ _ b _ _ _ _ _ _ _=>b
 | _=>[]
def zb (s:Stmt):Scope:=match s with
 | .FunctionDef _ _ _ _ _ _ sc _ _ _=>sc
 | _=>{ kind:= .function,names:=[],isGenerator:=false,isCoroutine:=false }
abbrev CX0:CXT:=λ_ _ _ _ _ _=>False
structure Fun (K:ac) (x qual:Str) (st:Stmt) (f:Addr) (fd:FuncData):Prop where
 ex:∃(oc:Value) (od:Option Addr) (kV doc pm:Value) (an:Option Addr) (cdv ct:Value) (osl:Array (Option Value)),
  fd=bF x qual (ZA st) (zN st) (zb st) .none kV doc pm an cdv ct/\K.lookup f=some ⟨oc,od,.func fd,osl⟩/\dA K cdv qual=true
 kp:bn K (.ref f)=true
section
variable {P:Program}{w:World}{K:ac}{mg:Str->Option Value}{base:Heap}
theorem Fun.ok {x qual:Str}{st:Stmt}{f:Addr}{fd:FuncData}{N ps:List Str}{k:Nat}{sp:Sp}(F:Fun K x qual st f fd)(S:zi N ps (zb st))(len:∀vs H Q E,sp vs H Q E->vs.length=ps.length)
  (hbody:∀(cdv:Value) (A:Around) (outer:List Env) (s:Shared) (H:Hp) (vs:List V) (Q:VK) (E:XK),ZL k (A.deeper (envOfC qual (zb st) s.heap.objs.size f cdv))->sp vs H Q E->
   ∃t,PSs (Jf CX0 P w K mg base N qual (zb st) f cdv A outer s H E).nox (zN st) t/\t { nx:=λ_ H' =>Q .non H',rt:=Q } (start N vs) H):zK P w K mg base CX0 (k+1) f fd ps sp:=by
 obtain⟨oc,od,kV,doc,pm,an,cdv,ct,osl,rfl,lk,hcd⟩:=F.ex;refine ke lk hcd S len λA outer s H vs Q E hr hsp=> ?_;obtain⟨t,h,q⟩:=hbody cdv A outer s H vs Q E hr hsp;exact⟨t,h.nox,q⟩
theorem Fun.binds {x qual:Str}{st:Stmt}{f:Addr}{fd:FuncData}{ps:List Str}(F:Fun K x qual st f fd)
  (h:∀(kV doc pm:Value) (an:Option Addr) (cdv ct:Value) (us:List Value),us.length=ps.length->bindArgs (bF x qual (ZA st) (zN st) (zb st) .none kV doc pm an cdv ct) ⟨us,[]⟩=pure (ps.zip us)):Binds K fd ps []:=by
 obtain⟨oc,od,kV,doc,pm,an,cdv,ct,osl,rfl,lk,hcd⟩:=F.ex;exact .all (h kV doc pm an cdv ct)
theorem vi {x qual:Str}{st:Stmt}{f:Addr}{oc:Value}{od an:Option Addr}{osl:Array (Option Value)}{kV doc pm cdv ct:Value}(l:K.lookup f=some ⟨oc,od,.func (bF x qual (ZA st) (zN st) (zb st) .none kV doc pm an cdv ct),osl⟩)
  (c:dA K cdv qual=true) (k:bn K (.ref f)=true):Fun K x qual st f (bF x qual (ZA st) (zN st) (zb st) .none kV doc pm an cdv ct):=⟨⟨oc,od,kV,doc,pm,an,cdv,ct,osl,rfl,l,c⟩,k⟩
end
section
theorem pv (i:Nat)(hN:X.N[i]? =some x:=by rfl)(hv:Vis X.env.scope x:=by first | exact Or.inl rfl | exact Or.inr (Or.inl rfl) | exact Or.inr (Or.inr rfl))(hd:(x == ("__debug__":Str))=false:=by decide)
  (hcd:(x == ("__classdict__":Str))=false:=by decide):PE X (.Name x pos) (wC i):=vb hN hv hd hcd
end
def zl (H H' :Hp):Prop:=∀b o,H b=some o->H' b=some o
theorem zl.refl (H:Hp):zl H H:=λ_ _ h=>h
theorem zl.trans (a:zl H H1)(b:zl H1 H2):zl H H2:=λc o h=>b c o (a c o h)
theorem zl.free (e:zl H H')(h:H' l=Option.none):H l=Option.none:=by
 cases q:H l with
 | none=>rfl
 | some o=>
  rw[e l o q]at h;cases h
end L2
namespace L2
open PySem PySem.Spec PyProof.Rows PySem.W
theorem uH (h:env.frame=some L):frs (env :: outer)=L :: frs outer:=by
 unfold frs;rw[di,h]
structure u5 (P:Program) (w:World) (outer:List Env) (H:Hp) (s s' :Shared) (ea:Addr) (cls a0:Value) (B:Heap) (H' :Hp):Prop where
 os:s'.os=s.os
 bare:AllBare s'.gens
 fly:dC B outer ea cls a0 s'.heap
 hok:HOk P w H' B
 un:Un (frs outer) [] H H' s.heap s'.heap
 inB:∀b o,s.heap.get? b=some o->b ∉ frs outer->(H b=none->B.get? b=some o)/\∃o',B.get? b=some o'
def CX1 (P:Program)(w:World):CXT:=λouter H s E e s' =>∃ea cls a0 B H',e= .ref ea/\u5 P w outer H s s' ea cls a0 B H' /\E cls none H'
section
variable {X:Cx}{pins:List (Addr×Obj)}{σ:St}{H H' :Hp}{s s' :Shared}{ea:Addr}{cls a0:Value}{B:Heap}{h' h'' :Heap}
theorem Inv.frNf (I:Inv X pins σ H s):∀b∈frs X.stack,H b=none/\∃o,s.heap.get? b=some o/\∀vs,o.data ≠ .fields vs:=λb hb=>⟨I.stkFree b hb,(I.stack.mem hb).2⟩
theorem u5.on (L:u5 P w outer H s s' ea cls a0 B H')(ff:∀b∈frs outer,H b=none/\∃o,s.heap.get? b=some o/\∀vs,o.data ≠ .fields vs)
  (fl:dC B outer ea cls a0 h') (sl:s'.heap.UpToSlots h'):u5 P w outer H s { s' with heap:=h' } ea cls a0 B H' where
 os:=L.os
 bare:=L.bare
 fly:=fl
 hok:=L.hok
 inB:=L.inB
 un:=by
  have slot:∀b o,s.heap.get? b=some o->H b=none->b∈frs outer->∃sl,h'.get? b=some { o with slots:=sl }:=λb o e n hb=>by
   obtain⟨sl1,e1⟩:=L.un.slot b o e n hb (by simp)
   obtain⟨_,o2,e2,nf⟩:=ff b hb;rw[e]at e2;cases e2;obtain⟨sl2,e3⟩:=sl b _ e1 nf;exact⟨sl2,e3⟩
  exact⟨λb o e n hb _=>fl.1 b o ((L.inB b o e hb).1 n),λb o e n hb _=>slot b o e n hb,L.un.free,λb o e _=>by
   by_cases hb:b∈frs outer
   ·obtain⟨sl1,e1⟩:=slot b o e (ff b hb).1 hb;exact⟨_,e1⟩
   ·obtain⟨o',e'⟩:=(L.inB b o e hb).2;exact⟨o',fl.1 b o' e'⟩,L.un.tups,L.un.frzs,L.un.tbls⟩
theorem Inv.old (I:Inv X pins σ H s)(hX:X.stack=X.env :: X.outer)(hf:X.env.frame=some X.env.locals)(e:X.s₀.heap.get? b=some o)(hb:b ∉ frs X.outer):b ∉ frs X.stack:=by
 rw[hX,uH hf];intro z;rcases aG.mp z with z | z
 ·exact absurd (aK (ax e) I.ok.above) (by rw[z];exact bK _)
 ·exact hb z
theorem u6 {X:Cx}(hX:X.stack=X.env :: X.outer)(hf:X.env.frame=some X.env.locals){b:Addr}(hb:b∈frs X.outer):b∈frs X.stack:=by
 rw[hX,uH hf];exact af _ hb
theorem u5.out (I:Inv X pins σ H s)(hX:X.stack=X.env :: X.outer)(hf:X.env.frame=some X.env.locals)(hex:X.ex=[])(L:u5 X.prog X.w X.stack H s s' ea cls a0 B H')
  (fl:dC B X.outer ea cls a0 h') (sl:s'.heap.UpToSlots h'):u5 X.prog X.w X.outer X.H₀ X.s₀ { s' with heap:=h' } ea cls a0 B H' where
 os:=L.os.trans I.os
 bare:=L.bare
 fly:=fl
 hok:=L.hok
 inB:=λb o e hb=>by
  have nx:b ∉ X.ex:=by rw[hex];simp
  obtain⟨o1,e1⟩:=I.base.there b o e nx;have hb' :=I.old hX hf e hb;exact⟨λn=>(L.inB b o (I.base.keep b o e n hb nx) hb').1 (I.base.free b o e n nx),(L.inB b o1 e1 hb').2⟩
 un:=by
  have nx:∀b,b ∉ X.ex:=λb=>by rw[hex];simp
  have slot:∀b o,X.s₀.heap.get? b=some o->X.H₀ b=none->b∈frs X.outer->∃sl,h'.get? b=some { o with slots:=sl }:=λb o e n hb=>by
   obtain⟨sl1,e1⟩:=I.base.slot b o e n hb (nx b);have n1:=I.base.free b o e n (nx b);obtain⟨sl2,e2⟩:=L.un.slot b _ e1 n1 (u6 hX hf hb) (by simp)
   obtain⟨_,o3,e3,nf⟩:=I.frNf b (u6 hX hf hb);rw[e1]at e3;cases e3;obtain⟨sl4,e4⟩:=sl b _ e2 nf;exact⟨sl4,e4⟩
  refine⟨λb o e n hb _=> ?_,λb o e n hb _=>slot b o e n hb,λb o e n _=> ?_,λb o e _=> ?_,λb xs e=>L.un.tups b xs (I.base.tups b xs e),λb o xs e=>L.un.frzs b o xs (I.base.frzs b o xs e),λb ps q e=>L.un.tbls b ps q (I.base.tbls b ps q e)⟩
  ·exact fl.1 b o ((L.inB b o (I.base.keep b o e n hb (nx b)) (I.old hX hf e hb)).1 (I.base.free b o e n (nx b)))
  ·obtain⟨o1,e1⟩:=I.base.there b o e (nx b);exact L.un.free b o1 e1 (I.base.free b o e n (nx b)) (by simp)
  ·by_cases hb:b∈frs X.outer
   ·obtain⟨sl1,e1⟩:=slot b o e (I.ok.frf b hb) hb;exact⟨_,e1⟩
   ·obtain⟨o1,e1⟩:=I.base.there b o e (nx b);obtain⟨o',e'⟩:=(L.inB b o1 e1 (I.old hX hf e hb)).2;exact⟨o',fl.1 b o' e'⟩
theorem u5.made (I:Inv X pins σ H s)(hX:X.stack=X.env :: X.outer)(hf:X.env.frame=some X.env.locals)(hex:X.ex=[]){vs:List Value}(hx:Heap.MadeExcOf s.heap h' ea cls vs)
  (fl:dC (hideAll s.heap (frs X.stack)) X.outer ea cls a0 h'') (sl:h'.UpToSlots h''):u5 X.prog X.w X.outer X.H₀ X.s₀ { s with heap:=h'' } ea cls a0 (hideAll s.heap (frs X.stack)) H where
 os:=I.os
 bare:=I.bare
 fly:=fl
 hok:=λa o e=>(I.hok a o e).stay (λb u hb q=>hideAll_get _ q λz=>by
   have:=I.stkFree b z;rcases hb with rfl | hb
   ·rw[e]at this;cases this
   ·rw[hb]at this;cases this) (λ_ q=>q) λ_ _ q=>q
 inB:=λb o e hb=>by
  have nx:b ∉ X.ex:=by rw[hex];simp
  obtain⟨o1,e1⟩:=I.base.there b o e nx;have hb' :=I.old hX hf e hb;exact⟨λn=>hideAll_get _ (I.base.keep b o e n hb nx) hb',o1,hideAll_get _ e1 hb'⟩
 un:=by
  have nx:∀b,b ∉ X.ex:=λb=>by rw[hex];simp
  have slot:∀b o,X.s₀.heap.get? b=some o->X.H₀ b=none->b∈frs X.outer->∃sl,h''.get? b=some { o with slots:=sl }:=λb o e n hb=>by
   obtain⟨sl1,e1⟩:=I.base.slot b o e n hb (nx b);obtain⟨_,o3,e3,nf⟩:=I.frNf b (u6 hX hf hb);rw[e1]at e3;cases e3;obtain⟨sl4,e4⟩:=sl b _ (hx.keeps b _ e1) nf;exact⟨sl4,e4⟩
  refine⟨λb o e n hb _=> ?_,λb o e n hb _=>slot b o e n hb,λb o e n _=>I.base.free b o e n (nx b),λb o e _=> ?_,I.base.tups,I.base.frzs,I.base.tbls⟩
  ·exact fl.1 b o (hideAll_get _ (I.base.keep b o e n hb (nx b)) (I.old hX hf e hb))
  ·by_cases hb:b∈frs X.outer
   ·obtain⟨sl1,e1⟩:=slot b o e (I.ok.frf b hb) hb;exact⟨_,e1⟩
   ·obtain⟨o1,e1⟩:=I.base.there b o e (nx b);exact⟨o1,fl.1 b o1 (hideAll_get _ e1 (I.old hX hf e hb))⟩
end
section
variable {P:Program}{w:World}{K:Frag}{mg:Str->Option Value}{base:Heap}{N:List Str}{qual:Str}{scope:Scope}{f:Addr}{cd:Value}{A:Around}{outer:List Env}{s:Shared}{H:Hp}{E:XK}
theorem jX:Z4 (CX1 P w) (Jf (CX1 P w) P w K mg base N qual scope f cd A outer s H E) E:=by
 intro pins σ H1 s1 e s' I ⟨ea,cls,a0,B,H',he,L,hE⟩;subst he;exact wpAny_leaves_onW (base:=B) I.ok.frames rfl L.fly λh' fl sl=>⟨ea,cls,a0,B,H',rfl,L.out I rfl rfl rfl fl sl,hE⟩
theorem yG {x:Str}{C:Addr}{bm bmN:List Value}{Bn Bb newId nid initId inN:String}{np cpos pos:Pos}{e:Expr}{t:TA}(O:OwnCls x C bm newId mg base)(Fn:ExcBaseFacts Bn newId inN bmN)(hBn:bm.contains (.type Bn)=true)(FB:ExcBaseFacts Bb nid initId bm)
  (hg:Gl (Jf (CX1 P w) P w K mg base N qual scope f cd A outer s H E) x) (ha:PA (Jf (CX1 P w) P w K mg base N qual scope f cd A outer s H E) [e] t)
  (he:starEach [e] (envOfC qual scope s.heap.objs.size f cd)=[(false,eval e (envOfC qual scope s.heap.objs.size f cd))]) (hd:(x == ("__debug__":Str))=false:=by decide):
  PS (Jf (CX1 P w) P w K mg base N qual scope f cd A outer s H E) (.Raise (some (.Call (.Name x np) [e] [] cpos)) none pos) (λ_ σ H1=>t σ H1 λvs H2=>vs.length<=sizeLine/\E (.ref C) none H2):=by
 intro pins s1 σ H1 D I hw;obtain⟨tl,N',nm,q,bs,hdct,sn,sub,ab,col,dd,k0,k1,k2,k3,k5,mN,hC,hN,hni,T⟩:=O.obj;have hp:(backTo cpos (starEach [e] (envOfC qual scope s.heap.objs.size f cd))).any (·.1)=false:=by rw[he];rfl
 refine wpAny_Raise_call_subU (C:=C) (nm:=nm) (q:=q) (N:=N') (bs:=bs) (bm:=tl) (hdct:=hdct) (sn:=sn) (sub:=sub) (ab:=ab) (col:=col) (dd:=dd) (k0:=k0) (k1:=k1) (k2:=k2) (k3:=k3) (k5:=k5)
  Fn hBn FB (mN:=mN) (T.hasType FB.hasBase) (I.ok.hd rfl) hp hni (Jv I hg O.bound ⟨rfl, ?_⟩ hd)
 have h2:=ha cpos pins s1 σ H1 _ I hw;have he' :starEach [e] (Jf (CX1 P w) P w K mg base N qual scope f cd A outer s H E).env=[(false,eval e (Jf (CX1 P w) P w K mg base N qual scope f cd A outer s H E).env)]:=he;rw[he']at h2 ⊢;refine fy (thn h2 λus s2 ⟨vs,H2,I2,r,hl,hE⟩=>⟨rfl,by rw[← r.length];exact hl,I2.bk _ _ hC,hN.keeps I2.bk,T.keeps I2.bk,λh' ea hx=> ?_⟩)
 have hin:∀env∈(Jf (CX1 P w) P w K mg base N qual scope f cd A outer s H E).stack,∀b,env.frame=some b->b∈frs (Jf (CX1 P w) P w K mg base N qual scope f cd A outer s H E).stack:=λenv he b hb=>dY.mpr ⟨env,he,hb⟩;exact wpAny_leaves_madeW (base:=hideAll s2.heap (frs (Jf (CX1 P w) P w K mg base N qual scope f cd A outer s H E).stack)) (h:=s2.heap) I2.ok.frames rfl (λb o q=>of_hideAll _ q) (funFrames_hide I2.stack hin) hx λh'' t' fl _ _ sl=>
  ⟨ea,.ref C,.ref t',_,H2,rfl,u5.made I2 rfl rfl rfl hx fl sl,hE⟩
end
end L2
namespace L2
open PySem PySem.Spec PyProof.Rows PySem.W
theorem Zi.there (x:Zi P w H h a o):∃ob,h.get? a=some ob:=by
 cases o with
 | lst xs=>obtain⟨_,_,_,_,e⟩:=x;exact⟨_,e⟩
 | tup xs=>obtain⟨_,_,_,⟨_,e,_⟩,_⟩:=x;exact⟨_,e⟩
 | dK kvs=>obtain⟨_,_,_,_,o,_,_,e,_⟩:=x;exact⟨_,e⟩
 | dT kvs=>obtain⟨_,_,_,_,o,_,_,e,_⟩:=x;exact⟨_,e⟩
 | set S n=>obtain⟨o,_,_,_,e,_⟩:=x;exact⟨_,e⟩
 | ins C dx fs=>obtain⟨_,_,_,e,_⟩:=x;exact⟨_,e⟩
 | own y=>obtain⟨_,e⟩:=x;exact⟨_,e⟩
 | xd fs=>obtain⟨_,⟨_,_,_,e,_⟩,_⟩:=x;exact⟨_,e⟩
 | rng lo hi=>obtain⟨_,_,_,e⟩:=x;exact⟨_,e⟩
 | frz ob u=>obtain⟨e,_⟩:=x;exact⟨_,e⟩
 | tbl ps q=>obtain⟨_,e,_⟩:=x;exact⟨_,e⟩
 | met f y=>exact⟨_,(show h.get? a=some _ from x)⟩
 | ext φ=>obtain⟨_,e,_⟩:=x;exact e
def u7 (cls:Value)(a:Addr)(h:Heap):Prop:=∃o,h.get? a=some o/\o.cls=cls
theorem u7.ok (x:u7 cls a h):Zi P w H h a (.ext (u7 cls a)):=
 ⟨x,let ⟨o,e,_⟩:=x;⟨o,e⟩,λ_ _ ⟨o,e,c⟩ k=>⟨o,k o e,c⟩⟩
abbrev Cx.try' (X:Cx)(pn:List (Addr×Obj))(xe:Value->Shared->Prop):Cx:={ X with pn:=pn,xe:=xe }
abbrev Cx.mark' (X:Cx)(e:Value):Cx:={ X with A:=X.A.mark (some e),calm:=false,xe:=λ_ _=>False }
section
variable {X:Cx}{pins pins' :List (Addr×Obj)}{σ:St}{H H' :Hp}{s s' :Shared}{xe:Value->Shared->Prop}
theorem Cx.Ok.try' (ok:X.Ok){pn:List (Addr×Obj)}:(X.try' pn xe).Ok:=
 ⟨ok.mod,ok.kind,ok.glob,ok.blt,ok.above,ok.inj,ok.has,ok.cab,ok.hd,ok.frames,ok.stk,ok.exf,ok.bs,ok.bsz,ok.noex,ok.exfs,ok.funs,ok.frf⟩
theorem Cx.Ok.untry {pn:List (Addr×Obj)}(ok:(X.try' pn xe).Ok):X.Ok:=
 ⟨ok.mod,ok.kind,ok.glob,ok.blt,ok.above,ok.inj,ok.has,ok.cab,ok.hd,ok.frames,ok.stk,ok.exf,ok.bs,ok.bsz,ok.noex,ok.exfs,ok.funs,ok.frf⟩
theorem Inv.try' (I:Inv X pins σ H s)(xe:Value->Shared->Prop):Inv (X.try' (X.pn++pins) xe) [] σ H s:=
 ⟨I.ok.try',I.os,I.bare,I.base,I.loc,I.cell,I.free,I.freeC,λp hp=>I.pin p (by simpa using hp),I.hok,I.len⟩
theorem Inv.untry (I:Inv (X.try' (X.pn++pins) xe) pins' σ H s):Inv X pins σ H s:=
 ⟨I.ok.untry,I.os,I.bare,I.base,I.loc,I.cell,I.free,I.freeC,λp hp=>I.pin p (db _ hp),I.hok,I.len⟩
theorem Inv.mark' (I:Inv X pins σ H s)(e:Value):Inv (X.mark' e) pins σ H s:=
 ⟨⟨I.ok.mod,I.ok.kind,I.ok.glob,I.ok.blt,I.ok.above,I.ok.inj,I.ok.has,I.ok.cab,λz=>(by cases z),I.ok.frames,I.ok.stk,I.ok.exf,I.ok.bs,I.ok.bsz,I.ok.noex,I.ok.exfs,I.ok.funs,I.ok.frf⟩,I.os,I.bare,I.base,I.loc,I.cell,I.free,I.freeC,I.pin,I.hok,I.len⟩
theorem Inv.unmark (I:Inv (X.mark' e) pins σ H s)(hd:X.calm=true->X.A.handled=none):Inv X pins σ H s:=
 ⟨⟨I.ok.mod,I.ok.kind,I.ok.glob,I.ok.blt,I.ok.above,I.ok.inj,I.ok.has,I.ok.cab,hd,I.ok.frames,I.ok.stk,I.ok.exf,I.ok.bs,I.ok.bsz,I.ok.noex,I.ok.exfs,I.ok.funs,I.ok.frf⟩,I.os,I.bare,I.base,I.loc,I.cell,I.free,I.freeC,I.pin,I.hok,I.len⟩
theorem SP.untry {D:yd}{f:Flow}(h:SP (X.try' (X.pn++pins) xe) pins' D f s'):SP X pins D f s' :=by
 cases f with
 | next=>obtain⟨σ',H',I,q⟩:=h;exact⟨σ',H',I.untry,q⟩
 | brk=>obtain⟨σ',H',I,q⟩:=h;exact⟨σ',H',I.untry,q⟩
 | cont=>obtain⟨σ',H',I,q⟩:=h;exact⟨σ',H',I.untry,q⟩
 | ret u=>obtain⟨v,σ',H',I,r,q⟩:=h;exact⟨v,σ',H',I.untry,r,q⟩
theorem Vl {i:Nat}{Q:Unit->Shared->Prop}(I:Inv X pins σ H s)(hN:X.N.Nodup)(hi:X.N[i]? =some n)(hl:X.env.kindOf n=some .local)(h:∀s',Inv X pins (σ.set i none) H s' ->Q () s'):
  wpAny M A (do bindName X.env n .none;unbindBehindTheSuite X.env n pos) Q E s:=by
 obtain⟨m,hn,hlo⟩:=id I.loc;have hcls:(X.env.scope.kind == .class || (X.env.scope.kind == .module && X.env.locals != X.env.globals))=false:=by rw[I.ok.kind];rfl
 refine wpAny_nameGoes_keeps hl hn hcls λh' v hn' hs=> ?_;obtain⟨oL,_,_,hoL,_⟩:=id hn;refine h _ ⟨I.ok,I.os,I.bare,⟨λb o e n hb hx=> ?_,λb o e n hb hx=> ?_,I.base.free,λb o e hx=> ?_,I.base.tups,I.base.frzs,I.base.tbls⟩,⟨_,hn',λj y v' e1 e2 e3=> ?_⟩,λy c e=> ?_,I.free,I.freeC,λp hp=> ?_,λb ob e=> ?_,by simpa using I.len⟩
 ·exact(hs.2 b (aL (aK (ax e) I.ok.above))).trans (I.base.keep b o e n hb hx)
 ·obtain⟨sl,e1⟩:=I.base.slot b o e n hb hx;exact⟨sl,(hs.2 b (aL (aK (ax e) I.ok.above))).trans e1⟩
 ·obtain⟨o',e1⟩:=I.base.there b o e hx;exact⟨o',(hs.2 b (aL (aK (ax e) I.ok.above))).trans e1⟩
 ·by_cases hj:j=i
  ·subst hj;have hiσ:j < σ.length:=by rw[I.len];exact(aq.mp hi).1
   rw[aV hiσ]at e2;cases e2
  ·rw[aJ (bM hj)]at e2;obtain⟨u',r',q⟩:=hlo j y v' e1 e2 e3;refine⟨u',r', ?_⟩;rcases q with ⟨k,e⟩ | ⟨k,c,e,z⟩
   ·refine .inl ⟨k, ?_⟩;have:y ≠ n:=λe=>hj (wA hN e1 (e ▸ hi));simp[this,e]
   ·exact .inr ⟨k,c,e,z.sameBut hs (I.cne y c e)⟩
 ·obtain⟨w',z⟩:=I.cell y c e;exact⟨w',z.sameBut hs (I.cne y c e)⟩
 ·obtain⟨e,n,ne,nf,d⟩:=I.pin p hp;exact⟨(hs.2 p.1 ne).trans e,n,ne,nf,d⟩
 ·refine(I.hok b ob e).stay (λc w' hc q=>(hs.2 c ?_).trans q) (λ_ q=>q) λ_ _ q=>q
  rintro rfl
  rcases hc with rfl | hc
  ·rw[I.free]at e;cases e
  ·rw[I.free]at hc;cases hc
end
section
theorem UA {K:Frag}{e:Addr}{cls c:Value}{t:Expr}{n:Str}{b₀:Stmt}{suite:List Stmt}{pos:Pos}{rest:List ExceptHandler}{Q:Flow->Shared->Prop}(hx:exmOne K cls c=some true)
  (h:wpAny (model prog w) (A.mark (some (.ref e))) (eval t env) (λv s₁=>v=c/\K.In s₁.heap/\(∃oe,s₁.heap.get? e=some oe/\oe.cls=cls)/\
   wpAny (model prog w) (A.mark (some (.ref e))) (setFlight (.ref e) none) (λ_ s₂=>
     wpAny (model prog w) (A.mark (some (.ref e))) (storeName env n (.ref e)) (λ_ s₃=>
      wpAny (model prog w) (A.mark (some (.ref e))) (execs (b₀ :: suite) env)
       (λf s₄=>wpAny (model prog w) A (do bindName env n .none;unbindBehindTheSuite env n pos) (λ_ s₅=>Q f s₅) E s₄)
       (λ_ _=>False) s₃) (λ_ _=>False) s₂) (λ_ _=>False) s₁) (λ_ _=>False) s):
  wpAny (model prog w) A (handleBy (.ref e) env (.ExceptHandler (some t) (some n) (b₀ :: suite) pos :: rest)) Q E s:=by
 refine wpAny_handleBy_cons (codeAny_handlers_test (ce h (λv s₁ h₁=> ?_) λ_ _ y=>y.elim)) (by intro q;cases q)
 obtain⟨rfl,X,⟨oe,he,hcls⟩,hk⟩:=h₁;have LT:Looks (model prog w) s₁.heap (typeOf (.ref e)) cls:=by
  rw[← hcls];exact(Looks.ld he).andThen .now
 refine(exm_one X LT hx) _ _ _ _ (λb o q=>q) (codeAny_handlers_suite_as ?_);exact ce hk (λ_ s₂ h₂=>ce h₂ (λ_ s₃ h₃=>ce h₃ (λ_ _ y=>y) λ_ _ y=>y.elim) λ_ _ y=>y.elim) λ_ _ y=>y.elim
end
end L2
namespace L2
open PySem PySem.Spec PyProof.Rows PySem.W
section
theorem Inv.caught (I:Inv X pins σ H s)(L:u5 X.prog X.w X.stack H s s' ea cls a0 B H')(fl:dC B X.stack ea cls a0 h3)(sl:s'.heap.UpToSlots h3):Inv X pins σ H' { s' with heap:=h3 }:=
 have L3:=L.on I.frNf fl sl
 I.call' (ch:=[]) L3.os L3.un (L.hok.kept fl.1) L3.bare (λb z=>absurd z (by simp))
theorem u5.fresh (L:u5 P w outer H s s' ea cls a0 B H'):H' ea=none:=by
 cases q:H' ea with
 | none=>rfl
 | some o=>
  obtain⟨ob,e⟩:=(L.hok ea o q).there;have:=L.fly.2.1;rw[e]at this;cases this
theorem Inv.caughtX (I:Inv X pins σ H s)(L:u5 X.prog X.w X.stack H s s' ea cls a0 B H')(fl:dC B X.stack ea cls a0 h3)(sl:s'.heap.UpToSlots h3):Inv X pins σ (upd H' ea (.ext (u7 cls ea))) { s' with heap:=h3 }:=by
 have L3:=L.on I.frNf fl sl;have hfree:=L.fresh;obtain⟨oe,vs,he,hc,hd,_⟩:=fl.first;have hne:∀b o,s.heap.get? b=some o->b ≠ ea:=λb o e z=>by
  subst z
  by_cases hb:b∈frs X.stack
  ·obtain⟨n,o2,e2,nf⟩:=I.frNf b hb;obtain⟨sl1,e3⟩:=L3.un.slot b o2 e2 n hb (by simp)
   have e3:h3.get? b=some { o2 with slots:=sl1 }:=e3;rw[he]at e3;cases e3;exact nf vs hd
  ·obtain⟨o',e'⟩:=(L.inB b o e hb).2;have:=L.fly.2.1;rw[e']at this;cases this
 have nt:∀b u,H' b=some u->b ≠ ea:=λb u e z=>by rw[z,hfree]at e;cases e
 refine I.call' (ch:=[]) L3.os ⟨L3.un.keep,L3.un.slot,λb o e n hx=> ?_,L3.un.there,λb xs e=> ?_,λb o xs e=> ?_,λb ps q e=> ?_⟩ ?_ L3.bare (λb z=>absurd z (by simp))
 ·rw[zn (hne b o e)];exact L3.un.free b o e n hx
 ·have:=L3.un.tups b xs e;rw[zn (nt b _ this)];exact this
 ·have:=L3.un.frzs b o xs e;rw[zn (nt b _ this)];exact this
 ·have:=L3.un.tbls b ps q e;rw[zn (nt b _ this)];exact this
 ·intro b u e
  by_cases hb:b=ea
  ·subst hb;rw[zB]at e;cases e;exact u7.ok ⟨oe,he,hc⟩
  ·rw[zn hb]at e;exact((L.hok.kept fl.1) b u e).stay (λ_ _ _ q=>q) (λc q=>by rw[zn (nt c _ q)];exact q) (λc xs q=>by rw[zn (nt c _ q)];exact q) λc o u q=>by rw[zn (nt c _ q)];exact q
end
theorem Vm {tb:XK->TS}{i k:Nat}
  (hX:X.stack=X.env :: X.outer) (hf:X.env.frame=some X.env.locals) (hN:X.N.Nodup)
  (hi:X.N[i]? =some n) (hl:X.env.scope.names.lookup n=some .local) (hk:X.N[k]? =some y) (hy:X.env.scope.names.lookup y=some .local)
  (hg:Gl X c) (hm:X.mg c=some (.ref C))
  (hb:∀(E' :XK) (pn:List (Addr×Obj)) (xe:Value->Shared->Prop),Z4 (CX1 X.prog X.w) (X.try' pn xe) E' ->PSs (X.try' pn xe) body (tb E'))
  (hs:swapsWith (.Name n np) (some (.Name y yp)) apos.line X.env=pure false:=by rfl)
  (hdc:(c == ("__debug__":Str))=false:=by decide) (hdn:(n == ("__debug__":Str))=false:=by decide) (hcd:(n == ("__classdict__":Str))=false:=by decide):
  PS X (.Try body [.ExceptHandler (some (.Name c cp)) (some n) [.Assign [.Name y yp] (.Name n np) apos] hp] [] [] pos)
   (λD σ H=>∃E' :XK,(∀(cls:Value) (d:Option Addr) (H' :Hp) (ea:Addr) (σ' :St),E' cls d H' ->exmOne X.K cls (.ref C)=some true/\(H' ea=none->σ'.length=σ.length->σ.length=X.N.length->D.nx (((σ'.set i (some (.ref ea))).set k (some (.ref ea))).set i none) (upd H' ea (.ext (u7 cls ea)))))/\tb E' D σ H):=by
 intro pins s σ H D I ⟨E',hE,hw⟩;have pass:Z4 (CX1 X.prog X.w) (X.try' (X.pn++pins) λe s1=>wpAny (model X.prog X.w) X.A (noteFrame e X.env) (λ_ s2=>wpAny (model X.prog X.w) X.A (setFlight e none) (λ_ s3=>wpAny (model X.prog X.w) X.A (handleBy e X.env [.ExceptHandler (some (.Name c cp)) (some n) [.Assign [.Name y yp] (.Name n np) apos] hp]) (SP X pins D) X.xe s3) X.xe s2) X.xe s1) E' :=by
  intro pins' σ' H1 s1 e s' I1 ⟨ea,cls,a0,B,H',he,L,hw'⟩;subst he;have I0:Inv X pins σ' H1 s1:=I1.untry;have L:u5 X.prog X.w X.stack H1 s1 s' ea cls a0 B H' :=L;have fr:X.A.frames=some (X.env :: X.outer):=by rw[← hX];exact I0.ok.frames
  show wpAny (model X.prog X.w) X.A (noteFrame (.ref ea) X.env) _ _ s';refine wpAny_looks_onW (base:=B) fr hf (hX ▸ L.fly) λh1 held sl1=> ?_;refine wpAny_landsW held λh2 fl2 sl2=> ?_;rw[← hX]at fl2;have sl12:s'.heap.UpToSlots h2:=sl1.trans sl2;have I2:=I0.caught L fl2 sl12;obtain⟨hm1,hD⟩:=hE cls none H' ea σ' hw';refine UA hm1 ?_;refine Jv (X:=X.mark' (.ref ea)) (I2.mark' (.ref ea)) hg hm ⟨rfl,I2.kIn,fl2.there, ?_⟩ hdc;refine lands_againW fl2 λh3 fl3 sl3=> ?_;have I3:=I0.caughtX L fl3 (sl12.trans sl3);have hlen:σ'.length=X.N.length:=I0.len;refine jJ (X:=X.mark' (.ref ea)) (I3.mark' _) hN hi (.inl hl) (v:= .ref ea) rfl (λs4 I4=> ?_) (.inr hl);have hiσ:i < σ'.length:=by rw[hlen];exact(aq.mp hi).1
  have hs1:=wE (wd (X:=X.mark' (.ref ea)) (pos:=apos) (pos' :=yp) hN hk (.inl hy) (vb (pos:=np) hi (.inl hl) hdn hcd) hs (.inr hy));have hr:=hs1 pins s4 _ _ { nx:=λσ5 H5=>σ5=(σ'.set i (some (.ref ea))).set k (some (.ref ea))/\H5=upd H' ea (.ext (u7 cls ea)),rt:=λ_ _=>False } I4 ⟨.ref ea,aV hiσ,rfl,rfl⟩;refine ce hr (λf s5 h5=> ?_) λ_ _ z=>z;cases f with
  | next=>
   obtain⟨σ5,H5,I5,rfl,rfl⟩:=h5;refine Vl (X:=X) (I5.unmark I.ok.hd) hN hi hl λs6 I6=> ?_;exact⟨_,_,I6,hD L.fresh (hlen.trans I.len.symm) I.len⟩
  | brk=>obtain⟨_,_,_,z⟩:=h5;exact z.elim
  | cont=>obtain⟨_,_,_,z⟩:=h5;exact z.elim
  | ret u=>obtain⟨_,_,_,_,_,z⟩:=h5;exact z.elim
 have hr:=hb E' (X.pn++pins) _ pass [] s σ H D (I.try' _) hw;refine wpAny_Try_except (ce hr (λf s1 h1=> ?_) λ_ _ z=>z);have h1:=h1.untry;cases f with
 | next=>exact wpAny_execs_nil h1
 | brk=>exact h1
 | cont=>exact h1
 | ret u=>exact h1
end L2
namespace PySem
open PySem.W
section
end
end PySem
namespace L2
open PySem PySem.Spec PyProof.Rows PySem.W
section
def kq (X:Cx)(E:XK):Prop:=∀(pins:List (Addr×Obj)) (σ:St) (H:Hp) (s:Shared) (e:Value) (s' :Shared) (C:Addr) (m:Str->Option Value) (E' :Value->Shared->Prop) (cenv:Env),Inv X pins σ H s->s.heap.Ns C m->H C=none->X.s₀.heap.objs.size<=C->C ∉ frs X.stack->cenv.frame=X.env.frame->CX1 X.prog X.w X.stack H s E e s' ->
 wpAny (model X.prog X.w) X.A (noteFrame e cenv) (λ_ s'' =>∃m,s''.heap.Ns C m/\∀h',cD C s''.heap h' ->∀env:Env,env.locals=C->wpAny (model X.prog X.w) X.A (passOn "comprehension.variables-let-go" e env:Sem Value) (λ_ _=>False) X.xe { s'' with heap:=h' }) E' s'
theorem wj (h:E=λ_ _ _=>False):kq X E:=λpins σ H s e s' C m E' cenv I _ _ _ _ _ ⟨_,_,_,_,_,_,_,z⟩=>by subst h;exact z.elim
end
end L2
namespace L2
open PySem PySem.Spec PyProof.Rows
theorem PE.imp (h:PE X e t)(i:∀σ H Q,t' σ H Q->t σ H Q):PE X e t' :=λpins s σ H Q I q=>h pins s σ H Q I (i σ H Q q)
theorem PT.imp (h:PT X e t)(i:∀σ H Q,t' σ H Q->t σ H Q):PT X e t' :=λpins s σ H Q I q=>h pins s σ H Q I (i σ H Q q)
theorem PA.imp (h:PA X e t)(i:∀σ H Q,t' σ H Q->t σ H Q):PA X e t' :=λpos pins s σ H Q I q=>h pos pins s σ H Q I (i σ H Q q)
theorem PS.imp (h:PS X e t)(i:∀D σ H,t' D σ H->t D σ H):PS X e t' :=λpins s σ H D I q=>h pins s σ H D I (i D σ H q)
theorem PSs.imp (h:PSs X e t)(i:∀D σ H,t' D σ H->t D σ H):PSs X e t' :=λpins s σ H D I q=>h pins s σ H D I (i D σ H q)
end L2
namespace PV
open PySem
def Wp:Expr->Bool
 | .Starred _ _=>false
 | _=>true
theorem zw (h:Wp e=true):starEach (e :: rest) env=(false,eval e env) :: starEach rest env:=by
 cases e <;> first | rfl | cases h
theorem st2 (h:Wp a=true)(h' :Wp b=true):starEach [a,b] env=[(false,eval a env),(false,eval b env)]:=by
 rw[zw h,zw h'];rfl
theorem st1 (h:Wp a=true):starEach [a] env=[(false,eval a env)]:=by
 rw[zw h];rfl
theorem zQ {pos:Pos}{env:Env}:∀{es:List Expr},es.all Wp=true->((backTo pos (starEach es env)).any λx=>x.fst)=false
 | [],_=>rfl
 | e :: es,h=>by
  rw[bW,ak]at h;rw[zw h.1];have:=zQ (pos:=pos) (env:=env) h.2;show (false || ((backTo pos (starEach es env)).any λx=>x.fst))=false
  rw[this];rfl
open PySem PySem.Spec PyProof.Rows L2
abbrev Sg:=L2.St
inductive T where
 | non | bl (b:Bool) | int (i:Int) | str (x:Str) | tup (xs:List T) | lst (xs:List T) | fz (xs:List T)
inductive R (α:Type) where
 | ok (a:α) | ex (c:Nat) | bad
def R.bind {α β:Type}(r:R α)(f:α->R β):R β:=match r with
 | .ok a=>f a
 | .ex c=> .ex c
 | .bad=> .bad
mutual
inductive Rep (H:Hp):V->T->Prop where
 | non:Rep H .non .non
 | bl (b:Bool):Rep H (.bl b) (.bl b)
 | int (i:Int):Rep H (.int i) (.int i)
 | str (x:Str):Rep H (.str x) (.str x)
 | tup {a:Addr} {xs:List V} {ts:List T}:H a=some (.tup xs)->zz H xs ts->Rep H (.ref a) (.tup ts)
 | lst {a:Addr} {xs:List V} {ts:List T}:H a=some (.lst xs)->zz H xs ts->Rep H (.ref a) (.lst ts)
 | fz {a:Addr} {o:Obj} {xs:List V} {ts:List T}:H a=some (.frz o (.lst xs))->zz H xs ts->Rep H (.ref a) (.fz ts)
inductive zz (H:Hp):List V->List T->Prop where
 | nil:zz H [] []
 | cons {v:V} {t:T} {vs:List V} {ts:List T}:Rep H v t->zz H vs ts->zz H (v :: vs) (t :: ts)
end
mutual
theorem Rep.mono {H H' :Hp}(s:zl H H'):∀{v:V} {t:T},Rep H v t->Rep H' v t
 | _,_,.non=> .non
 | _,_,.bl b=> .bl b
 | _,_,.int i=> .int i
 | _,_,.str x=> .str x
 | _,_,.tup h r=> .tup (s _ _ h) (zz.mono s r)
 | _,_,.lst h r=> .lst (s _ _ h) (zz.mono s r)
 | _,_,.fz h r=> .fz (s _ _ h) (zz.mono s r)
theorem zz.mono {H H' :Hp}(s:zl H H'):∀{v:List V} {t:List T},zz H v t->zz H' v t
 | _,_,.nil=> .nil
 | _,_,.cons h r=> .cons (Rep.mono s h) (zz.mono s r)
end
theorem zz.length {H:Hp}:∀{vs:List V} {ts:List T},zz H vs ts->vs.length=ts.length
 | _,_,.nil=>rfl
 | _,_,.cons _ r=>congrArg (·+1) (zz.length r)
theorem zz.get {H:Hp}:∀{vs:List V} {ts:List T} {i:Nat} {t:T},zz H vs ts->ts[i]? =some t->∃v,vs[i]? =some v/\Rep H v t
 | _,_,_,_,.nil,e=>by simp at e
 | _,_,0,_,.cons r _,e=>by simp at e;subst e;exact⟨_,rfl,r⟩
 | _,_,i+1,t,.cons _ q,e=>by
  obtain⟨v,h1,h2⟩:=zz.get (i:=i) (t:=t) q (by simpa using e)
  exact⟨v,by simpa using h1,h2⟩
theorem zz.getV {H:Hp}:∀{vs:List V} {ts:List T} {i:Nat} {v:V},zz H vs ts->vs[i]? =some v->∃t,ts[i]? =some t/\Rep H v t
 | _,_,_,_,.nil,e=>by simp at e
 | _,_,0,_,.cons r _,e=>by simp at e;subst e;exact⟨_,rfl,r⟩
 | _,_,i+1,v,.cons _ q,e=>by
  obtain⟨t,h1,h2⟩:=zz.getV (i:=i) (v:=v) q (by simpa using e)
  exact⟨t,by simpa using h1,h2⟩
theorem zz.append {H:Hp}:∀{vs ws:List V} {ts us:List T},zz H vs ts->zz H ws us->zz H (vs++ws) (ts++us)
 | _,_,_,_,.nil,q=>q
 | _,_,_,_,.cons r t,q=> .cons r (zz.append t q)
theorem zz.take {H:Hp}:∀{vs:List V} {ts:List T} (n:Nat),zz H vs ts->zz H (vs.take n) (ts.take n)
 | _,_,0,_=> .nil
 | _,_,_+1,.nil=> .nil
 | _,_,n+1,.cons r t=> .cons r (zz.take n t)
theorem zz.drop {H:Hp}:∀{vs:List V} {ts:List T} (n:Nat),zz H vs ts->zz H (vs.drop n) (ts.drop n)
 | _,_,0,r=>r
 | _,_,_+1,.nil=> .nil
 | _,_,n+1,.cons _ t=>zz.drop n t
theorem zz.rep {H:Hp}{vs:List V}{ts:List T}(h:zz H vs ts):∀n:Nat,zz H (ad n vs).flatten (ad n ts).flatten
 | 0=> .nil
 | n+1=>by
  rw[aU,aU,c8,c8];exact h.append (zz.rep h n)
theorem zz.nil_iff (h:zz H vs ts):vs=[]↔ts=[]:=by
 cases h <;> simp
def zE (B H H' :Hp):Hp:=λb=>match H b with
 | none=>H' b
 | some _=>B b
theorem Z0 (h:H b=none):zE B H H' b=H' b:=by unfold zE;rw[h]
theorem Z7 (h:H b=some o):zE B H H' b=B b:=by unfold zE;rw[h]
theorem zE.ge (s:zl B H)(s' :zl H H'):zl B (zE B H H'):=λb o h=>by
 rw[Z7 (s b o h)];exact h
theorem zE.le (s:zl B H)(s' :zl H H'):zl (zE B H H') H' :=λb o h=>by
 cases q:H b with
 | none=>rw[Z0 q]at h;exact h
 | some u=>rw[Z7 q]at h;exact s' b o (s b o h)
theorem zE.self (B H:Hp)(s:zl B H):zE B H H=B:=by
 funext b
 cases q:H b with
 | none=>
  rw[Z0 q,q];cases z:B b with
  | none=>rfl
  | some o=>rw[s b o z]at q;cases q
 | some u=>rw[Z7 q]
theorem zE.trans (s1:zl H H1)(s2:zl H1 H2):zE (zE B H H1) H1 H2=zE B H H2:=by
 funext b
 cases q:H b with
 | none=>
  rw[Z0 q];cases z:H1 b with
  | none=>rw[Z0 z]
  | some o=>rw[Z7 z,Z0 q,z,s2 b o z]
 | some u=>rw[Z7 q,Z7 (s1 b u q),Z7 q]
inductive Fd where
 | tv (t:T) | tl (ts:List T)
abbrev Ob:=Nat×List (Str×Fd)
def Xl:List Str:=["kind","remaining","done","undone","first","last","answered"]
def InC (vs:List (Str×V)):Prop:=∀f,f ∉ Xl->vs.lookup f=none
inductive Sl where
 | un | vl (t:T) | ow (ts:List T) | xc (c:Nat) | ob (k n:Nat) | oc (k:Nat) (fs:List (Str×Fd)) | st (os:List Ob)
def Sl.isS:Sl->Bool
 | .ob _ _=>true
 | .st _=>true
 | _=>false
def Sl.isO:Sl->Bool
 | .ob _ _=>true
 | .oc _ _=>true
 | .st _=>true
 | _=>false
abbrev En:=List Sl
structure Fx where
 B0:Hp
 H0:Hp
 E:XK
 cl:Nat->Value
 as:List Addr
def UB (ρ:En)(σ:Sg)(l:Addr):Prop:=∀(j:Nat) (us:List T),ρ[j]? =some (Sl.ow us)->σ[j]? ≠ some (some (V.ref l))
def FdR (Y:Fx)(B:Hp)(ρ:En)(σ:Sg)(H:Hp)(o:Addr->Prop)(v:V):Fd->Prop
 | .tv t=>Rep B v t
 | .tl ts=>∃l xs,v= .ref l/\B l=none/\Y.H0 l=none/\H l=some (.lst xs)/\zz B xs ts/\UB ρ σ l/\o l
def FsO (B H:Hp)(vs:List (Str×V))(fs:List (Str×Fd)):Prop:=∀(m:Nat) (f:Str) (d:Fd),fs[m]? =some (f,d)->∃v,vs[m]? =some (f,v)/\match d with
 | .tv t=>Rep B v t
 | .tl ts=>∃l xs,v= .ref l/\H l=some (.lst xs)/\zz B xs ts
theorem FsO.mono {B B' H H' :Hp}{vs:List (Str×V)}{fs:List (Str×Fd)}(h:FsO B H vs fs)(s:zl B B')(s' :zl H H'):FsO B' H' vs fs:=λm f d e=>by
 obtain⟨v,e1,r⟩:=h m f d e;refine⟨v,e1, ?_⟩;cases d with
 | tv t=>exact Rep.mono s r
 | tl ts=>obtain⟨l,xs,a,b,c⟩:=r;exact⟨l,xs,a,s' _ _ b,c.mono s⟩
structure StI (Y:Fx) (B:Hp) (ρ:En) (σ:Sg) (H:Hp) (as:List Addr) (O:Addr->Option (Nat×Nat)):Prop where
 pre:Y.as <+:as
 len:∀(i:Nat) (os:List Ob),ρ[i]? =some (Sl.st os)->as.length=os.length
 one:∀(i j:Nat) (os os' :List Ob),ρ[i]? =some (Sl.st os)->ρ[j]? =some (Sl.st os')->i=j
 ob:∀(i k n:Nat),ρ[i]? =some (Sl.ob k n)->∃a C dx vs,as[n]? =some a/\σ[i]? =some (some (V.ref a))/\Y.cl k= .ref C/\H a=some (.ins C dx vs)/\B a=none/\Y.H0 a=none/\InC vs
 oc:∀(i k:Nat) (fs:List (Str×Fd)),ρ[i]? =some (Sl.oc k fs)->∃a C dx vs,σ[i]? =some (some (V.ref a))/\Y.cl k= .ref C/\Y.H0 a=some (.ins C dx vs)/\InC vs/\FsO B Y.H0 vs fs
 st:∀(i:Nat) (os:List Ob),ρ[i]? =some (Sl.st os)->∀(n k:Nat) (fs:List (Str×Fd)),os[n]? =some (k,fs)->∃a C dx vs,as[n]? =some a/\Y.cl k= .ref C/\H a=some (.ins C dx vs)/\B a=none/\Y.H0 a=none/\O a=some (n,0)/\(vs.length=fs.length/\InC vs)/\
  ∀(m:Nat) (f:Str) (d:Fd),fs[m]? =some (f,d)->∃v,vs[m]? =some (f,v)/\FdR Y B ρ σ H (λl=>O l=some (n,m+1)) v d
structure SI (Y:Fx) (B:Hp) (ρ:En) (σ:Sg) (H:Hp):Prop where
 s0:zl Y.B0 Y.H0
 sH:zl Y.H0 H
 sB:zl B H
 old:∀b o,Y.H0 b=some o->B b=Y.B0 b
 len:ρ.length=σ.length
 vl:∀(i:Nat) (t:T),ρ[i]? =some (Sl.vl t)->∃v:V,σ[i]? =some (some v)/\Rep B v t
 ow:∀(i:Nat) (ts:List T),ρ[i]? =some (Sl.ow ts)->∃(a:Addr) (xs:List V),σ[i]? =some (some (V.ref a))/\B a=none/\Y.H0 a=none/\H a=some (.lst xs)/\zz B xs ts/\
  ∀(j:Nat) (us:List T),j ≠ i->ρ[j]? =some (Sl.ow us)->σ[j]? ≠ some (some (V.ref a))
 xc:∀(i:Nat) (c:Nat),ρ[i]? =some (Sl.xc c)->∃a:Addr,σ[i]? =some (some (V.ref a))/\B a=some (.ext (u7 (Y.cl c) a))
 st:∃as O,StI Y B ρ σ H as O
theorem StI.on {Y Y' :Fx}{B B' :Hp}{ρ ρ' :En}{σ σ' :Sg}{H H' :Hp}{as:List Addr}{O:Addr->Option (Nat×Nat)}(x:StI Y B ρ σ H as O)(hO:∀(i:Nat) (s:Sl),s.isO=true->ρ'[i]? =some s->ρ[i]? =some s/\σ'[i]? =σ[i]?)(hB:zl B B')(hc:Y'.cl=Y.cl)(hA:Y'.as=Y.as)(h0:zl Y.H0 Y'.H0)
  (hH:∀b o,H b=some o->B b=none->Y.H0 b=none->((∃C dx vs,o= .ins C dx vs)\/UB ρ σ b)->H' b=some o/\B' b=none/\Y'.H0 b=none/\(UB ρ σ b->UB ρ' σ' b)):StI Y' B' ρ' σ' H' as O where
 pre:=by rw[hA];exact x.pre
 len:=λi os h=>x.len i os (hO i _ rfl h).1
 one:=λi j os os' h1 h2=>x.one i j os os' (hO i _ rfl h1).1 (hO j _ rfl h2).1
 ob:=λi k n h=>by
  obtain⟨h1,h2⟩:=hO i _ rfl h;obtain⟨a,C,dx,vs,e1,e2,e3,e4,e5,e6⟩:=x.ob i k n h1;obtain⟨g1,g2,g3,_⟩:=hH a _ e4 e5 e6.1 (.inl ⟨_,_,_,rfl⟩);rw[h2,hc];exact⟨a,C,dx,vs,e1,e2,e3,g1,g2,g3,e6.2⟩
 oc:=λi k fs h=>by
  obtain⟨h1,h2⟩:=hO i _ rfl h;obtain⟨a,C,dx,vs,e1,e2,e3,e4,e5⟩:=x.oc i k fs h1;rw[h2,hc];exact⟨a,C,dx,vs,e1,e2,h0 _ _ e3,e4,e5.mono hB h0⟩
 st:=λi os h n k fs e=>by
  obtain⟨a,C,dx,vs,e1,e2,e3,e4,e5,e6,e7,e8⟩:=x.st i os (hO i _ rfl h).1 n k fs e;obtain⟨g1,g2,g3,_⟩:=hH a _ e3 e4 e5 (.inl ⟨_,_,_,rfl⟩);refine⟨a,C,dx,vs,e1,by rw[hc];exact e2,g1,g2,g3,e6,e7,λm f d z=> ?_⟩
  obtain⟨v,z1,z2⟩:=e8 m f d z;refine⟨v,z1, ?_⟩;cases d with
  | tv t=>exact Rep.mono hB z2
  | tl ts=>
   obtain⟨l,xs,p1,p2,p3,p4,p5,p6,p7⟩:=z2;obtain⟨g1,g2,g3,g4⟩:=hH l _ p4 p2 p3 (.inr p6);exact⟨l,xs,p1,g2,g3,g1,p5.mono hB,g4 p6,p7⟩
theorem StI.no (h:∀(i:Nat) (s:Sl),s.isO=true->ρ[i]? ≠ some s):∃as O,StI Y B ρ σ H as O:=⟨Y.as,λ_=>none,cK _,λi os e=>(h i _ rfl e).elim,λi j os os' e=>(h i _ rfl e).elim,λi k n e=>(h i _ rfl e).elim,λi k fs e=>(h i _ rfl e).elim,λi os e=>(h i _ rfl e).elim⟩
theorem SI.grow {Y:Fx}{B:Hp}{ρ:En}{σ:Sg}{H H' :Hp}(I:SI Y B ρ σ H)(s:zl H H'):SI Y (zE B H H') ρ σ H' where
 s0:=I.s0
 sH:=I.sH.trans s
 sB:=zE.le I.sB s
 old:=λb o h=>by rw[Z7 (I.sH b o h)];exact I.old b o h
 len:=I.len
 vl:=λi t h=>let ⟨v,e,r⟩:=I.vl i t h;⟨v,e,r.mono (zE.ge I.sB s)⟩
 ow:=λi ts h=>let ⟨a,xs,e,b,h0,hh,r,d⟩:=I.ow i ts h;⟨a,xs,e,by rw[Z7 hh];exact b,h0,s _ _ hh,r.mono (zE.ge I.sB s),d⟩
 xc:=λi c h=>let ⟨a,e,r⟩:=I.xc i c h;⟨a,e,zE.ge I.sB s a _ r⟩
 st:=let ⟨as,O,x⟩:=I.st;⟨as,O,x.on (λ_ _ _ h=>⟨h,rfl⟩) (zE.ge I.sB s) rfl rfl (zl.refl _) λb o h hb h0 _=>⟨s _ _ h,by rw[Z7 h];exact hb,h0,id⟩⟩
def XP (Y:Fx)(B:Hp)(c:Nat):Prop:=∀(d:Option Addr) (H' :Hp),zl Y.H0 H' ->zl B H' ->Y.E (Y.cl c) d H'
def Po {α β:Type}(Y:Fx)(rel:Hp->Hp->β->α->Prop)(B H:Hp)(r:R α)(Q:β->Hp->Prop):Prop:=match r with
 | .ok a=>∀b H',zl H H' ->rel (zE B H H') H' b a->Q b H'
 | .ex c=>XP Y B c
 | .bad=>False
abbrev rC:Hp->Hp->V->T->Prop:=λB _ v t=>Rep B v t
abbrev rB:Hp->Hp->V->T->Prop:=λ_ H v t=>Rep H v t
abbrev rCs:Hp->Hp->List V->List T->Prop:=λB _ v t=>zz B v t
abbrev rE {α:Type}:Hp->Hp->α->α->Prop:=λ_ _ a b=>a=b
def tS {α β:Type}(Y:Fx)(rel:Hp->Hp->β->α->Prop)(f:En->R α)(ρ:En):Sg->Hp->(β->Hp->Prop)->Prop:=λσ H Q=>∃B,SI Y B ρ σ H/\Po Y rel B H (f ρ) Q
structure Snd (X:Cx) (Y:Fx) (e:Expr) (f:En->R T):Prop where
 mk ::
 go:∀ρ,PE X e (tS Y rC f ρ)
instance {X:Cx}{Y:Fx}{e:Expr}{f:En->R T}:CoeFun (Snd X Y e f) λ_=>∀ρ,PE X e (tS Y rC f ρ):=⟨Snd.go⟩
structure jx (X:Cx) (Y:Fx) (e:Expr) (f:En->R T):Prop where
 mk ::
 go:∀ρ,PE X e (tS Y rB f ρ)
instance {X:Cx}{Y:Fx}{e:Expr}{f:En->R T}:CoeFun (jx X Y e f) λ_=>∀ρ,PE X e (tS Y rB f ρ):=⟨jx.go⟩
structure wJ (X:Cx) (Y:Fx) (e:Expr) (f:En->R Bool):Prop where
 mk ::
 go:∀ρ,PT X e (tS Y rE f ρ)
instance {X:Cx}{Y:Fx}{e:Expr}{f:En->R Bool}:CoeFun (wJ X Y e f) λ_=>∀ρ,PT X e (tS Y rE f ρ):=⟨wJ.go⟩
structure JB (X:Cx) (Y:Fx) (es:List Expr) (f:En->R (List T)):Prop where
 mk ::
 go:∀ρ,PA X es (tS Y rCs f ρ)
instance {X:Cx}{Y:Fx}{es:List Expr}{f:En->R (List T)}:CoeFun (JB X Y es f) λ_=>∀ρ,PA X es (tS Y rCs f ρ):=⟨JB.go⟩
theorem step {α α' β β' :Type}{rel:Hp->Hp->β->α->Prop}{rel' :Hp->Hp->β' ->α' ->Prop}{f:En->R α}{k:α->R α'}{Q:β' ->Hp->Prop}{K:β->Hp->Prop}
  (I:SI Y B ρ σ H) (h:Po Y rel' B H ((f ρ).bind k) Q)
  (n:∀a b H1,f ρ= .ok a->zl H H1->rel (zE B H H1) H1 b a->SI Y (zE B H H1) ρ σ H1->Po Y rel' (zE B H H1) H1 (k a) Q->K b H1):tS Y rel f ρ σ H K:=by
 refine⟨B,I, ?_⟩;cases e:f ρ with
 | bad=>rw[e]at h;exact h
 | ex c=>rw[e]at h;exact h
 | ok a=>
  rw[e]at h;intro b H1 s r;refine n a b H1 e s r (I.grow s) ?_;have h' :Po Y rel' B H (k a) Q:=h;revert h';cases k a with
  | bad=>exact λh' =>h'
  | ex c=>exact λh' d H' s0 sB' =>h' d H' s0 ((zE.ge I.sB s).trans sB')
  | ok a' =>exact λh' b' H2 s2 r2=>h' b' H2 (s.trans s2) (by rw[← zE.trans s s2];exact r2)
theorem ZC {α β:Type}{rel:Hp->Hp->β->α->Prop}{a:α}{b:β}{Q:β->Hp->Prop}(I:SI Y B ρ σ H)(h:Po Y rel B H (.ok a) Q)(r:rel B H b a):Q b H:=h b H (zl.refl H) (by rw[zE.self B H I.sB];exact r)
theorem Snd.b {X:Cx}{Y:Fx}{e:Expr}{f:En->R T}(h:Snd X Y e f):jx X Y e f:= .mk λρ=>PE.imp (h ρ) λσ H Q ⟨B,I,q⟩=>⟨B,I,by
 revert q;cases f ρ with
 | bad=>exact λq=>q
 | ex c=>exact λq=>q
 | ok a=>exact λq b H' s r=>q b H' s (r.mono (zE.le I.sB s))⟩
section
def vE (i:Nat):En->R T:=λρ=>match ρ[i]? with
 | some (.vl t)=> .ok t
 | _=> .bad
def vB (i:Nat):En->R T:=λρ=>match ρ[i]? with
 | some (.vl t)=> .ok t
 | some (.ow ts)=> .ok (.lst ts)
 | _=> .bad
def cE (t:T):En->R T:=λ_=> .ok t
theorem z01 (i:Nat)(h:PE X (.Name x pos) (wC i)):Snd X Y (.Name x pos) (vE i):= .mk λρ=>PE.imp h λσ H Q ⟨B,I,q⟩=>by
 unfold vE at q;split at q
 ·rename_i t e;obtain⟨v,e1,r⟩:=I.vl i t e;exact⟨v,e1,ZC I q r⟩
 ·exact q.elim
theorem ku (i:Nat){x:Str}(h:PE X (.Name x pos) (wC i)):jx X Y (.Name x pos) (vB i):= .mk λρ=>PE.imp h λσ H Q ⟨B,I,q⟩=>by
 unfold vB at q;split at q
 ·rename_i t e;obtain⟨v,e1,r⟩:=I.vl i t e;exact⟨v,e1,ZC I q (r.mono I.sB)⟩
 ·rename_i ts e;obtain⟨a,xs,e1,_,_,hh,r,_⟩:=I.ow i ts e;exact⟨.ref a,e1,ZC I q (.lst hh (r.mono I.sB))⟩
 ·exact q.elim
theorem z02 {i j}:Snd X Y (.Constant (.int i) j pos) (cE (.int i)):= .mk λρ=>PE.imp XJ λσ H Q ⟨B,I,q⟩=>ZC I q (.int i)
theorem s_bl {i j}:Snd X Y (.Constant (.bool i) j pos) (cE (.bl i)):= .mk λρ=>PE.imp GD λσ H Q ⟨B,I,q⟩=>ZC I q (.bl i)
theorem z03 {j}:Snd X Y (.Constant .none j pos) (cE .non):= .mk λρ=>PE.imp vc λσ H Q ⟨B,I,q⟩=>ZC I q .non
theorem kv {i j}:Snd X Y (.Constant (.str i) j pos) (cE (.str i)):= .mk λρ=>PE.imp vd λσ H Q ⟨B,I,q⟩=>ZC I q (.str i)
def zf:En->R (List T):=λ_=> .ok []
def za (f:En->R T)(g:En->R (List T)):En->R (List T):=λρ=>(f ρ).bind λt=>(g ρ).bind λts=> .ok (t :: ts)
theorem kx:JB X Y [] zf:= .mk λρ=>PA.imp Z6 λσ H Q ⟨B,I,q⟩=>ZC I q .nil
theorem vj {es:List Expr}{g:En->R (List T)}(h:Snd X Y a fa)(hs:JB X Y es g)(hq:starEach (a :: es) X.env=(false,eval a X.env) :: starEach es X.env:=by exact zw rfl):JB X Y (a :: es) (za fa g):= .mk λρ=>
 PA.imp (zq (h ρ) (hs ρ) hq) λσ H Q ⟨B,I,q⟩=>step I q λt v H1 _ s1 r1 I1 q1=>step I1 q1 λts vs H2 _ s2 r2 I2 q2=>ZC I2 q2 (.cons (r1.mono (zE.ge I1.sB s2)) r2)
theorem zl.new (h:H p=none)(o:HO):zl H (upd H p o):=λb u q=>by rw[zn (zC q h)];exact q
theorem jY (h:H p=none)(o:HO):zE B H (upd H p o) p=some o:=by rw[Z0 h,zB]
def bnd:Nat:=16777216
theorem ZN {n:Nat}(h:n<=bnd):n<=sizeLine:=by rw[bY];exact h
def Zd (g:En->R (List T)):En->R T:=λρ=>(g ρ).bind λts=>if ts.length<=bnd then .ok (.tup ts) else .bad
def ZE (g:En->R (List T)):En->R T:=λρ=>(g ρ).bind λts=>if ts.length<=bnd then .ok (.lst ts) else .bad
theorem Vn {ρ:En}{σ:Sg}{B H:Hp}{xs:List V}{ts:List T}(I:SI Y B ρ σ H)(r:zz B xs ts){p:Addr}(h:H p=none):Rep (zE B H (upd H p (.tup xs))) (.ref p) (.tup ts):=
 .tup (jY h _) (r.mono (zE.ge I.sB (zl.new h _)))
theorem Vo {ρ:En}{σ:Sg}{B H:Hp}{xs:List V}{ts:List T}(I:SI Y B ρ σ H)(r:zz B xs ts){p:Addr}(h:H p=none):Rep (zE B H (upd H p (.lst xs))) (.ref p) (.lst ts):=
 .lst (jY h _) (r.mono (zE.ge I.sB (zl.new h _)))
theorem z04 {es:List Expr}{g:En->R (List T)}{x1}(h:JB X Y es g):Snd X Y (.Tuple es x1 pos) (Zd g):= .mk λρ=>PE.imp (kb (h ρ)) λσ H Q ⟨B,I,q⟩=>
 step I q λts vs H1 _ s1 r1 I1 q1=>by
  split at q1
  ·rename_i hb;refine⟨by rw[r1.length];exact ZN hb,λp hp=>q1 _ _ (zl.new hp _) (Vn I1 r1 hp)⟩
  ·exact q1.elim
theorem z05 {es:List Expr}{g:En->R (List T)}(h:JB X Y es g):Snd X Y (.List es pos) (ZE g):= .mk λρ=>PE.imp (vf (h ρ)) λσ H Q ⟨B,I,q⟩=>
 step I q λts vs H1 _ s1 r1 I1 q1=>by
  split at q1
  ·rename_i hb;refine⟨by rw[r1.length];exact ZN hb,λp hp=>q1 _ _ (zl.new hp _) (Vo I1 r1 hp)⟩
  ·exact q1.elim
end
end PV
namespace PV
open PySem PySem.Spec PyProof.Rows L2
def eqL (f:T->T->Option Bool):List T->List T->Option Bool
 | [],[]=>some true
 | [],_ :: _=>some false
 | _ :: _,[]=>some false
 | x :: xs,y :: ys=>match f x y with
  | none=>none
  | some b=>match eqL f xs ys with
   | none=>none
   | some c=>some (b && c)
def b2 (b:Bool):Int:=if b then 1 else 0
def eqF:Nat->T->T->Option Bool
 | _,.non,.non=>some true
 | _,.bl a,.bl b=>some (a == b)
 | _,.bl a,.int j=>some (b2 a == j)
 | _,.int i,.bl b=>some (i == b2 b)
 | _,.int i,.int j=>some (i == j)
 | _,.str x,.str y=>some (x == y)
 | n+1,.tup xs,.tup ys=>eqL (eqF n) xs ys
 | n+1,.lst xs,.lst ys=>eqL (eqF n) xs ys
 | n+1,.fz xs,.lst ys=>eqL (eqF n) xs ys
 | n+1,.lst xs,.fz ys=>eqL (eqF n) xs ys
 | n+1,.fz xs,.fz ys=>eqL (eqF n) xs ys
 | 0,.tup _,.tup _=>none
 | 0,.lst _,.lst _=>none
 | 0,.fz _,.lst _=>none
 | 0,.lst _,.fz _=>none
 | 0,.fz _,.fz _=>none
 | _,.non,_=>some false
 | _,.bl _,_=>some false
 | _,.int _,_=>some false
 | _,.str _,_=>some false
 | _,.tup _,_=>some false
 | _,.lst _,_=>some false
 | _,.fz _,_=>some false
mutual
theorem Rep.fn {H:Hp}:∀{v:V} {t t' :T},Rep H v t->Rep H v t' ->t=t'
 | _,_,_,.non,.non=>rfl
 | _,_,_,.bl _,.bl _=>rfl
 | _,_,_,.int _,.int _=>rfl
 | _,_,_,.str _,.str _=>rfl
 | _,_,_,.tup h r,.tup h' r' =>by
  rw[h]at h';cases h';rw[zz.fn r r']
 | _,_,_,.tup h r,.lst h' r' =>by rw[h]at h';cases h'
 | _,_,_,.tup h r,.fz h' r' =>by rw[h]at h';cases h'
 | _,_,_,.lst h r,.tup h' r' =>by rw[h]at h';cases h'
 | _,_,_,.lst h r,.lst h' r' =>by
  rw[h]at h';cases h';rw[zz.fn r r']
 | _,_,_,.lst h r,.fz h' r' =>by rw[h]at h';cases h'
 | _,_,_,.fz h r,.tup h' r' =>by rw[h]at h';cases h'
 | _,_,_,.fz h r,.lst h' r' =>by rw[h]at h';cases h'
 | _,_,_,.fz h r,.fz h' r' =>by
  rw[h]at h';cases h';rw[zz.fn r r']
theorem zz.fn {H:Hp}:∀{v:List V} {t t' :List T},zz H v t->zz H v t' ->t=t'
 | _,_,_,.nil,.nil=>rfl
 | _,_,_,.cons h r,.cons h' r' =>by rw[Rep.fn h h',zz.fn r r']
end
theorem Zw {f:T->T->Option Bool}(hf:∀x b,f x x=some b->b=true):∀(xs:List T) (b:Bool),eqL f xs xs=some b->b=true
 | [],b,h=>by
  have h' :some true=some b:=h;cases h';rfl
 | x :: xs,b,h=>by
  unfold eqL at h;cases e:f x x with
  | none=>rw[e]at h;cases h
  | some c=>
   rw[e]at h;cases e' :eqL f xs xs with
   | none=>rw[e']at h;cases h
   | some d=>
    rw[e']at h;cases h;rw[hf x c e,Zw hf xs d e'];rfl
theorem Zh:∀(n:Nat) (t:T) (b:Bool),eqF n t t=some b->b=true
 | n,.non,b,h=>by unfold eqF at h;cases h;rfl
 | n,.bl x,b,h=>by unfold eqF at h;cases h;simp
 | n,.int x,b,h=>by unfold eqF at h;cases h;simp
 | n,.str x,b,h=>by unfold eqF at h;cases h;simp
 | 0,.tup x,b,h=>by unfold eqF at h;cases h
 | 0,.lst x,b,h=>by unfold eqF at h;cases h
 | 0,.fz x,b,h=>by unfold eqF at h;cases h
 | n+1,.tup x,b,h=>by unfold eqF at h;exact Zw (Zh n) x b h
 | n+1,.lst x,b,h=>by unfold eqF at h;exact Zw (Zh n) x b h
 | n+1,.fz x,b,h=>by unfold eqF at h;exact Zw (Zh n) x b h
theorem yH {f:T->T->Option Bool}:∀{xs ys:List T} {b:Bool},eqL f xs ys=some b->
  ∃e:Nat->Bool,(∀j x y,xs[j]? =some x->ys[j]? =some y->f x y=some (e j))/\((aW (min xs.length ys.length)).all e && xs.length == ys.length)=b
 | [],[],b,h=>by
  have h' :some true=some b:=h;cases h';exact⟨λ_=>true,λj x y h=>by simp at h,by simp⟩
 | [],y :: ys,b,h=>by
  have h' :some false=some b:=h;cases h';exact⟨λ_=>true,λj x y h=>by simp at h,by simp⟩
 | x :: xs,[],b,h=>by
  have h' :some false=some b:=h;cases h';exact⟨λ_=>true,λj x y h h' =>by simp at h',by simp⟩
 | x :: xs,y :: ys,b,h=>by
  unfold eqL at h;cases e:f x y with
  | none=>rw[e]at h;cases h
  | some c=>
   rw[e]at h;cases e' :eqL f xs ys with
   | none=>rw[e']at h;cases h
   | some d=>
    rw[e']at h;cases h;obtain⟨g,h1,h2⟩:=yH e';refine⟨λj=>match j with | 0=>c | j+1=>g j,λj u v hu hv=> ?_, ?_⟩
    ·cases j with
     | zero=>simp at hu hv;subst hu hv;exact e
     | succ j=>exact h1 j u v (by simpa using hu) (by simpa using hv)
    ·have z:min (x :: xs).length (y :: ys).length=min xs.length ys.length+1:=by simp only[ah];omega
     rw[z,cR,bW,fY];have z2:((x :: xs).length == (y :: ys).length)=(xs.length == ys.length):=by simp
     rw[z2,← h2,Bool.and_assoc];rfl
section
theorem ZR (I:L2.Inv X pins σ H s)(h:H a=some (.tup xs))(r:zz H xs ts):∃its:List Value,zU xs its/\s.heap.IsTuple a its.toArray/\ts.length=its.length/\xs.length<=sizeLine:=by
 obtain⟨its,rv,p,z⟩:=I.tuple (SqT.of h);exact⟨its,rv,p,by rw[← r.length];exact rv.length,z⟩
theorem zY (I:L2.Inv X pins σ H s)(h:Rd H a (.lst xs))(r:zz H xs ts):∃its:List Value,zU xs its/\s.heap.IsList a its.toArray/\ts.length=its.length/\xs.length<=sizeLine:=by
 obtain⟨its,rv,p,z⟩:=I.list (.inl h);exact⟨its,rv,p.isList,by rw[← r.length];exact rv.length,z⟩
end
abbrev EqN (A:Around)(s:Shared)(u u' :Value)(b:Bool):Prop:=da A s u u' b/\e_ A s u u' b/\dD A s u u' (!b)
section
theorem yI {f:T->T->Option Bool}{e:Nat->Bool}(r:zz H xs ts)(r' :zz H ys us)(v:zU xs its)(v' :zU ys its')
  (he:∀(j:Nat) (x y:T),ts[j]? =some x->us[j]? =some y->f x y=some (e j))
  (ih:∀(x y:T) (b:Bool) (p q:V) (u w:Value),f x y=some b->Rep H p x->Rep H q y->Zg p u->Zg q w->EqN A s u w b) (j:Nat) (h1:j < its.toArray.size) (h2:j < its'.toArray.size):
  da A s its.toArray[j] its'.toArray[j] (e j):=by
 have l1:=v.length;have l2:=v'.length;have m1:=r.length;have m2:=r'.length;have k1:j < xs.length:=by simp at h1;omega
 have k2:j < ys.length:=by simp at h2;omega
 obtain⟨t,et,rt⟩:=r.getV (aj k1);obtain⟨t',et',rt'⟩:=r'.getV (aj k2);obtain⟨u,eu,ru⟩:=v.get (aj k1);obtain⟨u',eu',ru'⟩:=v'.get (aj k2);have q1:its.toArray[j]=u:=by
  have:its[j]? =some its.toArray[j]:=by simp at h1 ⊢
  rw[eu]at this;exact(aH this).symm
 have q2:its'.toArray[j]=u' :=by
  have:its'[j]? =some its'.toArray[j]:=by simp at h2 ⊢
  rw[eu']at this;exact(aH this).symm
 rw[q1,q2];exact(ih t t' (e j) _ _ u u' (he j t t' et et') rt rt' ru ru').1
theorem Vp {A:Around}{a c:Addr}{xs ys:List V}{ts us:List T}{b:Bool}{f:T->T->Option Bool}(I:L2.Inv X pins σ H s)(hu:A.units < cLine)(ha:H a=some (.tup xs))(hc:H c=some (.tup ys))(r:zz H xs ts)(r' :zz H ys us)
  (hb:eqL f ts us=some b) (hr:∀x b,f x x=some b->b=true)
  (ih:∀(x y:T) (b:Bool) (p q:V) (u w:Value),f x y=some b->Rep H p x->Rep H q y->Zg p u->Zg q w->EqN A.in1 s u w b):EqN A s (.ref a) (.ref c) b:=by
 obtain⟨its,v,p,l,_⟩:=ZR I ha r;obtain⟨its',v',p',l',_⟩:=ZR I hc r';obtain⟨e,he,hb'⟩:=yH hb;have hp:=yI (A:=A.in1) r r' v v' he ih;have z:((aW (min its.toArray.size its'.toArray.size)).all e && its.toArray.size == its'.toArray.size)=b:=by
  rw[← hb'];simp[l,l']
 have R:=e_.tuples p p' hu hp;have N:=dD.tuples p p' hu hp;rw[z]at R;have N' :dD A s (.ref a) (.ref c) (!b):=by
  rw[← z];exact N
 refine⟨?_,R,N'⟩
 by_cases hac:a=c
 ·subst hac;rw[ha]at hc;cases hc;have:=r.fn r';subst this;rw[Zw hr ts b hb];exact iu _
 ·exact fN hac R
theorem wK {A:Around}{a c:Addr}{xs ys:List V}{ts us:List T}{b:Bool}{f:T->T->Option Bool}(I:L2.Inv X pins σ H s)(hu:A.units < cLine)(ha:Rd H a (.lst xs))(hc:Rd H c (.lst ys))(r:zz H xs ts)(r' :zz H ys us)
  (hb:eqL f ts us=some b) (hr:∀x b,f x x=some b->b=true)
  (ih:∀(x y:T) (b:Bool) (p q:V) (u w:Value),f x y=some b->Rep H p x->Rep H q y->Zg p u->Zg q w->EqN A.in1 s u w b):EqN A s (.ref a) (.ref c) b:=by
 obtain⟨its,v,p,l,_⟩:=zY I ha r;obtain⟨its',v',p',l',_⟩:=zY I hc r';obtain⟨e,he,hb'⟩:=yH hb;have hp:=yI (A:=A.in1) r r' v v' he ih;have RN:e_ A s (.ref a) (.ref c) b/\dD A s (.ref a) (.ref c) (!b):=by
  by_cases hl:its.toArray.size=its'.toArray.size
  ·have z:(aW its.toArray.size).all e=b:=by
    rw[← hb'];have:ts.length=us.length:=by simp at hl;omega
    rw[this];have k:its.toArray.size=us.length:=by simp;omega
    rw[k];simp
   have R:=e_.lists p p' hl hu hp;have N:=dD.lists p p' hl hu hp;rw[z]at R;refine⟨R, ?_⟩;rw[← z];exact N
  ·have hl' :(its.toArray.size != its'.toArray.size)=true:=by simpa using hl
   have z:b=false:=by
    rw[← hb'];have:¬ ts.length=us.length:=by simp at hl;omega
    simp[this]
   subst z;exact⟨e_.lists_lengths p p' hl' hu,dD.lists_lengths p p' hl' hu⟩
 refine⟨?_,RN.1,RN.2⟩
 by_cases hac:a=c
 ·subst hac;have hxy:xs=ys:=by
   rcases ha with ha | ⟨o,ha⟩ <;> rcases hc with hc | ⟨o',hc⟩ <;> (rw[ha]at hc;cases hc) <;> rfl
  subst hxy;have:=r.fn r';subst this;rw[Zw hr ts b hb];exact iu _
 ·exact fN hac RN.1
end
section
variable {X:Cx}{pins:List (Addr×Obj)}{σ:Sg}{H:Hp}{s:Shared}
theorem jM {A:Around}:A.in1.units=A.units+1:=rfl
set_option maxHeartbeats 2000000 in
theorem yJ (I:L2.Inv X pins σ H s):∀(A:Around),A.units < cLine->∀(x y:T) (b:Bool) (p q:V) (u w:Value),eqF 0 x y=some b->Rep H p x->Rep H q y->Zg p u->Zg q w->EqN A s u w b:=by
 intro A hu x y b p q u w h rp rq ru rw';have hu' :=hu;cases rp with
 | non=>
  obtain rfl:u=Value.none:=ru;cases rq with
  | non=>obtain rfl:w=Value.none:=rw';unfold eqF at h;cases h;exact⟨.same _,.none_none,.none_none⟩
  | bl c=>obtain rfl:w=Value.bool c:=rw';unfold eqF at h;cases h;exact⟨.none_bool _,.none_bool _,.none_bool _⟩
  | int c=>obtain⟨t,rfl⟩:=rw';unfold eqF at h;cases h;exact⟨.none_int _ _,.none_int _ _,.none_int _ _⟩
  | str c=>obtain⟨t,rfl⟩:=rw';unfold eqF at h;cases h;exact⟨.none_str _ _,.none_str _ _,.none_str _ _⟩
  | tup h1 r1=>obtain rfl:w=Value.ref _:=rw';unfold eqF at h;cases h;obtain⟨i,_,p,_⟩:=ZR I h1 r1;exact⟨.none_tuple p hu',.none_tuple p hu',.none_tuple p hu'⟩
  | lst h1 r1=>obtain rfl:w=Value.ref _:=rw';unfold eqF at h;cases h;obtain⟨i,_,p,_⟩:=zY I (.inl h1) r1;exact⟨.none_list p hu',.none_list p hu',.none_list p hu'⟩
  | fz h1 r1=>obtain rfl:w=Value.ref _:=rw';unfold eqF at h;cases h;obtain⟨i,_,p,_⟩:=zY I (.inr ⟨_,h1⟩) r1;exact⟨.none_list p hu',.none_list p hu',.none_list p hu'⟩
 | bl d=>
  obtain rfl:u=Value.bool d:=ru;cases rq with
  | non=>obtain rfl:w=Value.none:=rw';unfold eqF at h;cases h;exact⟨.bool_none _,.bool_none _,.bool_none _⟩
  | bl c=>obtain rfl:w=Value.bool c:=rw';unfold eqF at h;cases h;exact⟨.bool_bool _ _,.bool_bool _ _,.bool_bool _ _⟩
  | int c=>obtain⟨t,rfl⟩:=rw';unfold eqF at h;cases h;exact⟨.bool_int _ _ _,.bool_int _ _ _,.bool_int _ _ _⟩
  | str c=>obtain⟨t,rfl⟩:=rw';unfold eqF at h;cases h;exact⟨.bool_str _ _ _,.bool_str _ _ _,.bool_str _ _ _⟩
  | tup h1 r1=>obtain rfl:w=Value.ref _:=rw';unfold eqF at h;cases h;obtain⟨i,_,p,_⟩:=ZR I h1 r1;exact⟨.bool_tuple _ p hu',.bool_tuple _ p hu',.bool_tuple _ p hu'⟩
  | lst h1 r1=>obtain rfl:w=Value.ref _:=rw';unfold eqF at h;cases h;obtain⟨i,_,p,_⟩:=zY I (.inl h1) r1;exact⟨.bool_list _ p hu',.bool_list _ p hu',.bool_list _ p hu'⟩
  | fz h1 r1=>obtain rfl:w=Value.ref _:=rw';unfold eqF at h;cases h;obtain⟨i,_,p,_⟩:=zY I (.inr ⟨_,h1⟩) r1;exact⟨.bool_list _ p hu',.bool_list _ p hu',.bool_list _ p hu'⟩
 | int d=>
  obtain⟨t0,rfl⟩:=ru;cases rq with
  | non=>obtain rfl:w=Value.none:=rw';unfold eqF at h;cases h;exact⟨.int_none _ _,.int_none _ _,.int_none _ _⟩
  | bl c=>obtain rfl:w=Value.bool c:=rw';unfold eqF at h;cases h;exact⟨.int_bool _ _ _,.int_bool _ _ _,.int_bool _ _ _⟩
  | int c=>obtain⟨t,rfl⟩:=rw';unfold eqF at h;cases h;exact⟨.int_int _ _ _ _,.int_int _ _ _ _,.int_int _ _ _ _⟩
  | str c=>obtain⟨t,rfl⟩:=rw';unfold eqF at h;cases h;exact⟨.int_str _ _ _ _,.int_str _ _ _ _,.int_str _ _ _ _⟩
  | tup h1 r1=>obtain rfl:w=Value.ref _:=rw';unfold eqF at h;cases h;obtain⟨i,_,p,_⟩:=ZR I h1 r1;exact⟨.int_tuple _ _ p hu',.int_tuple _ _ p hu',.int_tuple _ _ p hu'⟩
  | lst h1 r1=>obtain rfl:w=Value.ref _:=rw';unfold eqF at h;cases h;obtain⟨i,_,p,_⟩:=zY I (.inl h1) r1;exact⟨.int_list _ _ p hu',.int_list _ _ p hu',.int_list _ _ p hu'⟩
  | fz h1 r1=>obtain rfl:w=Value.ref _:=rw';unfold eqF at h;cases h;obtain⟨i,_,p,_⟩:=zY I (.inr ⟨_,h1⟩) r1;exact⟨.int_list _ _ p hu',.int_list _ _ p hu',.int_list _ _ p hu'⟩
 | str d=>
  obtain⟨t0,rfl⟩:=ru;cases rq with
  | non=>obtain rfl:w=Value.none:=rw';unfold eqF at h;cases h;exact⟨.str_none _ _,.str_none _ _,.str_none _ _⟩
  | bl c=>obtain rfl:w=Value.bool c:=rw';unfold eqF at h;cases h;exact⟨.str_bool _ _ _,.str_bool _ _ _,.str_bool _ _ _⟩
  | int c=>obtain⟨t,rfl⟩:=rw';unfold eqF at h;cases h;exact⟨.str_int _ _ _ _,.str_int _ _ _ _,.str_int _ _ _ _⟩
  | str c=>obtain⟨t,rfl⟩:=rw';unfold eqF at h;cases h;exact⟨.str_str _ _ _ _,.str_str _ _ _ _,.str_str _ _ _ _⟩
  | tup h1 r1=>obtain rfl:w=Value.ref _:=rw';unfold eqF at h;cases h;obtain⟨i,_,p,_⟩:=ZR I h1 r1;exact⟨.str_tuple _ _ p hu',.str_tuple _ _ p hu',.str_tuple _ _ p hu'⟩
  | lst h1 r1=>obtain rfl:w=Value.ref _:=rw';unfold eqF at h;cases h;obtain⟨i,_,p,_⟩:=zY I (.inl h1) r1;exact⟨.str_list _ _ p hu',.str_list _ _ p hu',.str_list _ _ p hu'⟩
  | fz h1 r1=>obtain rfl:w=Value.ref _:=rw';unfold eqF at h;cases h;obtain⟨i,_,p,_⟩:=zY I (.inr ⟨_,h1⟩) r1;exact⟨.str_list _ _ p hu',.str_list _ _ p hu',.str_list _ _ p hu'⟩
 | tup h0 r0=>
  obtain rfl:u=Value.ref _:=ru;obtain⟨i0,_,p0,_⟩:=ZR I h0 r0;cases rq with
  | non=>obtain rfl:w=Value.none:=rw';unfold eqF at h;cases h;exact⟨.tuple_none p0 hu',.tuple_none p0 hu',.tuple_none p0 hu'⟩
  | bl c=>obtain rfl:w=Value.bool c:=rw';unfold eqF at h;cases h;exact⟨.tuple_bool _ p0 hu',.tuple_bool _ p0 hu',.tuple_bool _ p0 hu'⟩
  | int c=>obtain⟨t,rfl⟩:=rw';unfold eqF at h;cases h;exact⟨.tuple_int _ _ p0 hu',.tuple_int _ _ p0 hu',.tuple_int _ _ p0 hu'⟩
  | str c=>obtain⟨t,rfl⟩:=rw';unfold eqF at h;cases h;exact⟨.tuple_str _ _ p0 hu',.tuple_str _ _ p0 hu',.tuple_str _ _ p0 hu'⟩
  | tup h1 r1=>unfold eqF at h;cases h
  | lst h1 r1=>obtain rfl:w=Value.ref _:=rw';unfold eqF at h;cases h;obtain⟨i,_,p,_⟩:=zY I (.inl h1) r1;exact⟨.tuple_list p0 p hu',.tuple_list p0 p hu',.tuple_list p0 p hu'⟩
  | fz h1 r1=>obtain rfl:w=Value.ref _:=rw';unfold eqF at h;cases h;obtain⟨i,_,p,_⟩:=zY I (.inr ⟨_,h1⟩) r1;exact⟨.tuple_list p0 p hu',.tuple_list p0 p hu',.tuple_list p0 p hu'⟩
 | lst h0 r0=>
  obtain rfl:u=Value.ref _:=ru;obtain⟨i0,_,p0,_⟩:=zY I (.inl h0) r0;cases rq with
  | non=>obtain rfl:w=Value.none:=rw';unfold eqF at h;cases h;exact⟨.list_none p0 hu',.list_none p0 hu',.list_none p0 hu'⟩
  | bl c=>obtain rfl:w=Value.bool c:=rw';unfold eqF at h;cases h;exact⟨.list_bool _ p0 hu',.list_bool _ p0 hu',.list_bool _ p0 hu'⟩
  | int c=>obtain⟨t,rfl⟩:=rw';unfold eqF at h;cases h;exact⟨.list_int _ _ p0 hu',.list_int _ _ p0 hu',.list_int _ _ p0 hu'⟩
  | str c=>obtain⟨t,rfl⟩:=rw';unfold eqF at h;cases h;exact⟨.list_str _ _ p0 hu',.list_str _ _ p0 hu',.list_str _ _ p0 hu'⟩
  | tup h1 r1=>obtain rfl:w=Value.ref _:=rw';unfold eqF at h;cases h;obtain⟨i,_,p,_⟩:=ZR I h1 r1;exact⟨.list_tuple p0 p hu',.list_tuple p0 p hu',.list_tuple p0 p hu'⟩
  | lst h1 r1=>unfold eqF at h;cases h
  | fz h1 r1=>unfold eqF at h;cases h
 | fz h0 r0=>
  obtain rfl:u=Value.ref _:=ru;obtain⟨i0,_,p0,_⟩:=zY I (.inr ⟨_,h0⟩) r0;cases rq with
  | non=>obtain rfl:w=Value.none:=rw';unfold eqF at h;cases h;exact⟨.list_none p0 hu',.list_none p0 hu',.list_none p0 hu'⟩
  | bl c=>obtain rfl:w=Value.bool c:=rw';unfold eqF at h;cases h;exact⟨.list_bool _ p0 hu',.list_bool _ p0 hu',.list_bool _ p0 hu'⟩
  | int c=>obtain⟨t,rfl⟩:=rw';unfold eqF at h;cases h;exact⟨.list_int _ _ p0 hu',.list_int _ _ p0 hu',.list_int _ _ p0 hu'⟩
  | str c=>obtain⟨t,rfl⟩:=rw';unfold eqF at h;cases h;exact⟨.list_str _ _ p0 hu',.list_str _ _ p0 hu',.list_str _ _ p0 hu'⟩
  | tup h1 r1=>obtain rfl:w=Value.ref _:=rw';unfold eqF at h;cases h;obtain⟨i,_,p,_⟩:=ZR I h1 r1;exact⟨.list_tuple p0 p hu',.list_tuple p0 p hu',.list_tuple p0 p hu'⟩
  | lst h1 r1=>unfold eqF at h;cases h
  | fz h1 r1=>unfold eqF at h;cases h
set_option maxHeartbeats 2000000 in
theorem yK (I:L2.Inv X pins σ H s):∀(n:Nat) (A:Around),A.units+n < cLine->∀(x y:T) (b:Bool) (p q:V) (u w:Value),eqF n x y=some b->Rep H p x->Rep H q y->Zg p u->Zg q w->EqN A s u w b:=by
 intro n
 induction n with
 | zero=>exact λA hu x y b p q u w h=>yJ I A (by omega) x y b p q u w h
 | succ n ih=>
  intro A hu x y b p q u w h rp rq ru rw';have low:eqF 0 x y=some b->EqN A s u w b:=λh=>yJ I A (by omega) x y b p q u w h rp rq ru rw'
  have hu' :A.units < cLine:=by omega
  have ih' :=ih A.in1 (by rw[jM];omega)
  cases rp with
  | tup h0 r0=>
   cases rq with
   | tup h1 r1=>
    obtain rfl:u=Value.ref _:=ru;obtain rfl:w=Value.ref _:=rw';unfold eqF at h;exact Vp I hu' h0 h1 r0 r1 h (Zh n) ih'
   | _=>exact low (by unfold eqF at h ⊢;exact h)
  | lst h0 r0=>
   cases rq with
   | lst h1 r1=>
    obtain rfl:u=Value.ref _:=ru;obtain rfl:w=Value.ref _:=rw';unfold eqF at h;exact wK I hu' (.inl h0) (.inl h1) r0 r1 h (Zh n) ih'
   | fz h1 r1=>
    obtain rfl:u=Value.ref _:=ru;obtain rfl:w=Value.ref _:=rw';unfold eqF at h;exact wK I hu' (.inl h0) (.inr ⟨_,h1⟩) r0 r1 h (Zh n) ih'
   | _=>exact low (by unfold eqF at h ⊢;exact h)
  | fz h0 r0=>
   cases rq with
   | lst h1 r1=>
    obtain rfl:u=Value.ref _:=ru;obtain rfl:w=Value.ref _:=rw';unfold eqF at h;exact wK I hu' (.inr ⟨_,h0⟩) (.inl h1) r0 r1 h (Zh n) ih'
   | fz h1 r1=>
    obtain rfl:u=Value.ref _:=ru;obtain rfl:w=Value.ref _:=rw';unfold eqF at h;exact wK I hu' (.inr ⟨_,h0⟩) (.inr ⟨_,h1⟩) r0 r1 h (Zh n) ih'
   | _=>exact low (by unfold eqF at h ⊢;exact h)
  | _=>exact low (by cases rq <;> (unfold eqF at h ⊢;exact h))
end
section
def rG (Y:Fx)(g:T->T->R T):R2:=λx y H Q=>∃B t t',zl B H/\Rep B x t/\Rep B y t' /\Po Y rC B H (g t t') Q
def zd (g:T->T->R T)(fa fb:En->R T):En->R T:=λρ=>(fa ρ).bind λx=>(fb ρ).bind λy=>g x y
theorem yL (ho:OpR X (binaryOp op) (rG Y g))(ha:Snd X Y a fa)(hb:Snd X Y b fb):Snd X Y (.BinOp a op b pos) (zd g fa fb):= .mk λρ=>
 PE.imp (GP ho (ha ρ) (hb ρ)) λσ H Q ⟨B,I,q⟩=>step I q λt v H1 _ s1 r1 I1 q1=>step I1 q1 λt' v' H2 _ s2 r2 I2 q2=>
  ⟨_,t,t',I2.sB,r1.mono (zE.ge I1.sB s2),r2,q2⟩
theorem po0 (sB:zl B H)(q:Po Y rC B H g Q)(e:g= .ok t)(r:Rep B v t):Q v H:=by
 subst e;exact q v H (zl.refl H) (by show Rep (zE B H H) v t;rw[zE.self B H sB];exact r)
theorem ky (sB:zl B H)(q:Po Y rC B H g Q)(e:g= .ok (.tup ts))(r:zz B xs ts)(h:H p=none):Q (.ref p) (upd H p (.tup xs)):=by
 subst e;exact q _ _ (zl.new h _) (.tup (jY h _) (r.mono (zE.ge sB (zl.new h _))))
theorem z06 (sB:zl B H)(q:Po Y rC B H g Q)(e:g= .ok (.lst ts))(r:zz B xs ts)(h:H p=none):Q (.ref p) (upd H p (.lst xs)):=by
 subst e;exact q _ _ (zl.new h _) (.lst (jY h _) (r.mono (zE.ge sB (zl.new h _))))
def zp:T->T->R T
 | .int i,.int j=> .ok (.int (i+j))
 | .bl x,.int j=> .ok (.int (b2 x+j))
 | .int i,.bl y=> .ok (.int (i+b2 y))
 | .str x,.str y=>if x.length+y.length<=bnd then .ok (.str (x++y)) else .bad
 | .tup xs,.tup ys=>if xs.length+ys.length<=bnd then .ok (.tup (xs++ys)) else .bad
 | .lst xs,.lst ys=>if xs.length+ys.length<=bnd then .ok (.lst (xs++ys)) else .bad
 | _,_=> .bad
theorem Q1 {prog:Program}{w:World}{A:Around}{E:Value->Shared->Prop}{s:Shared}{t b:Addr}{vs ws:List Value}{Q:Value->Shared->Prop}(ht:IsTup s.heap t vs.toArray)(hb:IsTup s.heap b ws.toArray)(hv:vs=[])
  (h1:Q (.ref b) s):wpAny (model prog w) A (binaryOp .Add (.ref t) (.ref b)) Q E s:=by
 obtain⟨⟨cls,dd,data,sl⟩,ho,hc,n,hd⟩:=id ht;obtain⟨⟨cls2,dd2,data2,sl2⟩,ho2,hc2,n2,hd2⟩:=id hb;simp only at hc hd hc2 hd2;subst hc hd hc2 hd2;exact concat_meets ⟨_,ho,rfl⟩ ⟨_,ho2,rfl⟩ noFill_tuple_add seq_tuple_add dB du (dl _ _)
   (tuple_addW0 t b vs.toArray ws.toArray n n2 dd dd2 sl sl2 (by simp[hv])) ⟨ho,ho2,h1⟩
theorem Vq:OpR X (binaryOp .Add) (rG Y zp):=by
 intro pins s σ H x y v u Q I rx ry h;obtain⟨B,t,t',sB,r,r',q⟩:=h;cases r with
 | int i=>
  cases r' with
  | int j=>exact XW pins s σ H _ _ v u Q I rx ry ⟨i,j,rfl,rfl,po0 sB q rfl (.int _)⟩
  | bl y=>exact yn pins s σ H _ _ v u Q I rx ry ⟨i,y,rfl,rfl,po0 sB q rfl (.int _)⟩
  | _=>exact q.elim
 | bl x=>
  cases r' with
  | int j=>
   obtain rfl:v=Value.bool x:=rx;obtain⟨tk,rfl⟩:=ry;exact IntBool.add_bool_int (⟨.int _,H,I.tok _,⟨_,rfl⟩,po0 sB q rfl (.int _)⟩)
  | _=>exact q.elim
 | str x=>
  cases r' with
  | str y=>
   by_cases hb:x.length+y.length<=bnd
   ·exact Us pins s σ H _ _ v u Q I rx ry ⟨x,y,rfl,rfl,ZN hb,po0 sB q (if_pos hb) (.str _)⟩
   ·rw[show zp (.str x) (.str y)= .bad from if_neg hb]at q;exact q.elim
  | _=>exact q.elim
 | @tup a xs ts h1 r1=>
  cases r' with
  | @tup a' ys us h2 r2=>
   by_cases hb:ts.length+us.length<=bnd
   ·have eg:zp (.tup ts) (.tup us)= .ok (.tup (ts++us)):=if_pos hb;have hz:xs.length+ys.length<=sizeLine:=by rw[r1.length,r2.length];exact ZN hb
    by_cases hx:xs=[]
    ·obtain rfl:v=Value.ref a:=rx;obtain rfl:u=Value.ref a' :=ry;obtain⟨its,rv,p,_⟩:=I.tuple (SqT.of (sB _ _ h1));obtain⟨its',rv',p',_⟩:=I.tuple (SqT.of (sB _ _ h2));have et:ts=[]:=r1.nil_iff.mp hx;refine Q1 p p' (rv.nil_iff.mpr hx) ⟨.ref a',H,I,rfl,po0 sB q eg ?_⟩;rw[et];exact .tup h2 r2
    ·refine Vf pins s σ H _ _ v u Q I rx ry ⟨a,a',xs,ys,rfl,rfl,SqT.of (sB _ _ h1),SqT.of (sB _ _ h2),hx,hz,λhy=> ?_,λhy p hp=> ?_⟩
     ·refine po0 sB q eg ?_;rw[r2.nil_iff.mp hy,bh];exact .tup h1 r1
     ·exact ky sB q eg (r1.append r2) hp
   ·rw[show zp (.tup ts) (.tup us)= .bad from if_neg hb]at q;exact q.elim
  | _=>exact q.elim
 | @lst a xs ts h1 r1=>
  cases r' with
  | @lst a' ys us h2 r2=>
   by_cases hb:ts.length+us.length<=bnd
   ·have eg:zp (.lst ts) (.lst us)= .ok (.lst (ts++us)):=if_pos hb;have hz:xs.length+ys.length<=sizeLine:=by rw[r1.length,r2.length];exact ZN hb
    exact kn pins s σ H _ _ v u Q I rx ry ⟨a,a',xs,ys,rfl,rfl,sB _ _ h1,sB _ _ h2,hz,λp hp=>z06 sB q eg (r1.append r2) hp⟩
   ·rw[show zp (.lst ts) (.lst us)= .bad from if_neg hb]at q;exact q.elim
  | _=>exact q.elim
 | _=>cases r' <;> exact q.elim
theorem z07 (ha:Snd X Y a fa)(hb:Snd X Y b fb):Snd X Y (.BinOp a .Add b pos) (zd zp fa fb):=yL Vq ha hb
def ZS:T->T->R T
 | .int i,.int j=> .ok (.int (i - j))
 | _,_=> .bad
def jN:T->T->R T
 | .int i,.int j=>if 0 < j then .ok (.int (i % j)) else .bad
 | _,_=> .bad
def jA:T->T->R T
 | .int i,.int j=>if 0 < j/\j < 1073741824 then .ok (.int (i / j)) else .bad
 | _,_=> .bad
instance (i j:Int):Decidable (W9 i j):=by unfold W9;infer_instance
def zO:T->T->R T
 | .int i,.int j=>if W9 i j then .ok (.int (i*j)) else .bad
 | .lst xs,.int k=>if 0<=k/\k < 1000000/\xs.length*k.toNat<=bnd then .ok (.lst (ad k.toNat xs).flatten) else .bad
 | .tup xs,.int k=>if 2<=k/\k < 1000000/\xs ≠ []/\xs.length*k.toNat<=bnd then .ok (.tup (ad k.toNat xs).flatten) else .bad
 | _,_=> .bad
theorem Vr:OpR X (binaryOp .Sub) (rG Y ZS):=by
 intro pins s σ H x y v u Q I rx ry h;obtain⟨B,t,t',sB,r,r',q⟩:=h;cases r with
 | int i=>
  cases r' with
  | int j=>exact XX pins s σ H _ _ v u Q I rx ry ⟨i,j,rfl,rfl,po0 sB q rfl (.int _)⟩
  | _=>exact q.elim
 | _=>cases r' <;> exact q.elim
theorem Vs:OpR X (binaryOp .Mod) (rG Y jN):=by
 intro pins s σ H x y v u Q I rx ry h;obtain⟨B,t,t',sB,r,r',q⟩:=h;cases r with
 | int i=>
  cases r' with
  | int j=>
   by_cases hj:0 < j
   ·exact XZ pins s σ H _ _ v u Q I rx ry ⟨i,j,rfl,rfl,hj,po0 sB q (if_pos hj) (.int _)⟩
   ·rw[show jN (.int i) (.int j)= .bad from if_neg hj]at q;exact q.elim
  | _=>exact q.elim
 | _=>cases r' <;> exact q.elim
theorem Q2:OpR X (binaryOp .FloorDiv) (rG Y jA):=by
 intro pins s σ H x y v u Q I rx ry h;obtain⟨B,t,t',sB,r,r',q⟩:=h;cases r with
 | int i=>
  cases r' with
  | int j=>
   by_cases hj:0 < j/\j < 1073741824
   ·exact V4 pins s σ H _ _ v u Q I rx ry ⟨i,j,rfl,rfl,hj,po0 sB q (if_pos hj) (.int _)⟩
   ·rw[show jA (.int i) (.int j)= .bad from if_neg hj]at q;exact q.elim
  | _=>exact q.elim
 | _=>cases r' <;> exact q.elim
theorem UC (l:Addr)(items:Array Value)(n:Nat)(dd:Option Addr)(sl:Array (Option Value))(x:Int)(u:Tok)(h1:2<=x)(h2:x < 1000000)(hne:items.isEmpty=false)(hsz:items.size*x.toNat<=sizeLine):
  Meets (Builtin.«tuple.__mul__» ⟨[.ref l,.int x u],[]⟩) (λ_ R s=>s.heap.get? l=some { cls:= .type "tuple",dict:=dd,data:= .seq items n,slots:=sl }/\
   R (.ok (.ret (Value.ref s.heap.objs.size))) { s with heap:=s.heap.push { cls:=Value.type "tuple",data:=Data.seq (dL (λx1 x2=>x1++x2) #[] (ad x.toNat items)) },toks:=s.toks }):=
 .of_wp λprog w A R s h=>by
  obtain⟨hp,g,d,tk,os⟩:=s;obtain⟨hl,h⟩:=h;have f1:=AutoSeq1.idx_int;have e0:(items.size:Int)*x=((items.size*x.toNat:Nat):Int):=by
   have:x=((x.toNat:Nat):Int):=by omega
   rw[iw,← this]
  have sl1:(sizeLine:Nat)=16777216:=bY;have c1:¬ (decide (x < -(2 ^ 63)) || decide (x ≥ 2 ^ 63))=true:=by simp;omega
  have c2:¬ (items.isEmpty || x == 1)=true:=by simp[hne];omega
  have c3:¬ (decide (x<=0) || items.isEmpty)=true:=by simp[hne];omega
  have c4:¬ ((items.size:Int)*x > (2 ^ 63 - 1) / 8):=by rw[e0];omega
  have c5:¬ eB ((items.size:Int)*x)=true:=by
   unfold eB;rw[e0];intro z;have:=of_decide_eq_true z;omega
  unfold Builtin.«tuple.__mul__»
  wp_walk using wpAny_loadPart' hl
  rw[if_neg c1]
  wp_walk using wpAny_loadPart' hl
  rw[if_neg c2]
  try dsimp only
  rw[if_neg c3]
  try dsimp only
  rw[if_neg c4]
  try dsimp only
  rw[if_neg c5]
  try dsimp only
  have hsz' :sizeOk (.seq (dL (λx1 x2=>x1++x2) #[] (ad x.toNat items))):=by
   show (dL (λx1 x2=>x1++x2) #[] (ad x.toNat items)).size<=sizeLine;have:=jL items.toList x.toNat [];rw[bC]at this;have q:dL (λx1 x2=>x1++x2) #[] (ad x.toNat items)=(ad x.toNat items.toList).flatten.toArray:=by
    simpa using this
   rw[q,aA,jW,cg,bG];exact hsz
  exact aa (m:=bv _) (aX (ar ⟨_,rfl,h⟩) hsz')
theorem Wq:seqRepeat? (.type "tuple")=pure (some (.builtin "tuple.__mul__")):=by
 unfold seqRepeat?;rw[i5 (T:="tuple") (name:="__mul__") (id:="tuple.__mul__") eL.lookup (by decide+kernel),i5 (T:="tuple") (name:="__rmul__") (id:="tuple.__rmul__") fZ.lookup (by decide+kernel)]
 rfl
theorem Jn:fillsNumberSlot (.type "tuple") "mul"=pure false:=
 PySem.fillsNumberSlot_seq (id:="tuple.__mul__") (r:=some (.builtin "tuple.__rmul__")) eL.lookup (by decide+kernel) fZ.lookup (by decide+kernel)
theorem w8 (a:Int)(t:Tok)(l:Addr)(items:Array Value)(n:Nat)(dd:Option Addr)(sl:Array (Option Value)):
  Meets (Builtin.«int.__rmul__» ⟨[.int a t,.ref l],[]⟩) (λ_ R s=>s.heap.get? l=some { cls:= .type "tuple",dict:=dd,data:= .seq items n,slots:=sl }/\R (.ok (.ret Value.notImplemented)) s):=
 .of_wp λprog w A R s h=>by obtain⟨hp,g,d,tk,os⟩:=s;obtain⟨hl,h⟩:=h;wp_walk;exact⟨_,rfl,h⟩
theorem Vt {k:Int}{t:Tok}(p:IsTup s.heap l its.toArray)(hne:its ≠ [])(h1:2<=k)(h2:k < 1000000)
  (hsz:its.length*k.toNat<=sizeLine) (q:Q (.ref s.heap.objs.size) { s with heap:=s.heap.push { cls:= .type "tuple",data:= .seq (ad k.toNat its).flatten.toArray } }):
  wpAny (model prog w) A (binaryOp .Mult (.ref l) (.int k t)) Q E s:=by
 obtain⟨⟨cls,dd,data,sl⟩,ho,hc,n,hd⟩:=id p;simp only at hc hd;subst hc hd;refine wpAny_binaryOp_repeat_ref (T:="tuple") (U:="int") (by decide) ⟨_,ho,rfl⟩ (λs' =>typeIs_int s' k t) Jn ir dP Wq h_.lookup
  (dq dP (typeIs_int s k t) i4 (fX _ _) (w8 k t l its.toArray n dd sl)
   ⟨ho,rfl,⟨_,ho,rfl⟩,dq eL ⟨_,ho,rfl⟩ F.entry_tuple_mul (F.args_tuple_mul_2 _ _) (UC l its.toArray n dd sl k t h1 h2 (by simpa using hne) (by simpa using hsz)) ⟨ho, ?_⟩⟩)
 have:=jL its k.toNat [];rw[bC]at this;rw[this];exact q
theorem Vu:OpR X (binaryOp .Mult) (rG Y zO):=by
 intro pins s σ H x y v u Q I rx ry h;obtain⟨B,t,t',sB,r,r',q⟩:=h;cases r with
 | int i=>
  cases r' with
  | int j=>
   by_cases hj:W9 i j
   ·exact XY pins s σ H _ _ v u Q I rx ry ⟨i,j,rfl,rfl,hj,po0 sB q (if_pos hj) (.int _)⟩
   ·rw[show zO (.int i) (.int j)= .bad from if_neg hj]at q;exact q.elim
  | _=>exact q.elim
 | @lst l xs ts h1 r1=>
  cases r' with
  | int k=>
   by_cases hk:0<=k/\k < 1000000/\ts.length*k.toNat<=bnd
   ·have eg:zO (.lst ts) (.int k)= .ok (.lst (ad k.toNat ts).flatten):=if_pos hk;exact ko pins s σ H _ _ v u Q I rx ry ⟨l,k,xs,rfl,rfl,sB _ _ h1,by omega,by omega,by rw[r1.length];exact ZN hk.2.2,λp hp=>z06 sB q eg (r1.rep _) hp⟩
   ·rw[show zO (.lst ts) (.int k)= .bad from if_neg hk]at q;exact q.elim
  | _=>exact q.elim
 | @tup l xs ts h1 r1=>
  cases r' with
  | int k=>
   by_cases hk:2<=k/\k < 1000000/\ts ≠ []/\ts.length*k.toNat<=bnd
   ·have eg:zO (.tup ts) (.int k)= .ok (.tup (ad k.toNat ts).flatten):=if_pos hk;obtain rfl:v=Value.ref l:=rx;obtain⟨tk,rfl⟩:=ry;obtain⟨its,rv,p,_⟩:=I.tuple (SqT.of (sB _ _ h1));have ln:ts.length=its.length:=r1.length.symm.trans rv.length;have hne:its ≠ []:=λz=>hk.2.2.1 (by rw[z]at ln;exact List.length_eq_zero_iff.mp ln)
    refine Vt p hne hk.1 hk.2.1 (by rw[← ln];exact ZN hk.2.2.2) ⟨.ref s.heap.objs.size,upd H s.heap.objs.size (.tup (ad k.toNat xs).flatten),I.laid (t' :=s.toks) (λb u e=>ai _ e) (am _) ?_,rfl, ?_⟩
    ·exact⟨by rw[jW,r1.length,bG];exact ZN hk.2.2.2,(ad k.toNat its).flatten,rv.rep _,⟨_,ao _ rfl,rfl,_,rfl⟩,.inr ⟨_,ao _ rfl,rfl⟩⟩
    ·exact ky sB q eg (r1.rep _) (I.hok.fresh (am _))
   ·rw[show zO (.tup ts) (.int k)= .bad from if_neg hk]at q;exact q.elim
  | _=>exact q.elim
 | _=>cases r' <;> exact q.elim
theorem z08 (ha:Snd X Y a fa)(hb:Snd X Y b fb):Snd X Y (.BinOp a .Sub b pos) (zd ZS fa fb):=yL Vr ha hb
theorem z09 (ha:Snd X Y a fa)(hb:Snd X Y b fb):Snd X Y (.BinOp a .Mod b pos) (zd jN fa fb):=yL Vs ha hb
theorem kz (ha:Snd X Y a fa)(hb:Snd X Y b fb):Snd X Y (.BinOp a .FloorDiv b pos) (zd jA fa fb):=yL Q2 ha hb
theorem z0a (ha:Snd X Y a fa)(hb:Snd X Y b fb):Snd X Y (.BinOp a .Mult b pos) (zd zO fa fb):=yL Vu ha hb
def yM (fa:En->R T):En->R T:=λρ=>(fa ρ).bind λx=>match x with
 | .int i=> .ok (.int (-i))
 | _=> .bad
theorem z0b (ha:Snd X Y a fa):Snd X Y (.UnaryOp .USub a pos) (yM fa):= .mk λρ=>PE.imp (GQ k6 (ha ρ)) λσ H Q ⟨B,I,q⟩=>step I q λt v H1 _ s1 r1 I1 q1=>by
 cases r1 with
 | int i=>exact⟨i,rfl,po0 I1.sB q1 rfl (.int _)⟩
 | _=>exact q1.elim
def JY (g:T->T->R Bool):R2:=λx y H Q=>∃t t' b,Rep H x t/\Rep H y t' /\g t t' = .ok b/\Q (.bl b) H
def jB (g:T->T->R Bool)(fa fb:En->R T):En->R T:=λρ=>(fa ρ).bind λx=>(fb ρ).bind λy=>(g x y).bind λb=> .ok (.bl b)
def zx (g:T->T->R Bool)(fa fb:En->R T):En->R Bool:=λρ=>(fa ρ).bind λx=>(fb ρ).bind λy=>g x y
def Nx (g:T->T->R Bool):Prop:=∀t t' c,g t t' ≠ .ex c
theorem Vv (nx:Nx g)(ho:OpR X (compareOp op) (JY g))(ha:jx X Y a fa)(hb:jx X Y b fb)(hm:behindInMarks op b=false):Snd X Y (.Compare a [op] [b] pos) (jB g fa fb):= .mk λρ=>
 PE.imp (V5 ho (ha ρ) (hb ρ) hm) λσ H Q ⟨B,I,q⟩=>step I q λt v H1 _ s1 r1 I1 q1=>step I1 q1 λt' v' H2 _ s2 r2 I2 q2=>by
  cases e:g t t' with
  | bad=>rw[e]at q2;exact q2.elim
  | ex c=>exact absurd e (nx _ _ _)
  | ok b=>rw[e]at q2;exact⟨t,t',b,r1.mono s2,r2,e,ZC I2 q2 (.bl b)⟩
theorem wL (nx:Nx g)(ho:OpR X (compareOp op) (JY g))(ha:jx X Y a fa)(hb:jx X Y b fb)(hm:behindInMarks op b=false):wJ X Y (.Compare a [op] [b] pos) (zx g fa fb):= .mk λρ=>
 PT.imp (u3 ho (ha ρ) (hb ρ) hm) λσ H Q ⟨B,I,q⟩=>step I q λt v H1 _ s1 r1 I1 q1=>step I1 q1 λt' v' H2 _ s2 r2 I2 q2=>by
  cases e:g t t' with
  | bad=>rw[e]at q2;exact q2.elim
  | ex c=>exact absurd e (nx _ _ _)
  | ok b=>rw[e]at q2;exact⟨t,t',b,r1.mono s2,r2,e,b,rfl,ZC I2 q2 rfl⟩
def eqC (t t' :T):R Bool:=match eqF 30 t t' with
 | some b=> .ok b
 | none=> .bad
def neC (t t' :T):R Bool:=match eqF 30 t t' with
 | some b=> .ok (!b)
 | none=> .bad
theorem kA:Nx eqC:=λt t' c h=>by unfold eqC at h;split at h <;> cases h
theorem z0c:Nx neC:=λt t' c h=>by unfold neC at h;split at h <;> cases h
theorem vk (hu:X.A.units+64 < cLine):OpR X (compareOp .Eq) (JY eqC):=by
 intro pins s σ H x y v u Q I rx ry h;obtain⟨t,t',b,r,r',e,q⟩:=h;unfold eqC at e;split at e
 ·rename_i k ek;have e' :k=b:=by injection e
  subst e';exact(yK I 30 X.A (by omega) t t' k x y v u ek r r' rx ry).2.1 _ _ _ _ ⟨.bl k,H,I,rfl,q⟩
 ·cases e
theorem kB (hu:X.A.units+64 < cLine):OpR X (compareOp .NotEq) (JY neC):=by
 intro pins s σ H x y v u Q I rx ry h;obtain⟨t,t',b,r,r',e,q⟩:=h;unfold neC at e;split at e
 ·rename_i k ek;cases e;exact(yK I 30 X.A (by omega) t t' k x y v u ek r r' rx ry).2.2 _ _ _ _ ⟨.bl (!k),H,I,rfl,q⟩
 ·cases e
def ltC:T->T->R Bool
 | .int i,.int j=> .ok (decide (i < j))
 | _,_=> .bad
def leC:T->T->R Bool
 | .int i,.int j=> .ok (decide (i<=j))
 | .str x,.str y=> .ok (!decide (y.cps.toList < x.cps.toList))
 | _,_=> .bad
def gtC:T->T->R Bool
 | .int i,.int j=> .ok (decide (j < i))
 | _,_=> .bad
def geC:T->T->R Bool
 | .int i,.int j=> .ok (decide (j<=i))
 | _,_=> .bad
theorem Vw:Nx ltC:=λt t' c h=>by unfold ltC at h;split at h <;> cases h
theorem wM:Nx leC:=λt t' c h=>by unfold leC at h;split at h <;> cases h
theorem z0d:Nx gtC:=λt t' c h=>by unfold gtC at h;split at h <;> cases h
theorem z0e:Nx geC:=λt t' c h=>by unfold geC at h;split at h <;> cases h
theorem yN:OpR X (compareOp .Lt) (JY ltC):=by
 intro pins s σ H x y v u Q I rx ry h;obtain⟨t,t',b,r,r',e,q⟩:=h;unfold ltC at e;split at e
 ·rename_i i j;cases e;cases r;cases r';exact GR pins s σ H _ _ v u Q I rx ry ⟨i,j,rfl,rfl,q⟩
 ·cases e
theorem kC:OpR X (compareOp .Gt) (JY gtC):=by
 intro pins s σ H x y v u Q I rx ry h;obtain⟨t,t',b,r,r',e,q⟩:=h;unfold gtC at e;split at e
 ·rename_i i j;cases e;cases r;cases r';exact GT pins s σ H _ _ v u Q I rx ry ⟨i,j,rfl,rfl,q⟩
 ·cases e
theorem kD:OpR X (compareOp .GtE) (JY geC):=by
 intro pins s σ H x y v u Q I rx ry h;obtain⟨t,t',b,r,r',e,q⟩:=h;unfold geC at e;split at e
 ·rename_i i j;cases e;cases r;cases r';exact GU pins s σ H _ _ v u Q I rx ry ⟨i,j,rfl,rfl,q⟩
 ·cases e
theorem jO:OpR X (compareOp .LtE) (JY leC):=by
 intro pins s σ H x y v u Q I rx ry h;obtain⟨t,t',b,r,r',e,q⟩:=h;unfold leC at e;split at e
 ·rename_i i j;cases e;cases r;cases r';exact GS pins s σ H _ _ v u Q I rx ry ⟨i,j,rfl,rfl,q⟩
 ·rename_i i j;cases e;cases r;cases r';obtain⟨t1,rfl⟩:=rx;obtain⟨t2,rfl⟩:=ry;exact PySem.P.le_str ⟨.bl _,H,I,rfl,q⟩
 ·cases e
end
section
def uI (f:T->Option Bool):List T->Option Bool
 | []=>some false
 | t :: r=>match f t with
  | none=>none
  | some b=>match uI f r with
   | none=>none
   | some c=>some (b || c)
def inC (t t' :T):R Bool:=match t' with
 | .tup ys=>match uI (λy=>eqF 30 y t) ys with | some b=> .ok b | none=> .bad
 | .lst ys=>match uI (λy=>eqF 30 y t) ys with | some b=> .ok b | none=> .bad
 | _=> .bad
def Q3 (t t' :T):R Bool:=(inC t t').bind λb=> .ok (!b)
theorem Q4:Nx inC:=λt t' c h=>by
 unfold inC at h;split at h
 ·split at h <;> cases h
 ·split at h <;> cases h
 ·cases h
theorem kE:Nx Q3:=λt t' c h=>by
 unfold Q3 at h;cases e:inC t t' with
 | bad=>rw[e]at h;cases h
 | ex k=>exact absurd e (Q4 _ _ _)
 | ok k=>rw[e]at h;cases h
open Classical in
theorem u8 (f:T->Option Bool):∃e:Value->Bool,∀(v:V) (t:T) (u:Value) (b:Bool),Zg v u->Rep H v t->f t=some b->e u=b:=by
 refine⟨λu=>decide (∃v t,Zg v u/\Rep H v t/\f t=some true),λv t u b rv r e=> ?_⟩;cases b with
 | true=>exact decide_eq_true ⟨v,t,rv,r,e⟩
 | false=>
  refine decide_eq_false ?_
  rintro⟨v',t',rv',r',e'⟩
  have:=rv.inj rv';subst this;have:=r.fn r';subst this;rw[e]at e';cases e'
theorem yO {H:Hp}{f:T->Option Bool}{e:Value->Bool}(he:∀(v:V) (t:T) (u:Value) (b:Bool),Zg v u->Rep H v t->f t=some b->e u=b):∀{xs:List V} {ts:List T} {its:List Value} {b:Bool},
  zU xs its->zz H xs ts->uI f ts=some b->its.any e=b/\∀u∈its,∃v t k,Zg v u/\Rep H v t/\f t=some k
 | _,_,_,b,.nil,.nil,h=>by
  have h' :some false=some b:=h;cases h';exact⟨rfl,λu hu=>by simp at hu⟩
 | _,_,_,b,.cons rv vs,.cons r rs,h=>by
  rename_i v u vals us t ts;unfold uI at h;cases q:f t with
  | none=>rw[q]at h;cases h
  | some k=>
   rw[q]at h;cases q' :uI f ts with
   | none=>rw[q']at h;cases h
   | some k' =>
    rw[q']at h;cases h;obtain⟨h1,h2⟩:=yO he vs rs q';refine⟨by rw[List.any_cons,h1,he v t u k rv r q],λw hw=> ?_⟩
    rcases aG.mp hw with rfl | hw
    ·exact⟨v,t,k,rv,r,q⟩
    ·exact h2 w hw
theorem yP (hu:X.A.units+64 < cLine)(neg:Bool):OpR X (compareOp (if neg then .NotIn else .In)) (JY (if neg then Q3 else inC)):=by
 intro pins s σ H x y v u Q I rx ry h;obtain⟨t,t',b,r,r',e,q⟩:=h;have hs:∃k,inC t t' = .ok k/\b=(if neg then !k else k):=by
  cases neg with
  | false=>exact⟨b,e,rfl⟩
  | true=>
   have e' :Q3 t t' = .ok b:=e;unfold Q3 at e';cases z:inC t t' with
   | bad=>rw[z]at e';cases e'
   | ex k=>exact absurd z (Q4 _ _ _)
   | ok k=>rw[z]at e';cases e';exact⟨k,rfl,rfl⟩
 obtain⟨k,ek,rfl⟩:=hs;unfold inC at ek;obtain⟨f,hf⟩:=u8 (H:=H) λy=>eqF 30 y t;have eqa:∀w,(∃v t' k,Zg v w/\Rep H v t' /\eqF 30 t' t=some k)->da X.A.in1 s w v (f w):=λw ⟨v',t',k,rv,rr,ee⟩=>by
  rw[hf v' t' w k rv rr ee];exact(yK I 30 X.A.in1 (by rw[jM];omega) t' t k v' x w v ee rr r rv rx).1
 split at ek
 ·rename_i ys;split at ek
  ·rename_i k' hk;cases ek;cases r' with
   | @tup l xs _ h1 r1=>
    obtain rfl:u=Value.ref l:=ry;obtain⟨its,rv,p,_⟩:=ZR I h1 r1;obtain⟨h2,h3⟩:=yO hf rv r1 hk;have h4:its.toArray.any f=k:=by simpa using h2
    cases neg with
    | false=>exact SeqAt.in_tupleAt f p (λw hw=>eqa w (h3 w (by simpa using hw))) (by rw[h4];exact⟨.bl k,H,I,rfl,q⟩)
    | true=>exact SeqAt.notIn_tupleAt f p (λw hw=>eqa w (h3 w (by simpa using hw))) (by rw[h4];exact⟨.bl (!k),H,I,rfl,q⟩)
  ·cases ek
 ·rename_i ys;split at ek
  ·rename_i k' hk;cases ek;cases r' with
   | @lst l xs _ h1 r1=>
    obtain rfl:u=Value.ref l:=ry;obtain⟨its,rv,p,_⟩:=zY I (.inl h1) r1;obtain⟨h2,h3⟩:=yO hf rv r1 hk;have h4:its.toArray.any f=k:=by simpa using h2
    cases neg with
    | false=>exact SeqAt.in_listAt f p (λw hw=>eqa w (h3 w (by simpa using hw))) (by rw[h4];exact⟨.bl k,H,I,rfl,q⟩)
    | true=>exact SeqAt.notIn_listAt f p (λw hw=>eqa w (h3 w (by simpa using hw))) (by rw[h4];exact⟨.bl (!k),H,I,rfl,q⟩)
  ·cases ek
 ·cases ek
theorem vm (hu:X.A.units+64 < cLine):OpR X (compareOp .In) (JY inC):=yP hu false
theorem Vx (hu:X.A.units+64 < cLine):OpR X (compareOp .NotIn) (JY Q3):=yP hu true
def yQ (t t' :T):R Bool:=match t' with
 | .non=>match t with | .non=> .ok true | _=> .ok false
 | .bl k=>match t with | .bl j=> .ok (j == k) | _=> .ok false
 | _=> .bad
def JC (t t' :T):R Bool:=(yQ t t').bind λb=> .ok (!b)
theorem Vy:Nx yQ:=λt t' c h=>by
 unfold yQ at h;split at h
 ·split at h <;> cases h
 ·split at h <;> cases h
 ·cases h
theorem vn:Nx JC:=λt t' c h=>by
 unfold JC at h;cases e:yQ t t' with
 | bad=>rw[e]at h;cases h
 | ex k=>exact absurd e (Vy _ _ _)
 | ok k=>rw[e]at h;cases h
theorem yR (neg:Bool):OpR X (compareOp (if neg then .IsNot else .Is)) (JY (if neg then JC else yQ)):=by
 intro pins s σ H x y v u Q I rx ry h;obtain⟨t,t',b,r,r',e,q⟩:=h;have hs:∃k,yQ t t' = .ok k/\b=(if neg then !k else k):=by
  cases neg with
  | false=>exact⟨b,e,rfl⟩
  | true=>
   have e' :JC t t' = .ok b:=e;unfold JC at e';cases z:yQ t t' with
   | bad=>rw[z]at e';cases e'
   | ex k=>exact absurd z (Vy _ _ _)
   | ok k=>rw[z]at e';cases e';exact⟨k,rfl,rfl⟩
 obtain⟨k,ek,rfl⟩:=hs;have go:plainIs v u=true/\(v == u)=k:=by
  cases r' with
  | non=>
   obtain rfl:u=Value.none:=ry;cases r with
   | non=>obtain rfl:v=Value.none:=rx;cases ek;exact⟨rfl,rfl⟩
   | bl j=>obtain rfl:v=Value.bool j:=rx;cases ek;exact⟨rfl,rfl⟩
   | int j=>obtain⟨t,rfl⟩:=rx;cases ek;exact⟨rfl,rfl⟩
   | str j=>obtain⟨t,rfl⟩:=rx;cases ek;exact⟨rfl,rfl⟩
   | tup _ _=>obtain rfl:v=Value.ref _:=rx;cases ek;exact⟨rfl,rfl⟩
   | lst _ _=>obtain rfl:v=Value.ref _:=rx;cases ek;exact⟨rfl,rfl⟩
   | fz _ _=>obtain rfl:v=Value.ref _:=rx;cases ek;exact⟨rfl,rfl⟩
  | bl k' =>
   obtain rfl:u=Value.bool k' :=ry;cases r with
   | non=>obtain rfl:v=Value.none:=rx;cases ek;exact⟨rfl,rfl⟩
   | bl j=>obtain rfl:v=Value.bool j:=rx;cases ek;exact⟨rfl,by cases j <;> cases k' <;> rfl⟩
   | int j=>obtain⟨t,rfl⟩:=rx;cases ek;exact⟨rfl,rfl⟩
   | str j=>obtain⟨t,rfl⟩:=rx;cases ek;exact⟨rfl,rfl⟩
   | tup _ _=>obtain rfl:v=Value.ref _:=rx;cases ek;exact⟨rfl,rfl⟩
   | lst _ _=>obtain rfl:v=Value.ref _:=rx;cases ek;exact⟨rfl,rfl⟩
   | fz _ _=>obtain rfl:v=Value.ref _:=rx;cases ek;exact⟨rfl,rfl⟩
  | _=>cases ek
 cases neg with
 | false=>exact wpAny_is_plain go.1 (by rw[go.2];exact⟨.bl k,H,I,rfl,q⟩)
 | true=>exact wpAny_isNot_plain go.1 (by rw[go.2];exact⟨.bl (!k),H,I,rfl,q⟩)
theorem kF:OpR X (compareOp .Is) (JY yQ):=yR false
theorem yS:OpR X (compareOp .IsNot) (JY JC):=yR true
def chE (g g' :T->T->R Bool)(fa fb fc:En->R T):En->R T:=λρ=>(fa ρ).bind λx=>(fb ρ).bind λy=>(g x y).bind λk=>if k=true then (fc ρ).bind λz=>(g' y z).bind λk' => .ok (.bl k') else .ok (.bl false)
def chT (g g' :T->T->R Bool)(fa fb fc:En->R T):En->R Bool:=λρ=>(fa ρ).bind λx=>(fb ρ).bind λy=>(g x y).bind λk=>if k=true then (fc ρ).bind λz=>g' y z else .ok false
theorem Vz (nx:Nx g)(nx' :Nx g')(ho:OpR X (compareOp op) (JY g))(ho' :OpR X (compareOp op') (JY g'))(ha:jx X Y a fa)(hb:jx X Y b fb)(hc:jx X Y c fc)
  (hm:lastMarks [op,op'] [b,c]=false:=by with_unfolding_all rfl):Snd X Y (.Compare a [op,op'] [b,c] pos) (chE g g' fa fb fc):= .mk λρ=>
 PE.imp (qR ho ho' (ha ρ) (hb ρ) (hc ρ) hm) λσ H Q ⟨B,I,q⟩=>step I q λt v H1 _ s1 r1 I1 q1=>step I1 q1 λt' v' H2 _ s2 r2 I2 q2=>by
  cases e:g t t' with
  | bad=>rw[e]at q2;exact q2.elim
  | ex c=>exact absurd e (nx _ _ _)
  | ok k=>
   rw[e]at q2;refine⟨t,t',k,r1.mono s2,r2,e,k,rfl, ?_⟩;cases k with
   | false=>exact ZC I2 q2 (.bl false)
   | true=>
    refine step I2 q2 λt3 v3 H3 _ s3 r3 I3 q3=> ?_
    ·cases e:g' t' t3 with
     | bad=>rw[e]at q3;exact q3.elim
     | ex c=>exact absurd e (nx' _ _ _)
     | ok k=>rw[e]at q3;exact⟨t',t3,k,r2.mono s3,r3,e,ZC I3 q3 (.bl k)⟩
theorem yT (nx:Nx g)(nx' :Nx g')(ho:OpR X (compareOp op) (JY g))(ho' :OpR X (compareOp op') (JY g'))(ha:jx X Y a fa)(hb:jx X Y b fb)(hc:jx X Y c fc)
  (hm:lastMarks [op,op'] [b,c]=false:=by with_unfolding_all rfl):wJ X Y (.Compare a [op,op'] [b,c] pos) (chT g g' fa fb fc):= .mk λρ=>
 PT.imp (qS ho ho' (ha ρ) (hb ρ) (hc ρ) hm) λσ H Q ⟨B,I,q⟩=>step I q λt v H1 _ s1 r1 I1 q1=>step I1 q1 λt' v' H2 _ s2 r2 I2 q2=>by
  cases e:g t t' with
  | bad=>rw[e]at q2;exact q2.elim
  | ex c=>exact absurd e (nx _ _ _)
  | ok k=>
   rw[e]at q2;refine⟨t,t',k,r1.mono s2,r2,e,k,rfl, ?_⟩;cases k with
   | false=>exact⟨false,rfl,ZC I2 q2 rfl⟩
   | true=>
    refine step I2 q2 λt3 v3 H3 _ s3 r3 I3 q3=> ?_
    ·cases e:g' t' t3 with
     | bad=>rw[e]at q3;exact q3.elim
     | ex c=>exact absurd e (nx' _ _ _)
     | ok k=>rw[e]at q3;exact⟨t',t3,k,r2.mono s3,r3,e,k,rfl,ZC I3 q3 rfl⟩
def VA (r r' r'' :R2)(ta tb tc td:TE):TE:=λσ H Q=>ta σ H λx H1=>tb σ H1 λy H2=>r x y H2 λz H3=>∃k,z= .bl k/\
 (if k=true then tc σ H3 λw' H4=>r' y w' H4 λz' H5=>∃k',z' = .bl k' /\(if k' =true then td σ H5 λw2 H6=>r'' w' w2 H6 Q else Q (.bl false) H5) else Q (.bl false) H3)
theorem yU (ho:OpR X (compareOp op) r)(ho' :OpR X (compareOp op') r')(ho'' :OpR X (compareOp op'') r'')(ha:PE X a ta)(hb:PE X b tb)(hc:PE X c tc)(hd:PE X d td)
  (hm:lastMarks [op,op',op''] [b,c,d]=false:=by with_unfolding_all rfl):PE X (.Compare a [op,op',op''] [b,c,d] pos) (VA r r' r'' ta tb tc td):=by
 intro pins s σ H Q I h;refine Compare_chain (thn (ha pins s σ H _ I h) λv s1 ⟨x,H1,I1,r1,q1⟩=>chain_link (thn (hb pins s1 σ H1 _ I1 q1) λu s2 ⟨y,H2,I2,r2,q2⟩=>
  thn (ho pins s2 σ H2 x y v u _ I2 r1 r2 q2) λd' s3 ⟨z,H3,I3,r3,k,e,q3⟩=> ?_)) hm
 subst e;cases r3;refine bp ?_;cases k with
 | false=>exact ite_ff ⟨.bl false,H3,I3,rfl,q3⟩
 | true=>
  refine ite_tt (chain_link (thn (hc pins s3 σ H3 _ I3 q3) λw' s4 ⟨z',H4,I4,r4,q4⟩=>thn (ho' pins s4 σ H4 y z' u w' _ I4 r2 r4 q4) λd2 s5 ⟨z5,H5,I5,r5,k5,e5,q5⟩=> ?_));subst e5;cases r5;refine bp ?_;cases k5 with
  | false=>exact ite_ff ⟨.bl false,H5,I5,rfl,q5⟩
  | true=>exact ite_tt (chain_last (thn (hd pins s5 σ H5 _ I5 q5) λw6 s6 ⟨z6,H6,I6,r6,q6⟩=>ho'' pins s6 σ H6 z' z6 w' w6 Q I6 r4 r6 q6))
def ch3E (g g' g'' :T->T->R Bool)(fa fb fc fd:En->R T):En->R T:=λρ=>(fa ρ).bind λx=>(fb ρ).bind λy=>(g x y).bind λk=>if k=true then (fc ρ).bind λz=>(g' y z).bind λk' =>
 if k' =true then (fd ρ).bind λw=>(g'' z w).bind λk'' => .ok (.bl k'') else .ok (.bl false) else .ok (.bl false)
theorem Q5 (nx:Nx g)(nx' :Nx g')(nx'' :Nx g'')(ho:OpR X (compareOp op) (JY g))(ho' :OpR X (compareOp op') (JY g'))(ho'' :OpR X (compareOp op'') (JY g''))
  (ha:jx X Y a fa) (hb:jx X Y b fb) (hc:jx X Y c fc) (hd:jx X Y d fd)
  (hm:lastMarks [op,op',op''] [b,c,d]=false:=by with_unfolding_all rfl):Snd X Y (.Compare a [op,op',op''] [b,c,d] pos) (ch3E g g' g'' fa fb fc fd):= .mk λρ=>
 PE.imp (yU ho ho' ho'' (ha ρ) (hb ρ) (hc ρ) (hd ρ) hm) λσ H Q ⟨B,I,q⟩=>step I q λt v H1 _ s1 r1 I1 q1=>step I1 q1 λt' v' H2 _ s2 r2 I2 q2=>by
  cases e:g t t' with
  | bad=>rw[e]at q2;exact q2.elim
  | ex c=>exact absurd e (nx _ _ _)
  | ok k=>
   rw[e]at q2;refine⟨t,t',k,r1.mono s2,r2,e,k,rfl, ?_⟩;cases k with
   | false=>exact ZC I2 q2 (.bl false)
   | true=>
    refine step I2 q2 λt3 v3 H3 _ s3 r3 I3 q3=> ?_
    ·cases e:g' t' t3 with
     | bad=>rw[e]at q3;exact q3.elim
     | ex c=>exact absurd e (nx' _ _ _)
     | ok k=>
      rw[e]at q3;refine⟨t',t3,k,r2.mono s3,r3,e,k,rfl, ?_⟩;cases k with
      | false=>exact ZC I3 q3 (.bl false)
      | true=>
       refine step I3 q3 λt4 v4 H4 _ s4 r4 I4 q4=> ?_
       ·cases e:g'' t3 t4 with
        | bad=>rw[e]at q4;exact q4.elim
        | ex c=>exact absurd e (nx'' _ _ _)
        | ok k=>rw[e]at q4;exact⟨t3,t4,k,r3.mono s4,r4,e,ZC I4 q4 (.bl k)⟩
variable {rest:List Expr}{ga gb:En->R Bool}
def jI (fa fb:En->R T):En->R T:=λρ=>(fa ρ).bind λx=>match x with
 | .bl true=>fb ρ
 | .bl false=> .ok (.bl false)
 | _=> .bad
def orE (fa fb:En->R T):En->R T:=λρ=>(fa ρ).bind λx=>match x with
 | .bl true=> .ok (.bl true)
 | .bl false=>fb ρ
 | _=> .bad
def z0f (fa:En->R T):En->R T:=λρ=>(fa ρ).bind λx=>match x with
 | .bl k=> .ok (.bl (!k))
 | _=> .bad
theorem z0g {op}(h:Snd X Y a fa):Snd X Y (.BoolOp op [a] pos) fa:= .mk λρ=>XO (h ρ)
theorem z0h (ha:Snd X Y a fa)(hb:Snd X Y (.BoolOp .And (b :: rest) pos) fb):Snd X Y (.BoolOp .And (a :: b :: rest) pos) (jI fa fb):= .mk λρ=>
 PE.imp (XQ (ha ρ) (hb ρ)) λσ H Q ⟨B,I,q⟩=>step I q λt v H1 _ s1 r1 I1 q1=>by
  cases r1 with
  | bl k=>
   refine⟨k,rfl, ?_⟩;cases k with
   | true=>exact⟨_,I1,q1⟩
   | false=>exact ZC I1 q1 (.bl false)
  | _=>exact q1.elim
theorem s_or (ha:Snd X Y a fa)(hb:Snd X Y (.BoolOp .Or (b :: rest) pos) fb):Snd X Y (.BoolOp .Or (a :: b :: rest) pos) (orE fa fb):= .mk λρ=>
 PE.imp (GH (ha ρ) (hb ρ)) λσ H Q ⟨B,I,q⟩=>step I q λt v H1 _ s1 r1 I1 q1=>by
  cases r1 with
  | bl k=>
   refine⟨k,rfl, ?_⟩;cases k with
   | false=>exact⟨_,I1,q1⟩
   | true=>exact ZC I1 q1 (.bl true)
  | _=>exact q1.elim
theorem z0i (ha:Snd X Y a fa):Snd X Y (.UnaryOp .Not a pos) (z0f fa):= .mk λρ=>
 PE.imp (XR (ha ρ)) λσ H Q ⟨B,I,q⟩=>step I q λt v H1 _ s1 r1 I1 q1=>by
  cases r1 with
  | bl k=>exact⟨k,rfl,ZC I1 q1 (.bl (!k))⟩
  | _=>exact q1.elim
structure UY (X:Cx) (Y:Fx) (e:Expr) (f:En->R Bool):Prop where
 mk ::
 go:∀ρ,PW X e (tS Y rE f ρ)
instance {X:Cx}{Y:Fx}{e:Expr}{f:En->R Bool}:CoeFun (UY X Y e f) λ_=>∀ρ,PW X e (tS Y rE f ρ):=⟨UY.go⟩
theorem UY.t (h:UY X Y e f):wJ X Y e f:= .mk λρ=>(h ρ).pt
theorem PW.imp (h:PW X e t)(i:∀σ H Q,t' σ H Q->t σ H Q):PW X e t' :=λwh pins s σ H Q I q=>h wh pins s σ H Q I (i σ H Q q)
def JD (fa fb:En->R Bool):En->R Bool:=λρ=>(fa ρ).bind λx=>if x=true then fb ρ else .ok false
def orT (fa fb:En->R Bool):En->R Bool:=λρ=>(fa ρ).bind λx=>if x=true then .ok true else fb ρ
def j8 (fa:En->R Bool):En->R Bool:=λρ=>(fa ρ).bind λx=> .ok (!x)
theorem kG (h:wJ X Y a ga):UY X Y (.BoolOp .And [a] pos) ga:= .mk λρ=>V2 (h ρ)
theorem z0j (h:wJ X Y a ga):UY X Y (.BoolOp .Or [a] pos) ga:= .mk λρ=>XL (h ρ)
theorem z0k (ha:wJ X Y a ga)(hb:UY X Y (.BoolOp .And (b :: rest) pos) gb):UY X Y (.BoolOp .And (a :: b :: rest) pos) (JD ga gb):= .mk λρ=>
 PW.imp (XM (ha ρ) (hb ρ)) λσ H Q ⟨B,I,q⟩=>step I q λt v H1 _ s1 r1 I1 q1=>by
  have r1' :v=t:=r1;subst r1';cases v with
  | true=>exact⟨_,I1,q1⟩
  | false=>exact ZC I1 q1 rfl
theorem w_or (ha:wJ X Y a ga)(hb:UY X Y (.BoolOp .Or (b :: rest) pos) gb):UY X Y (.BoolOp .Or (a :: b :: rest) pos) (orT ga gb):= .mk λρ=>
 PW.imp (GE (ha ρ) (hb ρ)) λσ H Q ⟨B,I,q⟩=>step I q λt v H1 _ s1 r1 I1 q1=>by
  have r1' :v=t:=r1;subst r1';cases v with
  | false=>exact⟨_,I1,q1⟩
  | true=>exact ZC I1 q1 rfl
theorem z0l (ha:wJ X Y a ga):wJ X Y (.UnaryOp .Not a pos) (j8 ga):= .mk λρ=>
 PT.imp (XN (ha ρ)) λσ H Q ⟨B,I,q⟩=>step I q λt v H1 _ s1 r1 I1 q1=>by
  have r1' :v=t:=r1;subst r1';exact ZC I1 q1 rfl
def tru:T->R Bool
 | .bl k=> .ok k
 | .non=> .ok false
 | .int i=> .ok (i != 0)
 | .tup xs=> .ok (!xs.isEmpty)
 | .lst xs=> .ok (!xs.isEmpty)
 | _=> .bad
def Zp (fa:En->R T):En->R Bool:=λρ=>(fa ρ).bind tru
theorem isE (r:zz H xs ts):(!xs.isEmpty)= !ts.isEmpty:=by cases r <;> rfl
theorem z0m (ha:jx X Y a fa)(he:∀whole,isTrue a X.env whole=(do let v ← whole;standAt a.pos;holding [v] (truthy v)):=by intro _;rfl):wJ X Y a (Zp fa):= .mk λρ=>
 PT.imp (qT (ha ρ) he) λσ H Q ⟨B,I,q⟩=>step I q λt v H1 _ s1 r1 I1 q1=>by
  cases r1 with
  | bl k=>exact⟨k,rfl,ZC I1 q1 rfl⟩
  | non=>exact⟨false,rfl,ZC I1 q1 rfl⟩
  | int i=>exact⟨_,rfl,ZC I1 q1 rfl⟩
  | tup h r=>exact⟨_,.inr (.inl ⟨_,SqT.of h,rfl⟩),ZC I1 q1 (isE r)⟩
  | lst h r=>exact⟨_,.inl ⟨_,SqL.of h,rfl⟩,ZC I1 q1 (isE r)⟩
  | _=>exact q1.elim
def ifE (g:En->R Bool)(fa fb:En->R T):En->R T:=λρ=>(g ρ).bind λk=>if k=true then fa ρ else fb ρ
theorem s_if (hc:wJ X Y c ga)(ha:Snd X Y a fa)(hb:Snd X Y b fb):Snd X Y (.IfExp c a b pos) (ifE ga fa fb):= .mk λρ=>
 PE.imp (qP (hc ρ) (ha ρ) (hb ρ)) λσ H Q ⟨B,I,q⟩=>step I q λt v H1 _ s1 r1 I1 q1=>by
  have r1' :v=t:=r1;subst r1';cases v with
  | true=>exact⟨_,I1,q1⟩
  | false=>exact⟨_,I1,q1⟩
end
end PV
namespace PV
open PySem PySem.Spec PyProof.Rows L2
section
variable {X:Cx}{Y:Fx}{a b c d:Expr}{fa fb fc fd:En->R T}{pos p:Pos}
def ap1 (g:T->R T)(fa:En->R T):En->R T:=λρ=>(fa ρ).bind g
abbrev St1 (X:Cx)(a:Expr):Prop:=starEach [a] X.env=[(false,eval a X.env)]
theorem yV {id:String}{x:Str}{r:List V->Hp->VK->Prop}{g:T->R T}(hc:ZQ X (.builtin id) r)(hr:∀v t B H Q,Rep H v t->zl B H->Po Y rC B H (g t) Q->r [v] H Q)
  (gl:Gl X x) (mg:X.mg x=none) (bt:bootBuiltins x=some (.builtin id)) (ha:jx X Y a fa) (hs:St1 X a:=by exact st1 rfl) (hn:x ≠ "__name__":=by decide) (hd:(x == ("__debug__":Str))=false:=by decide):Snd X Y (.Call (.Name x p) [a] [] pos) (ap1 g fa):= .mk λρ=>
 PE.imp (jj hc gl mg bt (zq (ha ρ) Z6 hs) hn hd hs rfl) λσ H Q ⟨B,I,q⟩=>step I q λt v H1 _ s1 r1 I1 q1=>hr v t _ H1 Q r1 I1.sB q1
theorem vo {id:String}{x:Str}{r:List V->Hp->VK->Prop}{g:T->R T}(hc:ZQ X (.type id) r)(hr:∀v t B H Q,Rep B v t->zl B H->Po Y rC B H (g t) Q->r [v] H Q)
  (gl:Gl X x) (mg:X.mg x=none) (bt:bootBuiltins x=some (.type id)) (ha:Snd X Y a fa) (hs:St1 X a:=by exact st1 rfl) (hn:x ≠ "__name__":=by decide) (hd:(x == ("__debug__":Str))=false:=by decide):Snd X Y (.Call (.Name x p) [a] [] pos) (ap1 g fa):= .mk λρ=>
 PE.imp (jK hc gl mg bt (zq (ha ρ) Z6 hs) hn hd hs rfl) λσ H Q ⟨B,I,q⟩=>step I q λt v H1 _ s1 r1 I1 q1=>hr v t _ H1 Q r1 I1.sB q1
def Z2:T->R T
 | .tup xs=> .ok (.int xs.length)
 | .lst xs=> .ok (.int xs.length)
 | .fz xs=> .ok (.int xs.length)
 | .str x=>if x.length<=bnd then .ok (.int x.length) else .bad
 | _=> .bad
theorem z0n (v:V)(t:T)(B H:Hp)(Q:VK)(r:Rep H v t)(sB:zl B H)(q:Po Y rC B H (Z2 t) Q):
  (∃p ys,[v]=[V.ref p]/\(SqL X.K H p ys\/SqT X.K H p ys)/\Q (V.int ys.length) H)\/(∃z,[v]=[V.str z]/\z.length<=sizeLine/\Q (V.int z.length) H):=by
 cases r with
 | tup h r=>exact .inl ⟨_,_,rfl,.inr (SqT.of h),po0 sB q rfl (by rw[r.length];exact .int _)⟩
 | lst h r=>exact .inl ⟨_,_,rfl,.inl (SqL.of h),po0 sB q rfl (by rw[r.length];exact .int _)⟩
 | fz h r=>exact .inl ⟨_,_,rfl,.inl (.inl (.inr ⟨_,h⟩)),po0 sB q rfl (by rw[r.length];exact .int _)⟩
 | str x=>
  by_cases hb:x.length<=bnd
  ·exact .inr ⟨x,rfl,ZN hb,po0 sB q (if_pos hb) (.int _)⟩
  ·rw[show Z2 (.str x)= .bad from if_neg hb]at q;exact q.elim
 | _=>exact q.elim
theorem z0o (gl:Gl X "len")(mg:X.mg "len"=none)(ha:jx X Y a fa)(hs:St1 X a:=by exact st1 rfl):Snd X Y (.Call (.Name "len" p) [a] [] pos) (ap1 Z2 fa):=
 yV (Wl.or Wm) z0n gl mg PySem.boot_len ha hs
def G5:T->R T
 | .tup xs=> .ok (.tup xs)
 | .lst xs=> .ok (.tup xs)
 | _=> .bad
theorem z0p (v:V)(t:T)(B H:Hp)(Q:VK)(r:Rep B v t)(sB:zl B H)(q:Po Y rC B H (G5 t) Q):
  ∃p ys,[v]=[V.ref p]/\((SqL X.K H p ys/\∀l,H l=none->Q (.ref l) (upd H l (.tup ys)))\/(SqT X.K H p ys/\Q (.ref p) H)):=by
 cases r with
 | tup h r=>exact⟨_,_,rfl,.inr ⟨SqT.of (sB _ _ h),po0 sB q rfl (.tup h r)⟩⟩
 | lst h r=>exact⟨_,_,rfl,.inl ⟨SqL.of (sB _ _ h),λl hl=>ky sB q rfl r hl⟩⟩
 | _=>exact q.elim
theorem VB (gl:Gl X "tuple")(mg:X.mg "tuple"=none)(ha:Snd X Y a fa)(hs:St1 X a:=by exact st1 rfl):Snd X Y (.Call (.Name "tuple" p) [a] [] pos) (ap1 G5 fa):=
 vo wI z0p gl mg (PyProof.Rows.Boot.«tuple») ha hs
def tyN:T->String
 | .non=>"NoneType"
 | .bl _=>"bool"
 | .int _=>"int"
 | .str _=>"str"
 | .tup _=>"tuple"
 | .lst _=>"list"
 | .fz _=>"list"
def isT (n:String)(t:T):Bool:=tyN t == n || (n == "int" && tyN t == "bool")
theorem z0q (K:ac)(r:Rep H v t):Uv K H v (.type (tyN t)):=by
 cases r with
 | non=>exact .non
 | bl b=>exact .bl b
 | int b=>exact .int b
 | str b=>exact .str b
 | tup h _=>exact .tup h
 | lst h _=>exact .lst h
 | fz h _=>exact .frz h
theorem Q6:ZQ X (.builtin "isinstance") (λxs H Q=>∃v n t,xs=[v,.ty n]/\Rep H v t/\aQ X.K (.type (tyN t)) (.type n)=some (isT n t)/\Q (.bl (isT n t)) H):=by
 intro pins s σ H xs us Q I rv h;obtain⟨v,n,t,rfl,r,hk,q⟩:=h;obtain⟨u,w,rfl,ru,rw'⟩:=yo rv;obtain rfl:w=Value.type n:=rw';exact yv I ru (z0q X.K r) hk λtk=>⟨.bl _,H,I.tok tk,rfl,q⟩
def j9 (n:String)(t:T):R T:= .ok (.bl (isT n t))
theorem VC (K:ac)(t:T):aQ K (.type (tyN t)) (.type "int")=some (isT "int" t):=by cases t <;> rfl
theorem Q7 (K:ac)(t:T):aQ K (.type (tyN t)) (.type "bool")=some (isT "bool" t):=by cases t <;> rfl
theorem VD (K:ac)(t:T):aQ K (.type (tyN t)) (.type "str")=some (isT "str" t):=by cases t <;> rfl
theorem yW (K:ac)(t:T):aQ K (.type (tyN t)) (.type "tuple")=some (isT "tuple" t):=by cases t <;> rfl
theorem Q8 (hk:∀t,aQ X.K (.type (tyN t)) (.type n)=some (isT n t))(gl:Gl X "isinstance")(mg:X.mg "isinstance"=none)(gl' :Gl X (aR n))(mg' :X.mg (aR n)=none)(bt:bootBuiltins (aR n)=some (.type n))(ha:jx X Y a fa)
  (hs:starEach [a,.Name (aR n) p'] X.env=[(false,eval a X.env),(false,eval (.Name (aR n) p') X.env)]:=by exact st2 rfl rfl) (hs2:starEach [.Name (aR n) p'] X.env=[(false,eval (.Name (aR n) p') X.env)]:=by exact st1 rfl)
  (hn:aR n ≠ "__name__":=by decide) (hd:(aR n == ("__debug__":Str))=false:=by decide) (hz:((backTo pos (starEach [.Name (aR n) p'] X.env)).any λx=>x.fst)=false:=by exact zQ rfl):
  Snd X Y (.Call (.Name "isinstance" p) [a,.Name (aR n) p'] [] pos) (ap1 (j9 n) fa):= .mk λρ=>
 PE.imp (jj Q6 gl mg PyProof.Rows.Boot.«isinstance» (zq (ha ρ) (zq (yf (v:= .ty n) gl' mg' bt rfl hn hd) Z6 hs2) (by rw[hs,hs2])) (by decide) (by decide) (by rw[hs,hs2]) hz) λσ H Q ⟨B,I,q⟩=>
  step I q λt v H1 _ s1 r1 I1 q1=>⟨v,n,t,rfl,r1,hk t,po0 I1.sB q1 rfl (.bl _)⟩
def atT (xs:List T)(i:Int):R T:=match atI xs i with
 | some t=> .ok t
 | none=> .bad
def ixT:T->T->R T
 | .tup xs,.int i=>atT xs i
 | .lst xs,.int i=>atT xs i
 | .fz xs,.int i=>atT xs i
 | .str z,.int i=>if z.length<=bnd then match atI z.cps.toList i with | some c=> .ok (.str ⟨#[c]⟩) | none=> .bad else .bad
 | _,_=> .bad
theorem yX {i:Int}(r:zz H xs ts)(h:atI ts i=some t):∃v,atI xs i=some v/\Rep H v t:=by
 unfold atI at h ⊢;rw[r.length];cases e:ixN ts.length i with
 | none=>rw[e]at h;cases h
 | some j=>
  rw[e]at h;obtain⟨v,h1,h2⟩:=r.get (show ts[j]? =some t from h);exact⟨v,h1,h2⟩
theorem s_ix (ha:Snd X Y a fa)(hb:Snd X Y b fb)(hs:yB b:=by exact λ_ _=>rfl):Snd X Y (.Subscript a b pos) (zd ixT fa fb):= .mk λρ=>
 PE.imp (z00 kl (ha ρ) (hb ρ) hs) λσ H Q ⟨B,I,q⟩=>step I q λt v H1 _ s1 r1 I1 q1=>step I1 q1 λt' v' H2 _ s2 r2 I2 q2=>by
  have r1:=r1.mono (zE.ge I1.sB s2);cases r2 with
  | int i=>
   cases r1 with
   | @tup _ xs ts h r=>
    have q2:Po Y rC _ H2 (atT ts i) Q:=q2;unfold atT at q2;split at q2
    ·rename_i t' e;obtain⟨w,e1,e2⟩:=yX r e;exact .inr (.inl ⟨_,xs,i,w,rfl,rfl,SqT.of (I2.sB _ _ h),e1,po0 I2.sB q2 rfl e2⟩)
    ·exact q2.elim
   | @lst _ xs ts h r=>
    have q2:Po Y rC _ H2 (atT ts i) Q:=q2;unfold atT at q2;split at q2
    ·rename_i t' e;obtain⟨w,e1,e2⟩:=yX r e;exact .inl ⟨_,xs,i,w,rfl,rfl,SqL.of (I2.sB _ _ h),e1,po0 I2.sB q2 rfl e2⟩
    ·exact q2.elim
   | @fz _ _ xs ts h r=>
    have q2:Po Y rC _ H2 (atT ts i) Q:=q2;unfold atT at q2;split at q2
    ·rename_i t' e;obtain⟨w,e1,e2⟩:=yX r e;exact .inl ⟨_,xs,i,w,rfl,rfl,.inl (.inr ⟨_,I2.sB _ _ h⟩),e1,po0 I2.sB q2 rfl e2⟩
    ·exact q2.elim
   | str z=>
    have q2:Po Y rC _ H2 (if z.length<=bnd then match atI z.cps.toList i with | some c=> .ok (.str ⟨#[c]⟩) | none=> .bad else .bad) Q:=q2
    split at q2
    ·rename_i hb;split at q2
     ·rename_i c e;exact .inr (.inr ⟨z,i,c,rfl,rfl,ZN hb,e,po0 I2.sB q2 rfl (.str _)⟩)
     ·exact q2.elim
    ·exact q2.elim
   | _=>exact q2.elim
  | _=>cases r1 <;> exact q2.elim
structure VE (X:Cx) (Y:Fx) (e:Option Expr) (f:En->R (Option Int)):Prop where
 mk ::
 go:∀ρ,PO X e (tS Y rE f ρ)
instance {X:Cx}{Y:Fx}{e:Option Expr}{f:En->R (Option Int)}:CoeFun (VE X Y e f) λ_=>∀ρ,PO X e (tS Y rE f ρ):=⟨VE.go⟩
def noO:En->R (Option Int):=λ_=> .ok none
def Zq (fa:En->R T):En->R (Option Int):=λρ=>(fa ρ).bind λt=>match t with
 | .int i=> .ok (some i)
 | _=> .bad
theorem PO.imp {e:Option Expr}{t t' :TO}(h:PO X e t)(i:∀σ H Q,t' σ H Q->t σ H Q):PO X e t' :=λpins s σ H Q I q=>h pins s σ H Q I (i σ H Q q)
theorem kH:VE X Y none noO:= .mk λρ=>PO.imp Vd λσ H Q ⟨B,I,q⟩=>ZC I q rfl
theorem kI (ha:Snd X Y a fa):VE X Y (some a) (Zq fa):= .mk λρ=>PO.imp (Ve (ha ρ)) λσ H Q ⟨B,I,q⟩=>step I q λt v H1 _ s1 r1 I1 q1=>by
 cases r1 with
 | int i=>exact⟨i,rfl,ZC I1 q1 rfl⟩
 | _=>exact q1.elim
def cut (xs:List T)(lo hi:Option Int):List T:=(xs.drop (HT.sIx xs.length 0 lo)).take (HT.sIx xs.length xs.length hi - HT.sIx xs.length 0 lo)
def slT (t:T)(lo hi:Option Int):R T:=match t with
 | .tup xs=> .ok (.tup (cut xs lo hi))
 | .lst xs=> .ok (.lst (cut xs lo hi))
 | _=> .bad
def slE (fa:En->R T)(fl fh:En->R (Option Int)):En->R T:=λρ=>(fa ρ).bind λt=>(fl ρ).bind λlo=>(fh ρ).bind λhi=>slT t lo hi
theorem yY {lo hi:Option Int}(r:zz H xs ts):zz H (vg xs lo hi) (cut ts lo hi):=by
 unfold vg cut;rw[r.length];exact(r.drop _).take _
theorem jZ {lo hi:Option Int}(ht:IsTup s.heap t items)(hs:s.heap.IsSliceOf sl vl vu .none)(pl:IsPart vl lo)(pu:IsPart vu hi)
  (hw:HT.sIx items.size 0 lo=0/\HT.sIx items.size items.size hi=items.size) (h:Q (.ref t) s):wpAny (model prog w) A (getItem (.ref t) (.ref sl)) Q E s:=by
 obtain⟨os,hos,hcs,hds⟩:=id hs;have hTs:s.TypeIs (.ref sl) "slice":=⟨os,hos,hcs⟩;unfold getItem
 try with_reducible refine cV ?_
 first | refine aa (ar ?_) | skip
 refine aa (wpAny_sequenceKey ht.typeIs (by decide) ?_)
 refine aa (bx (name:=aR "__getitem__") ht.typeIs bg
  (bU bg ht.typeIs entry_tuple_getitem ?_ (args_tuple_getitem _ _)))
 show wpAny _ _ (eA (.ref t) >>= _) _ _ s;refine aa (tupleItemsOf_ ht ?_);refine aa (wpAny_typeOf hTs ?_);rw[if_pos (by decide)]
 refine aa (HT.sliceApplied_gen hs pl pu ?_);have hyes:(((HT.sIx items.size 0 lo:Nat):Int) == 0 && (1:Int) == 1 && (HT.sIx items.size items.size hi - HT.sIx items.size 0 lo) == items.size)=true:=by
  rw[hw.1,hw.2];simp
 show wpAny _ _ (if (((HT.sIx items.size 0 lo:Nat):Int) == 0 && (1:Int) == 1 && (HT.sIx items.size items.size hi - HT.sIx items.size 0 lo) == items.size)=true then _ else _) _ _ s
 rw[if_pos hyes];unfold Builtin.Tuple.tupleIsExact;refine aa (aa (wpAny_typeOf ht.typeIs (ar ?_)));rw[if_pos (by decide)]
 exact aa (dX (ar ⟨_,rfl,ar h⟩))
theorem UD:SlR X (λx lo hi H Q=>∃a xs,x= .ref a/\SqT X.K H a xs/\(HT.sIx xs.length 0 lo=0/\HT.sIx xs.length xs.length hi=xs.length)/\Q (.ref a) H):=by
 intro pins s σ H x v vl vu lo hi sl Q I rx hs pl pu h;obtain⟨a,xs,rfl,hx,hw,q⟩:=h;obtain rfl:v=Value.ref a:=rx;obtain⟨its,r,ht,hz⟩:=I.tuple hx;have hlen:its.toArray.size=xs.length:=by rw[aA];exact r.length.symm
 refine⟨"tuple",_,bg.lookup,ht.typeIs, ?_⟩;exact jZ ht hs pl pu (by rw[hlen];exact hw) ⟨.ref a,H,I,rfl,q⟩
theorem VF {lo hi:Option Int}(h1:HT.sIx xs.length 0 lo=0)(h2:HT.sIx xs.length xs.length hi=xs.length):cut xs lo hi=xs:=by
 unfold cut;rw[h1,h2];simp
theorem VG {lo hi:Option Expr}{fl fh:En->R (Option Int)}(ha:Snd X Y a fa)(hl:VE X Y lo fl)(hh:VE X Y hi fh):Snd X Y (.Subscript a (.Slice lo hi none p2) pos) (slE fa fl fh):= .mk λρ=>
 PE.imp (qZ (kg.or (UD.or Vi)) (ha ρ) (hl ρ) (hh ρ)) λσ H Q ⟨B,I,q⟩=>step I q λt v H1 _ s1 r1 I1 q1=>step I1 q1 λl l' H2 _ s2 el I2 q2=>step I2 q2 λh h' H3 _ s3 eh I3 q3=>by
  have el' :l' =l:=el;have eh' :h' =h:=eh;subst el' eh';have r1:=r1.mono ((zE.ge I1.sB s2).trans (zE.ge I2.sB s3));cases r1 with
  | @tup _ xs ts hx r=>
   have q3:Po Y rC _ H3 (.ok (.tup (cut ts l' h'))) Q:=q3
   by_cases hw:HT.sIx xs.length 0 l' =0/\HT.sIx xs.length xs.length h' =xs.length
   ·refine .inr (.inl ⟨_,xs,rfl,SqT.of (I3.sB _ _ hx),hw,po0 I3.sB q3 rfl ?_⟩);rw[r.length]at hw;rw[VF hw.1 hw.2];exact .tup hx r
   ·exact .inl ⟨_,xs,rfl,SqT.of (I3.sB _ _ hx),hw,λp hp=>ky I3.sB q3 rfl (yY r) hp⟩
  | @lst _ xs ts hx r=>
   have q3:Po Y rC _ H3 (.ok (.lst (cut ts l' h'))) Q:=q3;exact .inr (.inr ⟨_,xs,rfl,SqL.of (I3.sB _ _ hx),λp hp=>z06 I3.sB q3 rfl (yY r) hp⟩)
  | _=>exact q3.elim
def yZ (t t' :T):R T:=match t,t' with
 | .int i,.int j=> .ok (.int (if j < i then j else i))
 | _,_=> .bad
theorem kJ (hc:X.calm=true)(gl:Gl X "min")(mg:X.mg "min"=none)(ha:Snd X Y a fa)(hb:Snd X Y b fb)
  (hs:starEach [a,b] X.env=[(false,eval a X.env),(false,eval b X.env)]:=by exact st2 rfl rfl) (hs2:starEach [b] X.env=[(false,eval b X.env)]:=by exact st1 rfl):
  Snd X Y (.Call (.Name "min" p) [a,b] [] pos) (zd yZ fa fb):= .mk λρ=>
 PE.imp (jj (yq hc) gl mg PyProof.Rows.Boot.«min» (zq (ha ρ) (zq (hb ρ) Z6 hs2) (by rw[hs,hs2])) (by decide) (by decide) (by rw[hs,hs2]) (by rw[hs2];rfl)) λσ H Q ⟨B,I,q⟩=>
  step I q λt v H1 _ s1 r1 I1 q1=>step I1 q1 λt' v' H2 _ s2 r2 I2 q2=>by
   cases r1 with
   | int i=>
    cases r2 with
    | int j=>exact⟨i,j,rfl,po0 I2.sB q2 rfl (.int _)⟩
    | _=>exact q2.elim
   | _=>cases r2 <;> exact q2.elim
def WU:List T->Option Bool
 | []=>some true
 | .bl k :: r=>match WU r with | some j=>some (k && j) | none=>none
 | _ :: _=>none
def vp:T->R T
 | .lst ts=>match WU ts with | some k=> .ok (.bl k) | none=> .bad
 | _=> .bad
theorem Y0:∀{H:Hp} {xs:List V} {ts:List T} {its:List Value} {k:Bool},zz H xs ts->zU xs its->WU ts=some k->∃tr:Nat->Bool,(∀i v,its[i]? =some v->v=Value.bool (tr i))/\(aW its.length).all tr=k
 | _,_,_,_,k,.nil,.nil,h=>by
  have h' :some true=some k:=h;cases h';exact⟨λ_=>true,λi v e=>by simp at e,rfl⟩
 | H,_,_,_,k,.cons (v:=x) (t:=t) r rs,.cons (b:=u) rv vs,h=>by
  cases r with
  | bl b=>
   unfold WU at h;split at h
   ·rename_i j e;cases h;obtain⟨tr,h1,h2⟩:=Y0 rs vs e;obtain rfl:u=Value.bool b:=rv;refine⟨λi=>match i with | 0=>b | i+1=>tr i,λi v e=> ?_, ?_⟩
    ·cases i with
     | zero=>simp at e;exact e.symm
     | succ i=>exact h1 i v (by simpa using e)
    ·rw[ah,cR,bW,fY,← h2];rfl
   ·cases h
  | _=>cases h
theorem Y1 (hh:X.A.handled=none):ZQ X (.builtin "all") (λvs H Q=>∃l xs ts k,vs=[.ref l]/\H l=some (.lst xs)/\zz H xs ts/\WU ts=some k/\Q (.bl k) H):=by
 intro pins s σ H vs us Q I rv h;obtain⟨l,xs,ts,k,rfl,hl,r,hk,q⟩:=h;obtain⟨u,rfl,ru⟩:=jr rv;obtain rfl:u=Value.ref l:=ru;obtain⟨its,rv,p,_⟩:=zY I (.inl hl) r;obtain⟨tr,h1,h2⟩:=Y0 r rv hk;refine call_all_walk (wpAny_pyIter_list p ?_);have hlt:l < s.heap.objs.size:=I.hok.lt hl;have old:∀b o,s.heap.get? b=some o->(s.heap.push { cls:= .type "list_iterator",data:= .fields #[.ref l,.int 0 0] }).get? b=some o:=λb o e=>ai _ e;refine⟨s.heap.objs.size,_,_,_,_,_,tr,rfl,Walks.list (A:=X.A.in1) hh s.heap.objs.size l (aL hlt) its.toArray, ?_, ?_,λh' tk hk' => ?_⟩
 ·refine⟨?_,p.at λo e=>old _ o e⟩;exact⟨_,ao _ rfl,rfl,rfl⟩
 ·intro i v s' Q' E' hi hq;rw[h1 i v (by simpa using hi)]
  exact bp hq
 ·rw[aA,h2];refine⟨.bl k,H,I.kept (t' :=tk) (λb o e=>hk' b o ?_ (old b o e)),rfl,q⟩;simp;exact aL (ax e)
theorem z0r (hh:X.A.handled=none)(gl:Gl X "all")(mg:X.mg "all"=none)(ha:jx X Y a fa)(hs:St1 X a:=by exact st1 rfl):Snd X Y (.Call (.Name "all" p) [a] [] pos) (ap1 vp fa):=
 yV (Y1 hh) (λv t B H Q r sB q=>by
  cases r with
  | @lst l xs ts h r=>
   have q:Po Y rC B H (match WU ts with | some k=> .ok (.bl k) | none=> .bad) Q:=q
   split at q
   ·rename_i k e;exact⟨l,xs,ts,k,rfl,h,r,e,po0 sB q rfl (.bl k)⟩
   ·exact q.elim
  | _=>exact q.elim) gl mg PyProof.Rows.Boot.«all» ha hs
end
inductive RS where
 | nx (ρ:En) | rt (t:T) | bk (ρ:En) | ct (ρ:En) | ex (c:Nat) | bad | rf (ts:List T)
def R.s {α:Type}(r:R α)(k:α->RS):RS:=match r with
 | .ok a=>k a
 | .ex c=> .ex c
 | .bad=> .bad
def PoS (Y:Fx)(B:Hp)(r:RS)(D:yd):Prop:=match r with
 | .nx ρ' =>∀σ' H' B',zl B B' ->SI Y B' ρ' σ' H' ->D.nx σ' H'
 | .rt t=>∀v H',zl Y.H0 H' ->Rep (zE Y.B0 Y.H0 H') v t->D.rt v H'
 | .bk ρ' =>∀σ' H' B',zl B B' ->SI Y B' ρ' σ' H' ->D.bk σ' H'
 | .ct ρ' =>∀σ' H' B',zl B B' ->SI Y B' ρ' σ' H' ->D.ct σ' H'
 | .ex c=>XP Y B c
 | .bad=>False
 | .rf ts=>∀a xs H' B',zl Y.H0 H' ->Y.H0 a=none->H' a=some (.lst xs)->zz B' xs ts->B' a=none->zl B' (zE Y.B0 Y.H0 H')->D.rt (.ref a) H'
theorem PoS.up {r:RS}{D:yd}(s:zl B B')(h:PoS Y B r D):PoS Y B' r D:=by
 cases r with
 | nx ρ=>exact λσ' H' B2 s2 I=>h σ' H' B2 (s.trans s2) I
 | bk ρ=>exact λσ' H' B2 s2 I=>h σ' H' B2 (s.trans s2) I
 | ct ρ=>exact λσ' H' B2 s2 I=>h σ' H' B2 (s.trans s2) I
 | rt t=>exact h
 | rf t=>exact h
 | ex c=>exact λd H' s0 sB=>h d H' s0 (s.trans sB)
 | bad=>exact h
def tSS (Y:Fx)(f:En->RS)(ρ:En):TS:=λD σ H=>∃B,SI Y B ρ σ H/\PoS Y B (f ρ) D
structure Jg (X:Cx) (Y:Fx) (e:Stmt) (f:En->RS):Prop where
 mk ::
 go:∀ρ,PS X e (tSS Y f ρ)
instance {X:Cx}{Y:Fx}{e:Stmt}{f:En->RS}:CoeFun (Jg X Y e f) λ_=>∀ρ,PS X e (tSS Y f ρ):=⟨Jg.go⟩
structure wN (X:Cx) (Y:Fx) (e:List Stmt) (f:En->RS):Prop where
 mk ::
 go:∀ρ,PSs X e (tSS Y f ρ)
instance {X:Cx}{Y:Fx}{e:List Stmt}{f:En->RS}:CoeFun (wN X Y e f) λ_=>∀ρ,PSs X e (tSS Y f ρ):=⟨wN.go⟩
theorem J0 {α β:Type}{rel:Hp->Hp->β->α->Prop}{f:En->R α}{k:α->RS}{D:yd}{K:β->Hp->Prop}
  (I:SI Y B ρ σ H) (h:PoS Y B ((f ρ).s k) D)
  (n:∀a b H1,f ρ= .ok a->zl H H1->rel (zE B H H1) H1 b a->SI Y (zE B H H1) ρ σ H1->PoS Y (zE B H H1) (k a) D->K b H1):tS Y rel f ρ σ H K:=by
 refine⟨B,I, ?_⟩;cases e:f ρ with
 | bad=>rw[e]at h;exact h
 | ex c=>rw[e]at h;exact h
 | ok a=>
  rw[e]at h;exact λb H1 s r=>n a b H1 e s r (I.grow s) (PoS.up (zE.ge I.sB s) h)
theorem zk {α:Type}{xs:List α}{i j:Nat}{x y:α}(h:(xs.set i x)[j]? =some y):(j=i/\y=x)\/(j ≠ i/\xs[j]? =some y):=by
 by_cases e:j=i
 ·subst e
  by_cases hl:j < xs.length
  ·rw[aV hl]at h;exact .inl ⟨rfl,(aH h).symm⟩
  ·rw[bw (by rw[aP];omega)]at h;cases h
 ·rw[aJ (bM e)]at h;exact .inr ⟨e,h⟩
theorem uJ {α:Type}{xs:List α}{i:Nat}{x y:α}(h:(xs.set i x)[i]? =some y):i < xs.length:=by
 by_cases hl:i < xs.length
 ·exact hl
 ·rw[bw (by rw[aP];omega)]at h;cases h
theorem StI.set {O:Addr->Option (Nat×Nat)}(x:StI Y B ρ σ H as O)(i:Nat)(s:Sl)(v:Option V)(h1:s.isO=false)(h3:∀ts,s ≠ .ow ts):StI Y B (ρ.set i s) (σ.set i v) H as O:=
 x.on (λj y hy h=>by
  rcases zk h with ⟨_,e⟩ | ⟨hj,h'⟩
  ·rw[e,h1]at hy;cases hy
  ·exact⟨h',aJ (bM hj)⟩) (zl.refl _) rfl rfl (zl.refl _) λb o hb b0 h0 _=>⟨hb,b0,h0,λok j us h=>by
  rcases zk h with ⟨_,e⟩ | ⟨hj,h'⟩
  ·exact absurd e.symm (h3 us)
  ·rw[aJ (bM hj)];exact ok j us h'⟩
theorem SI.setV (I:SI Y B ρ σ H)(i:Nat)(r:Rep B v t):SI Y B (ρ.set i (.vl t)) (σ.set i (some v)) H where
 s0:=I.s0
 sH:=I.sH
 sB:=I.sB
 old:=I.old
 len:=by rw[aP,aP];exact I.len
 vl:=λj u h=>by
  rcases zk h with ⟨rfl,e⟩ | ⟨hj,h'⟩
  ·cases e;exact⟨v,aV (by rw[← I.len];exact uJ h),r⟩
  ·obtain⟨w,e,rr⟩:=I.vl j u h';exact⟨w,by rw[aJ (bM hj)];exact e,rr⟩
 ow:=λj us h=>by
  rcases zk h with ⟨rfl,e⟩ | ⟨hj,h'⟩
  ·cases e
  ·obtain⟨a,xs,e,b0,h0,hh,rr,d⟩:=I.ow j us h';refine⟨a,xs,by rw[aJ (bM hj)];exact e,b0,h0,hh,rr,λk ws hk hw=> ?_⟩
   rcases zk hw with ⟨rfl,e'⟩ | ⟨hk',hw'⟩
   ·cases e'
   ·rw[aJ (bM hk')];exact d k ws hk hw'
 xc:=λj c h=>by
  rcases zk h with ⟨rfl,e⟩ | ⟨hj,h'⟩
  ·cases e
  ·obtain⟨a,e,r⟩:=I.xc j c h';exact⟨a,by rw[aJ (bM hj)];exact e,r⟩
 st:=let ⟨as,O,x⟩:=I.st;⟨as,O,x.set i _ _ rfl (λ_=>Sl.noConfusion)⟩
theorem SI.newO (I:SI Y B ρ σ H)(i:Nat)(hp:H p=none)(r:zz B xs ts):SI Y B (ρ.set i (.ow ts)) (σ.set i (some (.ref p))) (upd H p (.lst xs)) where
 s0:=I.s0
 sH:=I.sH.trans (zl.new hp _)
 sB:=I.sB.trans (zl.new hp _)
 old:=I.old
 len:=by rw[aP,aP];exact I.len
 vl:=λj u h=>by
  rcases zk h with ⟨rfl,e⟩ | ⟨hj,h'⟩
  ·cases e
  ·obtain⟨w,e,rr⟩:=I.vl j u h';exact⟨w,by rw[aJ (bM hj)];exact e,rr⟩
 ow:=λj us h=>by
  have op:∀k ws a,ρ[k]? =some (Sl.ow ws)->σ[k]? =some (some (V.ref a))->a ≠ p:=λk ws a h1 h2=>by
   obtain⟨a',xs',e,_,_,hh,_⟩:=I.ow k ws h1;rw[e]at h2;cases h2;exact zC hh hp
  rcases zk h with ⟨rfl,e⟩ | ⟨hj,h'⟩
  ·cases e;refine⟨p,xs,aV (by rw[← I.len];exact uJ h),I.sB.free hp,I.sH.free hp,zB,r,λk ws hk hw=> ?_⟩
   rcases zk hw with ⟨rfl,e'⟩ | ⟨hk',hw'⟩
   ·exact absurd rfl hk
   ·rw[aJ (bM hk')];exact λz=>op k ws p hw' z rfl
  ·obtain⟨a,xs',e,b0,h0,hh,rr,d⟩:=I.ow j us h';refine⟨a,xs',by rw[aJ (bM hj)];exact e,b0,h0,by rw[zn (op j us a h' e)];exact hh,rr,λk ws hk hw=> ?_⟩
   rcases zk hw with ⟨rfl,e'⟩ | ⟨hk',hw'⟩
   ·rw[aV (by rw[← I.len];exact uJ hw)]
    intro z;exact op j us a h' e (by injection z with z;injection z with z;injection z with z;exact z.symm)
   ·rw[aJ (bM hk')];exact d k ws hk hw'
 xc:=λj c h=>by
  rcases zk h with ⟨rfl,e⟩ | ⟨hj,h'⟩
  ·cases e
  ·obtain⟨a,e,r⟩:=I.xc j c h';exact⟨a,by rw[aJ (bM hj)];exact e,r⟩
 st:=by
  obtain⟨as,O,x⟩:=I.st;refine⟨as,O,x.on (λj y hy h=> ?_) (zl.refl _) rfl rfl (zl.refl _) λb o hb b0 h0 _=> ?_⟩
  ·rcases zk h with ⟨_,e⟩ | ⟨hj,h'⟩
   ·subst e;cases hy
   ·exact⟨h',aJ (bM hj)⟩
  ·have hne:b ≠ p:=zC hb hp;refine⟨by rw[zn hne];exact hb,b0,h0,λok j us h=> ?_⟩
   rcases zk h with ⟨rfl,e⟩ | ⟨hj,h'⟩
   ·rw[aV (by rw[← I.len];exact uJ h)]
    intro z;injection z with z;injection z with z;injection z with z;exact hne z.symm
   ·rw[aJ (bM hj)];exact ok j us h'
theorem SI.chg (I:SI Y B ρ σ H)(i:Nat)(hi:ρ[i]? =some (.ow ts))(he:σ[i]? =some (some (.ref p)))(r:zz B ys us):SI Y B (ρ.set i (.ow us)) σ (upd H p (.lst ys)):=by
 obtain⟨p',xs,e,b0,h0,hh,rr,d⟩:=I.ow i ts hi;rw[he]at e;cases e;have nb:∀b o,B b=some o->b ≠ p:=λb o h z=>by subst z;rw[b0]at h;cases h
 have n0:∀b o,Y.H0 b=some o->b ≠ p:=λb o h z=>by subst z;rw[h0]at h;cases h
 refine⟨I.s0,λb o h=>by rw[zn (n0 b o h)];exact I.sH b o h,λb o h=>by rw[zn (nb b o h)];exact I.sB b o h,I.old,by rw[aP];exact I.len,λj u h=> ?_,λj ws h=> ?_,λj c h=> ?_, ?_⟩
 rotate_right
 ·obtain⟨as,O,x⟩:=I.st;refine⟨as,O,x.on (λj y hy h=> ?_) (zl.refl _) rfl rfl (zl.refl _) λb o hb b0' h0' cs=> ?_⟩
  ·rcases zk h with ⟨_,e⟩ | ⟨hj,h'⟩
   ·subst e;cases hy
   ·exact⟨h',rfl⟩
  ·have hne:b ≠ p:=λz=>by
    subst z;rcases cs with ⟨C,dx,vs,ez⟩ | ok
    ·rw[hh]at hb;cases hb;cases ez
    ·exact ok i ts hi he
   refine⟨by rw[zn hne];exact hb,b0',h0',λok j us h=> ?_⟩
   rcases zk h with ⟨rfl,e⟩ | ⟨hj,h'⟩
   ·rw[he];intro z;injection z with z;injection z with z;injection z with z;exact hne z.symm
   ·exact ok j us h'
 rotate_right
 ·rcases zk h with ⟨rfl,z⟩ | ⟨hj,h'⟩
  ·cases z
  ·exact I.xc j c h'
 ·rcases zk h with ⟨rfl,z⟩ | ⟨hj,h'⟩
  ·cases z
  ·exact I.vl j u h'
 ·rcases zk h with ⟨rfl,z⟩ | ⟨hj,h'⟩
  ·cases z;refine⟨p,ys,he,b0,h0,zB,r,λk vs hk hw=> ?_⟩;rcases zk hw with ⟨rfl,e'⟩ | ⟨hk',hw'⟩
   ·exact absurd rfl hk
   ·exact d k vs hk hw'
  ·obtain⟨a,xs',e,c0,g0,gg,ss,d'⟩:=I.ow j ws h';have hne:a ≠ p:=λz=>by subst z;exact d j ws hj h' e
   refine⟨a,xs',e,c0,g0,by rw[zn hne];exact gg,ss,λk vs hk hw=> ?_⟩
   rcases zk hw with ⟨rfl,e'⟩ | ⟨hk',hw'⟩
   ·rw[he];intro z;injection z with z;injection z with z;injection z with z;exact hne z.symm
   ·exact d' k vs hk hw'
def wk:Sl->Sl
 | .ow ts=> .vl (.lst ts)
 | .ob _ _=> .un
 | .st _=> .un
 | x=>x
def frz (ρ:En):En:=ρ.map wk
theorem SI.up (I:SI Y B ρ σ H):zl B (zE B Y.H0 H):=λb o h=>by
 cases q:Y.H0 b with
 | none=>rw[Z0 q];exact I.sB b o h
 | some u=>rw[Z7 q];exact h
theorem SI.frz (I:SI Y B ρ σ H):SI Y (zE B Y.H0 H) (PV.frz ρ) σ H:=by
 have up:zl B (zE B Y.H0 H):=λb o h=>by
  cases q:Y.H0 b with
  | none=>rw[Z0 q];exact I.sB b o h
  | some u=>rw[Z7 q];exact h
 refine⟨I.s0,I.sH,λb o h=> ?_,λb o h=>by rw[Z7 h];exact I.old b o h,by unfold PV.frz;rw[ae];exact I.len,λj t h=> ?_,λj ts h=> ?_,λj c h=> ?_, ?_⟩
 rotate_right
 ·have no:∀(j:Nat) (y:Sl),y.isS=true->(PV.frz ρ)[j]? ≠ some y:=λj y hy h=>by
   unfold PV.frz at h;rw[au]at h;cases e:ρ[j]? with
   | none=>rw[e]at h;cases h
   | some x=>rw[e]at h;cases x <;> (cases h;cases hy)
  obtain⟨as,O,x⟩:=I.st;refine⟨Y.as,λ_=>none,cK _,λi os e=>(no i _ rfl e).elim,λi j os os' e=>(no i _ rfl e).elim,λi k n e=>(no i _ rfl e).elim,λi k fs h=> ?_,λi os e=>(no i _ rfl e).elim⟩;have h' :ρ[i]? =some (Sl.oc k fs):=by
   unfold PV.frz at h;rw[au]at h;cases e:ρ[i]? with
   | none=>rw[e]at h;cases h
   | some x=>rw[e]at h;cases x <;> (cases h;try rfl)
  obtain⟨a,C,dx,vs,e1,e2,e3,e4,e5⟩:=x.oc i k fs h';exact⟨a,C,dx,vs,e1,e2,e3,e4,e5.mono up (zl.refl _)⟩
 rotate_right
 ·unfold PV.frz at h;rw[au]at h;cases e:ρ[j]? with
  | none=>rw[e]at h;cases h
  | some x=>
   rw[e]at h;cases x with
   | xc d=>
    cases h;obtain⟨a,e1,r⟩:=I.xc j _ e;exact⟨a,e1,up a _ r⟩
   | un=>cases h
   | vl _=>cases h
   | ow _=>cases h
   | ob _ _=>cases h
   | oc _ _=>cases h
   | st _=>cases h
 ·cases q:Y.H0 b with
  | none=>rw[Z0 q]at h;exact h
  | some u=>rw[Z7 q]at h;exact I.sB b o h
 ·unfold PV.frz at h;rw[au]at h;cases e:ρ[j]? with
  | none=>rw[e]at h;cases h
  | some x=>
   rw[e]at h;cases x with
   | un=>cases h
   | vl u=>
    cases h;obtain⟨v,e1,r⟩:=I.vl j _ e;exact⟨v,e1,r.mono up⟩
   | ow us=>
    cases h;obtain⟨a,xs,e1,b0,h0,hh,rr,_⟩:=I.ow j us e;exact⟨.ref a,e1,.lst (by rw[Z0 h0];exact hh) (rr.mono up)⟩
   | xc _=>cases h
   | ob _ _=>cases h
   | oc _ _=>cases h
   | st _=>cases h
 ·unfold PV.frz at h;rw[au]at h;cases e:ρ[j]? with
  | none=>rw[e]at h;cases h
  | some x=>
   rw[e]at h;cases x with
   | un=>cases h
   | vl u=>cases h
   | ow us=>cases h
   | xc _=>cases h
   | ob _ _=>cases h
   | oc _ _=>cases h
   | st _=>cases h
theorem kK {Y:Fx}{B H H' :Hp}(s0:zl Y.H0 H)(old:∀b o,Y.H0 b=some o->B b=Y.B0 b)(s:zl H H')(sB:zl B H):zl (zE B H H') (zE Y.B0 Y.H0 H'):=λb o h=>by
 cases q:H b with
 | none=>
  rw[Z0 q]at h;rw[Z0 (s0.free q)];exact h
 | some u=>
  rw[Z7 q]at h;cases z:Y.H0 b with
  | none=>rw[Z0 z];exact s b o (sB b o h)
  | some w=>rw[Z7 z,← old b w z];exact h
section
variable {X:Cx}{Y:Fx}{a b c d:Expr}{fa fb fc fd:En->R T}{pos p:Pos}{st:Stmt}{sts sts' :List Stmt}{f g:En->RS}
def nxS:En->RS:=λρ=> .nx ρ
def zo (f g:En->RS):En->RS:=λρ=>match f ρ with
 | .nx ρ' =>g ρ'
 | r=>r
theorem z0s:wN X Y [] nxS:= .mk λρ=>PSs.imp WZ λD σ H ⟨B,I,q⟩=>q σ H B (zl.refl B) I
theorem z0t (h:Jg X Y st f):wN X Y [st] f:= .mk λρ=>wE (h ρ)
theorem kL (h1:Jg X Y st f)(h2:wN X Y sts g):wN X Y (st :: sts) (zo f g):= .mk λρ=>by
 refine PSs.imp (wD (u:=λD σ H=>∃ρ',tSS Y g ρ' D σ H) (h1 ρ) ?_) ?_
 ·intro pins s σ H D I ⟨ρ',q⟩;exact h2 ρ' pins s σ H D I q
 ·intro D σ H ⟨B,I,q⟩;refine⟨B,I, ?_⟩;unfold zo at q;cases e:f ρ with
  | nx ρ' =>
   rw[e]at q;intro σ' H' B' s' I';exact⟨ρ',B',I',PoS.up s' q⟩
  | rt t=>rw[e]at q;exact q
  | rf t=>rw[e]at q;exact q
  | bk ρ' =>rw[e]at q;exact q
  | ct ρ' =>rw[e]at q;exact q
  | ex c=>rw[e]at q;exact q
  | bad=>rw[e]at q;exact q
def zt (i:Nat)(fa:En->R T):En->RS:=λρ=>(fa ρ).s λt=> .nx (ρ.set i (.vl t))
theorem kM {i:Nat}(hN:X.N.Nodup)(hi:X.N[i]? =some x)(hx:L2.Loc X.env.scope x)(ha:Snd X Y a fa)(hs:swapsWith a (some (.Name x p')) pos.line X.env=pure false:=by rfl)
  (hf:X.fn x=true\/X.env.scope.names.lookup x=some .local:=by first | exact .inl rfl | exact .inr rfl | assumption):Jg X Y (.Assign [.Name x p'] a pos) (zt i fa):= .mk λρ=>
 PS.imp (wd hN hi hx (ha ρ) hs hf) λD σ H ⟨B,I,q⟩=>J0 I q λt v H1 _ s1 r1 I1 q1=>q1 _ _ _ (zl.refl _) (I1.setV i r1)
def UE (i:Nat)(ga:En->R (List T)):En->RS:=λρ=>(ga ρ).s λts=>if ts.length<=bnd then .nx (ρ.set i (.ow ts)) else .bad
theorem kN {i:Nat}(hN:X.N.Nodup)(hi:X.N[i]? =some x)(hx:L2.Loc X.env.scope x)(ha:JB X Y es ga)(hs:swapsWith (.List es p) (some (.Name x p')) pos.line X.env=pure false:=by rfl)
  (hf:X.fn x=true\/X.env.scope.names.lookup x=some .local:=by first | exact .inl rfl | exact .inr rfl | assumption):Jg X Y (.Assign [.Name x p'] (.List es p) pos) (UE i ga):= .mk λρ=>
 PS.imp (wd hN hi hx (vf (ha ρ)) hs hf) λD σ H ⟨B,I,q⟩=>J0 I q λts vs H1 _ s1 r1 I1 q1=>by
  split at q1
  ·rename_i hb;exact⟨by rw[r1.length];exact ZN hb,λp hp=>q1 _ _ _ (zl.refl _) (I1.newO i hp r1)⟩
  ·exact q1.elim
def zv (fa:En->R T):En->RS:=λρ=>(fa (frz ρ)).s λt=> .rt t
theorem z0u (ha:Snd X Y a fa):Jg X Y (.Return (some a) pos) (zv fa):= .mk λρ=>
 PS.imp (yg (ha (frz ρ))) λD σ H ⟨B,I,q⟩=>by
  refine⟨_,I.frz, ?_⟩;unfold zv at q;cases e:fa (frz ρ) with
  | bad=>rw[e]at q;exact q
  | ex c=>
   rw[e]at q;exact λd H' s0 sG=>q d H' s0 (I.up.trans sG)
  | ok t=>
   rw[e]at q;intro v H' s r;have J:=I.frz;exact q v H' (I.sH.trans s) (r.mono (kK J.sH J.old s J.sB))
def ifS (g:En->R Bool)(f1 f2:En->RS):En->RS:=λρ=>(g ρ).s λk=>if k=true then f1 ρ else f2 ρ
theorem z0v (hc:wJ X Y c ga)(h1:wN X Y sts f)(h2:wN X Y sts' g):Jg X Y (.If c sts sts' pos) (ifS ga f g):= .mk λρ=>
 PS.imp (V3 (hc ρ) (h1 ρ) (h2 ρ)) λD σ H ⟨B,I,q⟩=>J0 I q λt v H1 _ s1 r1 I1 q1=>by
  have r1' :v=t:=r1;subst r1';cases v with
  | true=>exact⟨_,I1,q1⟩
  | false=>exact⟨_,I1,q1⟩
def JE (fa:En->R T):En->RS:=λρ=>(fa ρ).s λ_=> .nx ρ
theorem kO (ha:Snd X Y a fa)(hs:swapsWith a none pos.line X.env=pure false:=by rfl):Jg X Y (.Expr a pos) (JE fa):= .mk λρ=>
 PS.imp (u0 (ha ρ) hs) λD σ H ⟨B,I,q⟩=>J0 I q λt v H1 _ s1 r1 I1 q1=>q1 _ _ _ (zl.refl _) I1
def Q9 (i:Nat)(fa:En->R T):En->RS:=λρ=>match ρ[i]? with
 | some (.ow ts)=>(fa ρ).s λt=>if ts.length < bnd then .nx (ρ.set i (.ow (ts++[t]))) else .bad
 | _=> .bad
def Qa (i:Nat)(fa:En->R T):En->RS:=λρ=>match ρ[i]? with
 | some (.ow ts)=>(fa ρ).s λt=>match t with
  | .lst us=>if ts.length+us.length<=bnd then .nx (ρ.set i (.ow (ts++us))) else .bad
  | _=> .bad
 | _=> .bad
theorem kP {n:Nat}(h:n < bnd):n < sizeLine:=by rw[bY];exact h
theorem z0w {i:Nat}(hv:PE X (.Name x px) (wC i))(ha:Snd X Y a fa)(hb:attributeBase (.Name x px) "append" X.env (eval (.Name x px) X.env)=eval (.Name x px) X.env:=by rfl)(hs:St1 X a:=by exact st1 rfl)
  (hz:(pa.endLine == p.line)=true:=by rfl) (hw:swapsWith (.Call (.Attribute (.Name x px) "append" pa) [a] [] p) none pos.line X.env=pure false:=by rfl):Jg X Y (.Expr (.Call (.Attribute (.Name x px) "append" pa) [a] [] p) pos) (Q9 i fa):= .mk λρ=>by
 have e1:(((((backTo p (starEach [a] X.env)).all λx=> !x.fst) && (backToKw p (keywordEach [] X.env)).all λx=>x.fst.isSome) && decide (([a].length+([]:List Keyword).length+if ([]:List Keyword).isEmpty=true then 0 else 1) < 30))=true):=by rw[hs];rfl
 refine PS.imp (u0 (yC cL PySem.F.slot_list_append PySem.F.type_list_append Wn hv (zq (ha ρ) Z6 hs) hb e1 hz hs rfl) hw) λD σ H ⟨B,I,q⟩=> ?_;unfold Q9 at q;split at q
 ·rename_i ts e;obtain⟨l,xs,e1,b0,h0,hh,rr,d⟩:=I.ow i ts e;refine⟨.ref l,e1,.inl ⟨rfl,_,SqL.of hh⟩, ?_⟩;refine J0 I q λt v H1 _ s1 r1 I1 q1=> ?_;split at q1
  ·rename_i hb;refine⟨l,xs,v,rfl,rfl,s1 _ _ hh,by rw[rr.length];exact kP hb, ?_⟩
   exact q1 _ _ _ (zl.refl _) (I1.chg i e e1 ((rr.mono (zE.ge I.sB s1)).append (.cons r1 .nil)))
  ·exact q1.elim
 ·exact q.elim
theorem z0x {i:Nat}(hv:PE X (.Name x px) (wC i))(ha:Snd X Y a fa)(hb:attributeBase (.Name x px) "extend" X.env (eval (.Name x px) X.env)=eval (.Name x px) X.env:=by rfl)(hs:St1 X a:=by exact st1 rfl)
  (hz:(pa.endLine == p.line)=true:=by rfl) (hw:swapsWith (.Call (.Attribute (.Name x px) "extend" pa) [a] [] p) none pos.line X.env=pure false:=by rfl):Jg X Y (.Expr (.Call (.Attribute (.Name x px) "extend" pa) [a] [] p) pos) (Qa i fa):= .mk λρ=>by
 have e1:(((((backTo p (starEach [a] X.env)).all λx=> !x.fst) && (backToKw p (keywordEach [] X.env)).all λx=>x.fst.isSome) && decide (([a].length+([]:List Keyword).length+if ([]:List Keyword).isEmpty=true then 0 else 1) < 30))=true):=by rw[hs];rfl
 refine PS.imp (u0 (yC cL PySem.F.slot_list_extend PySem.F.type_list_extend yD hv (zq (ha ρ) Z6 hs) hb e1 hz hs rfl) hw) λD σ H ⟨B,I,q⟩=> ?_;unfold Qa at q;split at q
 ·rename_i ts e;obtain⟨l,xs,e1,b0,h0,hh,rr,d⟩:=I.ow i ts e;refine⟨.ref l,e1,.inl ⟨rfl,_,SqL.of hh⟩, ?_⟩;refine J0 I q λt v H1 _ s1 r1 I1 q1=> ?_;cases r1 with
  | @lst b zs us hb r=>
   have q1:PoS Y _ (if ts.length+us.length<=bnd then .nx (ρ.set i (.ow (ts++us))) else .bad) D:=q1
   split at q1
   ·rename_i hl;refine⟨l,b,xs,zs,rfl,rfl,s1 _ _ hh,I1.sB _ _ hb,by rw[rr.length,r.length];exact ZN hl, ?_⟩
    exact q1 _ _ _ (zl.refl _) (I1.chg i e e1 ((rr.mono (zE.ge I.sB s1)).append r))
   ·exact q1.elim
  | _=>exact q1.elim
 ·exact q.elim
end
def spP (cl:Nat->Value)(n:Nat)(g:List T->R T):Sp:=λvs H Q E=>∃B ts,ts.length=n/\zl B H/\zz B vs ts/\Po ⟨B,H,E,cl,[]⟩ rC B H (g ts) Q
theorem spP.len {n:Nat}(vs:List V)(H:Hp)(Q:VK)(E:XK)(h:spP cl n g vs H Q E):vs.length=n:=by
 obtain⟨B,ts,hl,_,r,_⟩:=h;rw[r.length,hl]
def zc (n:Nat)(g:List T->R T)(ga:En->R (List T)):En->R T:=λρ=>(ga ρ).bind λts=>if ts.length=n then g ts else .bad
section
theorem vq {k n:Nat}(F:zK X.prog X.w X.K X.mg X.base CX k f fd ps (spP Y.cl n g))(hr:ZL k X.A)(gl:Gl X x)(mg:X.mg x=some (.ref f))
  (kp:bn X.K (.ref f)=true) (bd:L2.Binds X.K fd ps []) (hx:Z4 CX X Y.E) (ha:JB X Y (a :: es) ga) (hd:(x == ("__debug__":Str))=false:=by decide)
  (hs:starEach (a :: es) X.env=(false,eval a X.env) :: starEach es X.env:=by exact zw rfl) (hz:((backTo pos (starEach es X.env)).any λx=>x.fst)=false:=by exact zQ rfl):Snd X Y (.Call (.Name x p) (a :: es) [] pos) (zc n g ga):= .mk λρ=>
 PE.imp (Jy F hr gl mg kp bd .nil hx (ha ρ) hd hs hz) λσ H Q ⟨B,I,q⟩=>step I q λts vs H1 _ s1 r1 I1 q1=>by
  split at q1
  ·rename_i hn;rw[bh];refine⟨_,ts,hn,I1.sB,r1, ?_⟩;revert q1;cases g ts with
   | bad=>exact λq1=>q1
   | ex c=>exact λq1 d H' s sB=>q1 d H' (I1.sH.trans s) sB
   | ok t=>exact λq1=>q1
  ·exact q1.elim
end
def zj:RS->R T
 | .rt t=> .ok t
 | .rf ts=> .ok (.lst ts)
 | .nx _=> .ok .non
 | .ex c=> .ex c
 | _=> .bad
def en0 (n:Nat)(ts:List T):En:=ts.map Sl.vl++ad (n - ts.length) Sl.un
theorem zz.vl {H:Hp}:∀{vs:List V} {ts:List T} {i:Nat} {t:T} {n m:Nat},zz H vs ts->(ts.map Sl.vl++ad n Sl.un)[i]? =some (Sl.vl t)->∃v:V,(vs.map some++ad m none)[i]? =some (some v)/\Rep H v t
 | _,_,i,t,n,m,.nil,h=>by
  exfalso;simp only[cQ,bC]at h;rw[aC]at h;split at h
  ·cases h
  ·cases h
 | _,_,0,t,n,m,.cons r _,h=>by
  simp at h;subst h;exact⟨_,rfl,r⟩
 | _,_,i+1,t,n,m,.cons _ q,h=>by
  obtain⟨v,h1,h2⟩:=zz.vl (i:=i) (t:=t) (n:=n) (m:=m) q (by simpa using h)
  exact⟨v,by simpa using h1,h2⟩
theorem vt {n:Nat}:∀{ts:List T} {i:Nat} {us:List T},(ts.map Sl.vl++ad n Sl.un)[i]? =some (Sl.ow us)->False
 | [],i,us,h=>by
  simp only[cQ,bC]at h;rw[aC]at h;split at h
  ·cases h
  ·cases h
 | t :: ts,0,us,h=>by simp at h
 | t :: ts,i+1,us,h=>vt (ts:=ts) (i:=i) (us:=us) (n:=n) (by simpa using h)
theorem vv {n:Nat}:∀{ts:List T} {i:Nat} {c:Nat},(ts.map Sl.vl++ad n Sl.un)[i]? =some (Sl.xc c)->False
 | [],i,us,h=>by
  simp only[cQ,bC]at h;rw[aC]at h;split at h
  ·cases h
  ·cases h
 | t :: ts,0,us,h=>by simp at h
 | t :: ts,i+1,us,h=>vv (ts:=ts) (i:=i) (c:=us) (n:=n) (by simpa using h)
theorem u9 {n:Nat}{x:Sl}(h1:∀t,x ≠ .vl t)(h2:x ≠ .un):∀{ts:List T} {i:Nat},(ts.map Sl.vl++ad n Sl.un)[i]? =some x->False
 | [],i,h=>by
  simp only[cQ,bC]at h;rw[aC]at h;split at h
  ·exact h2 (aH h).symm
  ·cases h
 | t :: ts,0,h=>h1 t (aH (by simpa using h)).symm
 | t :: ts,i+1,h=>u9 (ts:=ts) (i:=i) (n:=n) h1 h2 (by simpa using h)
theorem SI.start {Y:Fx}{N:List Str}{vs:List V}{ts:List T}(s:zl Y.B0 Y.H0)(r:zz Y.B0 vs ts):SI Y Y.B0 (en0 N.length ts) (L2.start N vs) Y.H0 where
 s0:=s
 sH:=zl.refl _
 sB:=s
 old:=λ_ _ _=>rfl
 len:=by unfold en0 L2.start;simp[r.length]
 vl:=λi t h=>r.vl h
 ow:=λi ts h=>(vt h).elim
 xc:=λi c h=>(vv h).elim
 st:=StI.no λi s hs h=>u9 (λt z=>by rw[z]at hs;cases hs) (λz=>by rw[z]at hs;cases hs) h
section
variable {P:Program}{w:World}{K:ac}{mg:Str->Option Value}{base:Heap}
theorem Z3 {cl:Nat->Value}{x qual:Str}{st:Stmt}{f:Addr}{fd:FuncData}{N ps:List Str}{k n:Nat}{fb:En->RS}{g:List T->R T}(F:Fun K x qual st f fd)(S:zi N ps (zb st))(hn:n=ps.length)
  (hb:∀(cdv:Value) (A:Around) (outer:List Env) (s:Shared) (H:Hp) (E:XK) (Y:Fx),Y.cl=cl->ZL k (A.deeper (envOfC qual (zb st) s.heap.objs.size f cdv))->
   wN (Jf CX0 P w K mg base N qual (zb st) f cdv A outer s H E).nox Y (zN st) fb)
  (hg:∀ts,ts.length=n->g ts=zj (fb (en0 N.length ts))):zK P w K mg base CX0 (k+1) f fd ps (spP cl n g):=by
 subst hn;refine F.ok S spP.len λcdv A outer s H vs Q E hr ⟨B,ts,hl,sB,r,q⟩=> ?_;refine⟨_,hb cdv A outer s H E ⟨B,H,E,cl,[]⟩ rfl hr (en0 N.length ts),B,SI.start (Y:=⟨B,H,E,cl,[]⟩) sB r, ?_⟩;rw[hg ts hl]at q;revert q;cases fb (en0 N.length ts) with
 | rt t=>exact λq v H' s r=>q v H' s r
 | rf t=>exact λq a xs H' B' s0 n e r _ l=>q (.ref a) H' s0 (.lst (by rw[Z0 n];exact e) (r.mono l))
 | nx ρ=>exact λq σ' H' B' _ I=>q .non H' I.sH .non
 | ex c=>exact λq=>q
 | bk ρ=>exact λq=>q.elim
 | ct ρ=>exact λq=>q.elim
 | bad=>exact λq=>q
end
abbrev rI:Hp->Hp->It->List T->Prop:=λB1 _ J ts=>∀B2 H2,zl B1 B2->zl B2 H2->(∀i,i < ts.length->J.go i H2)/\(∀(i:Nat) t x H3,ts[i]? =some t->J.yld i H2 x H3->zl H2 H3/\Rep (zE B2 H2 H3) x t)/\(∀i,ts.length<=i->J.stop i H2)
structure UZ (X:Cx) (Y:Fx) (tg iter:Expr) (f:En->R (List T)):Prop where
 mk ::
 go:∀ρ,PI X tg iter (tS Y rI f ρ)
instance {X:Cx}{Y:Fx}{tg iter:Expr}{f:En->R (List T)}:CoeFun (UZ X Y tg iter f) λ_=>∀ρ,PI X tg iter (tS Y rI f ρ):=⟨UZ.go⟩
section
theorem PI.imp (h:PI X tg e t)(i:∀σ H Q,t' σ H Q->t σ H Q):PI X tg e t' :=λpins s σ H Q I q=>h pins s σ H Q I (i σ H Q q)
theorem kQ {K:ac}{B1 H1:Hp}{a:Addr}{xs:List V}{ts:List T}(h:B1 a=some (.tup xs))(r:zz B1 xs ts):rI B1 H1 (Itt K a) ts:=λB2 H2 s1 s2=>by
 have h2:=s2 _ _ (s1 _ _ h);refine⟨λi hi=> ?_,λi t x H3 e y=> ?_,λi hi=>⟨xs,SqT.of h2,by rw[r.length];exact hi⟩⟩
 ·obtain⟨v,e,_⟩:=r.get (aj hi);exact⟨xs,v,SqT.of h2,e⟩
 ·obtain⟨rfl,y⟩:=y;obtain⟨v,e1,r1⟩:=r.get e;have:=y xs (SqT.of h2);rw[e1]at this;cases this;refine⟨zl.refl _, ?_⟩;rw[zE.self B2 _ s2];exact r1.mono s1
theorem kR {K:ac}{B1 H1:Hp}{a:Addr}{xs:List V}{ts:List T}(h:B1 a=some (.lst xs))(r:zz B1 xs ts):rI B1 H1 (Itl K a) ts:=λB2 H2 s1 s2=>by
 have h2:=s2 _ _ (s1 _ _ h);refine⟨λi hi=> ?_,λi t x H3 e y=> ?_,λi hi=>⟨xs,SqL.of h2,by rw[r.length];exact hi⟩⟩
 ·obtain⟨v,e,_⟩:=r.get (aj hi);exact⟨xs,v,SqL.of h2,e⟩
 ·obtain⟨rfl,y⟩:=y;obtain⟨v,e1,r1⟩:=r.get e;have:=y xs (SqL.of h2);rw[e1]at this;cases this;refine⟨zl.refl _, ?_⟩;rw[zE.self B2 _ s2];exact r1.mono s1
def rng (lo:Int)(n:Nat):List T:=(aW n).map λ(i:Nat)=>T.int (lo+(i:Int))
theorem vw {lo:Int}{n:Nat}:rI B1 H1 (Itr lo n) (rng lo n):=λB2 H2 s1 s2=>by
 have hl:(rng lo n).length=n:=by unfold rng;simp
 refine⟨λi hi=>by rw[hl]at hi;exact hi,λi t x H3 e y=> ?_,λi hi=>by rw[hl]at hi;exact hi⟩
 obtain⟨rfl,rfl⟩:=y;refine⟨zl.refl _, ?_⟩;unfold rng at e;rw[au]at e
 by_cases hi:i < n
 ·rw[dj hi]at e;cases e;exact .int _
 ·rw[bw (by simp;omega)]at e;cases e
def Zf (fa:En->R T):En->R (List T):=λρ=>(fa ρ).bind λt=>match t with
 | .int j=>if -1000000 < j/\j < 1000000 then .ok (rng 0 j.toNat) else .bad
 | _=> .bad
def Jo (fa fb:En->R T):En->R (List T):=λρ=>(fa ρ).bind λt=>(fb ρ).bind λt' =>match t,t' with
 | .int i,.int j=>if -1000000 < i/\i < 1000000/\ -1000000 < j/\j < 1000000 then .ok (rng i (j - i).toNat) else .bad
 | _,_=> .bad
theorem kS (gl:Gl X "range")(mg:X.mg "range"=none)(ha:Snd X Y a fa)(hs:St1 X a:=by exact st1 rfl):UZ X Y tg (.Call (.Name "range" p) [a] [] pos) (Zf fa):= .mk λρ=>PI.imp (yk gl mg (zq (ha ρ) Z6 hs) hs) λσ H R ⟨B,I,q⟩=>step I q λt v H1 _ s1 r1 I1 q1=>by
 cases r1 with
 | int j=>
  have q1:Po Y rI _ H1 (if -1000000 < j/\j < 1000000 then .ok (rng 0 j.toNat) else .bad) R:=q1
  split at q1
  ·rename_i hj;exact⟨j,rfl,by omega,by omega,ZC I1 q1 vw⟩
  ·exact q1.elim
 | _=>exact q1.elim
theorem kT (gl:Gl X "range")(mg:X.mg "range"=none)(ha:Snd X Y a fa)(hb:Snd X Y b fb)(hs:starEach [a,b] X.env=[(false,eval a X.env),(false,eval b X.env)]:=by exact st2 rfl rfl)(hs2:St1 X b:=by exact st1 rfl):UZ X Y tg (.Call (.Name "range" p) [a,b] [] pos) (Jo fa fb):= .mk λρ=>
 PI.imp (yl gl mg (zq (ha ρ) (zq (hb ρ) Z6 hs2) (by rw[hs,hs2])) hs hs2) λσ H R ⟨B,I,q⟩=>step I q λt v H1 _ s1 r1 I1 q1=>step I1 q1 λt' v' H2 _ s2 r2 I2 q2=>by
  cases r1 with
  | int i=>
   cases r2 with
   | int j=>
    have q2:Po Y rI _ H2 (if -1000000 < i/\i < 1000000/\ -1000000 < j/\j < 1000000 then .ok (rng i (j - i).toNat) else .bad) R:=q2
    split at q2
    ·rename_i hj;exact⟨i,j,rfl,⟨by omega,by omega,by omega,by omega⟩,ZC I2 q2 vw⟩
    ·exact q2.elim
   | _=>exact q2.elim
  | _=>cases r2 <;> exact q2.elim
def kU (X:Cx)(Y:Fx)(tg:Expr)(g:T->En->R En):Prop:=∃t:TG,PG X tg t/\∀B ρ σ H v x Q,SI Y B ρ σ H->Rep B v x->(match g x ρ with | .ok ρ' =>∀σ',SI Y B ρ' σ' H->Q σ' H | _=>False)->t v σ H Q
def zr (i:Nat):T->En->R En:=λt ρ=> .ok (ρ.set i (.vl t))
theorem vx {i:Nat}(hN:X.N.Nodup)(hi:X.N[i]? =some x)(hx:L2.Loc X.env.scope x)(hf:X.fn x=true\/X.env.scope.names.lookup x=some .local:=by first | exact .inl rfl | exact .inr rfl | assumption):kU X Y (.Name x pos) (zr i):=
 ⟨We i,zA hN hi hx hf,λB ρ σ H v x Q I r q=>q _ (I.setV i r)⟩
def Zr (i j:Nat):T->En->R En:=λt ρ=>match t with
 | .tup [x,y]=> .ok ((ρ.set i (.vl x)).set j (.vl y))
 | _=> .bad
theorem vy {i j:Nat}{k:Nat}(hc:X.calm=true)(hN:X.N.Nodup)(hi:X.N[i]? =some x)(hj:X.N[j]? =some y)(hx:L2.Loc X.env.scope x)(hy:L2.Loc X.env.scope y)
  (hf:X.fn x=true\/X.env.scope.names.lookup x=some .local:=by first | exact .inl rfl | exact .inr rfl | assumption) (hf' :X.fn y=true\/X.env.scope.names.lookup y=some .local:=by first | exact .inl rfl | exact .inr rfl | assumption):
  kU X Y (.Tuple [.Name x pos,.Name y p'] k p2) (Zr i j):=by
 refine⟨GL X.K 2 (yh (We i) (yh (We j) GK)),uD hc (ZM (zA hN hi hx hf) (ZM (zA hN hj hy hf') wF)),λB ρ σ H v t Q I r q=> ?_⟩;cases r with
 | @tup l xs ts h r=>
  cases r with
  | nil=>exact q.elim
  | cons r1 rr=>
   cases rr with
   | nil=>exact q.elim
   | cons r2 rr=>
    cases rr with
    | cons _ _=>exact q.elim
    | nil=>
     exact⟨l,_,rfl,SqT.of (I.sB _ _ h),rfl,_,_,rfl,_,_,rfl,rfl,q _ ((I.setV i r1).setV j r2)⟩
 | _=>exact q.elim
def Zk (g:T->En->R En)(fb:En->RS):List T->En->RS
 | [],ρ=> .nx ρ
 | t :: ts,ρ=>match g t ρ with
  | .ok ρ1=>match fb ρ1 with
   | .nx ρ2=>Zk g fb ts ρ2
   | .ct ρ2=>Zk g fb ts ρ2
   | .bk ρ2=> .nx ρ2
   | r=>r
  | .ex c=> .bad
  | .bad=> .bad
def ja (fi:En->R (List T))(g:T->En->R En)(fb:En->RS):En->RS:=λρ=>(fi ρ).s λts=>Zk g fb ts ρ
theorem kW {g:T->En->R En}(hp:PassesOwn (model X.prog X.w) X.A X.env X.xe)(hc:X.calm=true)(hi:UZ X Y tg iter fi)(hg:kU X Y tg g)(hb:wN X Y sts fb)
  (hs:∀x,foldedSetIterable iter X.env x=pure x:=by intro _;rfl):Jg X Y (.For tg iter sts [] pos) (ja fi g fb):= .mk λρ=>by
 obtain⟨tG,hG,hG'⟩:=hg;refine PS.imp (XV (tb:=λD σ H=>∃ρ',tSS Y fb ρ' D σ H) hp hc (hi ρ) hG (λpins s σ H D I ⟨ρ',q⟩=>hb ρ' pins s σ H D I q) hs) λD σ H ⟨B,I,q⟩=> ?_;refine J0 I q λts J H1 _ s1 r1 I1 q1=> ?_;refine⟨λi m σ' H' =>m=ts.length - i/\i<=ts.length/\∃ρ' B',SI Y B' ρ' σ' H' /\zl (zE B H H1) B' /\PoS Y B' (Zk g fb (ts.drop i) ρ') D,⟨ts.length,by simp,bO _,ρ,_,I1,zl.refl _,q1⟩, ?_⟩
 rintro i m σ' H' ⟨rfl,hi,ρ',B',I',sB',q'⟩
 obtain⟨hgo,hyld,hstop⟩:=r1 B' H' sB' I'.sB
 by_cases hlt:i < ts.length
 ·refine .inr ⟨hgo i hlt,λσ2 H2=>∃ρ2 B2,SI Y B2 ρ2 σ2 H2/\zl (zE B H H1) B2/\PoS Y B2 (Zk g fb (ts.drop (i+1)) ρ2) D,λσ2 H2 ⟨ρ2,B2,I2,s2,q2⟩=>⟨ts.length - (i+1),by omega,rfl,hlt,ρ2,B2,I2,s2,q2⟩,λx H2 y=> ?_⟩
  obtain⟨s2,r2⟩:=hyld i _ x H2 (aj hlt) y;rw[cz hlt]at q';unfold Zk at q';refine hG' _ ρ' σ' H2 x _ _ (I'.grow s2) r2 ?_;cases eg:g ts[i] ρ' with
  | bad=>rw[eg]at q';exact q'
  | ex c=>rw[eg]at q';exact q'
  | ok ρ1=>
   rw[eg]at q';intro σ1 J1;refine⟨ρ1,_,J1, ?_⟩;have q2:=PoS.up (zE.ge I'.sB s2) q';dsimp only at q2;have s3:zl (zE B H H1) (zE B' H' H2):=sB'.trans (zE.ge I'.sB s2);revert q2;cases fb ρ1 with
   | nx ρ2=>exact λq2 σ3 H3 B3 s4 I3=>⟨ρ2,B3,I3,s3.trans s4,PoS.up s4 q2⟩
   | ct ρ2=>exact λq2 σ3 H3 B3 s4 I3=>⟨ρ2,B3,I3,s3.trans s4,PoS.up s4 q2⟩
   | bk ρ2=>exact λq2=>q2
   | rt t=>exact λq2=>q2
   | rf t=>exact λq2=>q2
   | ex c=>exact λq2=>q2
   | bad=>exact λq2=>q2
 ·have e:i=ts.length:=by omega
  subst e;rw[i6]at q';exact .inl ⟨hstop _ (am _),q' σ' H' B' (zl.refl _) I'⟩
def Zx (g:En->R Bool)(fb:En->RS):Nat->En->RS
 | 0,_=> .bad
 | n+1,ρ=>(g ρ).s λk=>if k=true then match fb ρ with
   | .nx ρ2=>Zx g fb n ρ2
   | .ct ρ2=>Zx g fb n ρ2
   | .bk ρ2=> .nx ρ2
   | r=>r
  else .nx ρ
theorem Y2 {n:Nat}(hp:PassesOwn (model X.prog X.w) X.A X.env X.xe)(hc:wJ X Y c ga)(hb:wN X Y sts fb):Jg X Y (.While c sts [] pos) (Zx ga fb n):= .mk λρ=>by
 refine PS.imp (qQ (tc:=λσ H Q=>∃ρ',tS Y rE ga ρ' σ H Q) (tb:=λD σ H=>∃ρ',tSS Y fb ρ' D σ H) hp (λpins s σ H D I ⟨ρ',q⟩=>hc ρ' pins s σ H D I q) (λpins s σ H D I ⟨ρ',q⟩=>hb ρ' pins s σ H D I q)) λD σ H ⟨B,I,q⟩=> ?_;refine⟨λm σ' H' =>∃ρ' B',SI Y B' ρ' σ' H' /\PoS Y B' (Zx ga fb m ρ') D,⟨n,ρ,B,I,q⟩, ?_⟩
 rintro m σ' H' ⟨ρ',B',I',q'⟩
 cases m with
 | zero=>exact q'.elim
 | succ m=>
  unfold Zx at q';refine⟨ρ',J0 I' q' λt v H1 _ s1 r1 I1 q1=> ?_⟩;have r1' :v=t:=r1;subst r1';cases v with
  | false=>exact q1 _ _ _ (zl.refl _) I1
  | true=>
   refine⟨λσ2 H2=>∃ρ2 B2,SI Y B2 ρ2 σ2 H2/\PoS Y B2 (Zx ga fb m ρ2) D,λσ2 H2 h=>⟨m,df m,h⟩,ρ',_,I1, ?_⟩;have q1:PoS Y _ (match fb ρ' with
    | .nx ρ2=>Zx ga fb m ρ2
    | .ct ρ2=>Zx ga fb m ρ2
    | .bk ρ2=> .nx ρ2
    | r=>r) D:=q1
   revert q1;cases fb ρ' with
   | nx ρ2=>exact λq2 σ3 H3 B3 s4 I3=>⟨ρ2,B3,I3,PoS.up s4 q2⟩
   | ct ρ2=>exact λq2 σ3 H3 B3 s4 I3=>⟨ρ2,B3,I3,PoS.up s4 q2⟩
   | bk ρ2=>exact λq2=>q2
   | rt t=>exact λq2=>q2
   | rf t=>exact λq2=>q2
   | ex c=>exact λq2=>q2
   | bad=>exact λq2=>q2
end
theorem JF:∀(ns:List (Str×NameKind)) (acc:List (Str×Addr)),(∀x∈ns,x.2=NameKind.free->∃c,env.cells.lookup x.1=some c)->(∀x c,acc.lookup x=some c->env.cells.lookup x=some c)->
  ∃cl,(forIn ns acc (λ(x:Str×NameKind) (r:List (Str×Addr))=>if (x.2 == NameKind.free)=true then (do let c ← cellOf env x.1;pure (ForInStep.yield ((x.1,c) :: r))) else pure (ForInStep.yield r)):Sem _)=pure cl/\
   (∀x c,cl.lookup x=some c->env.cells.lookup x=some c)/\(∀x c,acc.lookup x=some c->∃c',cl.lookup x=some c')/\(∀x∈ns,x.2=NameKind.free->∃c,cl.lookup x.1=some c)
 | [],acc,_,h=>⟨acc,rfl,h,λx c e=>⟨c,e⟩,λx hx=>by simp at hx⟩
 | (n,k) :: ns,acc,hf,h=>by
  by_cases hk:k=NameKind.free
  ·obtain⟨c,hc⟩:=hf (n,k) aw hk;have h' :∀x d,((n,c) :: acc).lookup x=some d->env.cells.lookup x=some d:=λx d e=>by
    by_cases hx:x=n
    ·subst hx;have e' :some c=some d:=by simpa[aM] using e
     cases e';exact hc
    ·have e' :acc.lookup x=some d:=by
      rw[aM,(beq_eq_false_iff_ne.mpr hx)]at e;exact e
     exact h x d e'
   obtain⟨cl,e,h1,h2,h3⟩:=JF ns ((n,c) :: acc) (λx hx=>hf x (af _ hx)) h';refine⟨cl, ?_,h1,λx d ed=> ?_,λx hx hxf=> ?_⟩
   ·rw[dQ];subst hk;have q:cellOf env n=pure c:=by unfold cellOf;rw[hc]
    simp only[beq_self_eq_true,if_true,q];exact e
   ·by_cases hx:x=n
    ·subst hx;exact h2 x c (by simp[aM])
    ·exact h2 x d (by rw[aM,(beq_eq_false_iff_ne.mpr hx)];exact ed)
   ·rcases aG.mp hx with rfl | hx
    ·exact h2 n c (by simp[aM])
    ·exact h3 x hx hxf
  ·obtain⟨cl,e,h1,h2,h3⟩:=JF ns acc (λx hx=>hf x (af _ hx)) h;refine⟨cl, ?_,h1,h2,λx hx hxf=> ?_⟩
   ·rw[dQ];have q:(k == NameKind.free)=false:=by simpa using hk
    simp only[q,az,if_false];exact e
   ·rcases aG.mp hx with rfl | hx
    ·exact absurd hxf hk
    ·exact h3 x hx hxf
theorem VH (hf:∀x∈scope.names,x.2=NameKind.free->∃c,env.cells.lookup x.1=some c):
  ∃cl,closureFor scope env=pure cl/\(∀x c,cl.lookup x=some c->env.cells.lookup x=some c)/\(∀x∈scope.names,x.2=NameKind.free->∃c,cl.lookup x.1=some c):=by
 obtain⟨cl,e,h1,_,h3⟩:=JF scope.names [] hf (λx c e=>by simp at e)
 refine⟨cl, ?_,h1,h3⟩;unfold closureFor;show (do let cs ← _;pure cs)=_
 exact(by simpa using e)
def cxC (X:Cx)(scope:Scope)(N' :List Str)(cl:List (Str×Addr))(C:Addr)(s3:Shared)(H3:Hp)(fp:List Addr)(pins:List (Addr×Obj)):Cx:=
 { X with N:=N',s₀:=s3,H₀:=H3,env:=compEnvC scope cl C X.env,outer:=X.stack,stack:=X.stack,ex:=fp,fn:=λ_=>false,pn:=X.pn++pins,xe:=λ_ _=>False }
structure CSc (X:Cx) (scope:Scope):Prop where
 kind:scope.kind= .function
 nocell:∀x∈scope.names,x.2 ≠ .cell
 loc:∀x∈scope.names,x.2= .local->scope.names.lookup x.1=some .local
 fre:∀x∈scope.names,x.2= .free->X.env.kindOf x.1=some .cell\/X.env.kindOf x.1=some .free
theorem jP (h:(relabel scope env).names.lookup x=some k)(hk:k= .cell\/k= .free)(hn:∀x∈scope.names,x.2 ≠ NameKind.cell):∃y∈scope.names,y.1=x/\y.2= .free:=by
 have go:∀ns:List (Str×NameKind),(∀x∈ns,x.2 ≠ NameKind.cell)->(ns.map λ(n,k)=>if (k == NameKind.free && env.scope.kind == .function && env.kindOf n == some .cell) then (n,NameKind.cell) else (n,k)).lookup x=some k->∃y∈ns,y.1=x/\y.2= .free:=by
  intro ns
  induction ns with
  | nil=>intro _ h;simp at h
  | cons y ns ih=>
   intro hn h;obtain⟨n,k'⟩:=y
   by_cases hx:x=n
   ·subst hx;refine⟨(x,k'),aw,rfl, ?_⟩;rw[aI]at h
    by_cases hc:(k' == NameKind.free && env.scope.kind == .function && env.kindOf x == some .cell)=true
    ·rw[ak,ak]at hc;exact eq_of_beq hc.1.1
    ·simp only[if_neg hc,aM,beq_self_eq_true]at h;cases h;rcases hk with rfl | rfl
     ·exact absurd rfl (hn _ aw)
     ·rfl
   ·obtain⟨z,hz,h1,h2⟩:=ih (λz hz=>hn z (af _ hz)) (by
     rw[aI]at h
     by_cases hc:(k' == NameKind.free && env.scope.kind == .function && env.kindOf n == some .cell)=true
     ·simp only[if_pos hc,aM,(beq_eq_false_iff_ne.mpr hx)]at h;exact h
     ·simp only[if_neg hc,aM,(beq_eq_false_iff_ne.mpr hx)]at h;exact h)
    exact⟨z,af _ hz,h1,h2⟩
 exact go scope.names hn h
section
theorem Y3 {tk:Nat}(I:L2.Inv X pins σ H s)(S:CSc X scope)(hc:X.calm=true)
  (hcl:∀x c,cl.lookup x=some c->X.env.cells.lookup x=some c) (hcf:∀x∈scope.names,x.2=NameKind.free->∃c,cl.lookup x.1=some c)
  (hfp:∀b∈fp,WT X pins H b) (hfo:∀b∈fp,∃o,s.heap.get? b=some o)
  (hns:h'.Ns s.heap.objs.size (λ_=>none)) (hk:∀b o,s.heap.get? b=some o->h'.get? b=some o)
  (hl:σ'.length=N'.length) (hσ:∀(i:Nat) (x:Str) (v:V),N'[i]? =some x->σ'[i]? =some (some v)->∃j:Nat,X.N[j]? =some x/\σ[j]? =some (some v)/\Vis X.env.scope x/\(scope.names.lookup x=some .free)/\(X.env.kindOf x=some .cell\/X.env.kindOf x=some .free)):
  L2.Inv (cxC X scope N' cl s.heap.objs.size s H fp pins) [] σ' H { s with heap:=h',toks:=tk }:=by
 have stk:=I.stkSub;have hlt:∀b∈fp,b < s.heap.objs.size:=λb hb=>let ⟨o,e⟩:=hfo b hb;ax e;have fresh:H s.heap.objs.size=none:=I.hok.fresh (am _);refine⟨⟨I.ok.mod,S.kind,I.ok.glob,I.ok.blt,am _,λx y c h1 h2=>I.ok.inj x y c (hcl _ _ h1) (hcl _ _ h2),λx hx=> ?_,λx c h _=>(av h).elim,λ_=>I.ok.hd hc,I.ok.frames,.inl rfl,λb hb=> ?_,I.bs,
   aF I.ok.bsz I.sz,λb o e hb=> ?_,λb hb hb' => ?_,I.stack,I.stkFree⟩,rfl,I.bare,Un.kept hk,⟨_,hns,λi x v h1 h2 h3=> ?_⟩,λx c e=> ?_,fresh,λx c e=>I.freeC x c (hcl _ _ e),λp hp=> ?_,I.hok.kept hk,hl⟩
 ·have hx' :(relabel scope X.env).names.lookup x=some .cell\/(relabel scope X.env).names.lookup x=some .free:=hx;obtain⟨y,hy,rfl,hyf⟩:∃y∈scope.names,y.1=x/\y.2= .free:=by
   rcases hx' with h | h
   ·exact jP h (.inl rfl) S.nocell
   ·exact jP h (.inr rfl) S.nocell
  exact hcf y hy hyf
 ·refine⟨aL (hlt b hb),λx c e=>(hfp b hb).2.2.2.2.1 x c (hcl _ _ e)⟩
 ·rcases(hfp b hb).2.2.2.1 with h | h
  ·exact I.ok.noex b o e h
  ·exact absurd (aK (ax e) (aF I.ok.bsz h)) (bK _)
 ·have q:=hfp b hb;rcases aG.mp (stk b hb') with z | z
  ·exact q.2.1 z
  ·exact q.2.2.1 z
 ·obtain⟨j,e1,e2,e3,e4,e5⟩:=hσ i x v h1 h2;obtain⟨m,hn,hloc⟩:=I.loc;obtain⟨u,ru,lk⟩:=hloc j x v e1 e2 e3;refine⟨u,ru,.inr ⟨?_, ?_⟩⟩
  ·have h3:Vis (relabel scope X.env) x:=h3;rcases h3 with h | h | h
   ·exfalso;have:∀ns:List (Str×NameKind),ns.lookup x=some .free->(ns.map λ(n,k)=>if (k == NameKind.free && X.env.scope.kind == .function && X.env.kindOf n == some .cell) then (n,NameKind.cell) else (n,k)).lookup x ≠ some .local:=by
     intro ns
     induction ns with
     | nil=>intro z;simp at z
     | cons y ns ih=>
      obtain⟨n,k⟩:=y;intro z w;rw[aI]at w
      by_cases hx:x=n
      ·subst hx;have hkf:some k=some NameKind.free:=by simpa[aM] using z
       by_cases hcn:(k == NameKind.free && X.env.scope.kind == .function && X.env.kindOf x == some .cell)=true
       ·simp only[if_pos hcn,aM,beq_self_eq_true]at w;cases w
       ·simp only[if_neg hcn,aM,beq_self_eq_true]at w;rw[hkf]at w;cases w
      ·have z' :ns.lookup x=some .free:=by rw[aM,(beq_eq_false_iff_ne.mpr hx)]at z;exact z
       refine ih z' ?_
       by_cases hcn:(k == NameKind.free && X.env.scope.kind == .function && X.env.kindOf n == some .cell)=true
       ·simp only[if_pos hcn,aM,(beq_eq_false_iff_ne.mpr hx)]at w;exact w
       ·simp only[if_neg hcn,aM,(beq_eq_false_iff_ne.mpr hx)]at w;exact w
    exact this _ e4 h
   ·exact .inl h
   ·exact .inr h
  ·rcases lk with ⟨hk',_⟩ | ⟨_,c,hc',hcell⟩
   ·rcases e5 with z | z <;> (rw[z]at hk';cases hk')
   ·obtain⟨c',hc2⟩:=hcf (x,.free) (ci e4) rfl;have:=hcl x c' hc2;rw[hc']at this;cases this;obtain⟨o,eo,ed⟩:=hcell;exact⟨c,hc2,o,hk _ _ eo,ed⟩
 ·obtain⟨v,o,eo,ed⟩:=I.cell x c (hcl _ _ e);exact⟨v,o,hk _ _ eo,ed⟩
 ·have hp' :p∈X.pn++pins:=by
   have:p∈(X.pn++pins)++[]:=hp;rwa[bh]at this
  obtain⟨e,n,ne,nf,dc⟩:=I.pin p hp';refine⟨hk _ _ e,n,aL (ax e),λhb=> ?_,dc⟩;rcases aG.mp (stk _ hb) with z | z
  ·exact ne z
  ·exact nf z
end
def PIf (X:Cx)(ifs:List Expr)(t:TT):Prop:=
 ∀(pins:List (Addr×Obj)) (s:Shared) (σ:Sg) (H:Hp) (Q:Bool->Hp->Prop),L2.Inv X pins σ H s->t σ H Q->
  wpAny (model X.prog X.w) X.A (forIn ifs true λc r=>if r=true then do let ok ← isTrue c X.env (eval c X.env);pure (ForInStep.yield ok) else pure (ForInStep.yield r)) (TP X pins σ Q) X.xe s
theorem VI:PIf X [] (λ_ H Q=>Q true H):=λ_ _ σ H _ I h=>wpAny_tests_nil ⟨H,I,h⟩
theorem VJ (h:PT X c t):PIf X [c] t:=λpins s σ H Q I q=>wpAny_tests_one (h pins s σ H Q I q)
abbrev XE (X:Cx)(xe:Value->Shared->Prop):Cx:={ X with xe:=xe }
theorem uK (I:L2.Inv X pins σ H s):L2.Inv (XE X xe) pins σ H s:=
 ⟨⟨I.ok.mod,I.ok.kind,I.ok.glob,I.ok.blt,I.ok.above,I.ok.inj,I.ok.has,I.ok.cab,I.ok.hd,I.ok.frames,I.ok.stk,I.ok.exf,I.ok.bs,I.ok.bsz,I.ok.noex,I.ok.exfs,I.ok.funs,I.ok.frf⟩,I.os,I.bare,I.base,I.loc,I.cell,I.free,I.freeC,I.pin,I.hok,I.len⟩
theorem Y4 (I:L2.Inv (XE X xe) pins σ H s):L2.Inv X pins σ H s:=(uK I:L2.Inv (XE (XE X xe) X.xe) pins σ H s)
theorem z0y (hx:X.xe=λ_ _=>False)(h:PG X e t):PG (XE X xe) e t:=λpins s σ H v u Q I r q=>ce (h pins s σ H v u Q (Y4 I) r q) (λ_ s' ⟨σ',H',I',q'⟩=>⟨σ',H',uK I',q'⟩) λe s' z=>by rw[hx]at z;exact z.elim
theorem kX (hx:X.xe=λ_ _=>False)(h:PIf X e t):PIf (XE X xe) e t:=λpins s σ H Q I q=>ce (h pins s σ H Q (Y4 I) q) (λ_ s' ⟨H',I',q'⟩=>⟨H',uK I',q'⟩) λe s' z=>by rw[hx]at z;exact z.elim
theorem uL {α:Type}{m:Sem α}{Q:α->Shared->Prop}(hE:∀e s',E' e s' ->E e s')(h:wpAny M A m Q E' s):wpAny M A m Q E s:=ce h (λ_ _ q=>q) hE
def Qb (J:It)(D:Addr)(g:TG)(tt:TT)(te:TE)(fin:Sg->Hp->Prop)(W:Nat->Nat->List V->Sg->Hp->Prop):Prop:=
 ∀i m ys σ H,W i m ys σ H->H D=some (.lst ys)/\((J.stop i H/\fin σ H)\/(J.go i H/\∀x H2,J.yld i H x H2->g x σ H2 λσ3 H3=>tt σ3 H3 λk H4=>
  if k=true then te σ3 H4 λv H5=>H5 D=some (.lst ys)/\ys.length < sizeLine/\∃m',m' < m/\W (i+1) m' (ys++[v]) σ3 (upd H5 D (.lst (ys++[v]))) else ∃m',m' < m/\W (i+1) m' ys σ3 H4))
theorem Y5 {X:Cx}{R:Result->Shared->Prop}(hx:∀e s',X.xe e s' ->notedBy (model X.prog X.w) X.A X.env (λe s' =>R (.error e) s') e s')(hc:X.calm=true){tg iter elt:Expr}{ifs:List Expr}{scope:Scope}{pos:Pos}{J:It}{fp:List Addr}{it:Addr}{tn:Nat->Heap->Prop}(TJ:yi X.prog X.w X.K tg J fp it tn)
  {g:TG} {tt:TT} {te:TE} (hg:PG X tg g) (ht:PIf X ifs tt) (he:PE X elt te) {D:Addr} {fin:Sg->Hp->Prop} (W:Nat->Nat->List V->Sg->Hp->Prop) (turn:Qb J D g tt te fin W)
  (hR:∀s σ H,L2.Inv X [] σ H s->fin σ H->R (.ok .next) s) {m0:Nat} {σ0:Sg} {H0:Hp} {s0:Shared} (w0:W 0 m0 [] σ0 H0) (I0:L2.Inv X [] σ0 H0 s0) (t0:tn 0 s0.heap) (f0:∀b∈fp,WT X [] H0 b):
  codeAny (model X.prog X.w) X.A (.compLoop (.ListComp elt [⟨tg,iter,ifs,0⟩] scope pos) 0 (.ref it) (.ref D) X.env) R s0:=by
 have stat:∀{H' :Hp},(∀b∈fp,H' b=none)->∀b∈fp,WT X [] H' b:=λhn b hb=>⟨hn b hb,(f0 b hb).2⟩;refine codeAny_loop rfl (λn s' =>∃i ys σ' H',L2.Inv X [] σ' H' s' /\tn i s'.heap/\(∀b∈fp,H' b=none)/\W i n ys σ' H') (λn s3 h3=> ?_) m0 ⟨0,[],σ0,H0,I0,t0,λb hb=>(f0 b hb).1,w0⟩;obtain⟨i,ys,σ3,H3,I3,st3,fr3,w3⟩:=h3;show wpAny _ X.A ((compTurn (.ListComp elt [⟨tg,iter,ifs,0⟩] scope pos) 0 (.ref it) (.ref D) X.env).onRaise (λx=>do noteFrame x X.env;theTreesLotGoes x)) _ _ s3
 refine wpAny_noted ?_;rw[compTurn_list];obtain⟨hD,h⟩:=turn i n ys σ3 H3 w3;rcases h with ⟨stop,qn⟩ | ⟨go,next⟩
 ·refine aa (wpAny_standAt (aa (thn (TJ.done X rfl rfl rfl hc i [] s3 σ3 H3 _ I3 (stat fr3) st3 stop) λr s4 ⟨hr,I4⟩=> ?_)));subst hr;exact ar (hR s4 σ3 H3 I4 qn)
 ·refine aa (wpAny_standAt (aa (thn (TJ.item X rfl rfl rfl hc i [] s3 σ3 H3 _ I3 (stat fr3) st3 go) λr s4 ⟨u,hr,h4⟩=> ?_)));subst hr;refine aa (thn h4 λ_ s5 ⟨x,H5,I5,r5,y5,st5,fr5⟩=> ?_);have I5' :=I5.pinned (stat fr5) (TJ.obj _ _ st5);refine aa (uL hx (thn (hg _ s5 σ3 H5 x u _ I5' r5 (next x H5 y5)) λ_ s6 ⟨σ6,H6,I6,q6⟩=> ?_));have again:∀{σ7:Sg} {H7:Hp} {s7:Shared} {ys' :List V},L2.Inv X ([]++Wf fp s5.heap) σ7 H7 s7->(∃m',m' < n/\W (i+1) m' ys' σ7 H7)->∃m,m < n/\∃i ys σ' H',L2.Inv X [] σ' H' s7/\tn i s7.heap/\(∀b∈fp,H' b=none)/\W i m ys σ' H' :=λ{σ7 H7 s7 ys'} I7 ⟨m',hm,w7⟩=>by
   refine⟨m',hm,i+1,ys',σ7,H7,I7.unpinned,TJ.keep _ _ _ st5 λb hb o e=>(I7.pin (b,o) (bb _ (bb _ (ji hb e)))).1,λb hb=> ?_,w7⟩;obtain⟨o,e,d⟩:=TJ.obj _ _ st5 b hb;exact(I7.pin (b,o) (bb _ (bb _ (ji hb e)))).2.1
  refine aa (uL hx (thn (ht _ s6 σ6 H6 _ I6 q6) λk s7 ⟨H7,I7,q7⟩=> ?_));cases k with
  | false=>exact ar ⟨rfl,again I7 q7⟩
  | true=>
   refine aa (aa (uL hx (thn (he _ s7 σ6 H7 _ I7 q7) λv s8 ⟨y,H8,I8,r8,hD8,hlen,q8⟩=> ?_)));refine aa (uL hx (thn (Wn _ s8 σ6 H8 (.ref D) [y] (.ref D) [v] (λ_ H9=>∃m',m' < n/\W (i+1) m' (ys++[y]) σ6 H9) I8 rfl (.cons r8 .nil) ⟨D,ys,y,rfl,rfl,hD8,hlen,q8⟩) λw s9 ⟨_,H9,I9,_,q9⟩=> ?_));exact ar (ar ⟨rfl,again I9 q9⟩)
def y0 (k:Nat)(js:List Nat)(σ:Sg):Sg:=ad k none++js.map λj=>(σ[j]?).getD none
section
abbrev Xm (X:Cx)(scope:Scope)(N' :List Str)(P:Cx->Prop):Prop:=∀cl C s3 H3 fp pins,P (cxC X scope N' cl C s3 H3 fp pins)
abbrev z0z (X:Cx)(scope:Scope)(N' :List Str)(E:XK)(P:Cx->Prop):Prop:=∀cl C s3 H3 fp pins xe,Z4 (CX1 X.prog X.w) (XE (cxC X scope N' cl C s3 H3 fp pins) xe) E->P (XE (cxC X scope N' cl C s3 H3 fp pins) xe)
structure z0A (X:Cx) (scope:Scope) (N' :List Str) (k:Nat) (js:List Nat):Prop where
 len:N'.length=k+js.length
 cap:∀(i j:Nat),js[i]? =some j->∃x,N'[k+i]? =some x/\X.N[j]? =some x/\Vis X.env.scope x/\scope.names.lookup x=some .free/\(X.env.kindOf x=some .cell\/X.env.kindOf x=some .free)
theorem uM {E:XK}(hp:kq X E){tg iter elt:Expr}{ifs:List Expr}{scope:Scope}{pos pos' :Pos}{N' :List Str}{k:Nat}{js:List Nat}{wi:TI}{g:TG}{tt:TT}{te:TE}{use:Option (Value->Sem Unit)}(S:CSc X scope)(CP:z0A X scope N' k js)(hc:X.calm=true)
  (hi:PI X tg iter wi) (hg:Xm X scope N' λXC=>PG XC tg g) (ht:Xm X scope N' λXC=>PIf XC ifs tt) (he:z0z X scope N' E λXC=>PE XC elt te) {pins:List (Addr×Obj)} {σ:Sg} {H:Hp} {s:Shared} {Q:Value->Shared->Prop} {F:Addr->Hp->Prop} (I:L2.Inv X pins σ H s)
  (h:wi σ H λJ H1=>∀D,H1 D=none->∃W,(∃m,W 0 m [] (y0 k js σ) (upd H1 D (.lst [])))/\Qb J D g tt te (λ_ H' =>F D H') W)
  (hQ:∀D C H' s',L2.Inv X pins σ H' s' ->F D H' ->H' C=none->(X.s₀.heap.objs.size<=C)->C ≠ X.env.locals->(∀x c,X.env.cells.lookup x=some c->c ≠ C)->(∀p∈X.pn++pins,p.1 ≠ C)->(∃m,s'.heap.Ns C m)->compPost (model X.prog X.w) X.A X.xe use Q (.ref D) C (.ok .next) s')
  (hs:∀x,foldedSetIterable iter X.env x=pure x:=by intro _;rfl):
  wpAny (model X.prog X.w) X.A (comprehension (.ListComp elt [⟨tg,iter,ifs,0⟩] scope pos) scope X.env pos' (newList []) false (eval iter X.env) use) Q X.xe s:=by
 obtain⟨cl,ecl,hcl,hcf⟩:=VH (scope:=scope) (env:=X.env) λx hx hf=>I.ok.has x.1 (S.fre x hx hf);refine wpAny_comprehension_free rfl hs ecl S.kind S.loc ?_;refine thn (hi pins s σ H _ I h) λv s1 h1=>thn h1 λitv s2 h2=> ?_;obtain⟨it,fp,tn,J,H2,e,I2,TJ,st2,f2,q2⟩:=h2;subst e;refine aX ?_;have hD:H2 s2.heap.objs.size=none:=I2.hok.fresh (am _);have I3:L2.Inv X pins σ (upd H2 s2.heap.objs.size (.lst [])) { s2 with heap:=s2.heap.push { cls:= .type "list",data:= .seq ([]:List Value).toArray } }:=
  I2.laid (t' :=s2.toks) (λb u e=>ai _ e) (am _) ⟨bO _,[],_,.nil,ao _ rfl⟩
 obtain⟨W,⟨m0,w0⟩,turn⟩:=q2 s2.heap.objs.size hD;have f3:∀b∈fp,WT X pins (upd H2 s2.heap.objs.size (.lst [])) b:=λb hb=>by
  obtain⟨o,eo,_⟩:=TJ.obj _ _ st2 b hb;exact⟨by rw[zn (aL (ax eo))];exact(f2 b hb).1,(f2 b hb).2⟩
 have o3:∀b∈fp,∃o,(s2.heap.push { cls:= .type "list",data:= .seq ([]:List Value).toArray }).get? b=some o:=λb hb=>by
  obtain⟨o,eo,_⟩:=TJ.obj _ _ st2 b hb;exact⟨o,ai _ eo⟩
 refine wpAny_newFunctionEnv S.nocell (by intro y hy;simp at hy) (λh4 hns4 hsb4=> ?_) S.kind
 generalize hG:s2.heap.push { cls:= .type "list",data:= .seq ([]:List Value).toArray }=G3 at I3 o3 hns4 hsb4 ⊢;dsimp only at hns4 hsb4 ⊢;have s3e:∃s3:Shared,s3={ s2 with heap:=G3 }:=⟨_,rfl⟩;obtain⟨s3,es3⟩:=s3e;have hh3:s3.heap=s2.heap.push { cls:= .type "list",data:= .seq ([]:List Value).toArray }:=by rw[es3,hG]
 have hg3:G3=s3.heap:=by rw[es3]
 rw[← es3]at I3;have ht3:s2.toks=s3.toks:=by rw[es3]
 rw[hg3]at hns4 hsb4 o3;have k4:∀b o,s3.heap.get? b=some o->h4.get? b=some o:=λb o e=>hsb4.extBut b o (aL (ax e)) (ai _ e);have IC:=Y3 (N' :=N') (cl:=cl) (fp:=fp) (σ' :=y0 k js σ) (tk:=s3.toks+([]:List (Str×Value)).length) I3 S hc hcl hcf f3 o3 hns4 k4 (by unfold y0;simp[CP.len]) (λi x v h1 h2=>by
  unfold y0 at h2
  by_cases hik:i < k
  ·rw[aD (by simpa using hik),aC,if_pos hik]at h2
   cases h2
  ·have hk' :k<=i:=by omega
   rw[ay (by simpa using hk'),aN,au]at h2
   cases ej:js[i - k]? with
   | none=>rw[ej]at h2;cases h2
   | some j=>
    rw[ej]at h2;obtain⟨y,e1,e2,e3,e4,e5⟩:=CP.cap (i - k) j ej;have:k+(i - k)=i:=by omega
    rw[this,h1]at e1;cases e1;refine⟨j,e2, ?_,e3,e4,e5⟩;have h2' :some ((σ[j]?).getD none)=some (some v):=h2;cases ez:σ[j]? with
    | none=>rw[ez]at h2';cases h2'
    | some z=>rw[ez]at h2';exact congrArg some (aH h2'))
 have TC:yi (cxC X scope N' cl s3.heap.objs.size s3 (upd H2 s2.heap.objs.size (.lst [])) fp pins).prog (cxC X scope N' cl s3.heap.objs.size s3 (upd H2 s2.heap.objs.size (.lst [])) fp pins).w (cxC X scope N' cl s3.heap.objs.size s3 (upd H2 s2.heap.objs.size (.lst [])) fp pins).K tg J fp it tn:=TJ;have t4:tn 0 h4:=TJ.keep _ _ _ st2 λb hb o e=>k4 b o (by rw[hh3];exact ai _ e)
 have fC:∀b∈fp,WT (cxC X scope N' cl s3.heap.objs.size s3 (upd H2 s2.heap.objs.size (.lst [])) fp pins) [] (upd H2 s2.heap.objs.size (.lst [])) b:=λb hb=>by
  obtain⟨q0,q1,q2,q3,q4,q5⟩:=f3 b hb;obtain⟨o,eo⟩:=o3 b hb;refine⟨q0,aL (ax eo),λhb' => ?_,.inl hb,λx c e=>q4 x c (hcl _ _ e),λp hp=> ?_⟩
  ·rcases aG.mp (I3.stkSub b hb') with z | z
   ·exact q1 z
   ·exact q2 z
  ·exact q5 p (by
    have:p∈(X.pn++pins)++[]:=hp;rwa[bh]at this)
 have fin:∀(s5:Shared) (σ5:Sg) (H5:Hp),L2.Inv (cxC X scope N' cl s3.heap.objs.size s3 (upd H2 s2.heap.objs.size (.lst [])) fp pins) [] σ5 H5 s5->F s2.heap.objs.size H5->compPost (model X.prog X.w) X.A X.xe use Q (.ref s2.heap.objs.size) s3.heap.objs.size (.ok .next) s5:=λs5 σ5 H5 I5 q5=>by
  have J5:L2.Inv X pins σ H5 s5:=I3.call' (ch:=fp) I5.os I5.base I5.hok I5.bare λb hb=>by
   obtain⟨q0,q1,q2,q3,q4,q5⟩:=f3 b hb;exact⟨q3,q1,q4,q5⟩
  refine hQ _ _ H5 s5 J5 q5 I5.free I3.sz (eV I3.lt) (λx c e z=> ?_) (λp hp z=> ?_) (let ⟨m,hm,_⟩:=I5.loc;⟨m,hm⟩)
  ·obtain⟨v',o,eo,_⟩:=I3.cell x c e;exact absurd (ax eo) (by rw[z];exact bK _)
  ·exact absurd (ax (I3.pin p hp).1) (by rw[z];exact bK _)
 have pass:Z4 (CX1 X.prog X.w) (XE (cxC X scope N' cl s3.heap.objs.size s3 (upd H2 s2.heap.objs.size (.lst [])) fp pins) (notedBy (model X.prog X.w) X.A (compEnvC scope cl s3.heap.objs.size X.env) λe s' =>compPost (model X.prog X.w) X.A X.xe use Q (.ref s2.heap.objs.size) s3.heap.objs.size (.error e) s')) E:=by
  intro pins1 σ1 H1 s1 e s' I1 c1;have J1:L2.Inv X pins σ H1 s1:=I3.call' (ch:=fp) I1.os I1.base I1.hok I1.bare λb hb=>by
   obtain⟨q0,q1,q2,q3,q4,q5⟩:=f3 b hb;exact⟨q3,q1,q4,q5⟩
  obtain⟨m1,hm1,_⟩:=I1.loc;refine thn (hp pins σ H1 s1 e s' s3.heap.objs.size m1 _ (compEnvC scope cl s3.heap.objs.size X.env) J1 hm1 I1.free I3.sz (λz=> ?_) rfl c1) λ_ s'' q=> ?_
  ·obtain⟨_,o,eo,_⟩:=I3.stack.mem z;exact absurd (ax eo) (bK _)
  ·cases use <;> exact q
 have loop:=Y5 (X:=XE (cxC X scope N' cl s3.heap.objs.size s3 (upd H2 s2.heap.objs.size (.lst [])) fp pins) (notedBy (model X.prog X.w) X.A (compEnvC scope cl s3.heap.objs.size X.env) λe s' =>compPost (model X.prog X.w) X.A X.xe use Q (.ref s2.heap.objs.size) s3.heap.objs.size (.error e) s')) (iter:=iter) (scope:=scope) (pos:=pos) (R:=compPost (model X.prog X.w) X.A X.xe use Q (.ref s2.heap.objs.size) s3.heap.objs.size) (λ_ _ z=>z) hc TC (z0y rfl (hg _ _ _ _ _ _)) (kX rfl (ht _ _ _ _ _ _)) (he _ _ _ _ _ _ _ pass) W turn (λs5 σ5 H5 I5=>fin s5 σ5 H5 (Y4 I5)) w0 (uK IC) t4 fC;rw[es3]at loop;exact codeAny_compStart_list loop (TJ.self _ _ _ _ _ t4 loop)
end
def zH (g:T->En->R En)(ft:En->R Bool)(fe:En->R T):List T->En->R (List T)
 | [],_=> .ok []
 | t :: ts,ρ=>(g t ρ).bind λρ1=>(ft ρ1).bind λk=>if k=true then (fe ρ1).bind λv=>(zH g ft fe ts ρ1).bind λvs=> .ok (v :: vs) else zH g ft fe ts ρ1
def ua:Option Sl->Sl
 | some (.vl t)=> .vl t
 | some (.ob k _)=> .oc k []
 | some (.oc k fs)=> .oc k fs
 | _=> .un
def JZ (k:Nat)(js:List Nat)(ρ:En):En:=ad k .un++js.map λj=>ua ρ[j]?
def quiet {α:Type}:R α->R α
 | .ok a=> .ok a
 | _=> .bad
def zI (g:T->En->R En)(ft:En->R Bool)(fe:En->R T)(k:Nat)(js:List Nat)(ρ:En)(ts:List T):R (List T):=if ts.length<=bnd then quiet (zH g ft fe ts (JZ k js ρ)) else .bad
def zZ (fi:En->R (List T))(g:T->En->R En)(ft:En->R Bool)(fe:En->R T)(k:Nat)(js:List Nat):En->R T:=λρ=>(fi ρ).bind λts=>(zI g ft fe k js ρ ts).bind λvs=> .ok (.lst vs)
def GOk (tG:TG)(g:T->En->R En):Prop:=∀Y B ρ σ H v x Q,SI Y B ρ σ H->Rep B v x->(match g x ρ with | .ok ρ' =>∀σ',SI Y B ρ' σ' H->Q σ' H | _=>False)->tG v σ H Q
theorem zF (i:Nat):GOk (We i) (zr i):=λY B ρ σ H v x Q I r q=>q _ (I.setV i r)
theorem wO (K:ac)(i j:Nat):GOk (GL K 2 (yh (We i) (yh (We j) GK))) (Zr i j):=λY B ρ σ H v t Q I r q=>by
 cases r with
 | @tup l xs ts h r=>
  cases r with
  | nil=>exact q.elim
  | cons r1 rr=>
   cases rr with
   | nil=>exact q.elim
   | cons r2 rr=>
    cases rr with
    | cons _ _=>exact q.elim
    | nil=>exact⟨l,_,rfl,SqT.of (I.sB _ _ h),rfl,_,_,rfl,_,_,rfl,rfl,q _ ((I.setV i r1).setV j r2)⟩
 | _=>exact q.elim
theorem SI.blockS (I:SI Y B ρ σ H)(k:Nat)(js:List Nat)(E:XK)(s:zl H H'):SI ⟨B,H,E,Y.cl,[]⟩ B (JZ k js ρ) (y0 k js σ) H' where
 s0:=I.sB
 sH:=s
 sB:=I.sB.trans s
 old:=λ_ _ _=>rfl
 len:=by unfold JZ y0;simp
 vl:=λi t h=>by
  unfold JZ at h;unfold y0
  by_cases hik:i < k
  ·rw[aD (by simpa using hik),aC,if_pos hik]at h;cases h
  ·have hk' :k<=i:=by omega
   rw[ay (by simpa using hk'),aN,au]at h ⊢
   cases ej:js[i - k]? with
   | none=>rw[ej]at h;cases h
   | some j=>
    rw[ej]at h;have h' :ua ρ[j]? = .vl t:=aH h;unfold ua at h';split at h'
    ·rename_i u e;cases h';obtain⟨v,e1,r⟩:=I.vl j _ e;exact⟨v,by show some ((σ[j]?).getD none)=_;rw[e1];rfl,r⟩
    all_goals cases h'
 ow:=λi ts h=>by
  exfalso;unfold JZ at h
  by_cases hik:i < k
  ·rw[aD (by simpa using hik),aC,if_pos hik]at h;cases h
  ·have hk' :k<=i:=by omega
   rw[ay (by simpa using hk'),aN,au]at h
   cases ej:js[i - k]? with
   | none=>rw[ej]at h;cases h
   | some j=>
    rw[ej]at h;have h' :ua ρ[j]? = .ow ts:=aH h;unfold ua at h';split at h' <;> cases h'
 xc:=λi c h=>by
  exfalso;unfold JZ at h
  by_cases hik:i < k
  ·rw[aD (by simpa using hik),aC,if_pos hik]at h;cases h
  ·have hk' :k<=i:=by omega
   rw[ay (by simpa using hk'),aN,au]at h
   cases ej:js[i - k]? with
   | none=>rw[ej]at h;cases h
   | some j=>
    rw[ej]at h;have h' :ua ρ[j]? = .xc c:=aH h;unfold ua at h';split at h' <;> cases h'
 st:=by
  have get:∀(i:Nat) (x:Sl),x.isO=true->(JZ k js ρ)[i]? =some x->∃j,js[i - k]? =some j/\k<=i/\ua ρ[j]? =x:=λi x hx h=>by
   unfold JZ at h
   by_cases hik:i < k
   ·rw[aD (by simpa using hik),aC,if_pos hik]at h
    cases h;cases hx
   ·have hk' :k<=i:=by omega
    rw[ay (by simpa using hk'),aN,au]at h
    cases ej:js[i - k]? with
    | none=>rw[ej]at h;cases h
    | some j=>
     rw[ej]at h;exact⟨j,rfl,hk',aH h⟩
  refine⟨[],λ_=>none,cK _,λi os h=> ?_,λi _ os _ h=> ?_,λi k' n h=> ?_,λi k' fs h=> ?_,λi os h=> ?_⟩
  ·obtain⟨j,_,_,e⟩:=get i _ rfl h;unfold ua at e;split at e <;> cases e
  ·obtain⟨j,_,_,e⟩:=get i _ rfl h;unfold ua at e;split at e <;> cases e
  ·obtain⟨j,_,_,e⟩:=get i _ rfl h;unfold ua at e;split at e <;> cases e
  ·obtain⟨j,ej,hk',e⟩:=get i _ rfl h;have sg:(y0 k js σ)[i]? =some ((σ[j]?).getD none):=by
    unfold y0;rw[ay (by simpa using hk'),aN,au,ej];rfl
   obtain⟨as,O,x⟩:=I.st;unfold ua at e;split at e
   ·cases e
   ·rename_i k2 n2 e2;cases e;obtain⟨a,C,dx,vs,_,e3,e4,e5,_,_,e6⟩:=x.ob j _ _ e2;exact⟨a,C,dx,vs,by rw[sg,e3];rfl,e4,e5,e6,λm f d z=>by cases z⟩
   ·rename_i k2 fs2 e2;cases e;obtain⟨a,C,dx,vs,e3,e4,e5,e6,e7⟩:=x.oc j _ _ e2;exact⟨a,C,dx,vs,by rw[sg,e3];rfl,e4,I.sH _ _ e5,e6,e7.mono (zl.refl _) I.sH⟩
   ·cases e
  ·obtain⟨j,_,_,e⟩:=get i _ rfl h;unfold ua at e;split at e <;> cases e
theorem SI.block {Y:Fx}{B:Hp}{ρ:En}{σ:Sg}{H H3:Hp}{D:Addr}(I:SI Y B ρ σ H)(k:Nat)(js:List Nat)(E:XK)(hD:H D=none)(o:HO):SI ⟨B,H,E,Y.cl,[]⟩ B (JZ k js ρ) (y0 k js σ) (upd H D o):=I.blockS k js E (zl.new hD _)
theorem SI.acc {Y:Fx}{B:Hp}{ρ:En}{σ:Sg}{H:Hp}{D:Addr}(I:SI Y B ρ σ H)(hb:B D=none)(h0:Y.H0 D=none)(ho:∀(i:Nat) (ts:List T),ρ[i]? =some (Sl.ow ts)->σ[i]? ≠ some (some (V.ref D)))(hso:∀(i:Nat) (x:Sl),ρ[i]? =some x->Sl.isS x=true->False)(o:HO):SI Y B ρ σ (upd H D o) where
 s0:=I.s0
 sH:=λb u h=>by
  rw[zn (λz=>by subst z;rw[h0]at h;cases h)];exact I.sH b u h
 sB:=λb u h=>by
  rw[zn (λz=>by subst z;rw[hb]at h;cases h)];exact I.sB b u h
 old:=I.old
 len:=I.len
 vl:=I.vl
 ow:=λi ts h=>by
  obtain⟨a,xs,e,b0,h0',hh,r,d⟩:=I.ow i ts h;refine⟨a,xs,e,b0,h0', ?_,r,d⟩;rw[zn (λz=>ho i ts h (by rw[e,z]))];exact hh
 xc:=I.xc
 st:=let ⟨as,O,x⟩:=I.st;⟨as,O,x.pre,λi os h=>hso i _ h rfl |>.elim,λi j os os' h=>hso i _ h rfl |>.elim,λi k n h=>hso i _ h rfl |>.elim,x.oc,λi os h=>hso i _ h rfl |>.elim⟩
def VL (ρ:En):Prop:=∀(i:Nat) (x:Sl),ρ[i]? =some x->(∀ts,x ≠ Sl.ow ts)/\(x.isS=true->False)
theorem Qc (k:Nat)(js:List Nat)(ρ:En):VL (JZ k js ρ):=λi x h=>by
 unfold JZ at h
 by_cases hik:i < k
 ·rw[aD (by simpa using hik),aC,if_pos hik]at h
  cases h;exact⟨λ_=>Sl.noConfusion,av⟩
 ·have hk' :k<=i:=by omega
  rw[ay (by simpa using hk'),aN,au]at h
  cases ej:js[i - k]? with
  | none=>rw[ej]at h;cases h
  | some j=>
   rw[ej]at h;have h' :ua ρ[j]? =x:=aH h;unfold ua at h';split at h' <;> (subst h';exact⟨λ_=>Sl.noConfusion,av⟩)
theorem wP {ρ:En}{i:Nat}{t:T}(h:VL ρ):VL (ρ.set i (.vl t)):=λj x e=>by
 rcases zk e with ⟨_,z⟩ | ⟨_,z⟩
 ·subst z;exact⟨λ_=>Sl.noConfusion,av⟩
 ·exact h j x z
def GNo (g:T->En->R En):Prop:=(∀t ρ ρ',VL ρ->g t ρ= .ok ρ' ->VL ρ')/\∀t ρ c,g t ρ ≠ .ex c
theorem zG (i:Nat):GNo (zr i):=⟨λt ρ ρ' h e=>by
 cases e;exact wP h,λt ρ c e=>by cases e⟩
theorem wQ (i j:Nat):GNo (Zr i j):=⟨λt ρ ρ' h e=>(by
 unfold Zr at e;split at e
 ·cases e;exact wP (wP h)
 ·cases e),λt ρ c e=>by unfold Zr at e;split at e <;> cases e⟩
section
variable {X:Cx}{Y:Fx}{tg iter elt:Expr}{ifs:List Expr}{scope:Scope}{pos pos' :Pos}{N' :List Str}{k:Nat}{js:List Nat}{fi:En->R (List T)}{tG:TG}{g:T->En->R En}{ft:En->R Bool}{fe:En->R T}
structure ub (X:Cx) (Y:Fx) (ifs:List Expr) (f:En->R Bool):Prop where
 mk ::
 go:∀ρ,PIf X ifs (tS Y rE f ρ)
instance {X:Cx}{Y:Fx}{ifs:List Expr}{f:En->R Bool}:CoeFun (ub X Y ifs f) λ_=>∀ρ,PIf X ifs (tS Y rE f ρ):=⟨ub.go⟩
theorem PIf.imp {X:Cx}{e:List Expr}{t t' :TT}(h:PIf X e t)(i:∀σ H Q,t' σ H Q->t σ H Q):PIf X e t' :=λpins s σ H Q I q=>h pins s σ H Q I (i σ H Q q)
def Ze:En->R Bool:=λ_=> .ok true
theorem kY {X:Cx}:ub X Y [] Ze:= .mk λρ=>PIf.imp VI λσ H Q ⟨B,I,q⟩=>ZC I q rfl
theorem kZ {X:Cx}{c:Expr}(h:wJ X Y c ft):ub X Y [c] ft:= .mk λρ=>VJ (h ρ)
def CEnd (r:R (List T))(P:List T->Prop)(Z:Nat->Prop):Prop:=match r with
 | .ok vs=>P vs
 | .ex c=>Z c
 | .bad=>False
theorem UF {B1 H1:Hp}{σ:Sg}{ρ:En}{J:It}{ts:List T}{r:R (List T)}{D:Addr}{E0:XK}(hG:GOk tG g)(hN:GNo g)(I:SI Y B1 ρ σ H1)(rI' :rI B1 H1 J ts)(hl:ts.length<=bnd)(ev:zH g ft fe ts (JZ k js ρ)=r)(hD:H1 D=none){F:Hp->Prop}
  (hF:CEnd r (λvs=>∀H' xs B',zl H1 H' ->H' D=some (.lst xs)->zz B' xs vs->zl B' (zE B1 H1 H')->B' D=none->zl B1 B' ->F H') λc=>∀d H',zl H1 H' ->zl B1 H' ->E0 (Y.cl c) d H'):
  ∃W,(∃m,W 0 m [] (y0 k js σ) (upd H1 D (.lst [])))/\Qb J D tG (λσ H Q=>∃Y' ρ',Y'.cl=Y.cl/\tS Y' rE ft ρ' σ H Q) (λσ H Q=>∃Y' ρ',Y'.cl=Y.cl/\Y'.E=E0/\tS Y' rC fe ρ' σ H Q) (λ_ H' =>F H') W:=by
 refine⟨λi m ys σ' H' =>m=ts.length - i/\i<=ts.length/\ys.length<=i/\H' D=some (.lst ys)/\∃ρ' B' us,SI ⟨B1,H1,E0,Y.cl,[]⟩ B' ρ' σ' H' /\VL ρ' /\zl B1 B' /\B' D=none/\zz B' ys us/\((zH g ft fe (ts.drop i) ρ').bind λws=> .ok (us++ws))=r,
  ⟨ts.length,by simp,bO _,bO _,zB,_,B1,[],I.block (H3:=H1) k js _ hD _,Qc k js ρ,zl.refl _,I.sB.free hD,.nil,by rw[fA,ev];cases r <;> rfl⟩, ?_⟩
 rintro i m ys σ' H' ⟨rfl,hi,hyl,hDl,ρ',B',us,I',no',s1',bD,r',ew⟩
 refine⟨hDl, ?_⟩;obtain⟨hgo,hyld,hstop⟩:=rI' B' H' s1' I'.sB;have tD:∀H2,zl H' H2->zE B' H' H2 D=none:=λH2 s=>by rw[Z7 hDl];exact bD
 by_cases hlt:i < ts.length
 ·refine .inr ⟨hgo i hlt,λx H2 y=> ?_⟩;obtain⟨s2,r2⟩:=hyld i _ x H2 (aj hlt) y;rw[cz hlt]at ew;unfold zH at ew;have I2:=I'.grow s2;refine hG _ _ ρ' σ' H2 x _ _ I2 r2 ?_;cases eg:g ts[i] ρ' with
  | bad=>rw[eg]at ew;subst ew;exact hF
  | ex c=>exact(hN.2 _ _ _ eg).elim
  | ok ρ1=>
   rw[eg]at ew;have no1:VL ρ1:=hN.1 _ _ _ no' eg;intro σ1 J1;refine⟨⟨B1,H1,E0,Y.cl,[]⟩,ρ1,rfl,_,J1, ?_⟩;have ew1:((ft ρ1).bind (λk=>if k=true then (fe ρ1).bind λv=>(zH g ft fe (ts.drop (i+1)) ρ1).bind λvs=> .ok (v :: vs) else zH g ft fe (ts.drop (i+1)) ρ1)).bind (λws=> .ok (us++ws))=r:=ew
   cases ef:ft ρ1 with
   | bad=>rw[ef]at ew1;subst ew1;exact hF
   | ex c=>
    rw[ef]at ew1;subst ew1;exact λd H' a b=>hF d H' a ((s1'.trans (zE.ge I'.sB s2)).trans b)
   | ok kk=>
    rw[ef]at ew1;intro b H3 s3 eb;have eb' :b=kk:=eb;subst eb';have ew2:(if b=true then (fe ρ1).bind λv=>(zH g ft fe (ts.drop (i+1)) ρ1).bind λvs=> .ok (v :: vs) else zH g ft fe (ts.drop (i+1)) ρ1).bind (λws=> .ok (us++ws))=r:=ew1
    have J2:=J1.grow s3;have hD3:H3 D=some (.lst ys):=s3 _ _ (s2 _ _ hDl);have bD3:zE (zE B' H' H2) H2 H3 D=none:=by rw[Z7 (s2 _ _ hDl)];exact tD H2 s2
    have sB3:zl B' (zE (zE B' H' H2) H2 H3):=(zE.ge I'.sB s2).trans (zE.ge I2.sB s3);cases b with
    | false=>exact⟨ts.length - (i+1),by omega,rfl,hlt,by omega,hD3,ρ1,_,us,J2,no1,s1'.trans sB3,bD3,r'.mono sB3,ew2⟩
    | true=>
     refine⟨⟨B1,H1,E0,Y.cl,[]⟩,ρ1,rfl,rfl,_,J2, ?_⟩;have ew3:((fe ρ1).bind (λv=>(zH g ft fe (ts.drop (i+1)) ρ1).bind λvs=> .ok (v :: vs))).bind (λws=> .ok (us++ws))=r:=ew2;cases ee:fe ρ1 with
     | bad=>rw[ee]at ew3;subst ew3;exact hF
     | ex c=>
      rw[ee]at ew3;subst ew3;exact λd H' a b=>hF d H' a ((s1'.trans sB3).trans b)
     | ok v=>
      rw[ee]at ew3;have ew4:((zH g ft fe (ts.drop (i+1)) ρ1).bind (λvs=> .ok (v :: vs))).bind (λws=> .ok (us++ws))=r:=ew3;have ew5:(zH g ft fe (ts.drop (i+1)) ρ1).bind (λws=> .ok ((us++[v])++ws))=r:=by
       rw[← ew4];cases zH g ft fe (ts.drop (i+1)) ρ1 with
       | ok ws=>show R.ok _=R.ok _;rw[bI];rfl
       | _=>rfl
      intro w H4 s4 rw4;have hD4:H4 D=some (.lst ys):=s4 _ _ hD3;have J3:=J2.grow s4;have bD4:zE (zE (zE B' H' H2) H2 H3) H3 H4 D=none:=by rw[Z7 hD3];exact bD3
      have sB4:=sB3.trans (zE.ge J2.sB s4);refine⟨hD4,aK (cu hyl hlt) (ZN hl),ts.length - (i+1),by omega,rfl,hlt,by rw[aB,aE];omega,zB,ρ1,_,us++[v], ?_,no1,s1'.trans sB4,bD4,(r'.mono sB4).append (.cons rw4 .nil),ew5⟩
      exact J3.acc bD4 hD (λj ts' e=>((no1 j _ e).1 ts' rfl).elim) (λj x e=>(no1 j x e).2) _
 ·have e:i=ts.length:=by omega
  subst e;refine .inl ⟨hstop _ (am _), ?_⟩;rw[i6]at ew;have ew' :R.ok (us++[])=r:=ew;rw[bh]at ew';subst ew';refine hF H' ys B' I'.sH hDl r' (λb o h=> ?_) bD s1';cases q:H1 b with
  | none=>rw[Z0 q];exact I'.sB b o h
  | some u=>
   rw[Z7 q];have z:B' b=B1 b:=I'.old b u q;rw[← z];exact h
theorem Wr {J:It}(hG:GOk tG g)(hN:GNo g)(I:SI Y B1 ρ σ H1)(rI' :rI B1 H1 J ts)(hl:ts.length<=bnd)(ev:zH g ft fe ts (JZ k js ρ)= .ok vs)(hD:H1 D=none){F:Hp->Prop}
  (hF:∀H' xs B',zl H1 H' ->H' D=some (.lst xs)->zz B' xs vs->zl B' (zE B1 H1 H')->B' D=none->zl B1 B' ->F H'):
  ∃W,(∃m,W 0 m [] (y0 k js σ) (upd H1 D (.lst [])))/\Qb J D tG (λσ H Q=>∃Y' ρ',Y'.cl=Y.cl/\tS Y' rE ft ρ' σ H Q) (λσ H Q=>∃Y' ρ',Y'.cl=Y.cl/\(Y'.E=λ_ _ _=>False)/\tS Y' rC fe ρ' σ H Q) (λ_ H' =>F H') W:=UF hG hN I rI' hl ev hD hF
structure Y6 (X:Cx) (Y:Fx) (tg iter elt:Expr) (ifs:List Expr) (scope:Scope) (N' :List Str) (k:Nat) (js:List Nat) (fi:En->R (List T)) (tG:TG) (g:T->En->R En) (ft:En->R Bool) (fe:En->R T):Prop where
 sc:CSc X scope
 cp:z0A X scope N' k js
 cm:X.calm=true
 it:UZ X Y tg iter fi
 gt:Xm X scope N' λXC=>PG XC tg tG
 gk:GOk tG g
 gn:GNo g
 tt:∀Y',Y'.cl=Y.cl->Xm X scope N' λXC=>ub XC Y' ifs ft
 el:∀Y',Y'.cl=Y.cl->z0z X scope N' Y'.E λXC=>Snd XC Y' elt fe
 hs:∀x,foldedSetIterable iter X.env x=pure x
theorem Zn (C:Y6 X Y tg iter elt ifs scope N' k js fi tG g ft fe):Snd X Y (.ListComp elt [⟨tg,iter,ifs,0⟩] scope pos) (zZ fi g ft fe k js):= .mk λρ=>by
 intro pins s σ H Q I ⟨B,J,q⟩;rw[eval_ListComp];refine uM (wj rfl) (use:=none) (Q:=EP X pins σ Q) (F:=λD H' =>Q (.ref D) H') (te:=λσ H Q=>∃Y' ρ',Y'.cl=Y.cl/\(Y'.E=λ_ _ _=>False)/\tS Y' rC fe ρ' σ H Q) (tt:=λσ H Q=>∃Y' ρ',Y'.cl=Y.cl/\tS Y' rE ft ρ' σ H Q) C.sc C.cp C.cm (C.it ρ) C.gt
  (λcl Cx' s3 H3 fp pins pins' s σ H Q I ⟨Y',ρ',ey,q⟩=>C.tt Y' ey cl Cx' s3 H3 fp pins ρ' pins' s σ H Q I q) (λcl Cx' s3 H3 fp pins xe hp pins' s σ H Q I ⟨Y',ρ',ey,eE,q⟩=>C.el Y' ey cl Cx' s3 H3 fp pins xe (eE ▸ hp) ρ' pins' s σ H Q I q) I ?_ ?_ C.hs
 ·refine step J q λts it' H1 _ s1 r1 J1 q1=> ?_;intro D hD;unfold zI at q1;split at q1
  ·rename_i hl;cases ev:zH g ft fe ts (JZ k js ρ) with
   | bad=>rw[ev]at q1;exact q1.elim
   | ex c=>rw[ev]at q1;exact q1.elim
   | ok vs=>
    rw[ev]at q1;refine Wr C.gk C.gn J1 r1 hl ev hD λH' xs B' s' e' r' l' b' sb' => ?_;refine(show Po Y rC _ H1 (.ok (.lst vs)) Q from q1) (.ref D) H' s' ?_;exact .lst (by rw[Z0 hD];exact e') (r'.mono l')
  ·exact q1.elim
 ·intro D Cc H' s' I' q' hC h0 hL hcell hpin hns;obtain⟨m,hm⟩:=hns;refine⟨m,hm,λh' hsb=>⟨.ref D,H', ?_,rfl,q'⟩⟩;exact I'.turned (t' :=s'.toks) (λb o hb e=>hsb.extBut b o hb e) hC (bM hL).symm (.inr h0) hcell hpin
end
section
variable {k:Nat}{js:List Nat}{g:T->En->R En}
theorem Y7 {i:Nat}(C:Y6 X Y tg iter elt ifs scope N' k js fi tG g ft fe)(hN:X.N.Nodup)(hi:X.N[i]? =some x)(hx:L2.Loc X.env.scope x)
  (hsw:swapsWith (.ListComp elt [⟨tg,iter,ifs,0⟩] scope pc) (some (.Name x p')) pos.line X.env=pure true) (hf:X.fn x=true\/X.env.scope.names.lookup x=some .local:=by first | exact .inl rfl | exact .inr rfl | assumption):
  Jg X Y (.Assign [.Name x p'] (.ListComp elt [⟨tg,iter,ifs,0⟩] scope pc) pos) (zt i (zZ fi g ft fe k js)):= .mk λρ=>by
 intro pins s σ H D I ⟨B,J,q⟩;rw[exec_Assign_Name_used _ _ _ _ hsw];refine aa (wpAny_standAt (aa ?_));show wpAny _ X.A (do let _ ← comprehension (.ListComp elt [⟨tg,iter,ifs,0⟩] scope pc) scope X.env _ (newList []) false (eval iter X.env) (some (assign (.Name x p') X.env))) _ _ s
 refine aa (thn (uM (wj rfl) (use:=some (assign (.Name x p') X.env)) (Q:=λ_ s' =>SP X pins D .next s') (F:=λD' H' =>D.nx (σ.set i (some (.ref D'))) H') (te:=λσ H Q=>∃Y' ρ',Y'.cl=Y.cl/\(Y'.E=λ_ _ _=>False)/\tS Y' rC fe ρ' σ H Q) (tt:=λσ H Q=>∃Y' ρ',Y'.cl=Y.cl/\tS Y' rE ft ρ' σ H Q) C.sc C.cp C.cm (C.it ρ) C.gt
  (λcl Cx' s3 H3 fp pins pins' s σ H Q I ⟨Y',ρ',ey,q⟩=>C.tt Y' ey cl Cx' s3 H3 fp pins ρ' pins' s σ H Q I q) (λcl Cx' s3 H3 fp pins xe hp pins' s σ H Q I ⟨Y',ρ',ey,eE,q⟩=>C.el Y' ey cl Cx' s3 H3 fp pins xe (eE ▸ hp) ρ' pins' s σ H Q I q) I ?_ ?_ C.hs) λ_ s' hq=>ar (ar hq))
 ·have q' :PoS Y B (((fi ρ).s λts=>(zI g ft fe k js ρ ts).s λvs=> .nx (ρ.set i (.vl (.lst vs))))) D:=by
   unfold zt zZ at q;revert q;cases fi ρ with
   | bad=>exact λq=>q
   | ex c=>exact λq=>q
   | ok ts=>
    intro q;have q2:PoS Y B (((zI g ft fe k js ρ ts).bind λvs=>R.ok (T.lst vs)).s λt=>RS.nx (List.set ρ i (Sl.vl t))) D:=q;show PoS Y B ((zI g ft fe k js ρ ts).s λvs=>RS.nx (List.set ρ i (Sl.vl (T.lst vs)))) D;revert q2;cases zI g ft fe k js ρ ts with
    | bad=>exact λq=>q
    | ex c=>exact λq=>q
    | ok vs=>exact λq=>q
  refine J0 J q' λts it' H1 _ s1 r1 J1 q1=> ?_;intro D' hD;unfold zI at q1;split at q1
  ·rename_i hl;cases ev:zH g ft fe ts (JZ k js ρ) with
   | bad=>rw[ev]at q1;exact q1.elim
   | ex c=>rw[ev]at q1;exact q1.elim
   | ok vs=>
    rw[ev]at q1;refine Wr C.gk C.gn J1 r1 hl ev hD λH' xs B' s' e' r' l' b' sb' => ?_;have rr:Rep (zE (zE B H H1) H1 H') (.ref D') (.lst vs):= .lst (by rw[Z0 hD];exact e') (r'.mono l')
    exact q1 _ _ _ (zE.ge J1.sB s') ((J1.grow s').setV i rr)
  ·exact q1.elim
 ·intro D' Cc H' s' I' q' hC h0 hL hcell hpin hns;obtain⟨m,hm⟩:=hns;show wpAny _ X.A (assign (.Name x p') X.env (.ref D')) _ _ s';refine wpAny_assign_Name (Wd (v:= .ref D') I' hN hi hx rfl (λs'' I'' ⟨a,hsb,ha⟩=> ?_) hf);have hne:Cc ≠ a:=by
   rcases ha with rfl | ha
   ·exact hL
   ·exact(hcell x a ha).symm
  refine⟨m,hm.sameBut hsb hne,λh' hsb' =>⟨_,H', ?_,q'⟩⟩;exact I''.turned (t' :=s''.toks) (λb o hb e=>hsb'.extBut b o hb e) hC hL (.inr h0) hcell hpin
end
def Itc (x:Str):It:=⟨λi _=>i < x.cps.size,λi H v H' =>H' =H/\∃c,x.cps[i]? =some c/\v= .str ⟨#[c]⟩,λi _=>x.cps.size<=i⟩
theorem wl {P:Program}{w:World}{K:ac}{tg:Expr}{x:Str}{t:Tok}{ty:String}(it:Addr)(hty:ty="str_ascii_iterator"\/ty="str_iterator"):yi P w K tg (Itc x) [it] it (λi h=>h.IsStrIter it ty x t i):=by
 have W:∀A:Around,A.handled=none->Walks P w A it [it] [it] x.cps.size (SignAt x) (λi h=>h.IsStrIter it ty x t i):=λA hA=>by
  rcases hty with rfl | rfl
  ·exact Walks.strAscii hA it x t
  ·exact Walks.strWide hA it x t
 have hn:["enumerate","zip","dict_itemiterator","dict_reverseitemiterator","odict_iterator","itertools.zip_longest","itertools.pairwise"].contains ty=false:=by rcases hty with rfl | rfl <;> decide
 refine⟨by simp,λi h st b hb=> ?_,λi h h' st k=> ?_, ?_, ?_,λA i s Q E st h=> ?_⟩
 ·have e:b=it:=by simpa using hb
  subst e;obtain⟨o,e,c,d⟩:=st;exact⟨o,e,λv z=>by rw[d]at z;cases z⟩
 ·obtain⟨o,e,r⟩:=st;exact⟨o,k it (by simp) o e,r⟩
 ·intro X hP hw hK hc i pins s σ H E I hf st hg;subst hP hw hK;obtain⟨f0,f1,f2,f3,f4,f5⟩:=hf it (by simp)
  refine(W X.A (I.ok.hd hc)).item i s _ _ hg st λv h' tk hv st' kk=> ?_;obtain⟨c,u,hc',rfl⟩:=hv;have I1:L2.Inv X pins σ H { s with heap:=h',toks:=tk }:=I.turned (λb o hb e=>kk b o (by simpa using hb) e) f0 f1 f3 f4 f5
  obtain⟨o,e,cl,d⟩:=id st';exact⟨_,rfl,Uo (s:={ s with heap:=h',toks:=tk }) e cl d hn ⟨.str ⟨#[c]⟩,H,I1,⟨u,rfl⟩,⟨rfl,c,hc',rfl⟩,st',λb hb=>(hf b hb).1⟩⟩
 ·intro X hP hw hK hc i pins s σ H E I hf st hg;subst hP hw hK;obtain⟨f0,f1,f2,f3,f4,f5⟩:=hf it (by simp)
  have hx:x.cps[i]? =none:=cS hg;rcases hty with rfl | rfl
  ·exact wpAny_pyNext_ascii_end (I.ok.hd hc) st hx λh' eb=>⟨rfl,I.turned (t' :=s.toks) (λb o hb e=>eb b o hb e) f0 f1 f3 f4 f5⟩
  ·exact wpAny_pyNext_wide_end (I.ok.hd hc) st hx λh' eb=>⟨rfl,I.turned (t' :=s.toks) (λb o hb e=>eb b o hb e) f0 f1 f3 f4 f5⟩
 ·rcases hty with rfl | rfl
  ·exact wpAny_pyIter_striter_ascii st h
  ·exact wpAny_pyIter_striter_wide st h
def ZF (x:Str):List T:=x.cps.toList.map λc=>T.str ⟨#[c]⟩
theorem Qd:rI B1 H1 (Itc x) (ZF x):=λB2 H2 s1 s2=>by
 have hl:(ZF x).length=x.cps.size:=by unfold ZF;simp
 refine⟨λi hi=>by rw[hl]at hi;exact hi,λi t v H3 e y=> ?_,λi hi=>by rw[hl]at hi;exact hi⟩
 obtain⟨rfl,c,hc,rfl⟩:=y;refine⟨zl.refl _, ?_⟩;unfold ZF at e;rw[au]at e;have hc' :x.cps.toList[i]? =some c:=by simpa using hc
 rw[hc']at e;cases e;exact .str _
section
theorem K0 {l:Expr}{tl:TE}(hl:PE X l tl):PI X tg l (λσ H R=>tl σ H λx H1=>(∃a,x= .ref a/\(((∃xs,SqL X.K H1 a xs)/\R (Itl X.K a) H1)\/((∃xs,SqT X.K H1 a xs)/\R (Itt X.K a) H1)))\/(∃z,x= .str z/\R (Itc z) H1)):=by
 intro pins s σ H R I h;refine thn (hl pins s σ H _ I h) λv s1 ⟨x,H1,I1,r1,q1⟩=> ?_;have ok:∀b∈[s1.heap.objs.size],WT X pins H1 b:=λb hb=>by
  have e:b=s1.heap.objs.size:=by simpa using hb
  subst e;exact I1.fpOk (am _) (I1.hok.fresh (am _))
 rcases q1 with ⟨a,e,q⟩ | ⟨z,e,q⟩
 ·subst e;obtain rfl:v=Value.ref a:=r1;rcases q with ⟨⟨xs,hq⟩,q⟩ | ⟨⟨xs,hq⟩,q⟩
  ·obtain⟨its,rv,p,hz⟩:=I1.list hq;exact wpAny_pyIter_list p.isList ⟨s1.heap.objs.size,[s1.heap.objs.size],_,_,H1,rfl,I1.kept (t' :=s1.toks) λb o e=>ai _ e,yj a _,⟨_,ao _ rfl,rfl,rfl⟩,ok,q⟩
  ·obtain⟨its,rv,p,hz⟩:=I1.tuple hq;exact wpAny_pyIter_tuple (show s1.heap.IsTuple a its.toArray from p) ⟨s1.heap.objs.size,[s1.heap.objs.size],_,_,H1,rfl,I1.kept (t' :=s1.toks) λb o e=>ai _ e,Up a _,⟨_,ao _ rfl,rfl,rfl⟩,ok,q⟩
 ·subst e;obtain⟨t,rfl⟩:=r1;cases ha:z.cps.all (· < 128)
  ·exact wpAny_pyIter_wide ha ⟨s1.heap.objs.size,[s1.heap.objs.size],_,_,H1,rfl,I1.kept (t' :=s1.toks) λb o e=>ai _ e,wl _ (.inr rfl),⟨_,ao _ rfl,rfl,rfl⟩,ok,q⟩
  ·exact wpAny_pyIter_ascii ha ⟨s1.heap.objs.size,[s1.heap.objs.size],_,_,H1,rfl,I1.kept (t' :=s1.toks) λb o e=>ai _ e,wl _ (.inl rfl),⟨_,ao _ rfl,rfl,rfl⟩,ok,q⟩
def jQ:T->R (List T)
 | .lst xs=> .ok xs
 | .tup xs=> .ok xs
 | .str x=> .ok (ZF x)
 | _=> .bad
def j0 (fa:En->R T):En->R (List T):=λρ=>(fa ρ).bind jQ
theorem z0B (ha:Snd X Y a fa):UZ X Y tg a (j0 fa):= .mk λρ=>PI.imp (K0 (ha ρ)) λσ H R ⟨B,I,q⟩=>step I q λt v H1 _ s1 r1 I1 q1=>by
 cases r1 with
 | @tup l xs ts h r=>
  exact .inl ⟨l,rfl,.inr ⟨⟨xs,SqT.of (I1.sB _ _ h)⟩,ZC I1 (show Po Y rI _ H1 (.ok ts) R from q1) (kQ h r)⟩⟩
 | @lst l xs ts h r=>
  exact .inl ⟨l,rfl,.inl ⟨⟨xs,SqL.of (I1.sB _ _ h)⟩,ZC I1 (show Po Y rI _ H1 (.ok ts) R from q1) (kR h r)⟩⟩
 | str z=>exact .inr ⟨z,rfl,ZC I1 (show Po Y rI _ H1 (.ok (ZF z)) R from q1) Qd⟩
 | _=>exact q1.elim
end
theorem Inv.laidT {X:Cx}{pins:List (Addr×Obj)}{σ:Sg}{H:Hp}{s:Shared}{h' :Heap}{tk:Nat}{ch:List Addr}{a:Addr}{xs:List V}(I:L2.Inv X pins σ H s)(hf:∀b∈ch,WT X pins H b)(k:∀b o,b ∉ ch->s.heap.get? b=some o->h'.get? b=some o)
  (th:∀b o,b∈ch->s.heap.get? b=some o->∃o',h'.get? b=some o') (ha:s.heap.objs.size<=a) (new:Zi X.prog X.w (upd H a (.tup xs)) h' a (.tup xs)):L2.Inv X pins σ (upd H a (.tup xs)) { s with heap:=h',toks:=tk }:=by
 have hn:H a=none:=I.hok.fresh ha;have nch:∀b u,H b=some u->b ∉ ch:=λb u e hb=>by rw[(hf b hb).1]at e;cases e
 refine I.call' (s' :={ s with heap:=h',toks:=tk }) (ch:=ch) rfl ⟨λb o e n _ hc=>k b o hc e,λb o e n _ hc=>⟨o.slots,k b o hc e⟩,λb o e n _=>by rw[zn (aL (aK (ax e) ha))];exact n,λb o e hc=>⟨o,k b o hc e⟩,
  λb ys e=>by rw[zn (zC e hn)];exact e,λb o u e=>by rw[zn (zC e hn)];exact e,λb ps q e=>by rw[zn (zC e hn)];exact e⟩ (λb u e=> ?_) I.bare λb hb=> ?_
 ·by_cases hb:b=a
  ·subst hb;rw[zB]at e;cases e;exact new
  ·rw[zn hb]at e;refine(I.hok b u e).stay (λc v hc q=> ?_) (λc q=>by rw[zn (zC q hn)];exact q) (λc ys q=>by rw[zn (zC q hn)];exact q) λc o u q=>by rw[zn (zC q hn)];exact q
   rcases hc with rfl | hc
   ·exact k c v (nch c u e) q
   ·exact k c v (nch c _ hc) q
 ·obtain⟨f0,f1,f2,f3,f4,f5⟩:=hf b hb;exact⟨f3,f1,f4,f5⟩
def Ite (K:ac)(l:Addr):It:=
 ⟨λi H=>∃xs x,SqL K H l xs/\xs[i]? =some x,λi H v H' =>∃p x,H p=none/\v= .ref p/\(∀xs,SqL K H l xs->xs[i]? =some x)/\H' =upd H p (.tup [.int i,x]),λi H=>∃xs,SqL K H l xs/\xs.length<=i⟩
theorem Y8 {P:Program}{w:World}{K:ac}{elts:List Expr}{kk:Nat}{pt:Pos}(e it l:Addr)(hei:e ≠ it)(hle:l ≠ e)(hli:l ≠ it):
  yi P w K (.Tuple elts kk pt) (Ite K l) [e,it] e (λi h=>(∃old,IsEnum h e it i old)/\h.IsListIter it l i) where
 mem:=by simp
 obj:=λi h st b hb=>by
  obtain⟨⟨old,he⟩,o,e1,c,d⟩:=st;rcases aG.mp hb with rfl | hb
  ·exact⟨_,he,λv z=>nomatch z⟩
  ·have z:b=it:=by simpa using hb
   subst z;exact⟨o,e1,λv z=>by rw[d]at z;cases z⟩
 keep:=λi h h' st k=>by
  obtain⟨⟨old,he⟩,hit⟩:=st;exact⟨⟨old,k e (by simp) _ he⟩,hit.at λo x=>k it (by simp) o x⟩
 item:=by
  intro X hP hw hK hc i pins s σ H E I hf st hg;subst hP hw hK;obtain⟨xs,x,hq,hx⟩:=hg;obtain⟨its,rv,p,hz⟩:=I.list hq;obtain⟨u,hu,ru⟩:=rv.get hx;obtain⟨⟨old,he⟩,hit⟩:=st;have hi:i < its.toArray.size:=by
   have:=(aq.mp hu).1;simpa using this
  refine(i7 (prog:=X.prog) (w:=X.w) (I.ok.hd hc) e it l hei hle hli its.toArray).item i s _ _ hi ⟨⟨old,he⟩,hit,p.isList⟩ λT vals h' tk hP hT hTup hM hk=> ?_;obtain⟨t,y,hy,rfl⟩:=hP;have hyu:y=u:=by
   have:its[i]? =some y:=by simpa using hy
   rw[hu]at this;exact(aH this).symm
  subst hyu;refine⟨.ref T,rfl, ?_⟩;refine(i7 (prog:=X.prog) (w:=X.w) (I.ok.hd hc) e it l hei hle hli its.toArray).go elts kk pt i T _ _ _ hM λh2 hst2 hk2=> ?_;have hTn:H T=none:=I.hok.fresh hT;have hTne:∀b∈[e,it],b ≠ T:=λb hb z=>by
   obtain⟨_,_,_,h3,h4⟩:=hM;rcases aG.mp hb with rfl | hb
   ·exact h3 z.symm
   ·have:b=it:=by simpa using hb
    subst this;exact h4 z.symm
  have QF:IsTup h2 T #[.int i t,y]:=by
   obtain⟨o,eo,r⟩:=hTup;exact⟨o,hk2 T o (λhb=>hTne T hb rfl) eo,r⟩
  refine⟨.ref T,upd H T (.tup [.int i,x]),Inv.laidT (s:=s) (h' :=h2) (ch:=[e,it]) (tk:=tk) I hf (λb o hb e=>hk2 b o hb (hk b o hb e)) (λb o hb _=> ?_) hT ⟨by rw[bY];show 2<=16777216;decide,[.int i t,y],.cons ⟨t,rfl⟩ (.cons ru .nil),QF,.inl ⟨_,_,rfl⟩⟩,rfl,⟨T,x,hTn,rfl,λys hy=>by rw[I.list_inj hy hq];exact hx,rfl⟩,⟨hst2.1,hst2.2.1⟩,λb hb=> ?_⟩
  ·obtain⟨⟨old2,he2⟩,⟨o2,eo2,_⟩,_⟩:=hst2;rcases aG.mp hb with rfl | hb
   ·exact⟨_,he2⟩
   ·have:b=it:=by simpa using hb
    subst this;exact⟨o2,eo2⟩
  ·rw[zn (hTne b hb)];exact(hf b hb).1
 done:=by
  intro X hP hw hK hc i pins s σ H E I hf st hg;subst hP hw hK;obtain⟨xs,hq,hx⟩:=hg;obtain⟨its,rv,p,hz⟩:=I.list hq;obtain⟨⟨old,he⟩,hit⟩:=st;have hl:=rv.length;refine wpAny_pyNext_enum_end (I.ok.hd hc) he hit p.isList (cS (by simp;omega)) λh' hk=>⟨rfl, ?_⟩
  obtain⟨f0,f1,f2,f3,f4,f5⟩:=hf it (by simp)
  exact I.turned (t' :=s.toks) (λb o hb e=>hk b o hb e) f0 f1 f3 f4 f5
 self:=λ_ _ _ _ _ st h=>let ⟨⟨_,he⟩,_⟩:=st;wpAny_pyIter_enum he h
def w9 (xs:List T):List T:=(xs.zipIdx).map λp=>T.tup [.int (p.2:Nat),p.1]
theorem Y9 {i:Nat}(h:(w9 xs)[i]? =some t):∃x,xs[i]? =some x/\t= .tup [.int (i:Nat),x]:=by
 unfold w9 at h;rw[au,List.getElem?_zipIdx]at h;cases e:xs[i]? with
 | none=>rw[e]at h;cases h
 | some x=>rw[e]at h;cases h;exact⟨x,rfl,by simp⟩
theorem Ws (xs:List T):(w9 xs).length=xs.length:=by unfold w9;simp
theorem VM {K:ac}{B1 H1:Hp}{a:Addr}{xs:List V}{ts:List T}(h:B1 a=some (.lst xs))(r:zz B1 xs ts):rI B1 H1 (Ite K a) (w9 ts):=λB2 H2 s1 s2=>by
 have h2:=s2 _ _ (s1 _ _ h);rw[Ws];refine⟨λi hi=> ?_,λi t x H3 e y=> ?_,λi hi=>⟨xs,SqL.of h2,by rw[r.length];exact hi⟩⟩
 ·obtain⟨v,e,_⟩:=r.get (aj hi);exact⟨xs,v,SqL.of h2,e⟩
 ·obtain⟨p,v,hp,rfl,y,rfl⟩:=y;obtain⟨t',et,rfl⟩:=Y9 e;obtain⟨v',e1,r1⟩:=r.get et;have:=y xs (SqL.of h2);rw[e1]at this;cases this;refine⟨zl.new hp _,.tup (jY hp _) (.cons (.int _) (.cons ?_ .nil))⟩;exact(r1.mono s1).mono (zE.ge s2 (zl.new hp _))
section
variable {X:Cx}{Y:Fx}{a:Expr}{fa:En->R T}{pos p pt:Pos}{elts:List Expr}{kk:Nat}
theorem VN {ta:TA}(hg:Gl X "enumerate")(hm:X.mg "enumerate"=none)(ha:PA X [a] ta)(hs:St1 X a:=by exact st1 rfl):
  PI X (.Tuple elts kk pt) (.Call (.Name "enumerate" p) [a] [] pos) (λσ H R=>ta σ H λvs H1=>∃l xs,vs=[.ref l]/\H1 l=some (.lst xs)/\R (Ite X.K l) H1):=by
 intro pins s σ H R I h;refine Call_ (jv I hg hm PyProof.Rows.Boot.«enumerate» (aZ (thn (ha pos pins s σ H _ I h) λus s1 ⟨vs,H1,I1,r1,q1⟩=> ?_) hs rfl));obtain⟨l,xs,e,hl,q⟩:=q1;subst e;obtain⟨u,rfl,ru⟩:=jr r1;obtain rfl:u=Value.ref l:=ru;obtain⟨_,its,n,rv,eo⟩:=(show Zi X.prog X.w H1 s1.heap l (.lst xs) from I1.hok l _ hl);have hlt:l < s1.heap.objs.size:=ax eo;refine call_enumerate_1 eo λh' he hit hsz hk=>wpAny_pyIter_enum he ?_;have f:∀b∈[s1.heap.objs.size+1,s1.heap.objs.size],WT X pins H1 b:=λb hb=>by
  rcases aG.mp hb with rfl | hb
  ·exact I1.fpOk (ik _) (I1.hok.fresh (ik _))
  ·have z:b=s1.heap.objs.size:=by simpa using hb
   subst z;exact I1.fpOk (am _) (I1.hok.fresh (am _))
 exact⟨s1.heap.objs.size+1,[s1.heap.objs.size+1,s1.heap.objs.size],_,_,H1,rfl,I1.kept (t' :=s1.toks) hk,Y8 _ _ l (Nat.succ_ne_self _) (aL (dE hlt)) (aL hlt),⟨⟨_,he⟩,hit⟩,f,q⟩
def VO (fa:En->R T):En->R (List T):=λρ=>(fa ρ).bind λt=>match t with
 | .lst xs=> .ok (w9 xs)
 | _=> .bad
theorem K1 (hg:Gl X "enumerate")(hm:X.mg "enumerate"=none)(ha:Snd X Y a fa)(hs:St1 X a:=by exact st1 rfl):UZ X Y (.Tuple elts kk pt) (.Call (.Name "enumerate" p) [a] [] pos) (VO fa):= .mk λρ=>
 PI.imp (VN hg hm (zq (ha ρ) Z6 hs) hs) λσ H R ⟨B,I,q⟩=>step I q λt v H1 _ s1 r1 I1 q1=>by
  cases r1 with
  | @lst l xs ts h r=>exact⟨l,xs,rfl,I1.sB _ _ h,ZC I1 (show Po Y rI _ H1 (.ok (w9 ts)) R from q1) (VM h r)⟩
  | _=>exact q1.elim
def ya:List T->Option (List Str)
 | []=>some []
 | .str x :: r=>match ya r with | some ys=>some (x :: ys) | none=>none
 | _ :: _=>none
def K2 (sep:Str):T->R T
 | .lst ts=>match ya ts with
  | some ys=>if (ys.map (·.length)).sum+ys.length*sep.length<=16777216 then .ok (.str (Txt.join sep ys)) else .bad
  | none=> .bad
 | _=> .bad
theorem wR {H:Hp}:∀{xs:List V} {ts:List T} {its:List Value} {ys:List Str},zz H xs ts->zU xs its->ya ts=some ys->StrsAre its ys
 | _,_,_,ys,.nil,.nil,h=>by
  have h' :some []=some ys:=h;cases h';exact .nil
 | _,_,_,ys,.cons (t:=t) r rs,.cons (b:=u) rv vs,h=>by
  cases r with
  | str x=>
   unfold ya at h;split at h
   ·rename_i zs e;cases h;obtain⟨tk,rfl⟩:=rv;exact .cons x tk (wR rs vs e)
   ·cases h
  | _=>cases h
theorem VP:MtR X "str.join" (λx xs H Q=>∃z l zs ts ys,x= .str z/\xs=[.ref l]/\H l=some (.lst zs)/\zz H zs ts/\ya ts=some ys/\(ys.map (·.length)).sum+ys.length*z.length<=16777216/\Q (.str (Txt.join z ys)) H):=by
 intro pins s σ H x xs v us Q I rx rv h;obtain⟨z,l,zs,ts,ys,rfl,rfl,hl,r,e,hb,q⟩:=h;obtain⟨t,rfl⟩:=rx;obtain⟨u,rfl,ru⟩:=jr rv;obtain rfl:u=Value.ref l:=ru;obtain⟨its,rv,p,_⟩:=zY I (.inl hl) r;exact join_list p (by simpa using wR r rv e) hb λt' k=>⟨.str _,H,I.tok k,⟨t',rfl⟩,q⟩
theorem K3 {kc:Nat}(ha:jx X Y a fa)(hb:attributeBase (.Constant (.str z) kc pz) "join" X.env (eval (.Constant (.str z) kc pz) X.env)=eval (.Constant (.str z) kc pz) X.env:=by rfl)(hs:St1 X a:=by exact st1 rfl)
  (hz:(pa.endLine == p.line)=true:=by rfl):Snd X Y (.Call (.Attribute (.Constant (.str z) kc pz) "join" pa) [a] [] p) (ap1 (K2 z) fa):= .mk λρ=>by
 have e1:(((((backTo p (starEach [a] X.env)).all λx=> !x.fst) && (backToKw p (keywordEach [] X.env)).all λx=>x.fst.isSome) && decide (([a].length+([]:List Keyword).length+if ([]:List Keyword).isEmpty=true then 0 else 1) < 30))=true):=by rw[hs];rfl
 refine PE.imp (yC PySem.F.plainAttrs_str PySem.F.slot_str_join PySem.F.type_str_join VP vd (zq (ha ρ) Z6 hs) hb e1 hz hs rfl) λσ H Q ⟨B,I,q⟩=> ?_;refine⟨rfl,step I q λt v H1 _ s1 r1 I1 q1=> ?_⟩;cases r1 with
 | @lst l xs ts h r=>
  have q1:Po Y rC _ H1 (match ya ts with | some ys=>if (ys.map (·.length)).sum+ys.length*z.length<=16777216 then .ok (.str (Txt.join z ys)) else .bad | none=> .bad) Q:=q1
  split at q1
  ·rename_i ys e;split at q1
   ·rename_i hl;exact⟨z,l,xs,ts,ys,rfl,rfl,h,r,e,hl,po0 I1.sB q1 rfl (.str _)⟩
   ·exact q1.elim
  ·exact q1.elim
 | _=>exact q1.elim
end
def dd:List Str->List Str->List Str
 | acc,[]=>acc
 | acc,x :: r=>dd (if x∈acc then acc else acc++[x]) r
section
variable {prog:Program}{w:World}{A:Around}{R:Result->Shared->Prop}{I:Addr}{fp wr:List Addr}{n:Nat}{P:Nat->Value->Prop}{St:Nat->Heap->Prop}
theorem jk {h h' :Heap}{S:Addr}{f g:Str->Bool}{m k:Nat}(x:h.SetOf (strKind prog w) S f m)(e:∀o,h.get? S=some o->h'.get? S=some o)(ef:f=g)(em:m=k):h'.SetOf (strKind prog w) S g k:=by
 subst ef em;obtain⟨o,es,ep,t,ho,r⟩:=x;exact⟨o,es,ep,t,e o ho,r⟩
theorem Qe (W:Walks prog w A.in1 I fp wr n P St)(S:Addr)(hSf:S ∉ fp)(val:Nat->Str)(hval:∀i v,P i v->∃t,v=Value.str (val i) t)(hb:n+1 < scanBound):
  ∀(k i:Nat) (acc:List Str) (s:Shared),n - i=k->i<=n->acc.length<=i->St i s.heap->s.heap.SetOf (strKind prog w) S (λx=>decide (x∈acc)) acc.length->
   (∀h' tk,(∀b o,b ∉ S :: wr->s.heap.get? b=some o->h'.get? b=some o)->h'.SetOf (strKind prog w) S (λx=>decide (x∈dd acc ((im i k).map val))) (dd acc ((im i k).map val)).length->
    R (.ok (.ret .none)) { s with heap:=h',toks:=tk })->codeAny (model prog w) A (.builtin "set.update.loop" ⟨[.ref S,.ref I],[]⟩) R s:=by
 intro k
 induction k with
 | zero=>
  intro i acc s hk hi hal hst hS hR;obtain rfl:i=n:=by omega
  refine cB eM ?_;rw[cF dv _];refine aa (m:=pyNext (.ref I)) (W.done s _ _ hst λh' tk hk' =>ar ?_);exact hR h' tk (λb o hb e=>hk' b o (λz=>hb (af _ z)) e) (jk hS (λo e=>hk' S o (λz=>hSf (W.sub _ z)) e) rfl rfl)
 | succ k ih=>
  intro i acc s hk hi hal hst hS hR;refine cB eM ?_;rw[cF dv _];refine aa (m:=pyNext (.ref I)) (W.item i s _ _ (by omega) hst λv h1 tk1 hP hst1 hk1=> ?_)
  obtain⟨t,rfl⟩:=hval i v hP;have hS1:=jk hS (λo e=>hk1 S o (λz=>hSf (W.sub _ z)) e) rfl rfl;refine aa (m:=holding [Value.str (val i) t] (setAdd S (.str (val i) t))) (cV ?_);unfold setAdd;have isk:(strKind prog w).is (val i) (.str (val i) t)=true:=strKind_is _ _ _ _;refine cV (aa ((strKind prog w).pyHash isk ?_));refine wpAny_setAddHashed_of (knd:=strKind prog w) (s:={ s with heap:=h1,toks:=tk1+1 }) isk rfl hS1 (by omega) λh2 hsb hS2=> ?_
  have e2:(if decide (val i∈acc)=true then acc.length else acc.length+1)=(if val i∈acc then acc else acc++[val i]).length:=by
   by_cases hm:val i∈acc
   ·simp[hm]
   ·simp[hm]
  have e1:(λx=>decide (x∈acc) || decide (x=val i))=(λx=>decide (x∈(if val i∈acc then acc else acc++[val i]))):=by
   funext x
   by_cases hm:val i∈acc
   ·simp only[if_pos hm]
    by_cases hx:x=val i
    ·subst hx;simp[hm]
    ·simp[hx]
   ·simp[hm,Bool.decide_or]
  have hS3:=jk (h' :=h2) hS2 (λo e=>e) e1 e2;refine ar ⟨plainId_quiet dv _,ih (i+1) _ _ (by omega) (by omega) ?_ (W.frame _ h1 _ hst1 λb hb o e=> ?_) hS3 λh3 tk3 hk3 hS4=> ?_⟩
  ·split
   ·omega
   ·rw[aB,aE];omega
  ·exact(hsb.2 b (λz:b=S=>hSf (z ▸ hb))).trans e
  ·rw[List.range'_succ,aI]at hR;refine hR h3 tk3 (λb o hb e=>hk3 b o hb ?_) hS4;exact(hsb.2 b (λz:b=S=>hb (z ▸ aw))).trans (hk1 b o (λz=>hb (af _ z)) e)
end
section
set_option maxRecDepth 100000 in
set_option maxHeartbeats 3200000 in
theorem Ya {l:Addr}{its:List Value}{ys:List Str}{Q:Value->Shared->Prop}(hh:A.handled=none)(hl:s.heap.IsList l its.toArray)(hi:StrsAre its ys)(hb:its.length+1 < scanBound)
  (h:∀(h' :Heap) (tk:Nat),h'.SetOf (strKind prog w) s.heap.objs.size (λx=>decide (x∈dd [] ys)) (dd [] ys).length->(∀b o,b < s.heap.objs.size->s.heap.get? b=some o->h'.get? b=some o)->
   Q (.ref s.heap.objs.size) { s with heap:=h',toks:=tk }):wpAny (model prog w) A (call (.type "set") [.ref l]) Q E s:=by
 have getv:∀{its:List Value} {ys:List Str},StrsAre its ys->its.length=ys.length/\∀(i:Nat) (v:Value),its[i]? =some v->∃t,v=Value.str (ys.getD i ⟨#[]⟩) t:=λ{its ys} hi=>by
  induction hi with
  | nil=>exact⟨rfl,λi v e=>by simp at e⟩
  | cons y t _ ih=>
   refine⟨by simp[ih.1],λi v e=> ?_⟩
   cases i with
   | zero=>exact⟨t,by simpa using e.symm⟩
   | succ i=>exact ih.2 i v (by simpa using e)
 obtain⟨hlen,hget⟩:=getv hi;have hys:(im 0 its.length).map (λi=>ys.getD i ⟨#[]⟩)=ys:=by
  rw[hlen];refine f_ λi=> ?_;rw[au]
  by_cases hi' :i < ys.length
  ·rw[List.getElem?_range' hi',aj hi'];simp[aj hi']
  ·rw[bw (by simp;omega),bw (by omega)]
   rfl
 obtain⟨c,tl,hmro⟩:=cT.mro;have hmade:=cT.made;have hsub:=cT.sub;have h1:=cT.notType;have h2:=cT.canCreate;have hct:=F.typeCall_set_1 (.ref l);refine wpAny_call (codeAny_of_tree (show wpAny _ _ (callAny (.type "set") _) _ _ _ from ?_));refine ar ⟨fO _ (by decide+kernel),cB F.entry_type_call ?_⟩
 rw[Around.under_plain (weight_type_call_type "set" [.ref l] []) rfl]
 repeat any_goals (first | assumption | wp_step)
 refine dz (code_set_new_1 (.ref l) (E:=E) (Q₁:=λobj s₁=>∃led:Bool,obj= .ref s.heap.objs.size/\s₁={ s with heap:=s.heap.push { cls:= .type "set",dict:=none,data:= .set #[] 0 (.fresh 0 0 led) } }) λled=>⟨led,rfl,rfl⟩) λr s₁ hr=> ?_;cases r with
 | error e=>exact hr
 | ok fl=>
  cases fl with
  | ret obj=>
   obtain⟨led,rfl,rfl⟩:=hr;generalize hG:s.heap.push { cls:= .type "set",dict:=none,data:= .set #[] 0 (.fresh 0 0 led) }=G;have hS:G.get? s.heap.objs.size=some { cls:= .type "set",dict:=none,data:= .set #[] 0 (.fresh 0 0 led) }:=by rw[← hG];exact ao _ rfl
   have hGs:G.objs.size=s.heap.objs.size+1:=by rw[← hG,bZ]
   have hGk:∀b o,s.heap.get? b=some o->G.get? b=some o:=λb o e=>by rw[← hG];exact ai _ e
   have hT:Shared.TypeIs { s with heap:=G } (.ref s.heap.objs.size) "set":=⟨_,hS,rfl⟩;have hli:=cT.init.lookup;have hbi:=cT.init.bind (.ref s.heap.objs.size)
   repeat any_goals (first | assumption | wp_step)
   refine dz (codeAny_call_builtin (R:=wants (λr s₂=>r= .none/\∃h' tk,s₂={ s with heap:=h',toks:=tk }/\h'.SetOf (strKind prog w) s.heap.objs.size (λx=>decide (x∈dd [] ys)) (dd [] ys).length/\
     (∀b o,b < s.heap.objs.size->s.heap.get? b=some o->h'.get? b=some o)) E) cT.init.plain F.entry_set_init (check_set_init_1 hT ?_)) λr₂ s₂ hr₂=> ?_
   ·obtain⟨⟨ocls,odict,odata,oslots⟩,hol,hcl,nl,hdl⟩:=hl;simp only at hcl hdl;subst hcl;subst hdl;have hol' :=hGk _ _ hol;have hsls:=F.sub_list_set;have hslf:=F.sub_list_frozenset;have hne:(Value.type "list" == Value.type "dict")=false:=by decide
    have hl1:G.IsList l its.toArray:=⟨_,hol',rfl,nl,rfl⟩;have hlS:l < s.heap.objs.size:=ax hol;unfold Builtin.«set.__init__» noKeywords Builtin.Frozenset.updateFrom;generalize hPI:pyIter=PI
    wp_walk
    subst hPI;refine wpAny_pyIter_list hl1 (aa (wpAny_runValue ?_));have hSf:s.heap.objs.size ∉ [G.objs.size,l]:=by
     rw[hGs];intro z;rcases aG.mp z with z | z
     ·exact absurd z (aL (df _))
     ·exact absurd (aY.mp z) (eV hlS)
    refine Qe (Walks.list (A:=A.in1.in1.in1) (by simp[hh]) G.objs.size l (by rw[hGs];exact aL (dE hlS)) its.toArray) s.heap.objs.size hSf (λi=>ys.getD i ⟨#[]⟩) (λi v e=>hget i v (by simpa using e)) (by simpa using hb) its.length 0 [] _ (by simp) (bO _) (am _)
     ⟨⟨_,ao _ rfl,rfl,rfl⟩,hl1.push _⟩ ?_ ?_
    ·have hget' :(G.push { cls:= .type "list_iterator",data:= .fields #[.ref l,.int 0 0] }).get? s.heap.objs.size=some { cls:= .type "set",dict:=none,data:= .set #[] 0 (.fresh 0 0 led) }:=ai _ hS;exact jk ((PyProof.Rows.setObjOf_fresh (knd:=strKind prog w) led).setOf hget' (by unfold scanBound;omega)) (λo e=>e) (by funext x;simp) rfl
    ·intro h' tk' hm hS';rw[hys]at hS';refine ar (show wpAny _ _ (ret Value.none) _ _ _ from ar ⟨rfl,h',tk',rfl,hS',λb o hb e=> ?_⟩);refine hm b o (λz=> ?_) (ai _ (hGk b o e));rcases aG.mp z with z | z
     ·exact absurd z (aL hb)
     ·have z' :b=G.objs.size:=aY.mp z;rw[hGs]at z';exact absurd z' (aL (dE hb))
   ·cases r₂ with
    | error e=>exact hr₂
    | ok fl₂=>
     cases fl₂ with
     | ret r=>
      obtain⟨rfl,h',tk,rfl,hS',hk'⟩:=hr₂
      repeat any_goals (first | assumption | wp_step)
      exact h _ _ hS' hk'
     | _=>exact hr₂.elim
  | _=>exact hr.elim
end
section
theorem Yb (hh:X.A.handled=none):ZQ X (.type "set") (λvs H Q=>∃l xs ts ys,vs=[.ref l]/\H l=some (.lst xs)/\zz H xs ts/\ya ts=some ys/\ts.length+1 < 4096/\
  ∀q,H q=none->Q (.ref q) (upd H q (.ext λh=>h.SetOf (strKind X.prog X.w) q (λx=>decide (x∈dd [] ys)) (dd [] ys).length))):=by
 intro pins s σ H vs us Q I rv h;obtain⟨l,xs,ts,ys,rfl,hl,r,ey,hb,q⟩:=h;obtain⟨u,rfl,ru⟩:=jr rv;obtain rfl:u=Value.ref l:=ru;obtain⟨its,rv,pl,hln,_⟩:=zY I (.inl hl) r;refine Ya hh pl (wR r rv ey) (by unfold scanBound;omega) λh' tk hS hk=> ?_
 refine⟨.ref s.heap.objs.size,_,I.laid (t' :=tk) (λb u e=>hk b u (ax e) e) (am _) ?_,rfl,q _ (I.hok.fresh (am _))⟩;obtain⟨o,es,ep,t,ho,rr⟩:=id hS;exact⟨hS,⟨o,ho⟩,λh1 h2 ⟨o1,es1,ep1,t1,ho1,rr1⟩ e=>⟨o1,es1,ep1,t1,e _ ho1,rr1⟩⟩
theorem Yc:ZQ X (.builtin "len") (λvs H Q=>∃q φ f n,vs=[.ref q]/\H q=some (.ext φ)/\(∀h:Heap,φ h->h.SetOf (strKind X.prog X.w) q f n)/\Q (.int n) H):=by
 intro pins s σ H vs us Q I rv h;obtain⟨l,φ,f,n,rfl,hl,hφ,q⟩:=h;obtain⟨u,rfl,ru⟩:=jr rv;obtain rfl:u=Value.ref l:=ru;obtain⟨h1,_,_⟩:=(show Zi X.prog X.w H s.heap l (.ext φ) from I.hok l _ hl);obtain⟨o,es,ep,t,ho,hex,hd,_,_,hb,hf,hn⟩:=hφ _ h1;refine call_len_set ho hex hd hf ?_ ⟨.int es.size,H,I.tok _,⟨_,rfl⟩,by rw[hn];exact q⟩
 have:es.size < 4096:=hb;omega
def Qf:T->R T
 | .lst ts=>match ya ts with
  | some ys=>if ts.length+1 < 4096 then .ok (.int (dd [] ys).length) else .bad
  | none=> .bad
 | _=> .bad
theorem K4 (hh:X.A.handled=none)(gl:Gl X "len")(mg:X.mg "len"=none)(gl' :Gl X "set")(mg' :X.mg "set"=none)(ha:jx X Y a fa)(hs:St1 X a:=by exact st1 rfl)(hs' :St1 X (.Call (.Name "set" p') [a] [] pos'):=by exact st1 rfl):
  Snd X Y (.Call (.Name "len" p) [.Call (.Name "set" p') [a] [] pos'] [] pos) (ap1 Qf fa):= .mk λρ=>
 PE.imp (jj Yc gl mg PySem.boot_len (zq (jK (Yb hh) gl' mg' PyProof.Rows.Boot.«set» (zq (ha ρ) Z6 hs) (by decide) (by decide) hs rfl) Z6 hs') (by decide) (by decide) hs' rfl) λσ H Q ⟨B,I,q⟩=>
  step I q λt v H1 _ s1 r1 I1 q1=>by
   cases r1 with
   | @lst l xs ts h r=>
    have q1:Po Y rC _ H1 (match ya ts with | some ys=>if ts.length+1 < 4096 then .ok (.int (dd [] ys).length) else .bad | none=> .bad) Q:=q1
    split at q1
    ·rename_i ys e;split at q1
     ·rename_i hl;refine⟨l,xs,ts,ys,rfl,h,r,e,hl,λz hz=>⟨z,_,_,_,rfl,zB,λh hh=>hh, ?_⟩⟩;exact q1 _ _ (zl.new hz _) (.int _)
     ·exact q1.elim
    ·exact q1.elim
   | _=>exact q1.elim
def VQ (i j:Nat)(ga:En->R (List T)):En->RS:=λρ=>(ga ρ).s λts=>match ts with
 | [x,y]=> .nx ((ρ.set i (.vl x)).set j (.vl y))
 | _=> .bad
theorem z0C {i j:Nat}{kt k2:Nat}(hc:X.calm=true)(hN:X.N.Nodup)(hi:X.N[i]? =some x)(hj:X.N[j]? =some y)(hij:i ≠ j)(hx:X.env.scope.names.lookup x=some .local)(hy:X.env.scope.names.lookup y=some .local)
  (ha:JB X Y [a,b] ga) (hs:swappedStores [.Tuple [.Name x px,.Name y py] kt pt] (.Tuple [a,b] k2 pt2) X.env=pure (some [x,y])) (hw:swapsWithSole [.Tuple [.Name x px,.Name y py] kt pt] (.Tuple [a,b] k2 pt2) pos.line X.env=pure false:=by rfl):
  Jg X Y (.Assign [.Tuple [.Name x px,.Name y py] kt pt] (.Tuple [a,b] k2 pt2) pos) (VQ i j ga):= .mk λρ=>
 PS.imp (XT hc hN hi hj hij hx hy (ha ρ) hs hw) λD σ H ⟨B,I,q⟩=>J0 I q λts vs H1 _ s1 r1 I1 q1=>by
  cases r1 with
  | nil=>exact q1.elim
  | cons r rr=>
   cases rr with
   | nil=>exact q1.elim
   | cons r' rr=>
    cases rr with
    | cons _ _=>exact q1.elim
    | nil=>exact⟨_,_,rfl,q1 _ _ _ (zl.refl _) ((I1.setV i r).setV j r')⟩
end
theorem K5:Z4 CX0 X E:=λ_ _ _ _ _ _ _ h=>h.elim
section
theorem VR {k j n:Nat}(hy:Y.cl=cl)(F:zK X.prog X.w X.K X.mg X.base CX0 j f fd ps (spP cl n g))(hr:ZL k X.A)(hj:j<=k)(gl:Gl X x)
  (mg:X.mg x=some (.ref f)) (kp:bn X.K (.ref f)=true) (bd:L2.Binds X.K fd ps []) (ha:JB X Y (a :: es) ga) (hd:(x == ("__debug__":Str))=false:=by decide)
  (hs:starEach (a :: es) X.env=(false,eval a X.env) :: starEach es X.env:=by exact zw rfl) (hz:((backTo pos (starEach es X.env)).any λx=>x.fst)=false:=by exact zQ rfl):Snd X Y (.Call (.Name x p) (a :: es) [] pos) (zc n g ga):=by
 subst hy;exact vq F (hr.mono hj) gl mg kp bd K5 ha hd hs hz
theorem VS {i:Int}(gl:Gl X x)(mg:X.mg x=some u)(hu:∃t,u=Value.int i t)(hd:(x == ("__debug__":Str))=false:=by decide):Snd X Y (.Name x pos) (cE (.int i)):= .mk λρ=>
 PE.imp (ye (v:= .int i) gl mg hu hd) λσ H Q ⟨B,I,q⟩=>ZC I q (.int i)
end
def z0D (scope sc0:Scope):Bool:=(scope.kind == .function) && scope.names.all (λx=>x.2 != .cell) && scope.names.all (λx=>x.2 != .local || scope.names.lookup x.1 == some .local) &&
 scope.names.all (λx=>x.2 != .free || sc0.names.lookup x.1 == some .cell || sc0.names.lookup x.1 == some .free)
theorem K6 (sc0:Scope)(h0:X.env.scope=sc0)(h:z0D scope sc0=true):CSc X scope:=by
 unfold z0D at h;simp only[ak,aT]at h;obtain⟨⟨⟨h1,h2⟩,h3⟩,h4⟩:=h;refine⟨eq_of_beq h1,λx hx=>by simpa using h2 x hx,λx hx hl=> ?_,λx hx hf=> ?_⟩
 ·have:=h3 x hx;rw[hl]at this;simpa using this
 ·have:=h4 x hx;rw[hf]at this;show X.env.scope.names.lookup x.1=_\/X.env.scope.names.lookup x.1=_;rw[h0];simpa using this
def z0E (N N' :List Str)(scope sc0:Scope)(k:Nat)(js:List Nat):Bool:=(N'.length == k+js.length) && (aW js.length).all λi=>match js[i]? with
 | none=>true
 | some j=>match N'[k+i]?,N[j]? with
  | some x,some y=>(x == y) && (sc0.names.lookup x == some .cell || sc0.names.lookup x == some .free) && (scope.names.lookup x == some .free)
  | _,_=>false
theorem VT {k:Nat}{js:List Nat}(N:List Str)(sc0:Scope)(hN:X.N=N)(h0:X.env.scope=sc0)(h:z0E N N' scope sc0 k js=true):z0A X scope N' k js:=by
 unfold z0E at h;simp only[ak,aT]at h;obtain⟨h1,h2⟩:=h;refine⟨eq_of_beq h1,λi j e=> ?_⟩;have hi:i < js.length:=(aq.mp e).1;have q:=h2 i (bu.mpr hi);rw[e]at q;dsimp only at q;split at q
 ·rename_i x y e1 e2;simp only[ak,Bool.or_eq_true,beq_iff_eq]at q;obtain⟨⟨rfl,q2⟩,q3⟩:=q;refine⟨x,e1,by rw[hN];exact e2, ?_,q3, ?_⟩
  ·unfold Vis;rw[h0];exact .inr q2
  ·show X.env.scope.names.lookup x=_\/X.env.scope.names.lookup x=_;rw[h0];exact q2
 ·cases q
theorem Zc {k:Nat}{js:List Nat}{g:T->En->R En}(N' :List Str)(N:List Str)(sc0:Scope)(hN:X.N=N)(h0:X.env.scope=sc0)
  (h:(z0D scope sc0 && z0E N N' scope sc0 k js)=true) (cm:X.calm=true) (it:UZ X Y tg iter fi) (gt:Xm X scope N' λXC=>PG XC tg tG) (gk:GOk tG g) (gn:GNo g) (tt:∀Y',Y'.cl=Y.cl->Xm X scope N' λXC=>ub XC Y' ifs ft)
  (el:∀Y',Y'.cl=Y.cl->z0z X scope N' Y'.E λXC=>Snd XC Y' elt fe) (hs:∀x,foldedSetIterable iter X.env x=pure x:=by intro _;rfl):Y6 X Y tg iter elt ifs scope N' k js fi tG g ft fe:=by
 rw[ak]at h;exact⟨K6 sc0 h0 h.1,VT N sc0 hN h0 h.2,cm,it,gt,gk,gn,tt,el,hs⟩
end PV
namespace PV
open PySem PySem.Spec PyProof.Rows L2 PySem.W
section
theorem VU {k j n:Nat}(hy:Y.cl=cl)(hp:Z4 (CX1 X.prog X.w) X Y.E)(F:zK X.prog X.w X.K X.mg X.base (CX1 X.prog X.w) j f fd ps (spP cl n g))(hr:ZL k X.A)(hj:j<=k)(gl:Gl X x)
  (mg:X.mg x=some (.ref f)) (kp:bn X.K (.ref f)=true) (bd:L2.Binds X.K fd ps []) (ha:JB X Y (a :: es) ga) (hd:(x == ("__debug__":Str))=false:=by decide)
  (hs:starEach (a :: es) X.env=(false,eval a X.env) :: starEach es X.env:=by exact zw rfl) (hz:((backTo pos (starEach es X.env)).any λx=>x.fst)=false:=by exact zQ rfl):Snd X Y (.Call (.Name x p) (a :: es) [] pos) (zc n g ga):=by
 subst hy;exact vq F (hr.mono hj) gl mg kp bd hp ha hd hs hz
end
def uN (c:Nat):En->RS:=λ_=> .ex c
section
variable {P:Program}{w:World}{K:ac}{mg:Str->Option Value}{base:Heap}{N:List Str}{qual:Str}{scope:Scope}{f:Addr}{cd:Value}{A:Around}{outer:List Env}{s:Shared}{H:Hp}{E:XK}{Y:Fx}
theorem uc {x m:Str}{C:Addr}{bm bmN:List Value}{Bn Bb newId nid initId inN:String}{np cpos pos ap:Pos}{j c:Nat}(O:OwnCls x C bm newId mg base)(Fn:ExcBaseFacts Bn newId inN bmN)(hBn:bm.contains (.type Bn)=true)(FB:ExcBaseFacts Bb nid initId bm)
  (hY:Y.E=E) (hc:Y.cl c= .ref C) (hg:Gl (Jf (CX1 P w) P w K mg base N qual scope f cd A outer s H E) x) (hd:(x == ("__debug__":Str))=false:=by decide):
  Jg (Jf (CX1 P w) P w K mg base N qual scope f cd A outer s H E) Y (.Raise (some (.Call (.Name x np) [.Constant (.str m) j ap] [] cpos)) none pos) (uN c):= .mk λρ=>by
 subst hY;refine PS.imp (yG O Fn hBn FB hg ((vj kv kx:JB (Jf (CX1 P w) P w K mg base N qual scope f cd A outer s H Y.E) Y [.Constant (.str m) j ap] _) ρ) (zw rfl) hd) λD σ H1 ⟨B,I,q⟩=>⟨B,I,λvs H2 s2 r2=> ?_⟩;have q:XP Y B c:=q;refine⟨?_, ?_⟩
 ·rw[r2.length];exact(by decide:1<=sizeLine)
 ·have:=q none H2 (I.sH.trans s2) (I.sB.trans s2);rw[hc]at this;exact this
theorem Fun.okX {x qual:Str}{st:Stmt}{f:Addr}{fd:FuncData}{N ps:List Str}{k:Nat}{sp:Sp}(F:Fun K x qual st f fd)(S:zi N ps (zb st))(len:∀vs H Q E,sp vs H Q E->vs.length=ps.length)
  (hbody:∀(cdv:Value) (A:Around) (outer:List Env) (s:Shared) (H:Hp) (vs:List V) (Q:VK) (E:XK),ZL k (A.deeper (envOfC qual (zb st) s.heap.objs.size f cdv))->sp vs H Q E->
   ∃t,PSs (Jf (CX1 P w) P w K mg base N qual (zb st) f cdv A outer s H E) (zN st) t/\t { nx:=λ_ H' =>Q .non H',rt:=Q } (start N vs) H):zK P w K mg base (CX1 P w) (k+1) f fd ps sp:=by
 obtain⟨oc,od,kV,doc,pm,an,cdv,ct,osl,rfl,lk,hcd⟩:=F.ex;exact ke lk hcd S len λA outer s H vs Q E hr hsp=>hbody cdv A outer s H vs Q E hr hsp
theorem wm {cl:Nat->Value}{x qual:Str}{st:Stmt}{f:Addr}{fd:FuncData}{N ps:List Str}{k n:Nat}{fb:En->RS}{g:List T->R T}(F:Fun K x qual st f fd)(S:zi N ps (zb st))(hn:n=ps.length)
  (hb:∀(cdv:Value) (A:Around) (outer:List Env) (s:Shared) (H:Hp) (E:XK) (Y:Fx),Y.cl=cl->Y.E=E->ZL k (A.deeper (envOfC qual (zb st) s.heap.objs.size f cdv))->
   wN (Jf (CX1 P w) P w K mg base N qual (zb st) f cdv A outer s H E) Y (zN st) fb)
  (hg:∀ts,ts.length=n->g ts=zj (fb (en0 N.length ts))):zK P w K mg base (CX1 P w) (k+1) f fd ps (spP cl n g):=by
 subst hn;refine Fun.okX F S spP.len λcdv A outer s H vs Q E hr ⟨B,ts,hl,sB,r,q⟩=> ?_;refine⟨_,hb cdv A outer s H E ⟨B,H,E,cl,[]⟩ rfl rfl hr (en0 N.length ts),B,SI.start (Y:=⟨B,H,E,cl,[]⟩) sB r, ?_⟩;rw[hg ts hl]at q;revert q;cases fb (en0 N.length ts) with
 | rt t=>exact λq v H' s r=>q v H' s r
 | rf t=>exact λq a xs H' B' s0 n e r _ l=>q (.ref a) H' s0 (.lst (by rw[Z0 n];exact e) (r.mono l))
 | nx ρ=>exact λq σ' H' B' s' I' =>q _ H' I'.sH .non
 | bk ρ=>exact λq=>q.elim
 | ct ρ=>exact λq=>q.elim
 | ex c=>exact λq=>q
 | bad=>exact λq=>q
end
def Qg (k:Nat)(ok:Nat->Bool)(fb:En->RS):En->RS:=λρ=>match fb ρ with
 | .ex c=>if ok c=true then .nx ((ad ρ.length Sl.un).set k (.xc c)) else .bad
 | r=>r
theorem SI.wish (I:SI Y B ρ σ H)(E:XK):SI { Y with E:=E } B ρ σ H:=⟨I.s0,I.sH,I.sB,I.old,I.len,I.vl,I.ow,I.xc,let ⟨as,O,x⟩:=I.st;⟨as,O,x.on (λ_ _ _ h=>⟨h,rfl⟩) (zl.refl _) rfl rfl (zl.refl _) λ_ _ h b0 h0 _=>⟨h,b0,h0,id⟩⟩⟩
theorem SI.unwish (I:SI { Y with E:=E } B ρ σ H):SI Y B ρ σ H:=⟨I.s0,I.sH,I.sB,I.old,I.len,I.vl,I.ow,I.xc,let ⟨as,O,x⟩:=I.st;⟨as,O,x.on (λ_ _ _ h=>⟨h,rfl⟩) (zl.refl _) rfl rfl (zl.refl _) λ_ _ h b0 h0 _=>⟨h,b0,h0,id⟩⟩⟩
theorem SI.caught {c k m:Nat}(s0:zl Y.B0 Y.H0)(old:∀b o,Y.H0 b=some o->B b=Y.B0 b)(hH:zl Y.H0 H')(hB:zl B H')(he:H' ea=none)(hl:m=σ.length)(hk:σ[k]? =some (some (V.ref ea))):
  ∃B',zl B B' /\SI Y B' ((ad m Sl.un).set k (.xc c)) σ (upd H' ea (.ext (u7 (Y.cl c) ea))):=by
 have up:zl H' (upd H' ea (.ext (u7 (Y.cl c) ea))):=zl.new he _;have h0:Y.H0 ea=none:=hH.free he;refine⟨zE Y.B0 Y.H0 (upd H' ea (.ext (u7 (Y.cl c) ea))),λb o e=> ?_,⟨s0,hH.trans up,λb o e=> ?_,λb o e=>by rw[Z7 e],by rw[aP,aN,hl],λi t e=> ?_,λi ts e=> ?_,λi d e=> ?_,StI.no λi y hy e=> ?_⟩⟩
 ·cases q:Y.H0 b with
  | none=>rw[Z0 q];exact up b o (hB b o e)
  | some u=>rw[Z7 q,← old b u q];exact e
 ·cases q:Y.H0 b with
  | none=>rw[Z0 q]at e;exact e
  | some u=>rw[Z7 q]at e;exact up b o (hH b o (s0 b o e))
 ·rcases zk e with ⟨_,z⟩ | ⟨_,z⟩
  ·cases z
  ·rw[aC]at z;split at z <;> cases z
 ·rcases zk e with ⟨_,z⟩ | ⟨_,z⟩
  ·cases z
  ·rw[aC]at z;split at z <;> cases z
 ·rcases zk e with ⟨rfl,z⟩ | ⟨_,z⟩
  ·cases z;exact⟨ea,hk,by rw[Z0 h0,zB]⟩
  ·rw[aC]at z;split at z <;> cases z
 ·rcases zk e with ⟨_,z⟩ | ⟨_,z⟩
  ·subst z;cases hy
  ·rw[aC]at z;split at z
   ·cases z;cases hy
   ·cases z
theorem VV {i k:Nat}{ok:Nat->Bool}
  (hX:X.stack=X.env :: X.outer) (hf:X.env.frame=some X.env.locals) (hN:X.N.Nodup)
  (hi:X.N[i]? =some n) (hl:X.env.scope.names.lookup n=some .local) (hk:X.N[k]? =some y) (hy:X.env.scope.names.lookup y=some .local) (hik:i ≠ k)
  (hg:Gl X c) (hm:X.mg c=some (.ref C)) (hok:∀c,ok c=true->exmOne X.K (Y.cl c) (.ref C)=some true)
  (hb:∀(E' :XK) (pn:List (Addr×Obj)) (xe:Value->Shared->Prop),Z4 (CX1 X.prog X.w) (X.try' pn xe) E' ->wN (X.try' pn xe) { Y with E:=E' } body fb)
  (hs:swapsWith (.Name n np) (some (.Name y yp)) apos.line X.env=pure false:=by rfl)
  (hdc:(c == ("__debug__":Str))=false:=by decide) (hdn:(n == ("__debug__":Str))=false:=by decide) (hcd:(n == ("__classdict__":Str))=false:=by decide):
  Jg X Y (.Try body [.ExceptHandler (some (.Name c cp)) (some n) [.Assign [.Name y yp] (.Name n np) apos] hp] [] [] pos) (Qg k ok fb):= .mk λρ=>by
 refine PS.imp (Vm (tb:=λE' =>tSS { Y with E:=E' } fb ρ) hX hf hN hi hl hk hy hg hm (λE' pn xe p=>hb E' pn xe p ρ) hs hdc hdn hcd) λD σ H ⟨B,I,q⟩=> ?_;refine⟨λcls _ H' =>zl Y.H0 H' /\zl B H' /\∃c,cls=Y.cl c/\ok c=true/\PoS Y B (.nx ((ad ρ.length Sl.un).set k (.xc c))) D,λcls d H' ea σ' ⟨s1,s2,c,e1,e2,q1⟩=> ?_,B,I.wish _, ?_⟩
 ·subst e1;refine⟨hok c e2,λhe hl' hX' => ?_⟩;have hkl:k < σ'.length:=by rw[hl',hX'];exact(aq.mp hk).1
  have hlen:ρ.length=((((σ'.set i (some (V.ref ea))).set k (some (V.ref ea))).set i none):Sg).length:=by
   rw[aP,aP,aP,hl',I.len]
  obtain⟨B',b1,b2⟩:=SI.caught (c:=c) (σ:=((σ'.set i (some (V.ref ea))).set k (some (V.ref ea))).set i none) (k:=k) I.s0 I.old s1 s2 he hlen (by
   rw[aJ hik,aV (by rw[aP];exact hkl)])
  exact q1 _ _ B' b1 b2
 ·unfold Qg at q;cases e:fb ρ with
  | nx ρ' =>rw[e]at q;exact λσ' H' B' s' I' =>q σ' H' B' s' I'.unwish
  | rt t=>rw[e]at q;exact q
  | rf t=>rw[e]at q;exact q
  | bk ρ' =>rw[e]at q;exact λσ' H' B' s' I' =>q σ' H' B' s' I'.unwish
  | ct ρ' =>rw[e]at q;exact λσ' H' B' s' I' =>q σ' H' B' s' I'.unwish
  | bad=>rw[e]at q;exact q
  | ex c=>
   rw[e]at q;dsimp only at q;split at q
   ·rename_i hc;exact λd H' s1 s2=>⟨s1,s2,c,rfl,hc,q⟩
   ·exact q.elim
end PV
namespace PySem.W
open PySem PySem.Calls PyProof.Rows PySem.Spec Builtin Builtin.ObjectAttr Builtin.Getset_descriptor
section
variable {prog:Program}{w:World}{A:Around}{E:Value->Shared->Prop}{s:Shared}{K:Frag}{x C:Addr}
theorem Wt {tp:Value}{R:Result->Shared->Prop}(X:K.In s.heap)(L0:Looks (model prog w) s.heap (typeOf (.ref x)) (.ref C))(hm:mroIn K C (.type "object")=some true)
  (h:R (.ok (.ret (.ref C))) s):codeAny (model prog w) A (.call (.builtin "getset_descriptor.__get__") ⟨[.builtin "object.__class__",.ref x,tp],[]⟩) R s:=by
 obtain⟨hh,g,dr,t,os⟩:=s;have L1:=looks_mroIn (M:=model prog w) X hm;refine codeAny_call_builtin KF.slot_gs.plain KF.entry_gs (KF.slot_gs.check _ _ _ _ _ _ _ _ KF.type_class (KF.args_gs _ _ _) ?_);unfold Builtin.«getset_descriptor.__get__» descrGet;rw[dga_obj];refine aa (ar ?_);unfold descrGetter descrCheckInstance descrNameAndClass isInstance;simp only[KF.owner_class]
 repeat lk
 refine⟨fO _ (by decide+kernel),cB KF.entry_class ?_⟩
 unfold Builtin.«object.__class__» shownTypeOf
 repeat lk
 exact h
theorem VW {M:Model}{h:Heap}(X:K.In h)(ha:findIn K (.ref C) "__class__"=some (some (.builtin "object.__class__")))(hn:specialIn K (.builtin "object.__class__") "__get__"=some (some (.builtin "getset_descriptor.__get__")))
  (htk:takesIn K (.builtin "object.__class__")=some true):Looks M h (find (.ref x) (.ref C) "__class__") (.bind (.builtin "getset_descriptor.__get__") (.builtin "object.__class__")):=by
 have L1:=looks_findIn (M:=M) X ha;have L2:Looks M h (getOf (some (.builtin "object.__class__"))) (some (.builtin "getset_descriptor.__get__")):=looks_specialIn X hn;have L3:=looks_takesIn (M:=M) X htk;refine L1.andThen (L2.andThen ?_);exact(show Looks M h (dataDescriptor? (some (.builtin "object.__class__")) (some (.builtin "getset_descriptor.__get__"))) (some (.builtin "getset_descriptor.__get__",.builtin "object.__class__")) from L3.andThen .now).andThen (Looks.tag .now)
theorem Qh {Q:Unit->Shared->Prop}(L0:Looks M s.heap (typeOf (.ref x)) (.ref C))(L1:Looks M s.heap (isSubtype (.ref C) (.type "BaseException")) true)(hq:Q () s):wpAny M A (checkBuiltinCall "BaseException.__getattribute__" ⟨[.ref x,nameV],[]⟩) Q E s:=by
 have hk:builtinKind "BaseException.__getattribute__"=some .slot:=by decide+kernel
 have hsplit:splitId "BaseException.__getattribute__"=some ("BaseException","__getattribute__"):=by decide+kernel
 have ha:=PySem.F.args_bexc_ga (.ref x) nameV;obtain⟨hh,g,d,t,os⟩:=s;simp only[checkBuiltinCall,hk,hsplit];refine aa ?_;unfold isInstance
 repeat (first | lk | wp_step)
 exact hq
end
end PySem.W
namespace PySem.W
open PySem PySem.Calls PyProof.Rows PySem.Spec Builtin Builtin.ObjectAttr Builtin.Getset_descriptor
section
variable {prog:Program}{w:World}{A:Around}{E:Value->Shared->Prop}{s:Shared}{K:Frag}{x C:Addr}
structure XCls (K:Frag) (C:Addr):Prop where
 ga:findIn K (.ref C) "__getattribute__"=some (some (.builtin "BaseException.__getattribute__"))
 gt:findIn K (.ref C) "__getattr__"=some none
 ca:findIn K (.ref C) "__class__"=some (some (.builtin "object.__class__"))
 sp:specialIn K (.builtin "object.__class__") "__get__"=some (some (.builtin "getset_descriptor.__get__"))
 tk:takesIn K (.builtin "object.__class__")=some true
 ob:mroIn K C (.type "object")=some true
 be:mroIn K C (.type "BaseException")=some true
 cl:(clsIn K C).isSome=true
theorem Qi {tk:Tok}{Q:Fin->Shared->Prop}(X:K.In s.heap)(c:XCls K C)(L0:Looks (model prog w) s.heap (typeOf (.ref x)) (.ref C))(hq:Q (.done (.ret (.ref C))) s):
  wpAny (model prog w) A (Builtin.«object.__getattribute__» ⟨[.ref x,.str "__class__" tk],[]⟩) Q E s:=by
 obtain⟨hh,g,d,t,os⟩:=s;have L1:=VW (M:=model prog w) (x:=x) X c.ca c.sp c.tk;refine aa (ar (aa (ar (aa (L0.at (aa (L1.at ?_)))))));show wpAny _ _ (bindTo _ _ _ _) _ _ _;unfold bindTo;refine aa (wpAny_call (Wt X L0 c.ob ?_));exact ar hq
end
end PySem.W
namespace PySem.W
open PySem PySem.Calls PyProof.Rows PySem.Spec Builtin Builtin.ObjectAttr Builtin.Getset_descriptor
section
variable {prog:Program}{w:World}{A:Around}{E:Value->Shared->Prop}{s:Shared}{K:Frag}{x C:Addr}
theorem Qj {Q:Option Value->Shared->Prop}(X:K.In s.heap)(c:XCls K C)(L0:Looks (model prog w) s.heap (typeOf (.ref x)) (.ref C))(h:Q (some (.ref C)) { s with toks:=s.toks+1 }):wpAny (model prog w) A (getAttr? (.ref x) "__class__") Q E s:=by
 obtain⟨hh,g,d,t,os⟩:=s;have L1:=looks_findIn (M:=model prog w) X c.ga;have L2:=looks_findIn (M:=model prog w) X c.gt;have L3:=looks_mroIn (M:=model prog w) X c.be;have fb:=eN.ga.bind (.ref x);unfold getAttr? getAttrBy? getAttrBy;refine aa (wpAny_mkText (aa (cW (cV (aa (L0.at (aa (L1.at ?_))))))));dsimp only;have hx2:(Value.builtin "BaseException.__getattribute__" == Value.builtin "object.__getattribute__")=false:=by decide+kernel
 rw[if_neg (by rw[hx2];simp)]
 unfold getAttrByItsOwn hookBefore;refine aa ?_;rw[if_pos (by rfl)]
 refine L2.at ?_;refine aa (cW (cV ?_));unfold callGetattribute;rw[if_neg (by simp)]
 unfold boundAndCalled;rw[fb];refine aa (ar ?_);refine wpAny_call (codeAny_call_builtin eN.ga.plain PySem.F.entry_bexc_ga (Qh (s:=⟨hh,g,d,t+1,os⟩) L0 L3 (Qi (s:=⟨hh,g,d,t+1,os⟩) X c L0 ?_)));exact handed_on rfl (ar h)
theorem VX (c:XCls K C):KitX K (.ref x) (.ref C) (λh=>∃o,h.get? x=some o/\o.cls= .ref C) where
 ty:=λM h _ ⟨o,h1,h2⟩=>h2 ▸ (Looks.ld h1).andThen .now
 it:=λ_ _ X _=>by
  obtain⟨cdD,hcD⟩:=dk.mp c.cl;unfold clsIn at hcD;split at hcD
  ·rename_i c' d' cd' sl' ho;intro A' Q' E' s' k q;unfold isType loadHead;exact aa (wpAny_loadPart (k _ _ (X _ _ ho)) (ar q))
  ·cases hcD
 ne:=λh tp dd its n sl X htp=>by
  obtain⟨cdD,hcD⟩:=dk.mp c.cl;refine Bool.eq_false_iff.mpr λq=> ?_;have e:C=tp:=Value.ref.inj (beq_iff_eq.mp q);subst e;unfold clsIn at hcD;split at hcD
  ·rename_i c' d' cd' sl' ho;have z:=(X _ _ ho).symm.trans htp;cases z
  ·cases hcD
 ca:=λ{prog w A E Q s} X ⟨o,h1,h2⟩ k=>Qj X c (h2 ▸ (Looks.ld h1).andThen .now) k
end
end PySem.W
namespace PV
open PySem PySem.Spec PyProof.Rows L2 PySem.W
section
def JG (i:Nat)(ok tab:Nat->Bool):En->R T:=λρ=>match ρ[i]? with
 | some (.xc c)=>if ok c=true then .ok (.bl (tab c)) else .bad
 | _=> .bad
theorem Wu:ZQ X (.builtin "isinstance") (λxs H Q=>∃a C v b,xs=[.ref a,v]/\H a=some (.ext (u7 (.ref C) a))/\XCls X.K C/\(∀u,Zg v u->kitOne X.K (.ref C) u=some b)/\Q (.bl b) H):=by
 intro pins s σ H xs us Q I rv h;obtain⟨a,C,v,b,rfl,e,c,hk,q⟩:=h;obtain⟨u,w,rfl,ru,rw'⟩:=yo rv;obtain rfl:u=Value.ref a:=ru;obtain⟨hx,_,_⟩:=(show Zi X.prog X.w H s.heap a (.ext (u7 (.ref C) a)) from I.hok a _ e);exact kia_one (VX c) I.kIn hx (hk w rw') (λz=>nomatch z) λtk=>⟨.bl _,H,I.tok tk,rfl,q⟩
structure XK1 (K:Frag) (cl:Nat->Value) (ok:Nat->Bool):Prop where
 at_:∀c,ok c=true->∃C,cl c= .ref C/\XCls K C
theorem J4 {i:Nat}{ok tab:Nat->Bool}(hK:XK1 X.K Y.cl ok)(ht:∀c,ok c=true->kitOne X.K (Y.cl c) (.ref C)=some (tab c))(gl:Gl X "isinstance")(mg:X.mg "isinstance"=none)(hv:PE X (.Name y yp) (wC i))(gl' :Gl X cn)(mg' :X.mg cn=some (.ref C))
  (hd:(cn == ("__debug__":Str))=false:=by decide):Snd X Y (.Call (.Name "isinstance" p) [.Name y yp,.Name cn cp] [] pos) (JG i ok tab):= .mk λρ=>
 PE.imp (jj Wu gl mg PyProof.Rows.Boot.«isinstance» (zq hv (zq (ye (v:= .ref C) gl' mg' rfl hd) Z6 (st1 rfl)) (st2 rfl rfl)) (by decide) (by decide) (by rw[st2 rfl rfl,st1 rfl]) (zQ rfl)) λσ H Q ⟨B,I,q⟩=>by
  unfold JG at q;split at q
  ·rename_i c e;split at q
   ·rename_i hc;obtain⟨a,e1,r⟩:=I.xc i c e;obtain⟨Cc,e2,xc⟩:=hK.at_ c hc;have ht' :=ht c hc;rw[e2]at r ht';exact⟨_,e1,a,Cc,_,_,rfl,I.sB a _ r,xc,λu ru=>by obtain rfl:u=Value.ref C:=ru;exact ht',ZC I q (.bl _)⟩
   ·exact q.elim
  ·exact q.elim
theorem VY {i:Nat}{ok tab:Nat->Bool}(hK:XK1 X.K Y.cl ok)(ht:∀c,ok c=true->kitOne X.K (Y.cl c) (.type n)=some (tab c))(gl:Gl X "isinstance")(mg:X.mg "isinstance"=none)(hv:PE X (.Name y yp) (wC i))(gl' :Gl X (aR n))(mg' :X.mg (aR n)=none)
  (bt:bootBuiltins (aR n)=some (.type n)) (hn:aR n ≠ "__name__":=by decide) (hd:(aR n == ("__debug__":Str))=false:=by decide):Snd X Y (.Call (.Name "isinstance" p) [.Name y yp,.Name (aR n) cp] [] pos) (JG i ok tab):= .mk λρ=>
 PE.imp (jj Wu gl mg PyProof.Rows.Boot.«isinstance» (zq hv (zq (yf (v:= .ty n) gl' mg' bt rfl hn hd) Z6 (st1 rfl)) (st2 rfl rfl)) (by decide) (by decide) (by rw[st2 rfl rfl,st1 rfl]) (zQ rfl)) λσ H Q ⟨B,I,q⟩=>by
  unfold JG at q;split at q
  ·rename_i c e;split at q
   ·rename_i hc;obtain⟨a,e1,r⟩:=I.xc i c e;obtain⟨Cc,e2,xc⟩:=hK.at_ c hc;have ht' :=ht c hc;rw[e2]at r ht';exact⟨_,e1,a,Cc,_,_,rfl,I.sB a _ r,xc,λu ru=>by obtain rfl:u=Value.type n:=ru;exact ht',ZC I q (.bl _)⟩
   ·exact q.elim
  ·exact q.elim
def K7 (i:Nat):En->R Bool:=λρ=>match ρ[i]? with
 | some (.xc _)=> .ok false
 | some (.vl t)=>yQ t .non
 | _=> .bad
theorem K8:OpR X (compareOp .Is) (λx y H Q=>y= .non/\((∃a,x= .ref a/\Q (.bl false) H)\/∃t b,Rep H x t/\yQ t .non= .ok b/\Q (.bl b) H)):=by
 intro pins s σ H x y v u Q I rx ry h;obtain⟨rfl,h⟩:=h;rcases h with ⟨a,rfl,q⟩ | ⟨t,b,r,e,q⟩
 ·obtain rfl:u=Value.none:=ry;obtain rfl:v=Value.ref a:=rx;exact wpAny_is_plain rfl ⟨.bl false,H,I,rfl,q⟩
 ·exact kF pins s σ H x .non v u Q I rx ry ⟨t,.non,b,r,.non,e,q⟩
theorem K9 {i:Nat}{j:Nat}(hv:PE X (.Name y yp) (wC i)):wJ X Y (.Compare (.Name y yp) [.Is] [.Constant .none j p'] pos) (K7 i):= .mk λρ=>
 PT.imp (u3 K8 hv vc (by rfl)) λσ H Q ⟨B,I,q⟩=>by
  unfold K7 at q;split at q
  ·rename_i c e;obtain⟨a,e1,r⟩:=I.xc i c e;exact⟨_,e1,rfl,.inl ⟨a,rfl,false,rfl,ZC I q rfl⟩⟩
  ·rename_i t e;obtain⟨v,e1,r⟩:=I.vl i t e;refine⟨v,e1,rfl,.inr ?_⟩;cases ek:yQ t .non with
   | bad=>rw[ek]at q;exact q.elim
   | ex c=>exact absurd ek (Vy _ _ _)
   | ok b=>rw[ek]at q;exact⟨t,b,r.mono I.sB,ek,b,rfl,ZC I q rfl⟩
  ·exact q.elim
def spC (cl:Nat->Value)(gx:Nat->R T):Sp:=λvs H Q E=>∃B a c,vs=[V.ref a]/\zl B H/\B a=some (.ext (u7 (cl c) a))/\Po ⟨B,H,E,cl,[]⟩ rC B H (gx c) Q
def Yd (i:Nat)(gx:Nat->R T):En->R T:=λρ=>match ρ[i]? with
 | some (.xc c)=>gx c
 | _=> .bad
theorem VZ {k j i:Nat}{gx:Nat->R T}(hy:Y.cl=cl)(F:zK X.prog X.w X.K X.mg X.base CX0 j f fd [q] (spC cl gx))(hr:ZL k X.A)(hj:j<=k)(gl:Gl X x)
  (mg:X.mg x=some (.ref f)) (kp:bn X.K (.ref f)=true) (bd:L2.Binds X.K fd [q] []) (hv:PE X (.Name y yp) (wC i)) (hd:(x == ("__debug__":Str))=false:=by decide):Snd X Y (.Call (.Name x p) [.Name y yp] [] pos) (Yd i gx):= .mk λρ=>
 PE.imp (Jy F (hr.mono hj) gl mg kp bd .nil (K5 (E:=Y.E)) (zq hv Z6 (st1 rfl)) hd (st1 rfl) rfl) λσ H Q ⟨B,I,q⟩=>by
  subst hy;unfold Yd at q;split at q
  ·rename_i c e;obtain⟨a,e1,r⟩:=I.xc i c e;refine⟨_,e1,B,a,c,rfl,I.sB,r, ?_⟩;revert q;cases gx c with
   | bad=>exact λq=>q
   | ex c=>exact λq d H' s sB=>q d H' (I.sH.trans s) sB
   | ok t=>exact λq=>q
  ·exact q.elim
end
section
variable {P:Program}{w:World}{K:ac}{mg:Str->Option Value}{base:Heap}
def enC (n c:Nat):En:= .xc c :: ad (n - 1) .un
theorem SI.startC {c:Nat}(s:zl Y.B0 Y.H0)(hN:1<=N.length)(r:Y.B0 a=some (.ext (u7 (Y.cl c) a))):SI Y Y.B0 (enC N.length c) (L2.start N [V.ref a]) Y.H0 where
 s0:=s
 sH:=zl.refl _
 sB:=s
 old:=λ_ _ _=>rfl
 len:=by unfold enC L2.start;simp
 vl:=λi t h=>by
  unfold enC at h;cases i with
  | zero=>cases h
  | succ i=>rw[bo,aC]at h;split at h <;> cases h
 ow:=λi t h=>by
  unfold enC at h;cases i with
  | zero=>cases h
  | succ i=>rw[bo,aC]at h;split at h <;> cases h
 xc:=λi d h=>by
  unfold enC at h;cases i with
  | zero=>
   cases h;exact⟨a,by unfold L2.start;rfl,r⟩
  | succ i=>rw[bo,aC]at h;split at h <;> cases h
 st:=StI.no λi y hy h=>by
  unfold enC at h;cases i with
  | zero=>cases h;cases hy
  | succ i=>
   rw[bo,aC]at h;split at h
   ·cases h;cases hy
   ·cases h
theorem Ka {cl:Nat->Value}{x qual q:Str}{st:Stmt}{f:Addr}{fd:FuncData}{N:List Str}{k:Nat}{fb:En->RS}{gx:Nat->R T}(F:Fun K x qual st f fd)(S:zi N [q] (zb st))(hN:1<=N.length)
  (hb:∀(cdv:Value) (A:Around) (outer:List Env) (s:Shared) (H:Hp) (E:XK) (Y:Fx),Y.cl=cl->ZL k (A.deeper (envOfC qual (zb st) s.heap.objs.size f cdv))->
   wN (Jf CX0 P w K mg base N qual (zb st) f cdv A outer s H E).nox Y (zN st) fb)
  (hg:∀c,gx c=zj (fb (enC N.length c))):zK P w K mg base CX0 (k+1) f fd [q] (spC cl gx):=by
 refine F.ok S (λvs H Q E ⟨_,_,_,e,_⟩=>by rw[e];rfl) λcdv A outer s H vs Q E hr ⟨B,a,c,e,sB,r,q⟩=> ?_
 subst e;refine⟨_,hb cdv A outer s H E ⟨B,H,E,cl,[]⟩ rfl hr (enC N.length c),B,SI.startC (Y:=⟨B,H,E,cl,[]⟩) sB hN r, ?_⟩;rw[hg c]at q;revert q;cases fb (enC N.length c) with
 | rt t=>exact λq v H' s r=>q v H' s r
 | rf t=>exact λq a xs H' B' s0 n e r _ l=>q (.ref a) H' s0 (.lst (by rw[Z0 n];exact e) (r.mono l))
 | nx ρ=>exact λq σ' H' B' _ I=>q .non H' I.sH .non
 | ex c=>exact λq=>q
 | bk ρ=>exact λq=>q.elim
 | ct ρ=>exact λq=>q.elim
 | bad=>exact λq=>q
end
end PV
namespace PySem.ZG
open PySem PySem.Spec PySem.Builtin.SmallTypes
structure ud (i:Addr) (fp:List Addr) (v:Nat->Option Value) (St:Nat->Heap->Prop):Prop where
 mem:i∈fp
 item:∀{prog:Program} {w:World} {A:Around} {E:Value->Shared->Prop} {s:Shared} {Q:Value->Shared->Prop} {k:Nat} {x:Value},St k s.heap->v k=some x->(∀h',St (k+1) h' ->cD i s.heap h' ->Q x { s with heap:=h' })->wpAny (model prog w) A (nextOf (.ref i)) Q E s
 stop:∀{prog:Program} {w:World} {A:Around} {E:Value->Shared->Prop} {s:Shared} {Q:Value->Shared->Prop} {k:Nat},A.handled=none->St k s.heap->v k=none->(∀h' e,fB i s.heap h' ->(∃o,h'.get? e=some o/\o.cls= .type "StopIteration")->E (.ref e) { s with heap:=h' })->wpAny (model prog w) A (nextOf (.ref i)) Q E s
 keep:∀{k:Nat} {h h' :Heap},St k h->(∀b∈fp,∀o,h.get? b=some o->h'.get? b=some o)->St k h'
 there:∀{k:Nat} {h:Heap},St k h->∀b∈fp,∃o,h.get? b=some o
theorem ud.but {v:Nat->Option Value}{St:Nat->Heap->Prop}(N:ud i fp v St){k:Nat}(x:St k h)(e:fB b h h')(n:b ∉ fp):St k h' :=
 N.keep x λc hc o q=>e c o (λz=>n (z ▸ hc)) q
theorem x6 (hil:l ≠ i)(xs:Array Value):ud i [i,l] (λk=>xs[k]?) (λk h=>h.IsListIter i l k/\h.IsList l xs) where
 mem:= .head _
 item:=λst hx h=>wpAny_nextOf_list_item st.1 st.2 hx λh' a b=>h h' ⟨a,st.2.extBut b.extBut hil⟩ b
 stop:=λhh st hx h=>wpAny_nextOf_list_end hh st.1 st.2 hx h
 keep:=λst k=>⟨st.1.at λo e=>k i (.head _) o e,st.2.at λo e=>k l (.tail _ (.head _)) o e⟩
 there:=λst b hb=>by
  obtain⟨⟨o,e,_⟩,o2,e2,_⟩:=st;rcases aG.mp hb with z | hb
  ·exact⟨o,z ▸ e⟩
  ·exact⟨o2,(aY.mp hb) ▸ e2⟩
end PySem.ZG
namespace PySem.ZG
open PySem PySem.Spec PySem.Builtin.SmallTypes
section
variable {k:Nat}
theorem uO (hit:s.heap.IsTupleIter it l k)(h:wpAny (model prog w) A.in1 (Builtin.«tuple_iterator.__next__» ⟨[.ref it],[]⟩) (λfin s' =>∃v,fin= .done (.ret v)/\Q v s') E s):wpAny (model prog w) A (nextOf (.ref it)) Q E s:=by
 unfold nextOf;exact aa (bx (name:=aR "__next__") hit.typeIs dF (bU dF hit.typeIs PySem.F.entry_tuple_iterator_next
  (ce h (λfin s' ⟨v,e,q⟩=>⟨v,e,ar q⟩) λ_ _ z=>z) (PySem.F.args_tuple_iterator_next_1 _)))
theorem Qk (hit:s.heap.IsTupleIter it l k)(ht:s.heap.IsTuple l xs)(hx:xs[k]? =some x)(h:∀h',h'.IsTupleIter it l (k+1)->cD it s.heap h' ->Q x { s with heap:=h' }):wpAny (model prog w) A (nextOf (.ref it)) Q E s:=by
 refine uO hit ?_;obtain⟨o,ho,hc,hd⟩:=id hit;obtain⟨ol,hol,_,nl,hdl⟩:=ht;refine aa (m:=field (.ref it) 0) (bf ho hd (x:= .ref l) rfl ?_);rw[if_neg (show ¬((Value.ref l == Value.none)=true) by exact av)]
 refine aa (m:=field (.ref it) 1) (bf ho hd (x:= .int k 0) rfl (aa (m:=seqItems? (.ref l)) (cx hol hdl ?_)));simp only[ba,hx];have g:=Heap.get?_update_self (Obj.mapFields (·.setIfInBounds 1 (rawInt (k+1:Nat)))) ho (Obj.isFreed_of_fields (fP hd _));refine aa (wpAny_setField ho hd (by simp) (ar ⟨x,rfl,h _ ⟨_,g,(Obj.cls_mapFields ..).trans hc, ?_⟩ (fI ..)⟩))
 rw[fP hd];simp[rawInt]
theorem Ql (hh:A.handled=none)(hit:s.heap.IsTupleIter it l k)(ht:s.heap.IsTuple l xs)(hx:xs[k]? =none)
  (h:∀h' e,fB it s.heap h' ->(∃o,h'.get? e=some o/\o.cls= .type "StopIteration")->E (.ref e) { s with heap:=h' }):wpAny (model prog w) A (nextOf (.ref it)) Q E s:=by
 refine uO hit ?_;obtain⟨o,ho,hc,hd⟩:=id hit;obtain⟨ol,hol,_,nl,hdl⟩:=ht;refine aa (m:=field (.ref it) 0) (bf ho hd (x:= .ref l) rfl ?_);rw[if_neg (show ¬((Value.ref l == Value.none)=true) by exact av)]
 refine aa (m:=field (.ref it) 1) (bf ho hd (x:= .int k 0) rfl (aa (m:=seqItems? (.ref l)) (cx hol hdl ?_)));simp only[ba,hx];refine aa (dX (aa (wpAny_setField ho hd (by simp) (aa (m:=newExc (.type "StopIteration") []) ?_))))
 simp only[newExc,newTuple];refine aa (aX (aa (m:=firstArgMember _ _) (cP (a:=Value.none) (by first | rfl | (simp only[firstArgMember];rfl)) (aX ?_ (by size_fits)))) (by size_fits))
 simp only[raiseNew];refine aa (wpAny_handled ?_);rw[show A.in1.handled=none from hh];exact aa (ar (wpAny_throw (h _ _ (((fI ..).extBut.push _).push _) ⟨_,ao _ rfl,rfl⟩)))
end
theorem Kb (hil:l ≠ i)(xs:Array Value):ud i [i,l] (λk=>xs[k]?) (λk h=>h.IsTupleIter i l k/\h.IsTuple l xs) where
 mem:= .head _
 item:=λst hx h=>Qk st.1 st.2 hx λh' a b=>h h' ⟨a,st.2.extBut b.extBut hil⟩ b
 stop:=λhh st hx h=>Ql hh st.1 st.2 hx h
 keep:=λst k=>by
  obtain⟨⟨o,e,r⟩,o2,e2,r2⟩:=st;exact⟨⟨o,k i (.head _) o e,r⟩,o2,k l (.tail _ (.head _)) o2 e2,r2⟩
 there:=λst b hb=>by
  obtain⟨⟨o,e,_⟩,o2,e2,_⟩:=st;rcases aG.mp hb with z | hb
  ·exact⟨o,z ▸ e⟩
  ·exact⟨o2,(aY.mp hb) ▸ e2⟩
end PySem.ZG
namespace PySem.ZG
open PySem PySem.Spec PySem.Builtin.SmallTypes
structure Ap (z TI TO i1 i2:Addr) (fp1 fp2:List Addr):Prop where
 Iz:TI ≠ z
 Oz:TO ≠ z
 IO:TI ≠ TO
 I1:TI ≠ i1
 I2:TI ≠ i2
 z1:z ∉ fp1
 z2:z ∉ fp2
 O1:TO ∉ fp1
 O2:TO ∉ fp2
 a:i1 ∉ fp2
 b:i2 ∉ fp1
section
variable {v1 v2:Nat->Option Value}{S1 S2:Nat->Heap->Prop}{k:Nat}
theorem Ap.ne1 (D:Ap z TI TO i1 i2 fp1 fp2)(N1:ud i1 fp1 v1 S1):i1 ≠ z/\i1 ≠ TO:=⟨λe=>D.z1 (e ▸ N1.mem),λe=>D.O1 (e ▸ N1.mem)⟩
theorem Ap.ne2 (D:Ap z TI TO i1 i2 fp1 fp2)(N2:ud i2 fp2 v2 S2):i2 ≠ z/\i2 ≠ TO:=⟨λe=>D.z2 (e ▸ N2.mem),λe=>D.O2 (e ▸ N2.mem)⟩
theorem xa {Q:Value->Shared->Prop}(N1:ud i1 fp1 v1 S1)(N2:ud i2 fp2 v2 S2)(D:Ap z TI TO i1 i2 fp1 fp2)(hz:IsZip s.heap z TI TO .none)(hTI:IsPair s.heap TI (.ref i1) (.ref i2))(hTO:IsPair s.heap TO a b)(p1:S1 k s.heap)(p2:S2 k s.heap)(hx:v1 k=some x)(hy:v2 k=some y)
  (hQ:∀h',IsZip h' z TI TO (rawInt s.heap.objs.size)->IsPair h' TO x y->S1 (k+1) h' ->S2 (k+1) h' ->IsPair h' s.heap.objs.size x y->
   (∀c o,c ≠ z->c ≠ TO->c ≠ i1->c ≠ i2->s.heap.get? c=some o->h'.get? c=some o)->Q (.ref s.heap.objs.size) { s with heap:=h' }):
  wpAny (model prog w) A (Builtin.«zip.__next__» ⟨[.ref z],[]⟩) (λfin s' =>∃v,fin= .done (.ret v)/\Q v s') E s:=by
 refine aa (m:=field (.ref z) 2) (bf hz rfl (x:= .bool false) rfl (aa (m:=field (.ref z) 3) (bf hz rfl (x:= .ref TI) rfl (aa (cx hTI rfl ?_)))));refine aa (m:=ownedTupleIsFree (.ref z)) ?_;unfold ownedTupleIsFree;refine aa (bf hz rfl (x:= .none) rfl (ar ?_));simp only[if_true];refine aa (dX (aa (bf hz rfl (x:= .ref TO) rfl (aa (bz hz (by simp) λg1 z1 e1=> ?_)))))
 replace z1:IsZip g1 z TI TO .ellipsis:=z1
 refine aa ?_;simp only[i8,ix,dQ,List.forIn_nil];refine aa (aa (wpAny_onRaise (aa (m:=nextOf (.ref i1)) (N1.item (N1.but p1 e1.extBut D.z1) hx λg2 q1 e2=>ar ?_))));have t2:IsPair g2 TO a b:=e2.extBut _ _ (D.ne1 N1).2.symm (e1.extBut _ _ D.Oz hTO);refine aa (cx t2 rfl (aa (wpAny_updateSeq_pair t2 λg3 t3 e3=> ?_)))
 replace t3:IsPair g3 TO x b:=t3
 refine aa (wpAny_letGo (ar ?_));refine aa (aa (wpAny_onRaise (aa (m:=nextOf (.ref i2)) (N2.item (N2.but (N2.but (N2.but p2 e1.extBut D.z2) e2.extBut D.a) e3.extBut D.O2) hy λg4 q2 e4=>ar ?_))));have t4:IsPair g4 TO x b:=e4.extBut _ _ (D.ne2 N2).2.symm t3;refine aa (cx t4 rfl (aa (wpAny_updateSeq_pair t4 λg5 t5 e5=> ?_)))
 replace t5:IsPair g5 TO x y:=t5
 refine aa (wpAny_letGo (ar (ar ?_)));refine aa (cx t5 rfl (aa (wpAny_newTuple ?_)));have sz:g5.objs.size=s.heap.objs.size:=by rw[e5.1,e4.1,e3.1,e2.1,e1.1]
 have z5:IsZip g5 z TI TO .ellipsis:=e5.extBut _ _ D.Oz.symm (e4.extBut _ _ (D.ne2 N2).1.symm (e3.extBut _ _ D.Oz.symm (e2.extBut _ _ (D.ne1 N1).1.symm z1)));have k5:∀c o,c ≠ z->c ≠ TO->c ≠ i1->c ≠ i2->s.heap.get? c=some o->g5.get? c=some o:=λc o c1 c2 c3 c4 e=>
  e5.extBut _ _ c2 (e4.extBut _ _ c4 (e3.extBut _ _ c2 (e2.extBut _ _ c3 (e1.extBut _ _ c1 e))))
 have r1:S1 (k+1) g5:=N1.but (N1.but (N1.but q1 e3.extBut D.O1) e4.extBut D.b) e5.extBut D.O1;have r2:S2 (k+1) g5:=N2.but q2 e5.extBut D.O2;refine aa (m:=ownedTupleHandOut (.ref z) (.ref g5.objs.size)) ?_;unfold ownedTupleHandOut;have z6:IsZip (g5.push { cls:= .type "tuple",data:= .seq #[x,y] }) z TI TO .ellipsis:=ai _ z5;refine aa (bz z6 (by simp) λg7 z7 e7=> ?_)
 replace z7:IsZip g7 z TI TO (rawInt g5.objs.size):=z7
 refine bz z7 (by simp) λg8 z8 e8=> ?_
 replace z8:IsZip g8 z TI TO (rawInt g5.objs.size):=z8
 have up:∀c o,c ≠ z->g5.get? c=some o->g8.get? c=some o:=λc o c1 e=>e8.extBut _ _ c1 (e7.extBut _ _ c1 (ai _ e));have hn:g5.objs.size ≠ z:=eV (ax z5);have t8:IsPair g8 g5.objs.size x y:=e8.extBut _ _ hn (e7.extBut _ _ hn (ao _ rfl));rw[sz]at z8 t8;refine ar ⟨_,rfl, ?_⟩;show Q (.ref g5.objs.size) _;rw[sz];exact hQ g8 z8 (up _ _ D.Oz t5) (N1.keep r1 λc hc o e=>up c o (λq=>D.z1 (q ▸ hc)) e) (N2.keep r2 λc hc o e=>up c o (λq=>D.z2 (q ▸ hc)) e) t8 λc o c1 c2 c3 c4 e=>up c o c1 (k5 c o c1 c2 c3 c4 e)
theorem xb {Q:Fin->Shared->Prop}(hh:A.handled=none)(N1:ud i1 fp1 v1 S1)(N2:ud i2 fp2 v2 S2)(D:Ap z TI TO i1 i2 fp1 fp2)(hz:IsZip s.heap z TI TO .none)(hTI:IsPair s.heap TI (.ref i1) (.ref i2))(hTO:IsPair s.heap TO a b)(p1:S1 k s.heap)(p2:S2 k s.heap)(hend:v1 k=none\/v2 k=none)
  (hE:∀h' e,(∀c o,c ≠ z->c ≠ TO->c ≠ i1->c ≠ i2->s.heap.get? c=some o->h'.get? c=some o)->(∃o,h'.get? e=some o/\o.cls= .type "StopIteration")->E (.ref e) { s with heap:=h' }):
  wpAny (model prog w) A (Builtin.«zip.__next__» ⟨[.ref z],[]⟩) Q E s:=by
 refine aa (m:=field (.ref z) 2) (bf hz rfl (x:= .bool false) rfl (aa (m:=field (.ref z) 3) (bf hz rfl (x:= .ref TI) rfl (aa (cx hTI rfl ?_)))));refine aa (m:=ownedTupleIsFree (.ref z)) ?_;unfold ownedTupleIsFree;refine aa (bf hz rfl (x:= .none) rfl (ar ?_));simp only[if_true];refine aa (dX (aa (bf hz rfl (x:= .ref TO) rfl (aa (bz hz (by simp) λg1 z1 e1=> ?_)))))
 replace z1:IsZip g1 z TI TO .ellipsis:=z1
 refine aa ?_;simp only[i8,ix,dQ,List.forIn_nil];have off:∀{g:Heap} {e:Addr} {oe:Obj},IsZip g z TI TO .ellipsis->g.get? e=some oe->oe.cls= .type "StopIteration"->e ≠ z:=λhg he hc q=>by
  subst q;rw[hg]at he;cases he;simp at hc
 cases hx:v1 k with
 | none=>
  refine aa (aa (wpAny_onRaise (aa (m:=nextOf (.ref i1)) (N1.stop hh (N1.but p1 e1.extBut D.z1) hx λg2 e e2 he=> ?_))));obtain⟨oe,ho,hc⟩:=he;have z2:IsZip g2 z TI TO .ellipsis:=e2 _ _ (D.ne1 N1).1.symm z1;exact bz z2 (by simp) λg3 _ e3=>hE g3 e (λc o c1 _ c3 _ q=>e3.extBut _ _ c1 (e2 _ _ c3 (e1.extBut _ _ c1 q))) ⟨oe,e3.extBut _ _ (off z2 ho hc) ho,hc⟩
 | some x=>
  have hy:v2 k=none:=by
   rcases hend with q | q
   ·rw[hx]at q;cases q
   ·exact q
  refine aa (aa (wpAny_onRaise (aa (m:=nextOf (.ref i1)) (N1.item (N1.but p1 e1.extBut D.z1) hx λg2 q1 e2=>ar ?_))));have t2:IsPair g2 TO a b:=e2.extBut _ _ (D.ne1 N1).2.symm (e1.extBut _ _ D.Oz hTO);refine aa (cx t2 rfl (aa (wpAny_updateSeq_pair t2 λg3 t3 e3=>aa (wpAny_letGo (ar ?_)))));refine aa (aa (wpAny_onRaise (aa (m:=nextOf (.ref i2)) (N2.stop hh (N2.but (N2.but (N2.but p2 e1.extBut D.z2) e2.extBut D.a) e3.extBut D.O2) hy λg4 e e4 he=> ?_))));obtain⟨oe,ho,hc⟩:=he;have z4:IsZip g4 z TI TO .ellipsis:=e4 _ _ (D.ne2 N2).1.symm (e3.extBut _ _ D.Oz.symm (e2.extBut _ _ (D.ne1 N1).1.symm z1));exact bz z4 (by simp) λg5 _ e5=>hE g5 e (λc o c1 c2 c3 c4 q=>e5.extBut _ _ c1 (e4 _ _ c4 (e3.extBut _ _ c2 (e2.extBut _ _ c3 (e1.extBut _ _ c1 q))))) ⟨oe,e5.extBut _ _ (off z4 ho hc) ho,hc⟩
theorem xf {Q:Option Value->Shared->Prop}(N1:ud i1 fp1 v1 S1)(N2:ud i2 fp2 v2 S2)(D:Ap z TI TO i1 i2 fp1 fp2)(hz:IsZip s.heap z TI TO .none)(hTI:IsPair s.heap TI (.ref i1) (.ref i2))(hTO:IsPair s.heap TO a b)(p1:S1 k s.heap)(p2:S2 k s.heap)(hx:v1 k=some x)(hy:v2 k=some y)
  (hQ:∀h',IsZip h' z TI TO (rawInt s.heap.objs.size)->IsPair h' TO x y->S1 (k+1) h' ->S2 (k+1) h' ->IsPair h' s.heap.objs.size x y->
   (∀c o,c ≠ z->c ≠ TO->c ≠ i1->c ≠ i2->s.heap.get? c=some o->h'.get? c=some o)->Q (some (.ref s.heap.objs.size)) { s with heap:=h' }):wpAny (model prog w) A (pyNext (.ref z)) Q E s:=by
 have ty:s.TypeIs (.ref z) "zip":=⟨_,hz,rfl⟩;unfold pyNext;exact aa (cW (bx (name:=aR "__next__") ty c_ (bU c_ ty f6
  (xa N1 N2 D hz hTI hTO p1 p2 hx hy λh' a1 a2 a3 a4 a5 a6=>ar (hQ h' a1 a2 a3 a4 a5 a6)) (eO _))))
theorem xg {Q:Option Value->Shared->Prop}(hh:A.handled=none)(N1:ud i1 fp1 v1 S1)(N2:ud i2 fp2 v2 S2)(D:Ap z TI TO i1 i2 fp1 fp2)(hz:IsZip s.heap z TI TO .none)(hTI:IsPair s.heap TI (.ref i1) (.ref i2))(hTO:IsPair s.heap TO a b)(p1:S1 k s.heap)(p2:S2 k s.heap)(hend:v1 k=none\/v2 k=none)
  (hQ:∀h',(∀c o,c ≠ z->c ≠ TO->c ≠ i1->c ≠ i2->s.heap.get? c=some o->h'.get? c=some o)->Q none { s with heap:=h' }):wpAny (model prog w) A (pyNext (.ref z)) Q E s:=by
 have ty:s.TypeIs (.ref z) "zip":=⟨_,hz,rfl⟩;unfold pyNext;refine aa (cW (bx (name:=aR "__next__") ty c_ (bU c_ ty f6
  (xb hh N1 N2 D hz hTI hTO p1 p2 hend λh' e kp he=> ?_) (eO _))))
 obtain⟨o,ho,hc⟩:=he;exact aa (wpAny_isInstance (T:="StopIteration") (b:=true) ⟨o,ho,hc⟩ isSubtype_stop (ar (hQ _ kp)))
end
end PySem.ZG
namespace PySem.ZG
open PySem PySem.Spec PySem.Builtin.SmallTypes
structure xh (l:Addr) (o:Obj) (P:Heap->Prop):Prop where
 go:∀{prog:Program} {w:World} {A:Around} {E:Value->Shared->Prop} {s:Shared} {Q:Value->Shared->Prop},P s.heap->Q (.ref s.heap.objs.size) { s with heap:=s.heap.push o }->wpAny (model prog w) A (pyIter (.ref l)) Q E s
 push:∀{h:Heap} (o' :Obj),P h->P (h.push o')
 fresh:o.isFreed=false
abbrev oL (l:Addr):Obj:={ cls:= .type "list_iterator",data:= .fields #[.ref l,.int 0 0] }
abbrev oT (l:Addr):Obj:={ cls:= .type "tuple_iterator",data:= .fields #[.ref l,.int 0 0] }
theorem xi (l:Addr)(xs:Array Value):xh l (oL l) (λh=>h.IsList l xs):=⟨λp q=>wpAny_pyIter_list p q,λo p=>Heap.IsList.push p o,rfl⟩
theorem Kc (l:Addr)(xs:Array Value):xh l (oT l) (λh=>h.IsTuple l xs):=⟨λp q=>wpAny_pyIter_tuple p q,λo p=>Heap.IsTuple.push p o,rfl⟩
abbrev zh2 (h:Heap)(o1 o2:Obj):Heap:=(h.push o1).push o2
abbrev zh3 (h:Heap)(o1 o2:Obj):Heap:=(zh2 h o1 o2).push { cls:= .type "tuple",data:= .seq #[.ref h.objs.size,.ref (h.push o1).objs.size] }
abbrev zh4 (h:Heap)(o1 o2:Obj):Heap:=(zh3 h o1 o2).push { cls:= .type "tuple",data:= .seq #[.none,.none] }
abbrev zh5 (h:Heap)(o1 o2:Obj):Heap:=(zh4 h o1 o2).push { cls:= .type "zip",data:= .fields #[.none,.bool false,.bool false,.ref (zh2 h o1 o2).objs.size,.ref (zh3 h o1 o2).objs.size] }
theorem Ke {P1 P2:Heap->Prop}(J1:xh l1 o1 P1)(J2:xh l2 o2 P2):
  Meets (Builtin.«zip.__new__» ⟨[.type "zip",.ref l1,.ref l2],[]⟩) (λ_ R s=>P1 s.heap/\P2 s.heap/\R (.ok (.ret (.ref (zh4 s.heap o1 o2).objs.size))) { s with heap:=zh5 s.heap o1 o2 }):=
 .of_wp λprog w A R s h=>by
  obtain⟨hp,g,d,tk,os⟩:=s;obtain⟨q1,q2,h⟩:=h;have hsub:=sub_zip;have c1:P1 (Shared.heap ⟨hp,g,d,tk,os⟩):=q1;have c2:P2 (Shared.heap ⟨hp.push o1,g,d,tk,os⟩):=J2.push o1 q2
  wp_walk using J1.go c1,J2.go c2
  exact⟨_,rfl,h⟩
end PySem.ZG
namespace PySem.ZG
open PySem PySem.Spec PySem.Builtin.SmallTypes
theorem xj {P1 P2:Heap->Prop}(J1:xh l1 o1 P1)(J2:xh l2 o2 P2)(q1:P1 s.heap)(q2:P2 s.heap)
  (h:∀h' n,n=s.heap.objs.size->IsZip h' (n+4) (n+2) (n+3) .none->IsPair h' (n+2) (.ref n) (.ref (n+1))->IsPair h' (n+3) .none .none->h'.get? n=some o1->h'.get? (n+1)=some o2->
   (∀c o,s.heap.get? c=some o->h'.get? c=some o)->Q (.ref (n+4)) { s with heap:=h' }):wpAny (model prog w) A (call (.type "zip") [.ref l1,.ref l2]) Q E s:=by
 refine callType_new PySem.F.called_zip (by decide) (PySem.F.typeCall_zip_2 _ _) (PySem.F.newCall_zip_2 _ _) (λobj=>PySem.F.args_object_init_3 obj _ _) PySem.F.entry_zip_new (Ke J1 J2) ⟨q1,q2, ?_⟩
 have n1:(s.heap.push o1).objs.size=s.heap.objs.size+1:=bZ ..;have n2:(zh2 s.heap o1 o2).objs.size=s.heap.objs.size+2:=by rw[bZ,n1]
 have n3:(zh3 s.heap o1 o2).objs.size=s.heap.objs.size+3:=by rw[bZ,n2]
 have n4:(zh4 s.heap o1 o2).objs.size=s.heap.objs.size+4:=by rw[bZ,n3]
 have up:∀{h:Heap} {c:Addr} {o:Obj} (o' :Obj),h.get? c=some o->(h.push o').get? c=some o:=λo' e=>ai o' e;have e5:(zh5 s.heap o1 o2).get? (zh4 s.heap o1 o2).objs.size=some _:=ao _ rfl;have e4:(zh5 s.heap o1 o2).get? (zh3 s.heap o1 o2).objs.size=some _:=up _ (ao _ rfl);have e3:(zh5 s.heap o1 o2).get? (zh2 s.heap o1 o2).objs.size=some _:=up _ (up _ (ao _ rfl));have e2:(zh5 s.heap o1 o2).get? (s.heap.push o1).objs.size=some _:=up _ (up _ (up _ (ao _ J2.fresh)));have e1:(zh5 s.heap o1 o2).get? s.heap.objs.size=some _:=up _ (up _ (up _ (up _ (ao _ J1.fresh))));show _/\_;rw[n2,n3,n4]at e5;rw[n1,n2]at e3;rw[n3]at e4;rw[n1]at e2;rw[n4];exact⟨⟨_,e5,rfl⟩,h _ _ rfl e5 e3 e4 e1 e2 λc o q=>up _ (up _ (up _ (up _ (up _ q))))⟩
end PySem.ZG
namespace PV
open PySem PySem.Spec PyProof.Rows L2 PySem.ZG
inductive SK where
 | l | t
def SK.it:SK->Heap->Addr->Addr->Nat->Prop
 | .l=>λh i l k=>h.IsListIter i l k
 | .t=>λh i l k=>h.IsTupleIter i l k
def SK.has:SK->Heap->Addr->Array Value->Prop
 | .l=>λh l xs=>h.IsList l xs
 | .t=>λh l xs=>h.IsTuple l xs
def SK.sq (K:ac):SK->Hp->Addr->List V->Prop
 | .l=>λH a xs=>SqL K H a xs
 | .t=>λH a xs=>SqT K H a xs
def SK.tr:SK->List V->HO
 | .l=> .lst
 | .t=> .tup
def SK.ob:SK->Addr->Obj
 | .l=>oL
 | .t=>oT
theorem SK.nx (k:SK){i l:Addr}(h:l ≠ i)(xs:Array Value):ud i [i,l] (λn=>xs[n]?) (λn hp=>k.it hp i l n/\k.has hp l xs):=by
 cases k with
 | l=>exact x6 h xs
 | t=>exact Kb h xs
theorem SK.of (k:SK)(l:Addr)(xs:Array Value):xh l (k.ob l) (λh=>k.has h l xs):=by
 cases k with
 | l=>exact xi l xs
 | t=>exact Kc l xs
theorem SK.start (k:SK){h:Heap}{i l:Addr}(e:h.get? i=some (k.ob l)):k.it h i l 0:=by
 cases k with
 | l=>exact⟨_,e,rfl,rfl⟩
 | t=>exact⟨_,e,rfl,rfl⟩
theorem SK.obj {k:SK}{h:Heap}{i l:Addr}{n:Nat}(x:k.it h i l n):∃o,h.get? i=some o/\∀v,o.data ≠ .cell v:=by
 cases k with
 | l=>obtain⟨o,e,_,d⟩:=x;exact⟨o,e,λv z=>by rw[d]at z;cases z⟩
 | t=>obtain⟨o,e,_,d⟩:=x;exact⟨o,e,λv z=>by rw[d]at z;cases z⟩
theorem SK.at_ {k:SK}{h h' :Heap}{i l:Addr}{n:Nat}(x:k.it h i l n)(q:∀o,h.get? i=some o->h'.get? i=some o):k.it h' i l n:=by
 cases k with
 | l=>obtain⟨o,e,r⟩:=x;exact⟨o,q o e,r⟩
 | t=>obtain⟨o,e,r⟩:=x;exact⟨o,q o e,r⟩
theorem SK.sqOf {K:ac}(k:SK){H:Hp}{a:Addr}{xs:List V}(e:H a=some (k.tr xs)):k.sq K H a xs:=by
 cases k with
 | l=>exact SqL.of e
 | t=>exact SqT.of e
theorem Inv.seq (I:L2.Inv X pins σ H s)(k:SK)(h:k.sq X.K H a xs):∃its:List Value,zU xs its/\k.has s.heap a its.toArray/\∃o,s.heap.get? a=some o:=by
 cases k with
 | l=>
  obtain⟨its,r,p,_⟩:=I.list h;obtain⟨o,_,e,_⟩:=id p;exact⟨its,r,p.isList,o,e⟩
 | t=>
  obtain⟨its,r,p,_⟩:=I.tuple h;obtain⟨o,e,_⟩:=id p;exact⟨its,r,p,o,e⟩
def Itz (K:ac)(k1 k2:SK)(l1 l2:Addr):It:=
 ⟨λi H=>∃xs ys x y,k1.sq K H l1 xs/\k2.sq K H l2 ys/\xs[i]? =some x/\ys[i]? =some y,λi H v H' =>∃p x y,H p=none/\v= .ref p/\(∀xs,k1.sq K H l1 xs->xs[i]? =some x)/\(∀ys,k2.sq K H l2 ys->ys[i]? =some y)/\H' =upd H p (.tup [x,y]),
  λi H=>∃xs ys,k1.sq K H l1 xs/\k2.sq K H l2 ys/\(xs.length<=i\/ys.length<=i)⟩
theorem Inv.seq_inj (I:L2.Inv X pins σ H s)(k:SK)(h:k.sq X.K H a xs)(h' :k.sq X.K H a ys):xs=ys:=by
 cases k with
 | l=>exact I.list_inj h h'
 | t=>exact I.tuple_inj h h'
theorem nN {a b:Nat}(h:a ≠ b): @Ne Addr a b:=h
theorem nM {a b c:Nat}(h:a ≠ b)(h' :a ≠ c):¬ @Membership.mem Addr (List Addr) _ [b,c] a:=λq=>by
 rcases aG.mp q with z | z
 ·exact h z
 ·exact h' (aY.mp z)
theorem Qm {P:Program}{w:World}{K:ac}{elts:List Expr}{kk:Nat}{pt:Pos}(k1 k2:SK){n l1 l2:Nat}(h1:l1 < n)(h2:l2 < n):
  yi P w K (.Tuple elts kk pt) (Itz K k1 k2 l1 l2) [n+4,n+2,n+3,n,n+1] (n+4)
   (λi h=>IsZip h (n+4) (n+2) (n+3) .none/\IsPair h (n+2) (.ref n) (.ref (n+1))/\(∃a b,IsPair h (n+3) a b)/\k1.it h n l1 i/\k2.it h (n+1) l2 i):=by
 have D:Ap (n+4) (n+2) (n+3) n (n+1) [n,l1] [n+1,l2]:=by
  refine⟨nN (by omega),nN (by omega),nN (by omega),nN (by omega),nN (by omega),nM (by omega) (by omega),nM (by omega) (by omega),nM (by omega) (by omega),nM (by omega) (by omega),nM (by omega) (by omega),nM (by omega) (by omega)⟩
 refine⟨by simp,λi h st b hb=> ?_,λi h h' st k=> ?_, ?_, ?_, ?_⟩
 ·obtain⟨hz,hI,⟨a,c,hO⟩,p1,p2⟩:=st;simp only[aG,bP,or_false]at hb;rcases hb with rfl | rfl | rfl | rfl | rfl
  ·exact⟨_,hz,λv z=>nomatch z⟩
  ·exact⟨_,hI,λv z=>nomatch z⟩
  ·exact⟨_,hO,λv z=>nomatch z⟩
  ·exact SK.obj p1
  ·exact SK.obj p2
 ·obtain⟨hz,hI,⟨a,c,hO⟩,p1,p2⟩:=st;exact⟨k _ (by simp) _ hz,k _ (by simp) _ hI,⟨a,c,k _ (by simp) _ hO⟩,SK.at_ p1 λo e=>k n (by simp) o e,SK.at_ p2 λo e=>k (n+1) (by simp) o e⟩
 ·intro X hP hw hK hc i pins s σ H E I hf st hg;subst hP hw hK;obtain⟨xs,ys,x,y,s1,s2,hx,hy⟩:=hg;obtain⟨hz,hI,⟨a,c,hO⟩,p1,p2⟩:=st;obtain⟨its1,r1,b1,_⟩:=Inv.seq I k1 s1;obtain⟨its2,r2,b2,_⟩:=Inv.seq I k2 s2;obtain⟨u,hu,ru⟩:=r1.get hx;obtain⟨v,hv,rv⟩:=r2.get hy;refine xf (k1.nx (aL h1) its1.toArray) (k2.nx (i:=n+1) (nN (by omega)) its2.toArray) D hz hI hO ⟨p1,b1⟩ ⟨p2,b2⟩ (x:=u) (y:=v) (by simpa using hu) (by simpa using hv) λg a1 a2 a3 a4 a5 kp=>⟨_,rfl, ?_⟩
  refine wpAny_letOwnedTupleGo_zip a1 λg2 z2 e2=> ?_;have hlt:n+4 < s.heap.objs.size:=ax hz;have ne:∀b:Nat,b<=n+4->s.heap.objs.size ≠ b:=λb hb=>by
   have hlt:n+4 < s.heap.objs.size:=hlt;omega
  have kp2:∀b o,b ∉ [n+4,n+2,n+3,n,n+1]->s.heap.get? b=some o->g2.get? b=some o:=λb o hb e=>by
   simp only[aG,bP,or_false,not_or]at hb;exact e2.extBut _ _ hb.1 (kp b o hb.1 hb.2.2.1 hb.2.2.2.1 hb.2.2.2.2 e)
  have g2P:IsPair g2 s.heap.objs.size u v:=e2.extBut _ _ (ne _ (am _)) a5;have g2I:IsPair g2 (n+2) (.ref n) (.ref (n+1)):=e2.extBut _ _ D.Iz (kp _ _ D.Iz D.IO D.I1 D.I2 hI);have g2O:IsPair g2 (n+3) u v:=e2.extBut _ _ D.Oz a2;have q1:k1.it g2 n l1 (i+1):=SK.at_ a3.1 λo e=>e2.extBut _ _ (nN (by omega)) e
  have q2:k2.it g2 (n+1) l2 (i+1):=SK.at_ a4.1 λo e=>e2.extBut _ _ (nN (by omega)) e
  have hfr:H s.heap.objs.size=none:=I.hok.fresh (am _);refine⟨.ref s.heap.objs.size,upd H s.heap.objs.size (.tup [x,y]),Inv.laidT (s:=s) (h' :=g2) (ch:=[n+4,n+2,n+3,n,n+1]) (tk:=s.toks) I hf kp2 (λb o hb _=> ?_) (am _)
   ⟨by rw[bY];show 2<=16777216;decide,[u,v],.cons ru (.cons rv .nil),⟨_,g2P,rfl,_,rfl⟩,.inr ⟨_,g2P,rfl⟩⟩,rfl,⟨_,x,y,hfr,rfl,λzs hq=>by rw[← Inv.seq_inj I k1 s1 hq];exact hx,λzs hq=>by rw[← Inv.seq_inj I k2 s2 hq];exact hy,rfl⟩,⟨z2,g2I,⟨u,v,g2O⟩,q1,q2⟩,λb hb=> ?_⟩
  ·simp only[aG,bP,or_false]at hb;rcases hb with rfl | rfl | rfl | rfl | rfl
   ·exact⟨_,z2⟩
   ·exact⟨_,g2I⟩
   ·exact⟨_,g2O⟩
   ·obtain⟨o',e',_⟩:=SK.obj q1;exact⟨o',e'⟩
   ·obtain⟨o',e',_⟩:=SK.obj q2;exact⟨o',e'⟩
  ·have hb2:(b:Nat)<=n+4:=by
    have hb:b=n+4\/b=n+2\/b=n+3\/b=n\/b=n+1:=by simpa using hb
    rcases hb with rfl | rfl | rfl | rfl | rfl
    ·exact am _
    ·exact dS (by decide) n
    ·exact dS (by decide) n
    ·exact dg _ _
    ·exact dS (by decide) n
   rw[zn λz=>ne b hb2 z.symm];exact(hf b hb).1
 ·intro X hP hw hK hc i pins s σ H E I hf st hg;subst hP hw hK;obtain⟨xs,ys,s1,s2,hend⟩:=hg;obtain⟨hz,hI,⟨a,c,hO⟩,p1,p2⟩:=st;obtain⟨its1,r1,b1,_⟩:=Inv.seq I k1 s1;obtain⟨its2,r2,b2,_⟩:=Inv.seq I k2 s2;have l1' :=r1.length;have l2' :=r2.length;refine xg (I.ok.hd hc) (k1.nx (aL h1) its1.toArray) (k2.nx (i:=n+1) (nN (by omega)) its2.toArray) D hz hI hO ⟨p1,b1⟩ ⟨p2,b2⟩ (k:=i) ?_ λg kp=>⟨rfl, ?_⟩
  ·rcases hend with q | q
   ·exact .inl (cS (by rw[aA,← l1'];exact q))
   ·exact .inr (cS (by rw[aA,← l2'];exact q))
  ·have kp2:∀b o,b ∉ [n+4,n+3,n,n+1]->s.heap.get? b=some o->g.get? b=some o:=λb o hb e=>by
    simp only[aG,bP,or_false,not_or]at hb;exact kp b o hb.1 hb.2.1 hb.2.2.1 hb.2.2.2 e
   have nch:∀b u,H b=some u->b ∉ [n+4,n+3,n,n+1]:=λb u e hb=>by
    have hb' :b∈[n+4,n+2,n+3,n,n+1]:=by
     simp only[aG,bP,or_false]at hb ⊢;rcases hb with q | q | q | q
     ·exact .inl q
     ·exact .inr (.inr (.inl q))
     ·exact .inr (.inr (.inr (.inl q)))
     ·exact .inr (.inr (.inr (.inr q)))
    rw[(hf b hb').1]at e;cases e
   refine I.call' (s' :={ s with heap:=g }) (ch:=[n+4,n+3,n,n+1]) rfl ⟨λb o e _ _ hc=>kp2 b o hc e,λb o e _ _ hc=>⟨o.slots,kp2 b o hc e⟩,λb o e q _=>q,λb o e hc=>⟨o,kp2 b o hc e⟩,λb ys e=>e,λb o u e=>e,λ_ _ _ e=>e⟩ (λb u e=> ?_) I.bare λb hb=> ?_
   ·refine(I.hok b u e).stay (λc v hc q=>kp2 c v ?_ q) (λ_ q=>q) λ_ _ q=>q;rcases hc with rfl | hc
    ·exact nch c u e
    ·exact nch c _ hc
   ·have hb' :b∈[n+4,n+2,n+3,n,n+1]:=by
     simp only[aG,bP,or_false]at hb ⊢;rcases hb with q | q | q | q
     ·exact .inl q
     ·exact .inr (.inr (.inl q))
     ·exact .inr (.inr (.inr (.inl q)))
     ·exact .inr (.inr (.inr (.inr q)))
    obtain⟨f0,f1,f2,f3,f4,f5⟩:=hf b hb';exact⟨f3,f1,f4,f5⟩
 ·intro A i s Q E st h;exact wpAny_pyIter_zip st.1 h
def qH (xs ys:List T):List T:=(xs.zip ys).map λp=>T.tup [p.1,p.2]
theorem Qn {i:Nat}(h:(qH xs ys)[i]? =some t):∃x y,xs[i]? =some x/\ys[i]? =some y/\t= .tup [x,y]:=by
 unfold qH at h;rw[au]at h;cases e:(xs.zip ys)[i]? with
 | none=>rw[e]at h;cases h
 | some p=>
  rw[e]at h;cases h;have:=List.getElem?_zip_eq_some.mp e;exact⟨p.1,p.2,this.1,this.2,rfl⟩
theorem ue (xs ys:List T):(qH xs ys).length=min xs.length ys.length:=by unfold qH;simp
theorem Kf {K:ac}{B1 H1:Hp}{k1 k2:SK}{a b:Addr}{xs ys:List V}{ts us:List T}(ha:B1 a=some (k1.tr xs))(hb:B1 b=some (k2.tr ys))(ra:zz B1 xs ts)(rb:zz B1 ys us):rI B1 H1 (Itz K k1 k2 a b) (qH ts us):=λB2 H2 s1 s2=>by
 have a2:=k1.sqOf (K:=K) (s2 _ _ (s1 _ _ ha));have b2:=k2.sqOf (K:=K) (s2 _ _ (s1 _ _ hb));rw[ue];refine⟨λi hi=> ?_,λi t x H3 e y=> ?_,λi hi=>⟨xs,ys,a2,b2, ?_⟩⟩
 ·obtain⟨v,e1,_⟩:=ra.get (aj (show i < ts.length by omega))
  obtain⟨u,e2,_⟩:=rb.get (aj (show i < us.length by omega))
  exact⟨xs,ys,v,u,a2,b2,e1,e2⟩
 ·obtain⟨p,v,u,hp,rfl,y1,y2,rfl⟩:=y;obtain⟨t1,t2,et,eu,rfl⟩:=Qn e;obtain⟨v',e1,r1⟩:=ra.get et;obtain⟨u',e2,r2⟩:=rb.get eu;have q1:=y1 xs a2;have q2:=y2 ys b2;rw[e1]at q1;cases q1;rw[e2]at q2;cases q2;have up:=zE.ge s2 (zl.new hp (.tup [v,u]));exact⟨zl.new hp _,.tup (jY hp _) (.cons ((r1.mono s1).mono up) (.cons ((r2.mono s1).mono up) .nil))⟩
 ·rw[ra.length,rb.length];omega
section
variable {kk:Nat}
theorem Kg {ta:TA}(hg:Gl X "zip")(hm:X.mg "zip"=none)(ha:PA X [a,b] ta)(hs:starEach [a,b] X.env=[(false,eval a X.env),(false,eval b X.env)])(hs2:starEach [b] X.env=[(false,eval b X.env)]):
  PI X (.Tuple elts kk pt) (.Call (.Name "zip" p) [a,b] [] pos) (λσ H R=>ta σ H λvs H1=>∃k1 k2 l1 l2 xs ys,vs=[.ref l1,.ref l2]/\H1 l1=some (SK.tr k1 xs)/\H1 l2=some (SK.tr k2 ys)/\R (Itz X.K k1 k2 l1 l2) H1):=by
 intro pins s σ H R I h;refine Call_ (jv I hg hm PyProof.Rows.Boot.«zip» (aZ (thn (ha pos pins s σ H _ I h) λus s1 ⟨vs,H1,I1,r1,q1⟩=> ?_) (by rw[hs,hs2]) (by rw[hs2];rfl)))
 obtain⟨k1,k2,l1,l2,xs,ys,e,h1,h2,q⟩:=q1;subst e;obtain⟨u,v,rfl,ru,rv⟩:=yo r1;obtain rfl:u=Value.ref l1:=ru;obtain rfl:v=Value.ref l2:=rv;obtain⟨its1,_,b1,o1,e1⟩:=Inv.seq I1 k1 (k1.sqOf h1);obtain⟨its2,_,b2,o2,e2⟩:=Inv.seq I1 k2 (k2.sqOf h2);refine xj (k1.of l1 its1.toArray) (k2.of l2 its2.toArray) b1 b2 λg n hn z1 z2 z3 z4 z5 kp=>wpAny_pyIter_zip z1 ?_;subst hn;have f:∀b∈[s1.heap.objs.size+4,s1.heap.objs.size+2,s1.heap.objs.size+3,s1.heap.objs.size,s1.heap.objs.size+1],WT X pins H1 b:=λb hb=>by
  have hb' :s1.heap.objs.size<=b:=by
   simp only[aG,bP,or_false]at hb;rcases hb with rfl | rfl | rfl | rfl | rfl
   ·exact dg _ _
   ·exact dg _ _
   ·exact dg _ _
   ·exact am _
   ·exact dg _ _
  exact I1.fpOk hb' (I1.hok.fresh hb')
 exact⟨s1.heap.objs.size+4,_,_,_,H1,rfl,I1.kept (t' :=s1.toks) kp,Qm k1 k2 (ax e1) (ax e2),⟨z1,z2,⟨_,_,z3⟩,SK.start k1 z4,SK.start k2 z5⟩,f,q⟩
def J6:T->R (List T)
 | .lst xs=> .ok xs
 | .tup xs=> .ok xs
 | _=> .bad
def Kh (fa fb:En->R T):En->R (List T):=λρ=>(fa ρ).bind λt=>(fb ρ).bind λu=>(J6 t).bind λxs=>(J6 u).bind λys=> .ok (qH xs ys)
theorem Ye (r:Rep B v t)(e:J6 t= .ok xs):∃(k:SK) (a:Addr) (vs:List V),v= .ref a/\B a=some (k.tr vs)/\zz B vs xs:=by
 cases r with
 | lst h r=>cases e;exact⟨.l,_,_,rfl,h,r⟩
 | tup h r=>cases e;exact⟨.t,_,_,rfl,h,r⟩
 | _=>cases e
theorem uP (t:T)(c:Nat):J6 t ≠ .ex c:=by cases t <;> exact λz=>nomatch z
theorem z0F (hg:Gl X "zip")(hm:X.mg "zip"=none)(ha:Snd X Y a fa)(hb:Snd X Y b fb)(hs:starEach [a,b] X.env=[(false,eval a X.env),(false,eval b X.env)]:=by exact st2 rfl rfl)(hs2:starEach [b] X.env=[(false,eval b X.env)]:=by exact st1 rfl):
  UZ X Y (.Tuple elts kk pt) (.Call (.Name "zip" p) [a,b] [] pos) (Kh fa fb):= .mk λρ=>
 PI.imp (Kg hg hm (zq (ha ρ) (zq (hb ρ) Z6 hs2) (by rw[hs,hs2])) hs hs2) λσ H R ⟨B,I,q⟩=>step I q λt v H1 _ s1 r1 I1 q1=>step I1 q1 λu v' H2 _ s2 r2 I2 q2=>by
  cases e1:J6 t with
  | bad=>rw[e1]at q2;exact q2.elim
  | ex c=>exact absurd e1 (uP _ _)
  | ok xs=>
   rw[e1]at q2;cases e2:J6 u with
   | bad=>rw[e2]at q2;exact q2.elim
   | ex c=>exact absurd e2 (uP _ _)
   | ok ys=>
    rw[e2]at q2;obtain⟨k1,a1,vs1,rfl,h1,w1⟩:=Ye (r1.mono (zE.ge I1.sB s2)) e1;obtain⟨k2,a2,vs2,rfl,h2,w2⟩:=Ye r2 e2;exact⟨k1,k2,a1,a2,vs1,vs2,rfl,I2.sB _ _ h1,I2.sB _ _ h2,ZC I2 (show Po Y rI _ H2 (.ok (qH xs ys)) R from q2) (Kf h1 h2 w1 w2)⟩
end
end PV
namespace PV
open PySem PySem.Spec PyProof.Rows L2
section
def Wa:T->R T
 | .bl b=> .ok (.int (b2 b))
 | .int i=> .ok (.int i)
 | _=> .bad
theorem z0G (v:V)(t:T)(B H:Hp)(Q:VK)(r:Rep B v t)(sB:zl B H)(q:Po Y rC B H (Wa t) Q):
  (∃i,[v]=[V.int i]/\Q (.int i) H)\/∃k,[v]=[V.bl k]/\Q (.int (if k then 1 else 0)) H:=by
 cases r with
 | int i=>exact .inl ⟨i,rfl,po0 sB q rfl (.int i)⟩
 | bl k=>exact .inr ⟨k,rfl,po0 sB q rfl (by cases k <;> exact .int _)⟩
 | _=>exact q.elim
theorem Ki (gl:Gl X "int")(mg:X.mg "int"=none)(ha:Snd X Y a fa)(hs:St1 X a:=by exact st1 rfl):Snd X Y (.Call (.Name "int" p) [a] [] pos) (ap1 Wa fa):=
 vo yr z0G gl mg (PyProof.Rows.Boot.«int») ha hs
theorem Yf:ZQ X (.type "range") (λxs H Q=>∃i j,xs=[.int i,.int j]/\∀r,H r=none->Q (.ref r) (upd H r (.rng i j))):=by
 intro pins s σ H xs us Q I r h;obtain⟨i,j,rfl,q⟩:=h;obtain⟨u,v,rfl,ru,rv⟩:=yo r;obtain⟨t,rfl⟩:=ru;obtain⟨t',rfl⟩:=rv;exact call_range_2 ⟨.ref s.heap.objs.size,_,I.laid (t' :=s.toks+1) (λb o e=>ai _ e) (am _) (show Zi X.prog X.w _ _ _ (.rng i j) from ⟨_,_,_,ao _ rfl⟩),rfl,q _ (I.hok.fresh (am _))⟩
def qI (lo:Int)(n:Nat):List V:=(aW n).map λ(i:Nat)=>V.int (lo+(i:Int))
theorem wS (hh:X.A.handled=none):ZQ X (.type "list") (λxs H Q=>∃r lo hi,xs=[.ref r]/\H r=some (.rng lo hi)/\(-1000000 < lo/\lo < 1000000/\ -1000000 < hi/\hi < 1000000)/\∀l,H l=none->Q (.ref l) (upd H l (.lst (qI lo (hi - lo).toNat)))):=by
 intro pins s σ H xs us Q I rv h;obtain⟨r,lo,hi,rfl,e,⟨c1,c2,c3,c4⟩,q⟩:=h;obtain⟨u,rfl,ru⟩:=jr rv;obtain rfl:u=Value.ref r:=ru;obtain⟨t,v,v',eo⟩:=(show Zi X.prog X.w H s.heap r (.rng lo hi) from I.hok r _ e);have hn:eK lo hi 1=((hi - lo).toNat:Int):=by rw[rangeSize_one];split <;> omega
 refine call_list_range (n:=(hi - lo).toNat) hh eo (small_one (by omega) (by omega) (by omega) (by omega)) hn (by omega) λh' tk acc c kp eo' hacc=> ?_
 have hv:zU (qI lo (hi - lo).toNat) acc.toList:=by
  have key:∀(n:Nat) (lo:Int) (vs:List Value),vs.length=n->(∀(j:Nat) (v:Value),vs[j]? =some v->∃t,v=Value.int (lo+(j:Int)) t)->zU (qI lo n) vs:=by
   intro n
   induction n with
   | zero=>
    intro lo vs hl _;rw[List.eq_nil_of_length_eq_zero hl];exact .nil
   | succ n ih=>
    intro lo vs hl hv;cases vs with
    | nil=>cases hl
    | cons v vs=>
     have e:qI lo (n+1)=V.int (lo+0) :: qI (lo+1) n:=by
      unfold qI;rw[cR,aI,br];refine congrArg _ (cj λj _=> ?_);show V.int (lo+((j+1:Nat):Int))=V.int (lo+1+(j:Int));congr 1;omega
     rw[e];refine .cons (hv 0 v rfl) (ih (lo+1) vs (by simpa using hl) λj x hx=> ?_)
     obtain⟨t,z⟩:=hv (j+1) x (by simpa using hx)
     exact⟨t,by rw[z];congr 1;omega⟩
  refine key _ lo acc.toList (by simpa using hacc.1) λj v hj=> ?_
  obtain⟨t,z⟩:=hacc.2 j v (by simpa using hj)
  exact⟨t,by rw[z];congr 1;omega⟩
 have hz:(qI lo (hi - lo).toNat).length<=sizeLine:=by
  rw[bY];unfold qI;rw[ae,bR];omega
 exact⟨.ref s.heap.objs.size,_,I.laid (t' :=tk) kp (am _) (show Zi X.prog X.w _ h' _ (.lst _) from ⟨hz,acc.toList,c,hv,by simpa using eo'⟩),rfl,q _ (I.hok.fresh (am _))⟩
def G6 (fi:En->R (List T)):En->R T:=λρ=>(fi ρ).bind λts=> .ok (.lst ts)
theorem Yg (lo:Int)(n:Nat):zz B (qI lo n) (rng lo n):=by
 unfold qI rng
 induction aW n with
 | nil=>exact .nil
 | cons i is ih=>exact .cons (.int _) ih
theorem xk (hh:X.A.handled=none)(gl:Gl X "list")(mg:X.mg "list"=none)(gl' :Gl X "range")(mg' :X.mg "range"=none)(ha:Snd X Y a fa)(hb:Snd X Y b fb)
  (hs:starEach [a,b] X.env=[(false,eval a X.env),(false,eval b X.env)]:=by exact st2 rfl rfl) (hs2:St1 X b:=by exact st1 rfl):Snd X Y (.Call (.Name "list" p) [.Call (.Name "range" p') [a,b] [] pos'] [] pos) (G6 (Jo fa fb)):= .mk λρ=>
 PE.imp (jK (wS hh) gl mg PyProof.Rows.Boot.«list» (zq (jK Yf gl' mg' boot_range (zq (ha ρ) (zq (hb ρ) Z6 hs2) (by rw[hs,hs2])) (by decide) (by decide) (by rw[hs,hs2]) (by rw[hs2];rfl)) Z6 (st1 rfl)) (by decide) (by decide) (st1 rfl) rfl) λσ H Q ⟨B,I,q⟩=>by
  have q:Po Y rC B H ((fa ρ).bind λt=>(fb ρ).bind λt' =>(match t,t' with | .int i,.int j=>if -1000000 < i/\i < 1000000/\ -1000000 < j/\j < 1000000 then R.ok (rng i (j - i).toNat) else .bad | _,_=> .bad).bind λts=> .ok (.lst ts)) Q:=by
   revert q;unfold G6 Jo;cases fa ρ with
   | ok t=>cases fb ρ <;> exact λq=>q
   | ex c=>exact λq=>q
   | bad=>exact λq=>q
  refine step I q λt v H1 _ s1 r1 I1 q1=>step I1 q1 λt' v' H2 _ s2 r2 I2 q2=> ?_;cases r1 with
  | int i=>
   cases r2 with
   | int j=>
    by_cases c: -1000000 < i/\i < 1000000/\ -1000000 < j/\j < 1000000
    ·dsimp only at q2;rw[if_pos c]at q2;refine⟨i,j,rfl,λr hr=>⟨r,i,j,rfl,zB,c,λl hl=> ?_⟩⟩;have hlr:l ≠ r:=λz=>by rw[z,zB]at hl;cases hl
     have hl2:H2 l=none:=by rw[zn hlr]at hl;exact hl
     refine q2 _ _ (zl.new hr _ |>.trans (zl.new hl _)) (.lst ?_ (Yg _ _))
     rw[Z0 hl2,zB]
    ·dsimp only at q2;rw[if_neg c]at q2;exact q2.elim
   | _=>exact q2.elim
  | _=>cases r2 <;> exact q2.elim
def mvS (i j:Nat):En->RS:=λρ=>match ρ[j]? with
 | some (.ow ts)=> .nx ((ρ.set j (.vl (.lst ts))).set i (.vl (.lst ts)))
 | _=> .bad
theorem SI.give (I:SI Y B ρ σ H){j:Nat}(hj:ρ[j]? =some (.ow ts)):∃(a:Addr) (B' :Hp),σ[j]? =some (some (V.ref a))/\zl B B' /\Rep B' (.ref a) (.lst ts)/\SI Y B' (ρ.set j (.vl (.lst ts))) σ H:=by
 obtain⟨a,xs,e,b0,h0,hh,rr,d⟩:=I.ow j ts hj;have s1:zl B (upd B a (.lst xs)):=zl.new b0 _;have rp:Rep (upd B a (.lst xs)) (.ref a) (.lst ts):= .lst zB (rr.mono s1);refine⟨a,_,e,s1,rp,⟨I.s0,I.sH,λb o q=> ?_,λb o q=> ?_,by rw[aP];exact I.len,λk t q=> ?_,λk us q=> ?_,λk c q=> ?_, ?_⟩⟩
 ·by_cases hb:b=a
  ·subst hb;rw[zB]at q;cases q;exact hh
  ·rw[zn hb]at q;exact I.sB b o q
 ·rw[zn λz=>by rw[z,h0]at q;cases q];exact I.old b o q
 ·rcases zk q with ⟨rfl,z⟩ | ⟨_,z⟩
  ·cases z;exact⟨_,e,rp⟩
  ·obtain⟨v,e1,r⟩:=I.vl k t z;exact⟨v,e1,r.mono s1⟩
 ·rcases zk q with ⟨rfl,z⟩ | ⟨hk,z⟩
  ·cases z
  ·obtain⟨a',xs',e',b0',h0',hh',rr',d'⟩:=I.ow k us z;have hne:a' ≠ a:=λw=>by subst w;exact d k us hk z e'
   refine⟨a',xs',e',by rw[zn hne];exact b0',h0',hh',rr'.mono s1,λm ws hm hw=> ?_⟩
   rcases zk hw with ⟨rfl,w⟩ | ⟨_,w⟩
   ·cases w
   ·exact d' m ws hm w
 ·rcases zk q with ⟨rfl,z⟩ | ⟨_,z⟩
  ·cases z
  ·obtain⟨a',e',r⟩:=I.xc k c z;exact⟨a',e',s1 _ _ r⟩
 ·obtain⟨as,O,x⟩:=I.st;refine⟨as,O,x.on (λk y hy h=> ?_) s1 rfl rfl (zl.refl _) λb o hb b0' h0' cs=> ?_⟩
  ·rcases zk h with ⟨_,z⟩ | ⟨_,z⟩
   ·subst z;cases hy
   ·exact⟨z,rfl⟩
  ·have hne:b ≠ a:=λz=>by
    subst z;rcases cs with ⟨C,dx,vs,ez⟩ | ok
    ·rw[hh]at hb;cases hb;cases ez
    ·exact ok j ts hj e
   refine⟨hb,by rw[zn hne];exact b0',h0',λok k us h=> ?_⟩
   rcases zk h with ⟨_,z⟩ | ⟨_,z⟩
   ·cases z
   ·exact ok k us z
theorem s_mv {i j:Nat}(hv:PE X (.Name y yp) (wC j))(hN:X.N.Nodup)(hi:X.N[i]? =some x)(hx:L2.Loc X.env.scope x)(hs:swapsWith (.Name y yp) (some (.Name x p')) pos.line X.env=pure false:=by rfl)
  (hf:X.fn x=true\/X.env.scope.names.lookup x=some .local:=by first | exact .inl rfl | exact .inr rfl | assumption):Jg X Y (.Assign [.Name x p'] (.Name y yp) pos) (mvS i j):= .mk λρ=>
 PS.imp (wd hN hi hx hv hs hf) λD σ H ⟨B,I,q⟩=>by
  unfold mvS at q;split at q
  ·rename_i ts e;obtain⟨a,B',e1,s1,r,J⟩:=I.give e;exact⟨_,e1,q _ _ B' s1 (J.setV i r)⟩
  ·exact q.elim
end
def eqs (y:T):List T->Option (List Bool)
 | []=>some []
 | t :: ts=>match eqF 30 t y with
  | none=>none
  | some b=>match eqs y ts with
   | none=>none
   | some bs=>some (b :: bs)
def z0H (y:T)(ts:List T):R T:=match eqs y ts with
 | some bs=> .ok (.int (bs.count true))
 | none=> .bad
def xl (y:T)(ts:List T):R T:=match eqs y ts with
 | some bs=>if true∈bs then .ok (.int (bs.idxOf true)) else .bad
 | none=> .bad
def Kj (g:T->List T->R T)(fa fb:En->R T):En->R T:=λρ=>(fa ρ).bind λt=>match t with
 | .lst ts=>(fb ρ).bind λu=>g u ts
 | _=> .bad
theorem Yh {H:Hp}{y:T}{e:Value->Bool}(he:∀(v:V) (t:T) (u:Value) (b:Bool),Zg v u->Rep H v t->eqF 30 t y=some b->e u=b):∀{xs:List V} {ts:List T} {its:List Value} {bs:List Bool},
  zU xs its->zz H xs ts->eqs y ts=some bs->its.map e=bs/\∀u∈its,∃v t k,Zg v u/\Rep H v t/\eqF 30 t y=some k
 | _,_,_,_,.nil,.nil,h=>by
  cases h;exact⟨rfl,λu hu=>by simp at hu⟩
 | _,_,_,_,.cons rv vs,.cons r rs,h=>by
  rename_i v u vals us t ts;unfold eqs at h;cases q:eqF 30 t y with
  | none=>rw[q]at h;cases h
  | some k=>
   rw[q]at h;cases q' :eqs y ts with
   | none=>rw[q']at h;cases h
   | some k' =>
    rw[q']at h;cases h;obtain⟨h1,h2⟩:=Yh he vs rs q';refine⟨by rw[aI,h1,he v t u k rv r q],λw hw=> ?_⟩
    rcases aG.mp hw with z | hw
    ·exact⟨v,t,k,z ▸ rv,r,q⟩
    ·exact h2 w hw
section
theorem Yi {e:Value->Bool}:∀its:List Value,List.countP e its=(its.map e).count true
 | []=>rfl
 | u :: us=>by
  rw[List.countP_cons,aI,List.count_cons,Yi us];cases e u <;> rfl
theorem Qo (hu:X.A.units+64 < cLine):MtR X "list.count" (λx xs H Q=>∃l ys ts v t bs,x= .ref l/\xs=[v]/\H l=some (.lst ys)/\zz H ys ts/\Rep H v t/\eqs t ts=some bs/\Q (.int (bs.count true)) H):=by
 intro pins s σ H x xs v0 us Q I rx rv h;obtain⟨l,ys,ts,v,t,bs,rfl,rfl,hl,r,rt,e,q⟩:=h;obtain rfl:v0=Value.ref l:=rx;obtain⟨u,rfl,ru⟩:=jr rv;obtain⟨hz,its,n,ri,eo⟩:=(show Zi X.prog X.w H s.heap l (.lst ys) from I.hok l _ hl);obtain⟨f,hf⟩:=u8 (H:=H) λz=>eqF 30 z t;obtain⟨h2,h3⟩:=Yh hf ri r e;refine dq eP ⟨_,eo,rfl⟩ PySem.F.entry_list_count (PySem.F.args_list_count_2 _ _) (SeqAt.list_countAt l its.toArray n none #[] u f) ⟨eo,λw hw=> ?_, ?_⟩
 ·obtain⟨v',t',k,rv',rr,ee⟩:=h3 w (by simpa using hw)
  rw[hf v' t' w k rv' rr ee];exact(yK I 30 X.A.in1 (by rw[jM];omega) t' t k v' v w u ee rr rt rv' ru).1
 ·rw[show its.toArray.toList=its from rfl,Yi,h2];exact⟨.int _,H,I.tok _,⟨_,rfl⟩,q⟩
theorem Qp (hu:X.A.units+64 < cLine):MtR X "list.index" (λx xs H Q=>∃l ys ts v t bs,x= .ref l/\xs=[v]/\H l=some (.lst ys)/\zz H ys ts/\Rep H v t/\eqs t ts=some bs/\true∈bs/\Q (.int (bs.idxOf true)) H):=by
 intro pins s σ H x xs v0 us Q I rx rv h;obtain⟨l,ys,ts,v,t,bs,rfl,rfl,hl,r,rt,e,hm,q⟩:=h;obtain rfl:v0=Value.ref l:=rx;obtain⟨u,rfl,ru⟩:=jr rv;obtain⟨hz,its,n,ri,eo⟩:=(show Zi X.prog X.w H s.heap l (.lst ys) from I.hok l _ hl);obtain⟨f,hf⟩:=u8 (H:=H) λz=>eqF 30 z t;obtain⟨h2,h3⟩:=Yh hf ri r e;have hj:bs.idxOf true < bs.length:=List.idxOf_lt_length_iff.mpr hm;have hlen:bs.length=its.length:=by rw[← h2,ae]
 have hri:=ri.length;rw[bY]at hz;have hat:∀m (hm:m < its.length),f its[m]=bs[m]'(by rw[hlen];exact hm):=λm hm=>by
  have:(its.map f)[m]'(by rw[ae];exact hm)=bs[m]'(by rw[hlen];exact hm):=by simp only[h2]
  rw[← this,List.getElem_map]
 refine dq eQ ⟨_,eo,rfl⟩ PySem.F.entry_list_index (PySem.F.args_list_index_2 _ _) (SeqAt.list_indexAt l its.toArray n none #[] u f (bs.idxOf true) (by rw[aA,← hlen];exact hj) (by omega) ?_ ?_) ⟨eo,λw hw=> ?_, ?_⟩
 ·rw[fD,hat];exact List.getElem_idxOf hj
 ·intro m hm hlt;rw[fD,hat m (by simpa using hm)]
  have:=List.not_of_lt_findIdx (p:=(· == true)) (xs:=bs) (i:=m) hlt;simpa using this
 ·obtain⟨v',t',k,rv',rr,ee⟩:=h3 w (by simpa using hw)
  rw[hf v' t' w k rv' rr ee];exact(yK I 30 X.A.in1 (by rw[jM];omega) t' t k v' v w u ee rr rt rv' ru).1
 ·exact⟨.int _,H,I.tok _,⟨_,rfl⟩,q⟩
theorem xm (hu:X.A.units+64 < cLine)(ha:jx X Y a fa)(hb:jx X Y b fb)(hb1:attributeBase a "count" X.env (eval a X.env)=eval a X.env:=by rfl)(hs:St1 X b:=by exact st1 rfl)(hz:(pa.endLine == p.line)=true:=by rfl):
  Snd X Y (.Call (.Attribute a "count" pa) [b] [] p) (Kj z0H fa fb):= .mk λρ=>by
 have e1:(((((backTo p (starEach [b] X.env)).all λx=> !x.fst) && (backToKw p (keywordEach [] X.env)).all λx=>x.fst.isSome) && decide (([b].length+([]:List Keyword).length+if ([]:List Keyword).isEmpty=true then 0 else 1) < 30))=true):=by rw[hs];rfl
 refine PE.imp (yC cL eP PySem.F.type_list_count (Qo hu) (ha ρ) (zq (hb ρ) Z6 hs) hb1 e1 hz hs rfl) λσ H Q ⟨B,I,q⟩=>step I q λt v H1 _ s1 r1 I1 q1=> ?_;cases t with
 | lst ts=>
  cases r1 with
  | @lst l xs _ h r=>
   refine⟨.inl ⟨rfl,_,SqL.of h⟩,step I1 q1 λu v' H2 _ s2 r2 I2 q2=> ?_⟩;unfold z0H at q2;split at q2
   ·rename_i bs e;exact⟨l,xs,ts,v',u,bs,rfl,rfl,s2 _ _ h,r.mono s2,r2,e,ZC I2 q2 (.int _)⟩
   ·exact q2.elim
 | _=>exact q1.elim
theorem xn (hu:X.A.units+64 < cLine)(ha:jx X Y a fa)(hb:jx X Y b fb)(hb1:attributeBase a "index" X.env (eval a X.env)=eval a X.env:=by rfl)(hs:St1 X b:=by exact st1 rfl)(hz:(pa.endLine == p.line)=true:=by rfl):
  Snd X Y (.Call (.Attribute a "index" pa) [b] [] p) (Kj xl fa fb):= .mk λρ=>by
 have e1:(((((backTo p (starEach [b] X.env)).all λx=> !x.fst) && (backToKw p (keywordEach [] X.env)).all λx=>x.fst.isSome) && decide (([b].length+([]:List Keyword).length+if ([]:List Keyword).isEmpty=true then 0 else 1) < 30))=true):=by rw[hs];rfl
 refine PE.imp (yC cL eQ PySem.F.type_list_index (Qp hu) (ha ρ) (zq (hb ρ) Z6 hs) hb1 e1 hz hs rfl) λσ H Q ⟨B,I,q⟩=>step I q λt v H1 _ s1 r1 I1 q1=> ?_;cases t with
 | lst ts=>
  cases r1 with
  | @lst l xs _ h r=>
   refine⟨.inl ⟨rfl,_,SqL.of h⟩,step I1 q1 λu v' H2 _ s2 r2 I2 q2=> ?_⟩;unfold xl at q2;split at q2
   ·rename_i bs e;split at q2
    ·rename_i hm;exact⟨l,xs,ts,v',u,bs,rfl,rfl,s2 _ _ h,r.mono s2,r2,e,hm,ZC I2 q2 (.int _)⟩
    ·exact q2.elim
   ·exact q2.elim
 | _=>exact q1.elim
end
def Jh:List T->Option (List Int)
 | []=>some []
 | .int i :: r=>match Jh r with | some l=>some (i :: l) | none=>none
 | _ :: _=>none
def G7:T->R T
 | .lst ts=>match Jh ts with | some l=> .ok (.int l.sum) | none=> .bad
 | _=> .bad
def vz:En->RS:=λ_=> .bad
theorem z0I {X:Cx}{Y:Fx}{st:Stmt}:Jg X Y st vz:= .mk λρ=>λpins s σ H D I ⟨B,J,q⟩=>q.elim
theorem Yj:∀{H:Hp} {xs:List V} {ts:List T} {its:List Value} {is:List Int},zz H xs ts->zU xs its->Jh ts=some is->∃ps:List (Int×Tok),its=ps.map (λp=>Value.int p.1 p.2)/\ps.map (·.1)=is
 | _,_,_,_,is,.nil,.nil,h=>by
  have h' :some []=some is:=h;cases h';exact⟨[],rfl,rfl⟩
 | H,_,_,_,is,.cons (v:=x) (t:=t) r rs,.cons (b:=u) rv vs,h=>by
  cases r with
  | int i=>
   unfold Jh at h;split at h
   ·rename_i l e;cases h;obtain⟨ps,h1,h2⟩:=Yj rs vs e;obtain⟨tk,rfl⟩:=rv;exact⟨(i,tk) :: ps,by rw[h1];rfl,by rw[aI,h2]⟩
   ·cases h
  | _=>cases h
section
variable {X:Cx}{Y:Fx}{a b:Expr}{fa fb:En->R T}{pos p p' pos' :Pos}
theorem Yk (hh:X.A.handled=none):ZQ X (.builtin "sum") (λvs H Q=>∃l xs ts is,vs=[.ref l]/\H l=some (.lst xs)/\zz H xs ts/\Jh ts=some is/\Q (.int is.sum) H):=by
 intro pins s σ H vs us Q I rv h;obtain⟨l,xs,ts,is,rfl,hl,r,hk,q⟩:=h;obtain⟨u,rfl,ru⟩:=jr rv;obtain rfl:u=Value.ref l:=ru;obtain⟨its,rv,p,_⟩:=zY I (.inl hl) r;obtain⟨ps,h1,h2⟩:=Yj r rv hk;have e:its.toArray=intItems ps.toArray:=by rw[h1];simp[intItems]
 rw[e]at p;refine sum_intListG hh p λh' tk t' kp=> ?_;have e2:preSum (numAt ps.toArray) ps.toArray.size=is.sum:=by
  rw[preSum_eq,f7 (by simp),← h2]
 rw[e2];exact⟨.int is.sum,H,I.kept (t' :=tk) kp,⟨t',rfl⟩,q⟩
theorem z0J (hh:X.A.handled=none)(gl:Gl X "sum")(mg:X.mg "sum"=none)(ha:jx X Y a fa)(hs:St1 X a:=by exact st1 rfl):Snd X Y (.Call (.Name "sum" p) [a] [] pos) (ap1 G7 fa):=
 yV (Yk hh) (λv t B H Q r sB q=>by
  cases r with
  | @lst l xs ts h r=>
   have q:Po Y rC B H (match Jh ts with | some k=> .ok (.int k.sum) | none=> .bad) Q:=q
   split at q
   ·rename_i k e;exact⟨l,xs,ts,k,rfl,h,r,e,po0 sB q rfl (.int _)⟩
   ·exact q.elim
  | _=>exact q.elim) gl mg boot_sum ha hs
end
end PV
namespace PySem.RV
open PySem PySem.Spec PyProof.Rows PySem.Builtin.SmallTypes
theorem uQ:Manifest.owners.lookup (String.ofList "desrever".toList.reverse)=some Manifest.sig_reversed:=by kernel_rfl
theorem jb:Slot "reversed" "__next__" "reversed.__next__":=
 .of (owner:="reversed") (n:="__next__") (by rw[cC,bJ];kernel_rfl) (by decide+kernel) (by decide+kernel) (by decide+kernel)
  (by first | exact .inl (by decide+kernel) | exact .inr (by decide+kernel)) (by rw[cM];kernel_rfl)
theorem wn:entryFor table "reversed.__next__"=some Builtin.«reversed.__next__»:=entryFor_of_tree (by kernel_rfl)
theorem Wv (a:Value):argsOk "reversed.__next__" ⟨[a],[]⟩:=by
 unfold argsOk;rw[signature?_of (id:="reversed.__next__") (n:="__txen__".toList) (o:="desrever".toList) (by kernel_rfl) uQ];kernel_rfl
theorem Ww:Slot "reversed" "__iter__" "reversed.__iter__":=
 .of (owner:="reversed") (n:="__iter__") (by rw[cC,bJ];kernel_rfl) (by decide+kernel) (by decide+kernel) (by decide+kernel)
  (by first | exact .inl (by decide+kernel) | exact .inr (by decide+kernel)) (by rw[cM];kernel_rfl)
theorem Yl (a:Value):argsOk "reversed.__iter__" ⟨[a],[]⟩:=by
 unfold argsOk;rw[signature?_of (id:="reversed.__iter__") (n:="__reti__".toList) (o:="desrever".toList) (by kernel_rfl) uQ];kernel_rfl
theorem UG:entryFor table "reversed.__iter__"=some Builtin.«dict_keyiterator.__iter__»:=
 entryFor_alias (id' :="dict_keyiterator.__iter__") (by kernel_rfl) (by first | rfl | decide+kernel | (unfold String.splitOn;simp+decide [String.splitOnAux])) (by decide+kernel) (by kernel_rfl)
theorem Kk:typeLookup (.type "tuple") "__reversed__"=pure none:=by rw[cC,bJ];kernel_rfl
theorem Kl:isSubtype (.type "tuple") (.type "dict")=pure false:=by rw[cM];kernel_rfl
abbrev IsRv (h:Heap)(it:Addr)(v:Value)(i:Int):Prop:=h.get? it=some { cls:= .type "reversed",data:= .fields #[v,rawInt i] }
section
variable {prog:Program}{w:World}{A:Around}{E:Value->Shared->Prop}{s:Shared}{it l:Addr}{xs:Array Value}
theorem uf {v:Value}{i:Int}(x:IsRv s.heap it v i):s.TypeIs (.ref it) "reversed":=⟨_,x,rfl⟩
theorem next_item {i:Nat}{x:Value}{Q:Option Value->Shared->Prop}(hit:IsRv s.heap it (.ref l) (i:Int))(ht:IsTup s.heap l xs)(hf:(xs.size:Int) < 2 ^ 63)(hx:xs[i]? =some x)
  (hQ:∀h' tk,IsRv h' it (.ref l) ((i:Int) - 1)->cD it s.heap h' ->Q (some x) { s with heap:=h',toks:=tk }):wpAny (model prog w) A (pyNext (.ref it)) Q E s:=by
 unfold pyNext;refine aa (cW (bx (name:=aR "__next__") (uf hit) jb (bU jb (uf hit) wn ?_ (Wv _))));unfold Builtin.«reversed.__next__»;refine aa (cP (a:=(Value.ref it,[])) rfl ?_);dsimp only;refine aa (bf hit rfl (x:= .ref l) rfl ?_);refine aa (bf hit rfl (x:=rawInt (i:Int)) rfl ?_);show wpAny _ _ (if (i:Int) < 0 then _ else _) _ _ s
 rw[if_neg (by omega)]
 have hi:i < xs.size:=(Array.getElem?_eq_some_iff.mp hx).1;have hT:=ht.typeIs (s:=s);refine aa (wpAny_specialOf hT slot_tuple_getitem.lookup ?_);show wpAny _ _ (if (some _:Option Value).isNone=true then _ else _) _ _ s
 rw[if_neg (by simp)]
 refine aa (wpAny_mkInt ?_);refine aa (cW (getItem_tuple (s:={ s with toks:=s.toks+1 }) ht (by omega) (by omega) (seqIndex_of (by omega) (by omega)) (by simpa using hx) ?_))
 dsimp only;refine aa (bf (s:={ s with toks:=s.toks+1 }) hit rfl (x:=rawInt (i:Int)) rfl ?_);show wpAny _ _ (setField (.ref it) 1 (rawInt ((i:Int) - 1)) >>= _) _ _ _;refine aa (bz (s:={ s with toks:=s.toks+1 }) hit (by simp) λg1 z1 e1=> ?_)
 exact ar ⟨x,rfl,ar (hQ g1 _ z1 e1)⟩
theorem next_end {Q:Option Value->Shared->Prop}(hh:A.handled=none)(hit:IsRv s.heap it (.ref l) (-1))
  (hQ:∀h',fB it s.heap h' ->Q none { s with heap:=h' }):wpAny (model prog w) A (pyNext (.ref it)) Q E s:=by
 unfold pyNext;refine aa (cW (bx (name:=aR "__next__") (uf hit) jb (bU jb (uf hit) wn ?_ (Wv _))));unfold Builtin.«reversed.__next__»;refine aa (cP (a:=(Value.ref it,[])) rfl ?_);dsimp only;refine aa (bf hit rfl (x:= .ref l) rfl ?_);refine aa (bf hit rfl (x:=rawInt (-1)) rfl ?_);show wpAny _ _ (if (-1:Int) < 0 then _ else _) _ _ s
 rw[if_pos (by decide)]
 refine aa (dX ?_);refine aa (show wpAny _ _ (do setField (.ref it) 1 (rawInt (-1));setField (.ref it) 0 .none) _ _ _ from ?_)
 refine aa (bz hit (by simp) λg1 z1 e1=> ?_)
 refine bz (s:={ s with heap:=g1 }) z1 (by simp) λg2 z2 e2=> ?_
 refine aa (show wpAny _ _ (newExc (.type "StopIteration") [] >>= λe=>raiseNew e) _ _ _ from ?_);refine aa ?_;simp only[newExc,newTuple];refine aa (aX (aa (m:=firstArgMember _ _) (cP (a:=Value.none) (by first | rfl | (simp only[firstArgMember];rfl)) (aX ?_ (by size_fits)))) (by size_fits))
 simp only[raiseNew];refine aa (wpAny_handled ?_);rw[show A.in1.handled=none from hh];refine aa (ar (wpAny_throw ?_));refine aa (wpAny_isInstance (T:="StopIteration") (b:=true) ⟨_,ao _ rfl,rfl⟩ isSubtype_stop ?_);exact ar (hQ _ (((e1.extBut.trans e2.extBut).push _).push _))
theorem iter_rv {v:Value}{i:Int}{Q:Value->Shared->Prop}(hit:IsRv s.heap it v i)(h:Q (.ref it) s):wpAny (model prog w) A (pyIter (.ref it)) Q E s:=by
 refine wpAny_pyIter_slot (uf hit) Ww (bU Ww (uf hit) UG ?_ (Yl _));show wpAny _ _ (ret (.ref it)) _ _ s;exact ar ⟨_,rfl,"reversed",_,uf hit,jb.lookup,h⟩
theorem vA:mroOf (.type "reversed")=pure [.type "reversed",.type "object"]:=by rw[mroOf_type];kernel_rfl
theorem Km:typeLookup (.type "reversed") "__new__"=pure (some (.builtin "reversed.__new__")):=by rw[cC,bJ];kernel_rfl
theorem xo:Bind.madeBy (.type "reversed")=pure (some "reversed.__new__"):=madeBy_type vA Km (by decide+kernel)
theorem Kn:isSubtype (.type "reversed") (.type "reversed")=pure true:=by rw[cM];kernel_rfl
theorem Ko (a:Value):newClass "reversed" ⟨[.type "reversed",a],[]⟩=pure (.type "reversed",[a]):=by
 unfold newClass;simp only[isType,Kn,pure_bind,bc,az,if_false]
theorem Ym:entryFor table "reversed.__new__"=some Builtin.«reversed.__new__»:=entryFor_of_tree (by kernel_rfl)
theorem Qq {Q:Fin->Shared->Prop}(ht:IsTup s.heap l xs)(hf:(xs.size:Int) < 2 ^ 63)
  (h:∀tk,Q (.done (.ret (.ref s.heap.objs.size))) { s with heap:=s.heap.push { cls:= .type "reversed",data:= .fields #[.ref l,rawInt ((xs.size:Int) - 1)] },toks:=tk }):
  wpAny (model prog w) A (Builtin.«reversed.__new__» ⟨[.type "reversed",.ref l],[]⟩) Q E s:=by
 have hT:=ht.typeIs (s:=s);unfold Builtin.«reversed.__new__»;refine aa (cP (Ko _) ?_)
 try dsimp only
 refine aa (cP (a:=()) (by first | rfl | kernel_rfl) ?_)
 refine aa (cP (a:=()) (by first | rfl | kernel_rfl) ?_)
 try dsimp only
 refine aa (wpAny_specialOf hT Kk ?_)
 try dsimp only
 refine aa (m:=(do
   if ← isInstance (.ref l) (.type "dict") then return false
   match ← specialOf (.ref l) "__getitem__" with
   | none=>return false
   | some (.builtin id)=>
    if ["tuple.__getitem__","str.__getitem__","bytes.__getitem__","bytearray.__getitem__","memoryview.__getitem__","numpy.ndarray.__getitem__","sqlite3.Row.__getitem__"].contains id then return true
    if id == "sqlite3.Blob.__getitem__" then return false
    unsupported "reversed.__new__:is-it-a-sequence"
   | some _=>return true)) ?_
 refine aa (wpAny_isInstance hT Kl ?_);rw[if_neg (by simp)]
 refine aa (wpAny_specialOf hT slot_tuple_getitem.lookup ?_);dsimp only;rw[if_pos (by decide)]
 refine ar ?_;rw[if_neg (by simp)]
 refine aa (len_tuple ht hf ?_);refine aa (cP (a:=some (xs.size:Int)) rfl ?_);dsimp only;refine aa (show wpAny _ _ (newObj (.type "reversed") (.fields #[.ref l,rawInt ((xs.size:Int) - 1)])) _ _ _ from ?_);exact aX (ar (h _)) (by size_fits)
theorem Yn:Slot "reversed" "__init__" "object.__init__":=
 .of (owner:="object") (n:="__init__") (by rw[cC,bJ];kernel_rfl) (by decide+kernel) (by decide+kernel) (by decide+kernel)
  (by first | exact .inl (by decide+kernel) | exact .inr (by decide+kernel)) (by rw[cM];kernel_rfl)
theorem Yo:TypeCalled "reversed" "reversed.__new__" "object.__init__":=
 ⟨by decide+kernel,by decide+kernel,⟨_,_,vA⟩,xo,by decide+kernel,by rw[cM];kernel_rfl,Yn⟩
theorem Qr (a:Value):checkTypeCall "reversed" ⟨[a],[]⟩=pure ():=by kernel_rfl
theorem Qs (a:Value):checkBuiltinCall "reversed.__new__" ⟨[.type "reversed",a],[]⟩=pure ():=by kernel_rfl
theorem call_rvT (ht:IsTup s.heap l xs)(hf:(xs.size:Int) < 2 ^ 63)
  (h:∀tk,Q (.ref s.heap.objs.size) { s with heap:=s.heap.push { cls:= .type "reversed",data:= .fields #[.ref l,rawInt ((xs.size:Int) - 1)] },toks:=tk }):wpAny (model prog w) A (call (.type "reversed") [.ref l]) Q E s:=by
 refine callType_new (S:=λ_ R s=>(∃xs,IsTup s.heap l xs/\(xs.size:Int) < 2 ^ 63/\∀tk,R (.ok (.ret (.ref s.heap.objs.size))) { s with heap:=s.heap.push { cls:= .type "reversed",data:= .fields #[.ref l,rawInt ((xs.size:Int) - 1)] },toks:=tk })) Yo (by decide) (Qr _) (Qs _) (λobj=>PySem.F.args_object_init_2 obj _) Ym (.of_wp λprog w A R s h=> ?_) ⟨xs,ht,hf,λtk=> ?_⟩
 ·obtain⟨xs,h1,h2,h3⟩:=h;exact Qq h1 h2 λtk=>⟨_,rfl,h3 tk⟩
 ·exact⟨⟨_,ao _ rfl,rfl⟩,h tk⟩
end
end PySem.RV
namespace PySem.RV
open PySem PySem.Spec PyProof.Rows
theorem Qt:typeLookup (.type "list_reverseiterator") "__len__"=pure none:=by rw[cC,bJ];kernel_rfl
theorem xp:typeLookup (.type "list_reverseiterator") "__length_hint__"=pure (some (.builtin "list_reverseiterator.__length_hint__")):=by rw[cC,bJ];kernel_rfl
section
variable {G:Array GenState->Array GenState->Prop}{n:Nat}{P:Nat->Value->Prop}{St:Nat->Shared->Prop}
theorem UH {Q:List Value->Shared->Prop}(W:WalksS prog w A.in1 I fp wr G n P St)(hT:∀i s,St i s->s.TypeIs (.ref I) "list_reverseiterator")(hst:St 0 s)(hfp:∀b∈fp,b < s.heap.objs.size)(hI:I∈fp)
  (hQ:∀s' acc,Moved wr G s s' ->ItemsOf P acc n->Q acc.toList s') (hn:n<=sizeLine):wpAny (model prog w) A (collect (.ref I)) Q E s:=by
 have nf:s.heap.objs.size ∉ fp:=λz=>bK _ (hfp _ z);have nI:s.heap.objs.size ≠ I:=λz=>nf (z ▸ hI);unfold collect;refine aa (wpAny_runValue (cB F.entry_proto_collect ?_));rw[cF F.plain_proto_collect _];refine(show wpAny _ A.in1 (newList [] >>= λl=>again (.builtin "list.__iadd__" ⟨[l,.ref I],[]⟩)) _ _ s from ?_);refine aa (aX (ar ⟨plainId_quiet g_ _,cB F.entry_list_iadd ?_⟩));rw[cF g_ _];have g0:=W.frame 0 s (s.heap.push { cls:= .type "list",data:= .seq ([]:List Value).toArray }) s.toks hst (am _) λb _ o e=>ai _ e;have g1:(s.heap.push { cls:= .type "list",data:= .seq ([]:List Value).toArray }).get? s.heap.objs.size=some { cls:= .type "list",data:= .seq ([]:List Value).toArray }:=ao _ rfl;have g2:eI (.ref s.heap.objs.size) (.ref I)=false:=by simp[eI,nI]
 refine(show wpAny _ A.in1 (dU (.ref s.heap.objs.size) (.ref I) (.ref s.heap.objs.size)) _ _ _ from ?_);unfold dU;refine aa (wpAny_typeOf (hT 0 _ g0) ?_);rw[if_neg (by rw[g2];decide)]
 refine aa (W.self 0 _ _ _ g0 (aa (cV ?_)));unfold Builtin.List.listLengthHint;refine aa (wpAny_specialOf (hT 0 _ g0) Qt ?_);refine(show wpAny _ A.in1 (specialOf (Value.ref I) (aR "__length_hint__") >>= _) _ _ _ from ?_);refine aa (wpAny_specialOf (hT 0 _ g0) xp ?_);generalize hid:("list_reverseiterator.__length_hint__":String)=id0
 wp_delta
 rw[show splitId id0=some ("list_reverseiterator","__length_hint__") from by subst hid;decide+kernel]
 subst hid;refine aa (wpAny_isInstance (b:=true) (hT 0 _ g0) (by rw[cM];kernel_rfl) ?_)
 refine ar ?_;rw[if_neg (by decide)]
 refine ar ⟨plainId_quiet F.plain_extend_loop _,codeAny_extend_loopS W hn _ nf _ n 0 _ _ _ rfl (bO _) g0 g1 (ItemsOf.nil P) λs' acc' c' hm hS' hacc=> ?_⟩;refine(show wpAny _ A (load s.heap.objs.size >>= _) _ _ s' from ?_);exact aa (wpAny_load hS' (ar (hQ s' acc' (Moved.drop_new (o:={ cls:= .type "list",data:= .seq ([]:List Value).toArray }) (tk:=s.toks) hm (am _)) hacc)))
theorem Kp (W:WalksS prog w A.in1.in1 I fp wr G n P St)(hT:∀i s,St i s->s.TypeIs (.ref I) "list_reverseiterator")(hst:St 0 s)(hfp:∀b∈fp,b < s.heap.objs.size)(hI:I∈fp)
  (h:∀s' acc,Moved wr G s s' ->ItemsOf P acc n->Q₁ (.ref s'.heap.objs.size) { s' with heap:=s'.heap.push { cls:= .type "tuple",data:= .seq acc } }) (hsz:n<=sizeLine):
  codeAny (model prog w) A (.call (.builtin "tuple.__new__") ⟨[.type "tuple",.ref I],[]⟩) (wants Q₁ E) s:=by
 refine codeAny_of_tree ?_;refine(show wpAny _ A.in1 (do checkBuiltinCall "tuple.__new__" ⟨[.type "tuple",.ref I],[]⟩;again (.builtin "tuple.__new__" ⟨[.type "tuple",.ref I],[]⟩)) _ _ s from ?_)
 refine aa (cP (F.newCall_tuple_1 _) (ar ⟨plainId_quiet h9 _,cB F.entry_tuple_new ?_⟩));rw[cF h9 _];have hsub:=sub_tuple_self;have hinit:=init_tuple_lookup;have hmh:=madeHere_tuple;have ty:=hT 0 s hst
 wp_walk using wpAny_typeOf ty,UH (hn:=hsz) W hT hst hfp hI
 intro s' acc hm hacc;have e:acc.toList.toArray=acc:=by simp
 refine(show wpAny _ _ (bv acc.toList.toArray >>= λv=>ret v) _ _ _ from ?_);unfold bv;refine aa (aX (ar ?_) (by rw[e];show acc.size<=sizeLine;rw[hacc.1];exact hsz))
 rw[e];exact h s' acc hm hacc
theorem tuple_lr (W:WalksS prog w A.in1.in1.in1 I fp wr G n P St)(hT:∀i s,St i s->s.TypeIs (.ref I) "list_reverseiterator")(hst:St 0 s)(hfp:∀b∈fp,b < s.heap.objs.size)(hI:I∈fp)
  (hQ:∀s' acc,Moved wr G s s' ->ItemsOf P acc n->Q (.ref s'.heap.objs.size) { s' with heap:=s'.heap.push { cls:= .type "tuple",data:= .seq acc } }) (hsz:n<=sizeLine):
  wpAny (model prog w) A (call (.type "tuple") [.ref I]) Q E s:=
 callType_codes (Q₁:=λobj s₁=>s₁.TypeIs obj "tuple"/\Q obj s₁) fE (F.typeCall_tuple_1 _) F.entry_object_init
  (Kp (hsz:=hsz) W hT hst hfp hI λs' acc hm hacc=>⟨⟨_,ao _ rfl,rfl⟩,hQ s' acc hm hacc⟩) λobj s₁ h₁=>
   ⟨h₁.1,F.args_object_init_2 obj _,object_init_meets fE.init.lookup fE.made (by decide) prog w A.in1 _ s₁ ⟨h₁.1,rfl,h₁.2⟩⟩
end
end PySem.RV
namespace PV
open PySem PySem.Spec PyProof.Rows L2
def z0K (K:ac)(a:Addr)(n:Nat):It:=
 ⟨λi H=>∃xs x,SqT K H a xs/\xs.length=n/\xs.reverse[i]? =some x,λi H x H' =>H' =H/\∀xs,SqT K H a xs->xs.reverse[i]? =some x,λi H=>∃xs,SqT K H a xs/\xs.length=n/\n<=i⟩
def z0L (K:ac)(a:Addr)(n:Nat):It:=
 ⟨λi H=>∃xs x,SqL K H a xs/\xs.length=n/\xs.reverse[i]? =some x,λi H x H' =>H' =H/\∀xs,SqL K H a xs->xs.reverse[i]? =some x,λi H=>∃xs,SqL K H a xs/\xs.length=n/\n<=i⟩
theorem vC {α:Type}{xs:List α}{i:Nat}{x:α}(h:xs.reverse[i]? =some x):i < xs.length/\xs[xs.length - 1 - i]? =some x:=by
 have hi:=(aq.mp h).1;rw[ck]at hi;rw[fw hi]at h;exact⟨hi,h⟩
theorem Qu {P:Program}{w:World}{K:ac}{tg:Expr}(a it:Addr)(n:Nat):yi P w K tg (z0K K a n) [it] it (λi h=>i<=n/\RV.IsRv h it (.ref a) ((n:Int) - 1 - (i:Int))) where
 mem:=by simp
 obj:=λi h st b hb=>by
  have e:b=it:=by simpa using hb
  subst e;exact⟨_,st.2,λv z=>nomatch z⟩
 keep:=λi h h' st k=>⟨st.1,k it (by simp) _ st.2⟩
 item:=by
  intro X hP hw hK hc i pins s σ H E I hf st hg;subst hP hw hK;obtain⟨xs,x,hq,hn,hx⟩:=hg;obtain⟨its,rv,p,hz⟩:=I.tuple hq;obtain⟨hi,hx'⟩:=vC hx;obtain⟨u,hu,ru⟩:=rv.get hx';obtain⟨f0,f1,f2,f3,f4,f5⟩:=hf it (by simp)
  have hl:=rv.length;have e:(n:Int) - 1 - (i:Int)=((xs.length - 1 - i:Nat):Int):=by omega
  have hit:=st.2;rw[e]at hit;have hb:(its.toArray.size:Int) < 2 ^ 63:=by
   rw[bY]at hz;simp;omega
  refine RV.next_item hit p hb (x:=u) (by simpa using hu) λh' tk st' sb=> ?_
  have I1:Inv X pins σ H { s with heap:=h',toks:=tk }:=I.turned (t' :=tk) (λb o hb e=>(sb.2 b hb).trans e) f0 f1 f3 f4 f5;have e2:((xs.length - 1 - i:Nat):Int) - 1=(n:Int) - 1 - ((i+1:Nat):Int):=by omega
  rw[e2]at st';exact⟨u,rfl,Uo (s:={ s with heap:=h',toks:=tk }) st' rfl rfl (by decide) ⟨x,H,I1,ru,⟨rfl,λys hy=>by rw[I.tuple_inj hy hq];exact hx⟩,⟨by omega,st'⟩,λb hb=>(hf b hb).1⟩⟩
 done:=by
  intro X hP hw hK hc i pins s σ H E I hf st hg;subst hP hw hK;obtain⟨xs,hq,hn,hx⟩:=hg;obtain⟨f0,f1,f2,f3,f4,f5⟩:=hf it (by simp)
  have hit:=st.2;have h1:=st.1;rw[show (n:Int) - 1 - (i:Int)= -1 by omega]at hit
  exact RV.next_end (I.ok.hd hc) hit λh' eb=>⟨rfl,I.turned (t' :=s.toks) (λb o hb e=>eb b o hb e) f0 f1 f3 f4 f5⟩
 self:=λ_ _ _ _ _ st h=>RV.iter_rv st.2 h
theorem Qv {P:Program}{w:World}{K:ac}{tg:Expr}(a it:Addr)(n:Nat):yi P w K tg (z0L K a n) [it] it (λi h=>i<=n/\h.IsRevIter it a ((n:Int) - 1 - (i:Int))) where
 mem:=by simp
 obj:=λi h st b hb=>by
  have e:b=it:=by simpa using hb
  subst e;obtain⟨o,e,c,d⟩:=st.2;exact⟨o,e,λv z=>by rw[d]at z;cases z⟩
 keep:=λi h h' st k=>⟨st.1,st.2.at λo e=>k it (by simp) o e⟩
 item:=by
  intro X hP hw hK hc i pins s σ H E I hf st hg;subst hP hw hK;obtain⟨xs,x,hq,hn,hx⟩:=hg;obtain⟨its,rv,p,hz⟩:=I.list hq;obtain⟨hi,hx'⟩:=vC hx;obtain⟨u,hu,ru⟩:=rv.get hx';obtain⟨f0,f1,f2,f3,f4,f5⟩:=hf it (by simp)
  have e:(n:Int) - 1 - (i:Int)=((xs.length - 1 - i:Nat):Int):=by omega
  have hit:=st.2;rw[e]at hit;refine wpAny_pyNext_rev_item hit p.isList (x:=u) (by simpa using hu) λh' st' sb=> ?_
  have I1:Inv X pins σ H { s with heap:=h' }:=I.turned (t' :=s.toks) (λb o hb e=>(sb.2 b hb).trans e) f0 f1 f3 f4 f5;have e2:((xs.length - 1 - i:Nat):Int) - 1=(n:Int) - 1 - ((i+1:Nat):Int):=by omega
  rw[e2]at st';obtain⟨o,e,c,d⟩:=id st';exact⟨u,rfl,Uo (s:={ s with heap:=h' }) e c d (by decide) ⟨x,H,I1,ru,⟨rfl,λys hy=>by rw[I.list_inj hy hq];exact hx⟩,⟨by omega,st'⟩,λb hb=>(hf b hb).1⟩⟩
 done:=by
  intro X hP hw hK hc i pins s σ H E I hf st hg;subst hP hw hK;obtain⟨xs,hq,hn,hx⟩:=hg;obtain⟨f0,f1,f2,f3,f4,f5⟩:=hf it (by simp)
  have hit:=st.2;have h1:=st.1;rw[show (n:Int) - 1 - (i:Int)= -1 by omega]at hit
  exact wpAny_pyNext_rev_end (I.ok.hd hc) hit λh' eb=>⟨rfl,I.turned (t' :=s.toks) (λb o hb e=>eb b o hb e) f0 f1 f3 f4 f5⟩
 self:=λ_ _ _ _ _ st h=>wpAny_pyIter_revIter st.2 h
theorem zz.rev {H:Hp}:∀{vs:List V} {ts:List T},zz H vs ts->zz H vs.reverse ts.reverse
 | _,_,.nil=> .nil
 | _,_,.cons r t=>by rw[bS,bS];exact(zz.rev t).append (.cons r .nil)
theorem Kq {K:ac}{B1 H1:Hp}{a:Addr}{xs:List V}{ts:List T}(h:B1 a=some (.tup xs))(r:zz B1 xs ts):rI B1 H1 (z0K K a xs.length) ts.reverse:=λB2 H2 s1 s2=>by
 have h2:=s2 _ _ (s1 _ _ h);have hr:=r.rev;refine⟨λi hi=> ?_,λi t x H3 e y=> ?_,λi hi=>⟨xs,SqT.of h2,rfl,by rw[ck]at hi;rw[r.length];exact hi⟩⟩
 ·obtain⟨v,e,_⟩:=hr.get (aj hi);exact⟨xs,v,SqT.of h2,rfl,e⟩
 ·obtain⟨rfl,y⟩:=y;obtain⟨v,e1,r1⟩:=hr.get e;have:=y xs (SqT.of h2);rw[e1]at this;cases this;refine⟨zl.refl _, ?_⟩;rw[zE.self B2 _ s2];exact r1.mono s1
theorem Kr {K:ac}{B1 H1:Hp}{a:Addr}{xs:List V}{ts:List T}(h:B1 a=some (.lst xs))(r:zz B1 xs ts):rI B1 H1 (z0L K a xs.length) ts.reverse:=λB2 H2 s1 s2=>by
 have h2:=s2 _ _ (s1 _ _ h);have hr:=r.rev;refine⟨λi hi=> ?_,λi t x H3 e y=> ?_,λi hi=>⟨xs,SqL.of h2,rfl,by rw[ck]at hi;rw[r.length];exact hi⟩⟩
 ·obtain⟨v,e,_⟩:=hr.get (aj hi);exact⟨xs,v,SqL.of h2,rfl,e⟩
 ·obtain⟨rfl,y⟩:=y;obtain⟨v,e1,r1⟩:=hr.get e;have:=y xs (SqL.of h2);rw[e1]at this;cases this;refine⟨zl.refl _, ?_⟩;rw[zE.self B2 _ s2];exact r1.mono s1
def z0M (fa:En->R T):En->R (List T):=λρ=>(fa ρ).bind λt=>(J6 t).bind λxs=> .ok xs.reverse
def Qw:T->R T
 | .lst xs=>if xs.length<=bnd then .ok (.tup xs.reverse) else .bad
 | _=> .bad
section
variable {X:Cx}{Y:Fx}{a b tg:Expr}{fa fb:En->R T}{pos p p' pos' :Pos}
theorem Ks {ta:TA}(hg:Gl X "reversed")(hm:X.mg "reversed"=none)(ha:PA X [a] ta)(hs:St1 X a:=by exact st1 rfl):
  PI X tg (.Call (.Name "reversed" p) [a] [] pos) (λσ H R=>ta σ H λvs H1=>∃l xs,vs=[.ref l]/\((H1 l=some (.lst xs)/\R (z0L X.K l xs.length) H1)\/(H1 l=some (.tup xs)/\R (z0K X.K l xs.length) H1))):=by
 intro pins s σ H R I h;refine Call_ (jv I hg hm boot_reversed (aZ (thn (ha pos pins s σ H _ I h) λus s1 ⟨vs,H1,I1,r1,q1⟩=> ?_) hs rfl));obtain⟨l,xs,e,q⟩:=q1;subst e;obtain⟨u,rfl,ru⟩:=jr r1;obtain rfl:u=Value.ref l:=ru;have ok:∀b∈[s1.heap.objs.size],WT X pins H1 b:=λb hb=>by
  have e:b=s1.heap.objs.size:=by simpa using hb
  subst e;exact I1.fpOk (am _) (I1.hok.fresh (am _))
 rcases q with ⟨hl,q⟩ | ⟨hl,q⟩
 ·obtain⟨its,rv,p,hz⟩:=I1.list (SqL.of hl);have e:((its.toArray.size:Nat):Int) - 1=(xs.length:Int) - 1 - ((0:Nat):Int):=by have:=rv.length;simp;omega
  refine call_reversed_list p.isList ?_;rw[e];have st:(s1.heap.push (revObj l ((xs.length:Int) - 1 - ((0:Nat):Int)))).IsRevIter s1.heap.objs.size l ((xs.length:Int) - 1 - ((0:Nat):Int)):=⟨_,ao _ rfl,rfl,rfl⟩;refine wpAny_pyIter_revIter (s:={ s1 with heap:=s1.heap.push (revObj l ((xs.length:Int) - 1 - ((0:Nat):Int))) }) st ?_;exact⟨s1.heap.objs.size,[s1.heap.objs.size],_,_,H1,rfl,I1.kept (t' :=s1.toks) (λb o e=>ai _ e),Qv l _ xs.length,⟨bO _,st⟩,ok,q⟩
 ·obtain⟨its,rv,p,hz⟩:=I1.tuple (SqT.of hl);have hlen:=rv.length;have e:((its.toArray.size:Nat):Int) - 1=(xs.length:Int) - 1 - ((0:Nat):Int):=by simp;omega
  refine RV.call_rvT p (by rw[bY]at hz;simp;omega) λtk=> ?_
  rw[e];refine RV.iter_rv (s:={ s1 with heap:=_,toks:=tk }) (ao _ rfl) ?_;exact⟨s1.heap.objs.size,[s1.heap.objs.size],_,_,H1,rfl,I1.kept (t' :=tk) (λb o e=>ai _ e),Qu l _ xs.length,⟨bO _,ao _ rfl⟩,ok,q⟩
theorem z0N (hg:Gl X "reversed")(hm:X.mg "reversed"=none)(ha:Snd X Y a fa)(hs:St1 X a:=by exact st1 rfl):UZ X Y tg (.Call (.Name "reversed" p) [a] [] pos) (z0M fa):= .mk λρ=>
 PI.imp (Ks hg hm (zq (ha ρ) Z6 hs) hs) λσ H R ⟨B,I,q⟩=>step I q λt v H1 _ s1 r1 I1 q1=>by
  cases r1 with
  | @tup l xs ts h r=>exact⟨l,xs,rfl,.inr ⟨I1.sB _ _ h,ZC I1 (show Po Y rI _ H1 (.ok ts.reverse) R from q1) (Kq h r)⟩⟩
  | @lst l xs ts h r=>exact⟨l,xs,rfl,.inl ⟨I1.sB _ _ h,ZC I1 (show Po Y rI _ H1 (.ok ts.reverse) R from q1) (Kr h r)⟩⟩
  | _=>exact q1.elim
theorem uR:∀{xs ys:List V} {us ws:List Value},zU xs us->zU ys ws->zU (xs++ys) (us++ws)
 | _,_,_,_,.nil,q=>q
 | _,_,_,_,.cons r t,q=> .cons r (uR t q)
theorem uS:∀{xs:List V} {us:List Value},zU xs us->zU xs.reverse us.reverse
 | _,_,.nil=> .nil
 | _,_,.cons r t=>by rw[bS,bS];exact uR (uS t) (.cons r .nil)
theorem xr {its:List Value}{acc:Array Value}(h:ItemsOf (λi v=>its.toArray[its.toArray.size - 1 - i]? =some v) acc its.toArray.size):acc.toList=its.reverse:=by
 have h1:acc.size=its.length:=by
  have:=h.1;simpa using this
 have h2:=h.2;refine f_ λi=> ?_
 by_cases hi:i < its.length
 ·have hlt:i < acc.toList.length:=by simp;omega
  have e:=aj hlt;have:=h2 i _ (by rw[← Array.getElem?_toList];exact e)
  rw[fw hi,e,← this];simp
 ·rw[bw (by simp;omega),bw (by simp;omega)]
theorem Kt (hh:X.A.handled=none)(gl:Gl X "tuple")(mg:X.mg "tuple"=none)(gl' :Gl X "reversed")(mg' :X.mg "reversed"=none)(ha:Snd X Y a fa)(hs:St1 X a:=by exact st1 rfl)(hs' :St1 X (.Call (.Name "reversed" p') [a] [] pos'):=by exact st1 rfl):
  Snd X Y (.Call (.Name "tuple" p) [.Call (.Name "reversed" p') [a] [] pos'] [] pos) (ap1 Qw fa):= .mk λρ=>by
 intro pins s σ H Q I ⟨B,J,q⟩;have hq:tS Y rC fa ρ σ H (λv H1=>∃l xs,v= .ref l/\H1 l=some (.lst xs)/\xs.length<=sizeLine/\∀t,H1 t=none->Q (.ref t) (upd H1 t (.tup xs.reverse))):=by
  refine step J q λt v H1 _ s1 r1 I1 q1=> ?_;cases r1 with
  | @lst l xs ts h r=>
   have q1:Po Y rC _ H1 (if ts.length<=bnd then .ok (.tup ts.reverse) else .bad) Q:=q1
   split at q1
   ·rename_i hb;exact⟨l,xs,rfl,I1.sB _ _ h,by rw[r.length];exact ZN hb,λt ht=>ky I1.sB q1 rfl r.rev ht⟩
   ·exact q1.elim
  | _=>exact q1.elim
 refine cq (jv I gl mg PyProof.Rows.Boot.«tuple» (aZ (e:= .Call (.Name "reversed" p') [a] [] pos') (rest:=[]) ?_ hs' rfl));rw[hs'];show wpAny _ _ (spliced [(false,eval (.Call (.Name "reversed" p') [a] [] pos') X.env)]) _ _ s;refine fM (cq (jv I gl' mg' boot_reversed (aZ (e:=a) (rest:=[]) ?_ hs rfl)));refine thn ((zq (ha ρ) Z6 hs) pos' pins s σ H (λvs H1=>∃l xs,vs=[.ref l]/\H1 l=some (.lst xs)/\xs.length<=sizeLine/\∀t,H1 t=none->Q (.ref t) (upd H1 t (.tup xs.reverse))) I ?_) λus s1 ⟨vs,H1,I1,r1,l,xs,e,hl,hz,q1⟩=> ?_
 ·obtain⟨B',J',q'⟩:=hq;refine⟨B',J', ?_⟩;revert q';cases fa ρ with
  | bad=>exact λq' =>q'
  | ex c=>exact λq' =>q'
  | ok t=>
   intro q' v H1 s1 r1;obtain⟨l,xs,rfl,h⟩:=q' v H1 s1 r1;exact⟨l,xs,rfl,h⟩
 subst e;obtain⟨u,rfl,ru⟩:=jr r1;obtain rfl:u=Value.ref l:=ru;obtain⟨its,rv,pl,_⟩:=I1.list (SqL.of hl);have hlt:l < s1.heap.objs.size:=I1.hok.lt hl;refine call_reversed_list pl.isList (fW ?_);have e0:((its.toArray.size:Nat):Int) - 1 - ((0:Nat):Int)=((its.toArray.size:Nat):Int) - 1:=by omega
 refine RV.tuple_lr (s:={ s1 with heap:=s1.heap.push (revObj l ((its.toArray.size:Int) - 1)) }) (Walks.listRev (A:=X.A.in1.in1.in1) hh s1.heap.objs.size l (aL hlt) its.toArray).toS (λi s st=>st.2.1.typeIs) ⟨bO _,⟨_,ao _ rfl,rfl,by rw[e0];rfl⟩,pl.isList.push _⟩ (λb hb=> ?_) (by simp) (λs' acc hm hacc=> ?_) (by rw[aA,← rv.length];exact hz)
 ·have hb:b=s1.heap.objs.size\/b=l:=by simpa using hb
  rcases hb with rfl | rfl
  ·rw[bZ];exact df _
  ·rw[bZ];exact dE hlt
 obtain⟨h',g',d',tk',os'⟩:=s';have e1:g' =s1.gens:=hm.gens;have e2:d' =s1.drawn:=hm.drawn;have e3:os' =s1.os:=hm.os;subst e1 e2 e3;have kp:∀b o,s1.heap.get? b=some o->h'.get? b=some o:=λb o e=>hm.heap b o (λz=>by
  have z:b=s1.heap.objs.size:=by simpa using z
  have:=ax e;rw[z]at this;exact bK _ this) (ai _ e)
 have I2:Inv X pins σ H1 { s1 with heap:=h',toks:=tk' }:=I1.kept (t' :=tk') kp;have ea:acc=its.reverse.toArray:=by rw[← xr hacc]
 rw[ea];refine⟨.ref h'.objs.size,upd H1 h'.objs.size (.tup xs.reverse),I2.laid (t' :=tk') (λb u e=>ai _ e) (am _) ⟨by rw[ck];exact hz,its.reverse,uS rv,⟨_,ao _ rfl,rfl,_,rfl⟩,.inr ⟨_,ao _ rfl,rfl⟩⟩,rfl,q1 _ (I2.hok.fresh (am _))⟩
end
end PV
namespace PySem.RV
open PySem PySem.Spec PyProof.Rows PySem.Builtin.SmallTypes
end PySem.RV
namespace PV
open PySem PySem.Spec PyProof.Rows L2
end PV
namespace PySem.RW37
open PySem PySem.Spec PyProof.Rows L2
end PySem.RW37
namespace PV
open PySem PySem.Spec PyProof.Rows L2 PySem.RW37
section
variable {X:Cx}{Y:Fx}{pos:Pos}{a b c:Expr}
def G8 (fa:En->R T)(g:T->En->R En):En->RS:=λρ=>(fa ρ).s λt=>match g t ρ with
 | .ok ρ' => .nx ρ'
 | _=> .bad
theorem Ku {tg:Expr}{fa:En->R T}{g:T->En->R En}(ha:Snd X Y a fa)(hg:kU X Y tg g)(hs:swapsWithSole [tg] a pos.line X.env=pure false:=by rfl)(hw:swappedStores [tg] a X.env=pure none:=by rfl)
  (h1:(assignEach [tg] X.env).map (·.2)=[assign tg X.env]:=by rfl):Jg X Y (.Assign [tg] a pos) (G8 fa g):= .mk λρ=>by
 obtain⟨tt,hp,hr⟩:=hg;refine PS.imp (XS (ha ρ) hp hs hw h1) λD σ H ⟨B,I,q⟩=>J0 I q λt v H1 _ s1 r1 I1 q1=>hr _ _ _ _ _ _ _ I1 r1 ?_;cases h:g t ρ with
 | ok ρ' =>
  rw[h]at q1;exact λσ' I' =>q1 _ _ _ (zl.refl _) I'
 | ex c=>rw[h]at q1;exact q1.elim
 | bad=>rw[h]at q1;exact q1.elim
end
end PV
namespace PV
open PySem PySem.Spec PyProof.Rows L2
end PV
namespace PySem.RV
open PySem PySem.Spec PyProof.Rows PySem.Builtin.SmallTypes
end PySem.RV
namespace PV
open PySem PySem.Spec PyProof.Rows L2
section
variable {X:Cx}{Y:Fx}{a b c:Expr}{fa fb fc:En->R T}{pos p:Pos}
end
end PV
namespace PV
open PySem PySem.W PyProof.Rows
section
variable {α β:Type}
def Gd (lt:Nat->Nat->Bool)(n:Nat):KasT α->(α->Prop)->Prop
 | .ret a,P=>P a
 | .ask i j k,P=>(i < n/\j < n/\i ≠ j)/\Gd lt n (k (lt i j)) P
theorem Gd.mono {lt:Nat->Nat->Bool}{n:Nat}{P P' :α->Prop}(h:∀a,P a->P' a):∀(t:KasT α),Gd lt n t P->Gd lt n t P'
 | .ret a,g=>h a g
 | .ask i j k,⟨h1,g⟩=>⟨h1,Gd.mono h _ g⟩
theorem Gd.bind {lt:Nat->Nat->Bool}{n:Nat}{P:β->Prop}{f:α->KasT β}:∀(t:KasT α),Gd lt n t (λa=>Gd lt n (f a) P)->Gd lt n (t.bind f) P
 | .ret a,g=>g
 | .ask i j k,⟨h1,g⟩=>⟨h1,Gd.bind _ g⟩
end
section
variable {O:KeyOrd}{n:Nat}{key:Nat->O.α}
abbrev kp (key:Nat->O.α)(p:Array Nat)(i:Nat):O.α:=key (p.getD i 0)
structure Pm (n:Nat) (p:Array Nat):Prop where
 sz:p.size=n
 pm:p.toList.Perm (aW n)
theorem Pm.lt {p:Array Nat}(h:Pm n p){i:Nat}(hi:i < n):p.getD i 0 < n:=by
 have hs:i < p.size:=by rw[h.sz];exact hi
 have e:p.getD i 0=p[i]:=by simp[iB,hs]
 rw[e];exact bu.mp (h.pm.mem_iff.mp (Array.getElem_mem_toList hs))
theorem Pm.inj {p:Array Nat}(h:Pm n p){i j:Nat}(hi:i < n)(hj:j < n)(e:p.getD i 0=p.getD j 0):i=j:=by
 have hs:i < p.size:=by rw[h.sz];exact hi
 have hs' :j < p.size:=by rw[h.sz];exact hj
 have e1:p.getD i 0=p[i]:=by simp[iB,hs]
 have e2:p.getD j 0=p[j]:=by simp[iB,hs']
 rw[e1,e2]at e;have nd:p.toList.Nodup:=h.pm.nodup_iff.mpr List.nodup_range;have:=(hV (i:=i) (j:=j) (h₀:=by simpa using hs) (h₁:=by simpa using hs') nd).mp (by simpa using e)
 exact this
def So (key:Nat->O.α)(p:Array Nat)(m:Nat):Prop:=∀i j,i < j->j < m->O.klt (kp key p i) (kp key p j)
theorem xt {p q:Array Nat}{i j:Nat}(h:p[i]? =q[j]?):p.getD i 0=q.getD j 0:=by
 have e:∀(a:Array Nat) (k:Nat),a.getD k 0=(a[k]?).getD 0:=λa k=>by simp
 rw[e,e,h]
variable (hk:∀i j,i < n->j < n->key i=key j->i=j)
include hk
theorem Kv {p:Array Nat}(h:Pm n p){i j:Nat}(hi:i < n)(hj:j < n)(hij:i ≠ j)(hf:O.blt (kp key p i) (kp key p j)=false):O.klt (kp key p j) (kp key p i):=by
 cases q:O.blt (kp key p j) (kp key p i) with
 | true=>exact q
 | false=>exact absurd (h.inj hi hj (hk _ _ (h.lt hi) (h.lt hj) (O.total _ _ hf q))) hij
omit hk in
theorem So.snoc {p:Array Nat}{m:Nat}(h:So key p m)(h1:1<=m)(hl:O.klt (kp key p (m - 1)) (kp key p m)):So key p (m+1):=λi j hij hj=>by
 by_cases hjm:j=m
 ·subst hjm
  by_cases him:i=j - 1
  ·rw[him];exact hl
  ·exact eJ (h i (j - 1) (by omega) (by omega)) (hJ hl)
 ·exact h i j hij (by omega)
theorem Yp {p:Array Nat}(hp:Pm n p):∀(f m:Nat),1<=m->m+f=n->So key p m->Gd (λi j=>O.blt (key i) (key j)) n (kas_asc p f m) λr=>m<=r/\r<=n/\So key p r/\(r < n->O.klt (kp key p r) (kp key p (r - 1)))
 | 0,m,_,hm,h=>⟨am _,by omega,h,λz=>by omega⟩
 | f+1,m,h1,hm,h=>by
  refine⟨⟨hp.lt (by omega),hp.lt (by omega),λz=>absurd (hp.inj (by omega) (by omega) z) (by omega)⟩, ?_⟩
  show Gd _ n (if O.blt (kp key p m) (kp key p (m - 1))=true then .ret m else kas_asc p f (m+1)) _
  cases q:O.blt (kp key p m) (kp key p (m - 1)) with
  | true=>exact⟨am _,by omega,h,λ_=>q⟩
  | false=>
   rw[if_neg (by simp)]
   exact Gd.mono (λr ⟨a,b,c⟩=>⟨by omega,b,c⟩) _ (Yp hp f (m+1) (by omega) (by omega) (h.snoc h1 (Kv hk hp (by omega) (by omega) (by omega) q)))
def De (key:Nat->O.α)(p:Array Nat)(m:Nat):Prop:=∀i j,i < j->j < m->O.klt (kp key p j) (kp key p i)
theorem Yq {p:Array Nat}(hp:Pm n p):∀(f m:Nat),2<=m->m+f=n->De key p m->Gd (λi j=>O.blt (key i) (key j)) n (kas_desc f p m 0) λr=>r.1=p/\r.2.2=0/\m<=r.2.1/\r.2.1<=n/\De key p r.2.1
 | 0,m,_,hm,h=>⟨rfl,rfl,am _,by show m<=n;omega,h⟩
 | f+1,m,h1,hm,h=>by
  refine⟨⟨hp.lt (by omega),hp.lt (by omega),λz=>absurd (hp.inj (by omega) (by omega) z) (by omega)⟩, ?_⟩
  show Gd _ n (if O.blt (kp key p m) (kp key p (m - 1))=true then (if 0 > 0 then kas_desc f (kas_rev p (m - (0+1)) m) (m+1) 0 else kas_desc f p (m+1) 0) else .ask (p.getD (m - 1) 0) (p.getD m 0) λd=>if d=true then .ret (p,m,0) else kas_desc f p (m+1) (0+1)) _
  cases q:O.blt (kp key p m) (kp key p (m - 1)) with
  | true=>
   rw[if_pos rfl,if_neg (by omega)]
   refine Gd.mono (λr ⟨a,b,c,d⟩=>⟨a,b,by omega,d⟩) _ (Yq hp f (m+1) (by omega) (by omega) λi j hij hj=> ?_)
   by_cases hjm:j=m
   ·subst hjm
    by_cases him:i=j - 1
    ·rw[him];exact q
    ·exact eJ (show O.klt (kp key p j) (kp key p (j - 1)) from q) (hJ (h i (j - 1) (by omega) (by omega)))
   ·exact h i j hij (by omega)
  | false=>
   rw[if_neg (by simp)]
   refine⟨⟨hp.lt (by omega),hp.lt (by omega),λz=>absurd (hp.inj (by omega) (by omega) z) (by omega)⟩, ?_⟩
   have q2:O.blt (kp key p (m - 1)) (kp key p m)=true:=Kv hk hp (by omega) (by omega) (by omega) q
   show Gd _ n (if O.blt (kp key p (m - 1)) (kp key p m)=true then .ret (p,m,0) else _) _
   rw[if_pos q2];exact⟨rfl,rfl,am _,by show m<=n;omega,h⟩
omit hk in
theorem vD {p:Array Nat}(hp:Pm n p)(i j:Nat):Pm n (kas_rev p i j):=⟨(mirror_size _ _ _ _).trans hp.sz,(Array.perm_iff_toList_perm.mp (mirror_perm p i j _)).trans hp.pm⟩
omit hk in
theorem Yr {p:Array Nat}(hp:Pm n p){m k:Nat}(hm:m<=n)(hk' :k < m):(kas_rev p 0 m).getD k 0=p.getD (m - 1 - k) 0:=by
 refine xt ?_;unfold kas_rev;rw[getElem?_mirror_all (by rw[hp.sz];exact hm),if_pos ⟨bO _,hk'⟩]
 congr 1
 omega
theorem j1 {p:Array Nat}(hp:Pm n p)(h2:2<=n):Gd (λi j=>O.blt (key i) (key j)) n (kas_count n p) λr=>1<=r.1/\r.1<=n/\Pm n r.2/\So key r.2 r.1:=by
 unfold kas_count;refine Gd.bind _ (Gd.mono (λm ⟨a,b,c,d⟩=> ?_) _ (Yp hk hp (n - 1) 1 (am _) (by omega) λi j hij hj=>by omega))
 by_cases hmn:m=n
 ·rw[if_pos (by simpa using hmn)]
  exact⟨a,b,hp,c⟩
 ·rw[if_neg (by simpa using hmn)]
  by_cases hm1:m > 1
  ·rw[if_pos hm1];refine⟨⟨hp.lt (by omega),hp.lt (by omega),λz=>absurd (hp.inj (by omega) (by omega) z) (by omega)⟩, ?_⟩
   have q:O.blt (kp key p 0) (kp key p (m - 1))=true:=c 0 (m - 1) (by omega) (by omega)
   show Gd _ n (if O.blt (kp key p 0) (kp key p (m - 1))=true then .ret (m,p) else _) _
   rw[if_pos q];exact⟨a,b,hp,c⟩
  ·rw[if_neg hm1];have e:m=1:=by omega
   subst e;unfold kas_descPart;have d1:=d (by omega)
   refine Gd.bind _ (Gd.mono (λr ⟨r1,r2,r3,r4,r5⟩=> ?_) _ (Yq hk hp (n - (1+1)) (1+1) (by omega) (by omega) λi j hij hj=>by
    have:i=0/\j=1:=by omega
    rw[this.1,this.2];exact d1))
   rw[r2,if_neg (by omega),r1]
   unfold kas_tail3;refine Gd.bind _ (Gd.mono (λm' ⟨x1,x2,x3,_⟩=>⟨by show 1<=m';omega,x2,vD hp 0 r.2.1,x3⟩) _ (Yp hk (vD hp 0 r.2.1) (n - r.2.1) r.2.1 (by omega) (by omega) λi j hij hj=> ?_))
   unfold kp;rw[Yr hp r4 (by omega),Yr hp r4 hj]
   exact r5 _ _ (by omega) (by omega)
omit hk in
end
end PV
namespace PV
open PySem PySem.Spec PyProof.Rows L2
section
open PySem.W PySem.Calls
variable {O:KeyOrd}{n:Nat}{key:Nat->O.α}
end
section
variable {prog:Program}{w:World}{A:Around}{E:Value->Shared->Prop}{s:Shared}
open PySem.W PySem.Calls
end
end PV
namespace PV
open PySem PySem.Spec PyProof.Rows L2
section
variable {prog:Program}{w:World}{A:Around}{E:Value->Shared->Prop}{s:Shared}
open HT in
open HT in
end
end PV
namespace PV
open PySem PySem.Spec PyProof.Rows L2
end PV
namespace L2
open PySem PySem.Spec PyProof.Rows PySem.W
end L2
namespace L2
open PySem PySem.Spec PyProof.Rows PySem.W
end L2
namespace L2
open PySem PySem.Spec PyProof.Rows PySem.W
end L2
namespace PV
open PySem PySem.Spec PyProof.Rows L2 PySem.W
end PV
namespace L2
open PySem PySem.Spec PyProof.Rows PySem.W
end L2
namespace PV
open PySem PySem.Spec PyProof.Rows L2
end PV
namespace PV
open PySem PySem.Spec PyProof.Rows L2 PySem.W
end PV
namespace PV
open PySem PySem.Spec PyProof.Rows L2
end PV
namespace PV
open PySem PySem.Spec PyProof.Rows L2 PySem.W
def FsIn (B H0 H:Hp)(O:Addr->Option Nat)(us:List (Str×V))(fs:List (Str×Fd)):Prop:=(us.length=fs.length/\InC us)/\∀(m:Nat) (f:Str) (d:Fd),fs[m]? =some (f,d)->∃v,us[m]? =some (f,v)/\
 match d with
 | .tv t=>Rep B v t
 | .tl ts=>∃l xs,v= .ref l/\B l=none/\H0 l=none/\H l=some (.lst xs)/\zz B xs ts/\O l=some (m+1)
def vF (cl:Nat->Value)(k:Nat)(B H0 H:Hp)(x:Addr)(fs:List (Str×Fd)):Prop:=∃C dx us O,cl k= .ref C/\H x=some (.ins C dx us)/\B x=none/\H0 x=none/\O x=some 0/\FsIn B H0 H O us fs
theorem SI.obAt {Y:Fx}{B:Hp}{ρ:En}{σ:Sg}{H:Hp}(I:SI Y B ρ σ H){j k:Nat}{x:Addr}{fs:List (Str×Fd)}{os:List Ob}(hx:Y.as=[x])(h:ρ[j]? =some (.st ((k,fs) :: os))):vF Y.cl k B Y.H0 H x fs:=by
 obtain⟨as,O,s⟩:=I.st;obtain⟨a,C,dx,vs,e1,e2,e3,e4,e5,e6,e7,e8⟩:=s.st j _ h 0 k fs rfl;have ha:a=x:=by
  obtain⟨t,et⟩:=s.pre;rw[hx]at et;rw[← et]at e1;exact(aH e1).symm
 subst ha;refine⟨C,dx,vs,λb=>(O b).bind λp=>if p.1=0 then some p.2 else none,e2,e3,e4,e5,by dsimp only;rw[e6];rfl,e7,λm f d z=> ?_⟩
 obtain⟨v,z1,z2⟩:=e8 m f d z;refine⟨v,z1, ?_⟩;cases d with
 | tv t=>exact z2
 | tl ts=>
  obtain⟨l,xs,p1,p2,p3,p4,p5,_,p7⟩:=z2;exact⟨l,xs,p1,p2,p3,p4,p5,by dsimp only;rw[p7];rfl⟩
def enM (k j:Nat)(fs:List (Str×Fd))(ts:List T):En:= .ob k 0 :: (ts.map Sl.vl++(ad (j - 1 - ts.length) .un++[.st [(k,fs)]]))
theorem ZT {k j:Nat}{i:Nat}(h:(enM k j fs ts)[i]? =some s):(i=0/\s= .ob k 0)\/(∃i' t,i=i' +1/\ts[i']? =some t/\s= .vl t)\/s= .un\/(s= .st [(k,fs)]/\i=1+ts.length+(j - 1 - ts.length)):=by
 unfold enM at h;cases i with
 | zero=>exact .inl ⟨rfl,(aH h).symm⟩
 | succ i=>
  rw[bo]at h
  by_cases hi:i < ts.length
  ·rw[aD (by simpa using hi),au,aj hi]at h
   exact .inr (.inl ⟨i,_,rfl,aj hi,(aH h).symm⟩)
  ·rw[ay (by simpa using hi)]at h
   by_cases h2:i - (ts.map Sl.vl).length < j - 1 - ts.length
   ·rw[aD (by simpa using h2),aC,if_pos h2]at h
    exact .inr (.inr (.inl (aH h).symm))
   ·rw[ay (by simpa using h2)]at h
    generalize hq:i - (ts.map Sl.vl).length - (ad (j - 1 - ts.length) Sl.un).length=q at h;cases q with
    | zero=>
     refine .inr (.inr (.inr ⟨(aH h).symm, ?_⟩));rw[ae,aN]at hq;rw[ae]at h2;omega
    | succ q=>cases h
theorem zz.at {B:Hp}:∀{vs:List V} {ts:List T},zz B vs ts->∀{i:Nat} {t:T},ts[i]? =some t->∃v,vs[i]? =some v/\Rep B v t
 | _,_,.nil,i,t,h=>by simp at h
 | _,_, @zz.cons _ v _ _ _ r rr,0,t,h=>by cases h;exact⟨v,rfl,r⟩
 | _,_,.cons r rr,i+1,t,h=>zz.at rr (i:=i) h
theorem SI.startM {cl:Nat->Value}{k j:Nat}{B H0 H:Hp}{x:Addr}{fs:List (Str×Fd)}{E:XK}{vs:List V}{ts:List T}{N:List Str}(hN:N.length=j+1)(hj:ts.length+1<=j)(sB:zl B H0)(sH:zl H0 H)(ob:vF cl k B H0 H x fs)(r:zz B vs ts):
  SI ⟨B,H0,E,cl,[x]⟩ B (enM k j fs ts) (L2.start N (.ref x :: vs)) H where
 s0:=sB
 sH:=sH
 sB:=sB.trans sH
 old:=λ_ _ _=>rfl
 len:=by
  unfold enM L2.start;have:=r.length;simp only[ah,aB,ae,aN,bi];omega
 vl:=λi t h=>by
  rcases ZT h with ⟨_,e⟩ | ⟨i',t',e1,e2,e3⟩ | e | ⟨e,_⟩
  ·cases e
  ·cases e3;subst e1;obtain⟨v,ev,rv⟩:=r.at e2;refine⟨v, ?_,rv⟩;unfold L2.start;have hi:i' < vs.length:=(aq.mp ev).1;rw[aD (by simpa using hi),aI,bo,au,ev];rfl
  ·cases e
  ·cases e
 ow:=λi t h=>by
  rcases ZT h with ⟨_,e⟩ | ⟨i',t',e1,e2,e3⟩ | e | ⟨e,_⟩
  ·cases e
  ·cases e3
  ·cases e
  ·cases e
 xc:=λi t h=>by
  rcases ZT h with ⟨_,e⟩ | ⟨i',t',e1,e2,e3⟩ | e | ⟨e,_⟩
  ·cases e
  ·cases e3
  ·cases e
  ·cases e
 st:=by
  obtain⟨C,dx,us,O,c1,c2,c3,c4,c5,c6,c7⟩:=ob;refine⟨[x],λb=>(O b).map λm=>(0,m),cK _,λi os h=> ?_,λi i' os os' h h' => ?_,λi k' n h=> ?_,λi k' fs0 h=> ?_,λi os h n k' fs' e=> ?_⟩
  ·rcases ZT h with ⟨_,e⟩ | ⟨_,_,_,_,e⟩ | e | ⟨e,_⟩ <;> cases e
   rfl
  ·rcases ZT h with ⟨_,e⟩ | ⟨_,_,_,_,e⟩ | e | ⟨_,e⟩
   ·cases e
   ·cases e
   ·cases e
   ·rcases ZT h' with ⟨_,e'⟩ | ⟨_,_,_,_,e'⟩ | e' | ⟨_,e'⟩
    ·cases e'
    ·cases e'
    ·cases e'
    ·rw[e,e']
  ·rcases ZT h with ⟨e0,e⟩ | ⟨i',t',e1,e2,e3⟩ | e | ⟨e,_⟩
   ·cases e;subst e0;exact⟨x,C,dx,us,rfl,rfl,c1,c2,c3,c4,c6.2⟩
   ·cases e3
   ·cases e
   ·cases e
  ·rcases ZT h with ⟨e0,e⟩ | ⟨i',t',e1,e2,e3⟩ | e | ⟨e,_⟩
   ·cases e
   ·cases e3
   ·cases e
   ·cases e
  ·rcases ZT h with ⟨e0,e'⟩ | ⟨i',t',e1,e2,e3⟩ | e' | ⟨e',_⟩
   ·cases e'
   ·cases e3
   ·cases e'
   ·cases e';cases n with
    | succ n=>cases e
    | zero=>
     cases e;refine⟨x,C,dx,us,rfl,c1,c2,c3,c4,by rw[c5];rfl,c6,λm f d z=> ?_⟩
     obtain⟨v,z1,z2⟩:=c7 m f d z;refine⟨v,z1, ?_⟩;cases d with
     | tv t=>exact z2
     | tl us' =>
      obtain⟨l,xs,p1,p2,p3,p4,p5,p6⟩:=z2;refine⟨l,xs,p1,p2,p3,p4,p5,λj' us2 hj' => ?_,by show iC _ (O l)=_;rw[p6];rfl⟩
      rcases ZT hj' with ⟨_,e⟩ | ⟨_,_,_,_,e⟩ | e | ⟨e,_⟩ <;> cases e
def PoO (cl:Nat->Value)(k:Nat)(B H0:Hp)(x:Addr)(r:R (T×List (Str×Fd)))(Q:VK)(E:XK):Prop:=match r with
 | .ok (t,fs')=>∀v H' B',zl H0 H' ->zl B B' ->zl B' H' ->(∀b o,H0 b=some o->B' b=B b)->vF cl k B' H0 H' x fs' ->Rep B' v t->Q v H'
 | .ex c=>∀d H',zl H0 H' ->zl B H' ->E (cl c) d H'
 | .bad=>False
def spM (cl:Nat->Value)(k n:Nat)(g:List (Str×Fd)->List T->R (T×List (Str×Fd))):Sp:=λvs H Q E=>∃(x:Addr) (vs' :List V) (ts:List T) (B H0:Hp) (fs:List (Str×Fd)),vs= .ref x :: vs' /\ts.length=n/\zl B H0/\zl H0 H/\vF cl k B H0 H x fs/\zz B vs' ts/\PoO cl k B H0 x (g fs ts) Q E
def PoR (Y:Fx)(B:Hp)(r:R (T×En))(D:yd):Prop:=match r with
 | .ok (t,ρ')=>(∀v σ' H' B',zl B B' ->SI Y B' ρ' σ' H' ->Rep B' v t->D.rt v H')/\(t= .non->∀σ' H' B',zl B B' ->SI Y B' ρ' σ' H' ->D.nx σ' H')
 | .ex c=>XP Y B c
 | .bad=>False
theorem XP.up {c:Nat}(s:zl B B')(h:XP Y B c):XP Y B' c:=λd H' a b=>h d H' a (s.trans b)
theorem PoR.up {r:R (T×En)}{D:yd}(s:zl B B')(h:PoR Y B r D):PoR Y B' r D:=by
 unfold PoR at h ⊢;split
 ·exact⟨λv σ' H' B2 a=>h.1 v σ' H' B2 (s.trans a),λe σ' H' B2 a=>h.2 e σ' H' B2 (s.trans a)⟩
 ·exact XP.up s h
 ·exact h
structure Qx (X:Cx) (Y:Fx) (body:List Stmt) (f:En->R (T×En)):Prop where
 mk ::
 go:∀ρ,PSs X body λD σ H=>∃B,SI Y B ρ σ H/\PoR Y B (f ρ) D
def PoM (Y:Fx)(B:Hp)(r:R (T×En))(σ:Sg)(Q:VK):Prop:=match r with
 | .ok (t,ρ')=>∀v H' B',zl B B' ->SI Y B' ρ' σ H' ->Rep B' v t->Q v H'
 | .ex c=>XP Y B c
 | .bad=>False
structure Qy (X:Cx) (Y:Fx) (e:Expr) (f:En->R (T×En)):Prop where
 mk ::
 go:∀ρ,PE X e λσ H Q=>∃B,SI Y B ρ σ H/\PoM Y B (f ρ) σ Q
section
variable {X:Cx}{Y:Fx}{e:Expr}{st:Stmt}{rest:List Stmt}{pos:Pos}
def G9 (f:En->R T):En->R (T×En):=λρ=>(f ρ).bind λt=> .ok (t,ρ)
theorem Kw (h:Snd X Y e f):Qy X Y e (G9 f):= .mk λρ=>PE.imp (h ρ) λσ H Q ⟨B,I,q⟩=>⟨B,I,by
 unfold G9 at q;revert q;cases f ρ with
 | ok t=>exact λq v H' s r=>q v H' _ (zE.ge I.sB s) (I.grow s) r
 | ex c=>exact λq=>q
 | bad=>exact λq=>q⟩
theorem z0O (h:Qy X Y e f):Qx X Y [.Return (some e) pos] f:= .mk λρ=>PSs.imp (wE (yg (h.go ρ))) λD σ H ⟨B,I,q⟩=>⟨B,I,by
 unfold PoR at q;unfold PoM;split at q
 ·exact λv H' B' a b c=>q.1 v σ H' B' a b c
 ·exact q
 ·exact q⟩
def z0P:En->R (T×En):=λρ=> .ok (.non,ρ)
theorem z0Q:Qx X Y [] z0P:= .mk λρ=>PSs.imp WZ λD σ H ⟨B,I,q⟩=>q.2 rfl σ H B (zl.refl _) I
def j6 (f:En->RS)(g:En->R (T×En)):En->R (T×En):=λρ=>match f ρ with
 | .nx ρ' =>g ρ'
 | .ex c=> .ex c
 | _=> .bad
theorem Kx {f:En->RS}{g:En->R (T×En)}(h1:Jg X Y st f)(h2:Qx X Y rest g):Qx X Y (st :: rest) (j6 f g):= .mk λρ=>by
 refine PSs.imp (wD (u:=λD σ H=>∃ρ' B,SI Y B ρ' σ H/\PoR Y B (g ρ') D) (h1 ρ) ?_) ?_
 ·intro pins s σ H D I ⟨ρ',q⟩;exact h2.go ρ' pins s σ H D I q
 ·intro D σ H ⟨B,I,q⟩;refine⟨B,I, ?_⟩;unfold j6 at q;revert q;cases f ρ with
  | nx ρ' =>exact λq σ' H' B' s I' =>⟨ρ',B',I',q.up s⟩
  | ex c=>exact λq=>q
  | rt t=>exact λq=>q.elim
  | rf t=>exact λq=>q.elim
  | bk ρ=>exact λq=>q.elim
  | ct ρ=>exact λq=>q.elim
  | bad=>exact λq=>q.elim
end
def WV (k j:Nat)(r:R (T×En)):R (T×List (Str×Fd)):=r.bind λp=>match p.2[j]? with
 | some (.st ((k',fs) :: _))=>if k' =k then .ok (p.1,fs) else .bad
 | _=> .bad
section
variable {P:Program}{w:World}{K:ac}{mg:Str->Option Value}{base:Heap}
theorem vG {cl:Nat->Value}{x qual:Str}{st:Stmt}{f:Addr}{fd:FuncData}{N ps:List Str}{k n j kr:Nat}{fb:En->R (T×En)}(F:Fun K x qual st f fd)(S:zi N ps (zb st))(hn:ps.length=n+1)(hN:N.length=j+1)(hj:n+1<=j)
  (hb:∀(cdv:Value) (A:Around) (outer:List Env) (s:Shared) (H:Hp) (E:XK) (Y:Fx),Y.cl=cl->Y.E=E->ZL kr (A.deeper (envOfC qual (zb st) s.heap.objs.size f cdv))->
   Qx (Jf (CX1 P w) P w K mg base N qual (zb st) f cdv A outer s H E) Y (zN st) fb):zK P w K mg base (CX1 P w) (kr+1) f fd ps (spM cl k n λfs ts=>WV k j (fb (enM k j fs ts))):=by
 refine Fun.okX F S (λvs H Q E z=> ?_) λcdv A outer s H vs Q E hr z=> ?_
 ·obtain⟨x,vs',ts,B,H0,fs,e,hl,_,_,_,r,_⟩:=z;rw[e,ah,r.length,hl,hn]
 obtain⟨x,vs',ts,B,H0,fs,e,hl,sB,sH,ob,r,q⟩:=z;subst e;refine⟨_,(hb cdv A outer s H E ⟨B,H0,E,cl,[x]⟩ rfl rfl hr).go (enM k j fs ts),B,SI.startM hN (by omega) sB sH ob r, ?_⟩
 have q:PoO cl k B H0 x (WV k j (fb (enM k j fs ts))) Q E:=q;unfold WV at q;revert q;cases fb (enM k j fs ts) with
 | bad=>exact λq=>q
 | ex c=>exact λq=>q
 | ok p=>
  obtain⟨t,ρ'⟩:=p;show PoO cl k B H0 x (match ρ'[j]? with | some (.st ((k',fs) :: _))=>(if k' =k then R.ok (t,fs) else R.bad) | _=>R.bad) Q E->_
  split
  ·rename_i k' fs' os ej;split
   ·rename_i hk;subst hk;intro q;have key:∀v σ' H' B',zl B B' ->SI ⟨B,H0,E,cl,[x]⟩ B' ρ' σ' H' ->Rep B' v t->Q v H' :=λv σ' H' B' s1 I' rv=>q v H' B' I'.sH s1 I'.sB (λb o h=>I'.old b o h) (I'.obAt rfl ej) rv;exact⟨key,λet σ' H' B' s1 I' =>key .non σ' H' B' s1 I' (by rw[et];exact .non)⟩
   ·exact λq=>q.elim
  ·exact λq=>q.elim
end
def obD (k i j:Nat)(ρ:En):Option (Nat×List (Str×Fd)×List Ob):=match ρ[i]?,ρ[j]? with
 | some (.ob k' n),some (.st os)=>match os[n]? with
  | some (k2,fs)=>if k' =k/\k2=k then some (n,fs,os) else none
  | none=>none
 | _,_=>none
theorem uT {k i j:Nat}{ρ:En}{n:Nat}{fs:List (Str×Fd)}{os:List Ob}(h:obD k i j ρ=some (n,fs,os)):ρ[i]? =some (.ob k n)/\ρ[j]? =some (.st os)/\os[n]? =some (k,fs):=by
 unfold obD at h;split at h
 ·rename_i k' n' os' e1 e2;split at h
  ·rename_i k2 fs' e3;split at h
   ·rename_i hk;obtain⟨rfl,rfl⟩:=hk;cases h;exact⟨e1,e2,e3⟩
   ·cases h
  ·cases h
 ·cases h
theorem Ys {f:Str}{d:Fd}:∀{fs:List (Str×Fd)} {vs:List (Str×V)},(∀(m:Nat) (g:Str) (e:Fd),fs[m]? =some (g,e)->∃v,vs[m]? =some (g,v))->fs.lookup f=some d->∃(m:Nat) (v:V),fs[m]? =some (f,d)/\vs[m]? =some (f,v)/\vs.lookup f=some v
 | [],_,_,h=>by simp at h
 | (g,e) :: fs,vs,al,h=>by
  obtain⟨v,hv⟩:=al 0 g e rfl;cases vs with
  | nil=>cases hv
  | cons w vs=>
   cases hv;rw[aM]at h
   by_cases hx:f=g
   ·subst hx;rw[beq_self_eq_true]at h;cases h;exact⟨0,v,rfl,rfl,by rw[aM,beq_self_eq_true]⟩
   ·rw[beq_eq_false_iff_ne.mpr hx]at h;obtain⟨m,v',a,b,c⟩:=Ys (fs:=fs) (vs:=vs) (λm=>al (m+1)) h;exact⟨m+1,v',a,b,by rw[aM,beq_eq_false_iff_ne.mpr hx];exact c⟩
theorem Yt {f:Str}:∀{fs:List (Str×Fd)} {vs:List (Str×V)},vs.length=fs.length->(∀(m:Nat) (g:Str) (e:Fd),fs[m]? =some (g,e)->∃v,vs[m]? =some (g,v))->fs.lookup f=none->vs.lookup f=none
 | [],vs,l,_,h=>by
  cases vs with
  | nil=>rfl
  | cons _ _=>cases l
 | (g,e) :: fs,vs,l,al,h=>by
  obtain⟨v,hv⟩:=al 0 g e rfl;cases vs with
  | nil=>cases hv
  | cons w vs=>
   cases hv;rw[aM]at h ⊢
   by_cases hx:f=g
   ·subst hx;rw[beq_self_eq_true]at h;cases h
   ·rw[beq_eq_false_iff_ne.mpr hx]at h ⊢;exact Yt (by simpa using l) (λm=>al (m+1)) h
section
end
def jl (f:Str)(d:Fd):List (Str×Fd)->List (Str×Fd)
 | []=>[(f,d)]
 | (g,x) :: r=>if g=f then (g,d) :: r else (g,x) :: jl f d r
def Xn (f:Str):List (Str×Fd)->Nat
 | []=>0
 | (g,_) :: r=>if g=f then 0 else Xn f r+1
theorem uU {f:Str}{d:Fd}{v:V}:∀{fs:List (Str×Fd)} {vs:List (Str×V)},vs.length=fs.length->(∀(m:Nat) (g:Str) (e:Fd),fs[m]? =some (g,e)->∃v,vs[m]? =some (g,v))->(L2.putF f v vs).length=(jl f d fs).length
 | [],vs,l,_=>by
  cases vs with
  | nil=>rfl
  | cons _ _=>cases l
 | (g,e) :: fs,vs,l,al=>by
  obtain⟨w,hw⟩:=al 0 g e rfl;cases vs with
  | nil=>cases hw
  | cons w vs=>
   cases hw;unfold L2.putF jl;split
   ·simpa using l
   ·rw[ah,ah,uU (by simpa using l) (λm=>al (m+1))]
theorem uV {f:Str}{d:Fd}{v:V}:∀{fs:List (Str×Fd)} {vs:List (Str×V)},vs.length=fs.length->(∀(m:Nat) (g:Str) (e:Fd),fs[m]? =some (g,e)->∃v,vs[m]? =some (g,v))->∀{m:Nat} {g:Str} {e:Fd},(jl f d fs)[m]? =some (g,e)->
  (m=Xn f fs/\g=f/\e=d/\(L2.putF f v vs)[m]? =some (f,v))\/(m ≠ Xn f fs/\fs[m]? =some (g,e)/\∀v',vs[m]? =some (g,v')->(L2.putF f v vs)[m]? =some (g,v'))
 | [],vs,l,_,m,g,e,h=>by
  cases vs with
  | cons _ _=>cases l
  | nil=>
   cases m with
   | zero=>cases h;exact .inl ⟨rfl,rfl,rfl,rfl⟩
   | succ m=>cases h
 | (g0,e0) :: fs,vs,l,al,m,g,e,h=>by
  obtain⟨w,hw⟩:=al 0 g0 e0 rfl;cases vs with
  | nil=>cases hw
  | cons w vs=>
   cases hw;unfold jl at h;unfold Xn L2.putF
   by_cases hg:g0=f
   ·rw[if_pos hg]at h ⊢;rw[if_pos hg];cases m with
    | zero=>cases h;exact .inl ⟨rfl,hg,rfl,by rw[hg];rfl⟩
    | succ m=>exact .inr ⟨i9 _,h,λv' hv=>hv⟩
   ·rw[if_neg hg]at h ⊢;rw[if_neg hg];cases m with
    | zero=>cases h;exact .inr ⟨(i9 _).symm,rfl,λv' hv=>hv⟩
    | succ m=>
     rcases uV (v:=v) (fs:=fs) (vs:=vs) (by simpa using l) (λm=>al (m+1)) h with ⟨a,b,c,d⟩ | ⟨a,b,c⟩
     ·exact .inl ⟨by rw[a],b,c,d⟩
     ·exact .inr ⟨λz=>a (Nat.succ.inj z),b,c⟩
theorem Yu (hf:f∈Xl)(h:InC vs):InC (L2.putF f v vs):=λg hg=>by
 rw[L2.lookup_putF,if_neg λz=>hg (by rw[z];exact hf)];exact h g hg
section
def FdN (B H H1:Hp)(v:V):Fd->Prop
 | .tv t=>H1=H/\Rep B v t
 | .tl ts=>∃p xs,v= .ref p/\H p=none/\H1=upd H p (.lst xs)/\zz B xs ts
theorem SI.putF (I:SI Y B ρ σ H){k i j n:Nat}{fs:List (Str×Fd)}{os:List Ob}{f:Str}{d:Fd}{v:V}{a C dx:Addr}{vs:List (Str×V)}{H1:Hp}(hf:f∈Xl)(h:obD k i j ρ=some (n,fs,os))(ha:σ[i]? =some (some (V.ref a)))(hH:H a=some (.ins C dx vs))(hd:FdN B H H1 v d):
  SI Y B (ρ.set j (.st (os.set n (k,jl f d fs)))) σ (upd H1 a (.ins C dx (L2.putF f v vs))):=by
 obtain⟨h1,h2,h3⟩:=uT h;obtain⟨as,O,s⟩:=I.st;obtain⟨a1,C1,dx1,vs1,e1,e2,e3,e4,e5,e6,e7,e8⟩:=s.st j os h2 n k fs h3;obtain⟨a',C',dx',vs',g1,g2,_⟩:=s.ob i k n h1;rw[e1]at g1;cases g1;rw[ha]at g2;cases g2;rw[hH]at e3;cases e3;have al:∀(m:Nat) (g:Str) (e:Fd),fs[m]? =some (g,e)->∃v,vs[m]? =some (g,v):=λm g e he=>let ⟨v,z,_⟩:=e8 m g e he;⟨v,z⟩;obtain⟨pn,hpn⟩:∃pn:Addr->Prop,∀b,(pn b↔v= .ref b/\H b=none):=⟨_,λ_=>Iff.rfl⟩;have sH1:zl H H1:=by
  cases d with
  | tv t=>rw[hd.1];exact zl.refl _
  | tl ts=>obtain⟨p,xs,_,hp,e,_⟩:=hd;rw[e];exact zl.new hp _
 have keep:∀b o,H b=some o->b ≠ a->(upd H1 a (.ins C dx (L2.putF f v vs))) b=some o:=λb o hb hne=>by rw[zn hne];exact sH1 b o hb
 have nb:∀b o,B b=some o->b ≠ a:=λb o h z=>by subst z;rw[e4]at h;cases h
 have n0:∀b o,Y.H0 b=some o->b ≠ a:=λb o h z=>by subst z;rw[e5]at h;cases h
 have own:∀(j' :Nat) (ws:List T),(ρ.set j (.st (os.set n (k,jl f d fs))))[j']? =some (Sl.ow ws)->ρ[j']? =some (Sl.ow ws):=λj' ws hw=>by
  rcases zk hw with ⟨_,z⟩ | ⟨_,z⟩
  ·cases z
  ·exact z
 have ok' :∀b,UB ρ σ b->UB (ρ.set j (.st (os.set n (k,jl f d fs)))) σ b:=λb hb j' ws hw=>hb j' ws (own j' ws hw);have lst_ne:∀{b:Addr} {xs:List V},H b=some (.lst xs)->b ≠ a:=λhb z=>by subst z;rw[hH]at hb;cases hb
 obtain⟨O',hO1,hO2⟩:∃O' :Addr->Option (Nat×Nat),(∀b o,H b=some o->O' b=O b)/\∀b,v= .ref b->H b=none->O' b=some (n,Xn f fs+1):=by
  classical
  refine⟨λb=>if v= .ref b/\H b=none then some (n,Xn f fs+1) else O b, ?_, ?_⟩
  ·intro b o hb;exact if_neg λz=>by rw[hb]at z;cases z.2
  ·intro b z1 z2;exact if_pos ⟨z1,z2⟩
 refine⟨I.s0,λb o h=>keep b o (I.sH b o h) (n0 b o h),λb o h=>keep b o (I.sB b o h) (nb b o h),I.old,by rw[aP];exact I.len,λj' u h=> ?_,λj' ws h=> ?_,λj' c h=> ?_,as,O',s.pre,λi' os' h=> ?_,λi1 i2 os1 os2 q1 q2=> ?_,λi' k' n' h=> ?_,λi' k' fs0 h=> ?_,λi' os' h n' k' fs' e=> ?_⟩
 ·rcases zk h with ⟨_,z⟩ | ⟨_,z⟩
  ·cases z
  ·exact I.vl j' u z
 ·have z:=own j' ws h;obtain⟨b,xs',y1,y2,y3,y4,y5,y6⟩:=I.ow j' ws z;exact⟨b,xs',y1,y2,y3,keep b _ y4 (lst_ne y4),y5,λj2 vs2 hj hw=>y6 j2 vs2 hj (own j2 vs2 hw)⟩
 ·rcases zk h with ⟨_,z⟩ | ⟨_,z⟩
  ·cases z
  ·exact I.xc j' c z
 ·rcases zk h with ⟨_,z⟩ | ⟨_,z⟩
  ·cases z;rw[aP];exact s.len j os h2
  ·exact s.len _ _ z
 ·have one:∀i1 os1,(ρ.set j (.st (os.set n (k,jl f d fs))))[i1]? =some (Sl.st os1)->i1=j:=λi1 os1 q1=>by
   rcases zk q1 with ⟨e,_⟩ | ⟨_,z⟩
   ·exact e
   ·exact s.one i1 j os1 os z h2
  rw[one i1 os1 q1,one i2 os2 q2]
 ·rcases zk h with ⟨_,z⟩ | ⟨_,z⟩
  ·cases z
  ·obtain⟨b,C2,dx2,vs2,y1,y2,y3,y4,y5,y6⟩:=s.ob i' k' n' z
   by_cases hb:b=a
   ·subst hb;rw[hH]at y4;cases y4;exact⟨b,C,dx,_,y1,y2,y3,zB,y5,y6.1,Yu hf y6.2⟩
   ·exact⟨b,C2,dx2,vs2,y1,y2,y3,keep b _ y4 hb,y5,y6⟩
 ·rcases zk h with ⟨_,z⟩ | ⟨_,z⟩
  ·cases z
  ·exact s.oc i' k' _ z
 ·rcases zk h with ⟨rfl,z⟩ | ⟨hne,z⟩
  ·cases z;have old:∀{n' m' :Nat} {v' :V} {d' :Fd},FdR Y B ρ σ H (λl=>O l=some (n',m' +1)) v' d' ->FdR Y B (ρ.set i' (.st (os.set n (k,jl f d fs)))) σ (upd H1 a (.ins C dx (L2.putF f v vs))) (λl=>O' l=some (n',m' +1)) v' d' :=λ{n' m' v' d'} y2=>by
    cases d' with
    | tv t=>exact y2
    | tl ws=>
     obtain⟨l2,xs2,w1,w2,w3,w4,w5,w6,w7⟩:=y2;exact⟨l2,xs2,w1,w2,w3,keep l2 _ w4 (lst_ne w4),w5,ok' l2 w6,by show O' l2=_;rw[hO1 l2 _ w4];exact w7⟩
   rcases zk e with ⟨rfl,z⟩ | ⟨hn,z⟩
   ·cases z;refine⟨a,C,dx,_,e1,e2,zB,e4,e5,by rw[hO1 a _ hH];exact e6,⟨uU e7.1 al,Yu hf e7.2⟩,λm' f' d' z=> ?_⟩
    rcases uV (v:=v) e7.1 al z with ⟨q1,q2,q3,q4⟩ | ⟨q1,q2,q3⟩
    ·subst q2 q3;refine⟨v,q4, ?_⟩;cases d' with
     | tv t=>exact hd.2
     | tl ts=>
      obtain⟨p,xs,w1,w2,w3,w4⟩:=hd;have hpa:p ≠ a:=λz=>by rw[z,hH]at w2;cases w2
      refine⟨p,xs,w1,I.sB.free w2,I.sH.free w2,by rw[zn hpa,w3];exact zB,w4,λj' ws hw=> ?_,by show O' p=_;rw[hO2 p w1 w2,q1]⟩
      obtain⟨b,xs',y1,y2,y3,y4,_⟩:=I.ow j' ws (own j' ws hw);rw[y1];intro z;injection z with z;injection z with z;injection z with z;rw[z,w2]at y4;cases y4
    ·obtain⟨v',y1,y2⟩:=e8 m' f' d' q2;exact⟨v',q3 v' y1,old y2⟩
   ·obtain⟨b,C2,dx2,vs2,y1,y2,y3,y4,y5,y6,y7,y8⟩:=s.st i' os h2 n' k' fs' z;have hne:b ≠ a:=λw=>by
     subst w;rw[e6]at y6;injection y6 with y6;injection y6 with y6 _;exact hn y6.symm
    refine⟨b,C2,dx2,vs2,y1,y2,keep b _ y3 hne,y4,y5,by rw[hO1 b _ y3];exact y6,y7,λm' f' d' z=> ?_⟩
    obtain⟨v',x1,x2⟩:=y8 m' f' d' z;exact⟨v',x1,old x2⟩
  ·exact absurd (s.one i' j os' os z h2) hne
end
section
theorem SI.obA (I:SI Y B ρ σ H){k i j n:Nat}{fs:List (Str×Fd)}{os:List Ob}(h:obD k i j ρ=some (n,fs,os)):∃a C dx vs,σ[i]? =some (some (V.ref a))/\Y.cl k= .ref C/\H a=some (.ins C dx vs)/\vs.length=fs.length/\∀(m:Nat) (g:Str) (e:Fd),fs[m]? =some (g,e)->∃v,vs[m]? =some (g,v):=by
 obtain⟨h1,h2,h3⟩:=uT h;obtain⟨as,O,s⟩:=I.st;obtain⟨a,C,dx,vs,e1,e2,e3,e4,e5,e6,e7,e8⟩:=s.st j os h2 n k fs h3;obtain⟨a',C',dx',vs',g1,g2,_⟩:=s.ob i k n h1;rw[e1]at g1;cases g1;exact⟨a,C,dx,vs,g2,e2,e3,e7.1,λm g e he=>let ⟨v,z,_⟩:=e8 m g e he;⟨v,z⟩⟩
def stF (k i j:Nat)(f:Str)(fa:En->R T):En->RS:=λρ=>(fa ρ).s λt=>match obD k i j ρ with
 | some (n,fs,os)=>if fs.length < 1000 then .nx (ρ.set j (.st (os.set n (k,jl f (.tv t) fs)))) else .bad
 | none=> .bad
theorem Qz {k i j:Nat}{x f:Str}{px:Pos}{C:Addr}(hv:PE X (.Name x px) (wC i))(hc:Y.cl k= .ref C)(c:L2.Cls X.K C)(n:L2.NoAttr X.K C f)(ha:Snd X Y a fa)(hs:swapsWith a (some (.Attribute (.Name x px) f p')) pos.line X.env=pure false:=by rfl)(hf:f∈Xl:=by decide):Jg X Y (.Assign [.Attribute (.Name x px) f p'] a pos) (stF k i j f fa):= .mk λρ=>
 PS.imp (ka hv (ha ρ) hs) λD σ H ⟨B,I,q⟩=>J0 I q λt v H1 _ s1 r1 I1 q1=>by
  split at q1
  ·rename_i n' fs os e;split at q1
   ·rename_i hl;obtain⟨a,C',dx,vs,e1,e2,e3,e4,e5⟩:=I1.obA e;rw[hc]at e2;cases e2;exact⟨.ref a,e1,a,C,dx,vs,rfl,e3,c,n,by rw[e4];exact hl,q1 _ _ _ (zl.refl _) (I1.putF (d:= .tv t) hf e e1 e3 ⟨rfl,r1⟩)⟩
   ·exact q1.elim
  ·exact q1.elim
end
theorem PoM.up {r:R (T×En)}(s:zl B B')(h:PoM Y B r σ Q):PoM Y B' r σ Q:=by
 unfold PoM at h ⊢;split
 ·exact λv H' B2 a=>h v H' B2 (s.trans a)
 ·exact XP.up s h
 ·exact h
theorem xu {α β:Type}{rel:Hp->Hp->β->α->Prop}{f:En->R α}{k:α->R (T×En)}{K:β->Hp->Prop}(I:SI Y B ρ σ H)(h:PoM Y B ((f ρ).bind k) σ Q)
  (n:∀a b H1,f ρ= .ok a->zl H H1->rel (zE B H H1) H1 b a->SI Y (zE B H H1) ρ σ H1->PoM Y (zE B H H1) (k a) σ Q->K b H1):tS Y rel f ρ σ H K:=by
 refine⟨B,I, ?_⟩;cases e:f ρ with
 | bad=>rw[e]at h;exact h
 | ex c=>rw[e]at h;exact h
 | ok a=>
  rw[e]at h;exact λb H1 s r=>n a b H1 e s r (I.grow s) (PoM.up (zE.ge I.sB s) h)
section
theorem SI.back (I:SI Y B ρ σ H){k i j n:Nat}{fs:List (Str×Fd)}{os:List Ob}(h:obD k i j ρ=some (n,fs,os)){a:Addr}(ha:σ[i]? =some (some (V.ref a))):
  ∃H0,zl B H0/\zl H0 H/\vF Y.cl k B H0 H a fs/\zl Y.H0 H0/\∀(H' B' :Hp) (fs' :List (Str×Fd)),zl H0 H' ->zl B B' ->zl B' H' ->(∀b o,H0 b=some o->B' b=B b)->vF Y.cl k B' H0 H' a fs' ->SI Y B' (ρ.set j (.st (os.set n (k,fs')))) σ H' :=by
 classical
 obtain⟨h1,h2,h3⟩:=uT h;obtain⟨as,O,s⟩:=I.st;obtain⟨a1,C,dx,vs,e1,e2,e3,e4,e5,e6,e7,e8⟩:=s.st j os h2 n k fs h3;obtain⟨a',C',dx',vs',g1,g2,_⟩:=s.ob i k n h1;rw[e1]at g1;cases g1;rw[ha]at g2;cases g2
 let P:Addr->Prop:=λb=>b=a\/∃(m:Nat) (f:Str) (ts:List T),fs[m]? =some (f,.tl ts)/\vs[m]? =some (f,V.ref b)
 have lP:∀b,P b->b ≠ a->∃m xs,H b=some (.lst xs)/\B b=none/\Y.H0 b=none/\UB ρ σ b/\O b=some (n,m+1):=λb hb hne=>by
  rcases hb with z | ⟨m,f,ts,z1,z2⟩
  ·exact absurd z hne
  ·obtain⟨v,y1,l,xs,p1,p2,p3,p4,p5,p6,p7⟩:=e8 m f _ z1;rw[z2]at y1;cases y1;cases p1;exact⟨m,xs,p4,p2,p3,p6,p7⟩
 have nB:∀b o,B b=some o->¬ P b:=λb o hb hp=>by
  by_cases z:b=a
  ·rw[z,e4]at hb;cases hb
  ·obtain⟨_,_,_,q,_⟩:=lP b hp z;rw[q]at hb;cases hb
 have n0:∀b o,Y.H0 b=some o->¬ P b:=λb o hb hp=>by
  by_cases z:b=a
  ·rw[z,e5]at hb;cases hb
  ·obtain⟨_,_,_,_,q,_⟩:=lP b hp z;rw[q]at hb;cases hb
 let H0:Hp:=λb=>if P b then none else H b
 have H0n:∀{b o},H b=some o->¬ P b->H0 b=some o:=λ{b o} hb hp=>by show (if P b then none else H b)=_;rw[if_neg hp];exact hb
 have H0p:∀{b},P b->H0 b=none:=λ{b} hp=>if_pos hp;refine⟨H0,λb o hb=>H0n (I.sB b o hb) (nB b o hb),λb o hb=> ?_,⟨C,dx,vs,λb=>(O b).map Prod.snd,e2,e3,e4,H0p (.inl rfl),by show iC _ (O a)=_;rw[e6];rfl,e7,λm f d z=> ?_⟩,λb o hb=>H0n (I.sH b o hb) (n0 b o hb),λH' B' fs' s1 s2 s3 old ob' => ?_⟩
 ·have hb:(if P b then none else H b)=some o:=hb
  split at hb
  ·cases hb
  ·exact hb
 ·obtain⟨v,y1,y2⟩:=e8 m f d z;refine⟨v,y1, ?_⟩;cases d with
  | tv t=>exact y2
  | tl ts=>
   obtain⟨l,xs,p1,p2,p3,p4,p5,p6,p7⟩:=y2;subst p1;exact⟨l,xs,rfl,p2,H0p (.inr ⟨m,f,ts,z,y1⟩),p4,p5,by show iC _ (O l)=_;rw[p7];rfl⟩
 ·obtain⟨C',dx',us,O',c1,c2,c3,c4,c5,c6,c7⟩:=ob';rw[e2]at c1;cases c1;have keep:∀{b o},H b=some o->¬ P b->H' b=some o/\B' b=B b/\H0 b ≠ none:=λ{b o} hb hp=>⟨s1 _ _ (H0n hb hp),old b o (H0n hb hp),by rw[H0n hb hp];exact fJ _⟩
  have own:∀(j' :Nat) (ws:List T),(ρ.set j (.st (os.set n (k,fs'))))[j']? =some (Sl.ow ws)->ρ[j']? =some (Sl.ow ws):=λj' ws hw=>by
   rcases zk hw with ⟨_,z⟩ | ⟨_,z⟩
   ·cases z
   ·exact z
  have ok' :∀b,UB ρ σ b->UB (ρ.set j (.st (os.set n (k,fs')))) σ b:=λb hb j' ws hw=>hb j' ws (own j' ws hw);have owP:∀{j' ws b xs},ρ[j']? =some (Sl.ow ws)->σ[j']? =some (some (V.ref b))->H b=some (.lst xs)->¬ P b:=λ{j' ws b xs} w1 w2 w3 hp=>by
   by_cases z:b=a
   ·rw[z,e3]at w3;cases w3
   ·obtain⟨_,_,_,_,_,q,_⟩:=lP b hp z;exact q j' ws w1 w2
  obtain⟨O2,hO1,hO2⟩:∃O2:Addr->Option (Nat×Nat),(∀b,H0 b ≠ none->O2 b=O b)/\∀b m,H0 b=none->O' b=some m->O2 b=some (n,m):=by
   refine⟨λb=>if H0 b=none then (O' b).map λm=>(n,m) else O b, ?_, ?_⟩
   ·intro b hb;exact if_neg hb
   ·intro b m z1 z2;show (if H0 b=none then (O' b).map λm=>(n,m) else O b)=_
    rw[if_pos z1,z2];rfl
  refine⟨I.s0,λb o hb=>(keep (I.sH b o hb) (n0 b o hb)).1,s3,λb o hb=> ?_,by rw[aP];exact I.len,λj' u h=> ?_,λj' ws h=> ?_,λj' c h=> ?_,as,O2,s.pre,λi' os' h=> ?_,λi1 i2 os1 os2 q1 q2=> ?_,λi' k' n' h=> ?_,λi' k' fs0 h=> ?_,λi' os' h n' k' fs2 e=> ?_⟩
  ·rw[(keep (I.sH b o hb) (n0 b o hb)).2.1];exact I.old b o hb
  ·rcases zk h with ⟨_,z⟩ | ⟨_,z⟩
   ·cases z
   ·obtain⟨v,y1,y2⟩:=I.vl j' u z;exact⟨v,y1,y2.mono s2⟩
  ·have z:=own j' ws h;obtain⟨b,xs',y1,y2,y3,y4,y5,y6⟩:=I.ow j' ws z;obtain⟨w1,w2,_⟩:=keep y4 (owP z y1 y4);exact⟨b,xs',y1,by rw[w2];exact y2,y3,w1,y5.mono s2,λj2 vs2 hj hw=>y6 j2 vs2 hj (own j2 vs2 hw)⟩
  ·rcases zk h with ⟨_,z⟩ | ⟨_,z⟩
   ·cases z
   ·obtain⟨b,y1,y2⟩:=I.xc j' c z;exact⟨b,y1,s2 _ _ y2⟩
  ·rcases zk h with ⟨_,z⟩ | ⟨_,z⟩
   ·cases z;rw[aP];exact s.len j os h2
   ·exact s.len _ _ z
  ·have one:∀i1 os1,(ρ.set j (.st (os.set n (k,fs'))))[i1]? =some (Sl.st os1)->i1=j:=λi1 os1 q1=>by
    rcases zk q1 with ⟨e,_⟩ | ⟨_,z⟩
    ·exact e
    ·exact s.one i1 j os1 os z h2
   rw[one i1 os1 q1,one i2 os2 q2]
  ·rcases zk h with ⟨_,z⟩ | ⟨_,z⟩
   ·cases z
   ·obtain⟨b,C2,dx2,vs2,y1,y2,y3,y4,y5,y6⟩:=s.ob i' k' n' z
    by_cases hb:b=a
    ·subst hb;rw[e3]at y4;cases y4;exact⟨b,_,dx',us,y1,y2,y3,c2,c3,y6.1,c6.2⟩
    ·have hp:¬ P b:=λhp=>by obtain⟨_,_,q,_⟩:=lP b hp hb;rw[q]at y4;cases y4
     obtain⟨w1,w2,_⟩:=keep y4 hp;exact⟨b,C2,dx2,vs2,y1,y2,y3,w1,by rw[w2];exact y5,y6⟩
  ·rcases zk h with ⟨_,z⟩ | ⟨_,z⟩
   ·cases z
   ·obtain⟨b,C2,dx2,vs2,y1,y2,y3,y4,y5⟩:=s.oc i' k' _ z;exact⟨b,C2,dx2,vs2,y1,y2,y3,y4,y5.mono s2 (zl.refl _)⟩
  ·rcases zk h with ⟨rfl,z⟩ | ⟨hne,z⟩
   ·cases z;rcases zk e with ⟨rfl,z⟩ | ⟨hn,z⟩
    ·cases z;refine⟨a,_,dx',us,e1,e2,c2,c3,e5,hO2 a 0 c4 c5,c6,λm f d z=> ?_⟩;obtain⟨v,y1,y2⟩:=c7 m f d z;refine⟨v,y1, ?_⟩;cases d with
     | tv t=>exact y2
     | tl ts=>
      obtain⟨l,xs,p1,p2,p3,p4,p5,p6⟩:=y2;refine⟨l,xs,p1,p2, ?_,p4,p5,λj' ws hw=> ?_,hO2 l _ p3 p6⟩
      ·cases q:Y.H0 l with
       | none=>rfl
       | some o=>rw[H0n (I.sH l o q) (n0 l o q)]at p3;cases p3
      ·have w:=own j' ws hw;obtain⟨b,xs',q1,q2,q3,q4,_⟩:=I.ow j' ws w;rw[q1];intro z;injection z with z;injection z with z;injection z with z;exact(keep q4 (owP w q1 q4)).2.2 (by rw[z];exact p3)
    ·obtain⟨b,C2,dx2,vs2,y1,y2,y3,y4,y5,y6,y7,y8⟩:=s.st i' os h2 n' k' fs2 z;have hb:b ≠ a:=λw=>by
      rw[w,e6]at y6;injection y6 with y6;injection y6 with y6 _;exact hn y6.symm
     have hp:¬ P b:=λhp=>by obtain⟨_,_,q,_⟩:=lP b hp hb;rw[q]at y3;cases y3
     obtain⟨w1,w2,w3⟩:=keep y3 hp;refine⟨b,C2,dx2,vs2,y1,y2,w1,by rw[w2];exact y4,y5,by rw[hO1 b w3];exact y6,y7,λm' f' d' z=> ?_⟩
     obtain⟨v',x1,x2⟩:=y8 m' f' d' z;refine⟨v',x1, ?_⟩;cases d' with
     | tv t=>exact Rep.mono s2 x2
     | tl ws=>
      obtain⟨l2,xs2,q1,q2,q3,q4,q5,q6,q7⟩:=x2;have hp:¬ P l2:=λhp=>by
       by_cases z:l2=a
       ·rw[z,e3]at q4;cases q4
       ·obtain⟨m2,_,_,_,_,_,q⟩:=lP l2 hp z;rw[q]at q7;injection q7 with q7;injection q7 with q7 _;exact hn q7.symm
      obtain⟨w1,w2,w3⟩:=keep q4 hp;exact⟨l2,xs2,q1,by rw[w2];exact q2,q3,w1,q5.mono s2,ok' l2 q6,by show O2 l2=_;rw[hO1 l2 w3];exact q7⟩
   ·exact absurd (s.one i' j os' os z h2) hne
end
def Ky (k i j:Nat)(m:Str)(nn:Nat)(g:List (Str×Fd)->List T->R (T×List (Str×Fd)))(ga:En->R (List T)):En->R (T×En):=λρ=>match obD k i j ρ with
 | some (n,fs,os)=>if (fs.lookup m).isNone=true then (ga ρ).bind λts=>if ts.length=nn then (g fs ts).bind λp=> .ok (p.1,ρ.set j (.st (os.set n (k,p.2)))) else .bad else .bad
 | none=> .bad
section
variable {k i j kk kj nn:Nat}
theorem Kz {g:List (Str×Fd)->List T->R (T×List (Str×Fd))}(hv:PE X (.Name x px) (wC i))(hy:Y.cl=cl)(hc:cl k= .ref C)(c:L2.Cls X.K C)(hm:L2.Meth X.K C m f)(F:zK X.prog X.w X.K X.mg X.base (CX1 X.prog X.w) kj f fd ps (spM cl k nn g))(hr:ZL kk X.A)(hj:kj<=kk)(bd:L2.Binds X.K fd ps [])(hp:Z4 (CX1 X.prog X.w) X Y.E)(ha:JB X Y (a :: es) ga)
  (hst:starEach (a :: es) X.env=(false,eval a X.env) :: starEach es X.env:=by exact zw rfl) (hpl:((backTo pos (starEach es X.env)).any λx=>x.fst)=false:=by exact zQ rfl)
  (ht:eval (.Call (.Attribute (.Name x px) m ap) (a :: es) [] pos) X.env=(do
   let ov ← eval (.Name x px) X.env
   standAt ap.atName
   let (f,first) ← holding [ov] (getMethod ov m pl)
   callWith pos f first (backTo pos (starEach (a :: es) X.env)) (backToKw pos (keywordEach [] X.env))):=by rfl):
  Qy X Y (.Call (.Attribute (.Name x px) m ap) (a :: es) [] pos) (Ky k i j m nn g ga):= .mk λρ=>PE.imp (yx (pl:=pl) hv c hm F (hr.mono hj) bd .nil hp (ha ρ) hst hpl ht) λσ H Q ⟨B,I,q⟩=>by
 unfold Ky at q;split at q
 ·rename_i n fs os e;split at q
  ·rename_i hl;obtain⟨a',C',dx,vs,e1,e2,e3,e4,al⟩:=I.obA e;subst hy;rw[hc]at e2;cases e2;have hno:vs.lookup m=none:=Yt e4 al (by simpa using hl)
   refine⟨.ref a',e1,a',dx,vs,rfl,e3,hno, ?_⟩;refine xu I q λts us H1 _ s1 r1 I1 q1=> ?_;split at q1
   ·rename_i hn;rw[bh];obtain⟨H0,b1,b2,b3,b4,b5⟩:=I1.back e e1;refine⟨a',us,ts,_,H0,fs,rfl,hn,b1,b2,b3,r1, ?_⟩;revert q1;cases g fs ts with
    | bad=>exact λq1=>q1
    | ex c2=>exact λq1 d H' z1 z2=>q1 d H' (b4.trans z1) z2
    | ok p=>
     obtain⟨t,fs2⟩:=p;exact λq1 v H' B' z1 z2 z3 z4 z5 z6=>q1 v H' B' z2 (b5 H' B' fs2 z1 z2 z3 z4 z5) z6
   ·exact q1.elim
  ·exact q.elim
 ·exact q.elim
def seM (i:Nat)(f:En->R (T×En)):En->RS:=λρ=>(f ρ).s λp=> .nx (p.2.set i (.vl p.1))
theorem z0R (hN:X.N.Nodup)(hi:X.N[i]? =some x)(hx:L2.Loc X.env.scope x)(h:Qy X Y e f)(hs:swapsWith e (some (.Name x p')) pos.line X.env=pure false:=by rfl)
  (hf:X.fn x=true\/X.env.scope.names.lookup x=some .local:=by first | exact .inl rfl | exact .inr rfl | assumption):Jg X Y (.Assign [.Name x p'] e pos) (seM i f):= .mk λρ=>PS.imp (wd hN hi hx (h.go ρ) hs hf) λD σ H ⟨B,I,q⟩=>⟨B,I,by
 unfold seM at q;revert q;cases f ρ with
 | bad=>exact λq=>q
 | ex c=>exact λq=>q
 | ok p=>exact λq v H' B' s I' r=>q _ H' B' s (I'.setV i r)⟩
end
section
theorem SI.made (I:SI Y B ρ σ H){i j k:Nat}{x:Addr}{os:List Ob}{fs:List (Str×Fd)}{B' H' H0:Hp}(h2:ρ[j]? =some (.st os))(hij:i ≠ j)(hi:i < ρ.length)(sH:zl H H0)(s1:zl H0 H')(s2:zl B B')(s3:zl B' H')(old:∀b o,H0 b=some o->B' b=B b)(ob:vF Y.cl k B' H0 H' x fs):
  SI Y B' ((ρ.set j (.st (os++[(k,fs)]))).set i (.ob k os.length)) (σ.set i (some (V.ref x))) H' :=by
 classical
 obtain⟨as,O,s⟩:=I.st;obtain⟨C,dx,us,O',c1,c2,c3,c4,c5,c6,c7⟩:=ob;have hlen:=s.len j os h2;have keep:∀{b o},H b=some o->H' b=some o/\B' b=B b/\H0 b ≠ none:=λ{b o} hb=>⟨s1 _ _ (sH _ _ hb),old b o (sH _ _ hb),by rw[sH _ _ hb];exact fJ _⟩
 have get:∀{i' :Nat} {y:Sl},((ρ.set j (.st (os++[(k,fs)]))).set i (.ob k os.length))[i']? =some y->(i' =i/\y= .ob k os.length)\/(i' ≠ i/\i' =j/\y= .st (os++[(k,fs)]))\/(i' ≠ i/\i' ≠ j/\ρ[i']? =some y):=λ{i' y} h=>by
  rcases zk h with ⟨a,b⟩ | ⟨a,b⟩
  ·exact .inl ⟨a,b⟩
  ·rcases zk b with ⟨c,d⟩ | ⟨c,d⟩
   ·exact .inr (.inl ⟨a,c,d⟩)
   ·exact .inr (.inr ⟨a,c,d⟩)
 have sg:∀{i' :Nat},i' ≠ i->(σ.set i (some (V.ref x)))[i']? =σ[i']? :=λ{i'} h=>aJ (bM h);have own:∀{j' :Nat} {ws:List T},((ρ.set j (.st (os++[(k,fs)]))).set i (.ob k os.length))[j']? =some (Sl.ow ws)->j' ≠ i/\ρ[j']? =some (Sl.ow ws):=λ{j' ws} hw=>by
  rcases get hw with ⟨_,z⟩ | ⟨_,_,z⟩ | ⟨a,_,z⟩
  ·cases z
  ·cases z
  ·exact⟨a,z⟩
 have ok' :∀b,UB ρ σ b->UB ((ρ.set j (.st (os++[(k,fs)]))).set i (.ob k os.length)) (σ.set i (some (V.ref x))) b:=λb hb j' ws hw=>by
  obtain⟨h1,h2⟩:=own hw;rw[sg h1];exact hb j' ws h2
 obtain⟨O2,hO1,hO2⟩:∃O2:Addr->Option (Nat×Nat),(∀b,H0 b ≠ none->O2 b=O b)/\∀b m,H0 b=none->O' b=some m->O2 b=some (os.length,m):=by
  refine⟨λb=>if H0 b=none then (O' b).map λm=>(os.length,m) else O b, ?_, ?_⟩
  ·intro b hb;exact if_neg hb
  ·intro b m z1 z2;show (if H0 b=none then (O' b).map λm=>(os.length,m) else O b)=_
   rw[if_pos z1,z2];rfl
 have H0n:zl Y.H0 H0:=I.sH.trans sH;have asn:(as++[x])[os.length]? =some x:=by rw[ay (by omega),hlen,dG];rfl
 have aso:∀{n' :Nat} {b:Addr},as[n']? =some b->(as++[x])[n']? =some b:=λ{n' b} h=>by
  rw[aD (aq.mp h).1];exact h
 refine⟨I.s0,λb o hb=>(keep (I.sH b o hb)).1,s3,λb o hb=> ?_,by rw[aP,aP,aP];exact I.len,λj' u h=> ?_,λj' ws h=> ?_,λj' c h=> ?_,as++[x],O2,s.pre.trans (List.prefix_append _ _),λi' os' h=> ?_,λi1 i2 os1 os2 q1 q2=> ?_,λi' k' n' h=> ?_,λi' k' fs0 h=> ?_,λi' os' h n' k' fs2 e=> ?_⟩
 ·rw[(keep (I.sH b o hb)).2.1];exact I.old b o hb
 ·rcases get h with ⟨_,z⟩ | ⟨_,_,z⟩ | ⟨a,_,z⟩
  ·cases z
  ·cases z
  ·obtain⟨v,y1,y2⟩:=I.vl j' u z;exact⟨v,by rw[sg a];exact y1,y2.mono s2⟩
 ·obtain⟨a,z⟩:=own h;obtain⟨b,xs',y1,y2,y3,y4,y5,y6⟩:=I.ow j' ws z;obtain⟨w1,w2,_⟩:=keep y4;refine⟨b,xs',by rw[sg a];exact y1,by rw[w2];exact y2,y3,w1,y5.mono s2,λj2 vs2 hj hw=> ?_⟩
  obtain⟨q1,q2⟩:=own hw;rw[sg q1];exact y6 j2 vs2 hj q2
 ·rcases get h with ⟨_,z⟩ | ⟨_,_,z⟩ | ⟨a,_,z⟩
  ·cases z
  ·cases z
  ·obtain⟨b,y1,y2⟩:=I.xc j' c z;exact⟨b,by rw[sg a];exact y1,s2 _ _ y2⟩
 ·rcases get h with ⟨_,z⟩ | ⟨_,_,z⟩ | ⟨_,nj,z⟩
  ·cases z
  ·cases z;rw[aB,aB,hlen];rfl
  ·exact absurd (s.one i' j os' os z h2) nj
 ·have one:∀i1 os1,((ρ.set j (.st (os++[(k,fs)]))).set i (.ob k os.length))[i1]? =some (Sl.st os1)->i1=j:=λi1 os1 q1=>by
   rcases get q1 with ⟨_,z⟩ | ⟨_,e,_⟩ | ⟨_,nj,z⟩
   ·cases z
   ·exact e
   ·exact s.one i1 j os1 os z h2
  rw[one i1 os1 q1,one i2 os2 q2]
 ·rcases get h with ⟨e,z⟩ | ⟨_,_,z⟩ | ⟨a,_,z⟩
  ·cases z;subst e;refine⟨x,C,dx,us,asn,aV (by rw[← I.len];exact hi),c1,c2,c3, ?_,c6.2⟩
   cases q:Y.H0 x with
   | none=>rfl
   | some o=>rw[H0n _ _ q]at c4;cases c4
  ·cases z
  ·obtain⟨b,C2,dx2,vs2,y1,y2,y3,y4,y5,y6⟩:=s.ob i' k' n' z;obtain⟨w1,w2,_⟩:=keep y4;exact⟨b,C2,dx2,vs2,aso y1,by rw[sg a];exact y2,y3,w1,by rw[w2];exact y5,y6⟩
 ·rcases get h with ⟨_,z⟩ | ⟨_,_,z⟩ | ⟨a,_,z⟩
  ·cases z
  ·cases z
  ·obtain⟨b,C2,dx2,vs2,y1,y2,y3,y4,y5⟩:=s.oc i' k' _ z;exact⟨b,C2,dx2,vs2,by rw[sg a];exact y1,y2,y3,y4,y5.mono s2 (zl.refl _)⟩
 ·rcases get h with ⟨_,z⟩ | ⟨_,ej,z⟩ | ⟨_,nj,z⟩
  ·cases z
  ·cases z
   by_cases hn:n' < os.length
   ·rw[aD hn]at e;obtain⟨b,C2,dx2,vs2,y1,y2,y3,y4,y5,y6,y7,y8⟩:=s.st j os h2 n' k' fs2 e;obtain⟨w1,w2,w3⟩:=keep y3;refine⟨b,C2,dx2,vs2,aso y1,y2,w1,by rw[w2];exact y4,y5,by rw[hO1 b w3];exact y6,y7,λm' f' d' z=> ?_⟩
    obtain⟨v',x1,x2⟩:=y8 m' f' d' z;refine⟨v',x1, ?_⟩;cases d' with
    | tv t=>exact Rep.mono s2 x2
    | tl ws=>
     obtain⟨l2,xs2,q1,q2,q3,q4,q5,q6,q7⟩:=x2;obtain⟨w1,w2,w3⟩:=keep q4;exact⟨l2,xs2,q1,by rw[w2];exact q2,q3,w1,q5.mono s2,ok' l2 q6,by show O2 l2=_;rw[hO1 l2 w3];exact q7⟩
   ·rw[ay (Nat.not_lt.mp hn)]at e;have hn' :n' =os.length:=by
     cases q:n' - os.length with
     | zero=>omega
     | succ r=>rw[q]at e;cases e
    subst hn';rw[dG]at e;cases e;have h0x:Y.H0 x=none:=by
     cases q:Y.H0 x with
     | none=>rfl
     | some o=>rw[H0n _ _ q]at c4;cases c4
    refine⟨x,C,dx,us,asn,c1,c2,c3,h0x,hO2 x 0 c4 c5,c6,λm f d z=> ?_⟩;obtain⟨v,y1,y2⟩:=c7 m f d z;refine⟨v,y1, ?_⟩;cases d with
    | tv t=>exact y2
    | tl ts=>
     obtain⟨l,xs,p1,p2,p3,p4,p5,p6⟩:=y2;refine⟨l,xs,p1,p2, ?_,p4,p5,λj' ws hw=> ?_,hO2 l _ p3 p6⟩
     ·cases q:Y.H0 l with
      | none=>rfl
      | some o=>rw[H0n _ _ q]at p3;cases p3
     ·obtain⟨hj',w⟩:=own hw;obtain⟨b,xs',q1,q2,q3,q4,_⟩:=I.ow j' ws w;rw[sg hj',q1];intro z;injection z with z;injection z with z;injection z with z;exact(keep q4).2.2 (by rw[z];exact p3)
  ·exact absurd (s.one i' j os' os z h2) nj
end
def mkS (i j k nn:Nat)(g:List (Str×Fd)->List T->R (T×List (Str×Fd)))(ga:En->R (List T)):En->RS:=λρ=>(ga ρ).s λts=>if ts.length=nn/\i ≠ j/\i < ρ.length then (match ρ[j]? with
 | some (.st os)=>(match g [] ts with
  | .ok (.non,fs)=> .nx ((ρ.set j (.st (os++[(k,fs)]))).set i (.ob k os.length))
  | .ex c=> .ex c
  | _=> .bad)
 | _=> .bad) else .bad
section
variable {k i j kk kj nn:Nat}
theorem s_mk {g:List (Str×Fd)->List T->R (T×List (Str×Fd))}(hN:X.N.Nodup)(hi:X.N[i]? =some x)(hx:L2.Loc X.env.scope x)(hy:Y.cl=cl)(hc:cl k= .ref C)(M:L2.Mk X.K C f)(F:zK X.prog X.w X.K X.mg X.base (CX1 X.prog X.w) kj f fd ps (spM cl k nn g))(hr:ZL kk X.A)(hj:kj+1<=kk)(gl:Gl X c)(mg:X.mg c=some (.ref C))(bd:L2.Binds X.K fd ps [])(hp:Z4 (CX1 X.prog X.w) X Y.E)(ha:JB X Y (a :: es) ga)
  (hd:(c == ("__debug__":Str))=false:=by decide) (hst:starEach (a :: es) X.env=(false,eval a X.env) :: starEach es X.env:=by exact zw rfl) (hpl:((backTo pos' (starEach es X.env)).any λx=>x.fst)=false:=by exact zQ rfl) (hs:swapsWith (.Call (.Name c pc) (a :: es) [] pos') (some (.Name x p')) pos.line X.env=pure false:=by rfl)
  (hf:X.fn x=true\/X.env.scope.names.lookup x=some .local:=by first | exact .inl rfl | exact .inr rfl | assumption):Jg X Y (.Assign [.Name x p'] (.Call (.Name c pc) (a :: es) [] pos') pos) (mkS i j k nn g ga):= .mk λρ=>
 PS.imp (wd hN hi hx (yy M F (hr.mono hj) gl mg bd .nil hp (ha ρ) hd hst hpl) hs hf) λD σ H ⟨B,I,q⟩=>J0 I q λts vs H1 _ s1 r1 I1 q1=>by
  subst hy;split at q1
  ·rename_i hn;intro y dx h1 h2 h3;rw[bh];split at q1
   ·rename_i os ej;have sd:zl H1 (upd H1 dx (.own y)):=zl.new h2 _;have hy0:upd H1 dx (.own y) y=none:=by rw[zn (bM h3)];exact h1
    refine⟨y,vs,ts,_,upd H1 dx (.own y),[],rfl,hn.1,I1.sB.trans sd,zl.new hy0 _,⟨C,dx,[],λ_=>some 0,hc,zB,I1.sB.free h1,hy0,rfl,⟨rfl,λ_ _=>rfl⟩,λm f d z=>by cases z⟩,r1, ?_⟩
    revert q1;cases g [] ts with
    | bad=>exact λq1=>q1
    | ex c2=>exact λq1 d H' z1 z2=>q1 d H' ((I1.sH.trans sd).trans z1) z2
    | ok p=>
     obtain⟨t,fs2⟩:=p;cases t with
     | non=>
      intro q1 v H' B' z1 z2 z3 z4 z5 z6;cases z6;exact⟨rfl,q1 _ H' B' z2 (I1.made ej hn.2.1 hn.2.2 sd z1 z2 z3 z4 z5)⟩
     | _=>exact λq1=>q1.elim
   ·exact q1.elim
  ·exact q1.elim
end
section
end
def spO (cl:Nat->Value)(k p n:Nat)(g:List (Str×Fd)->List T->R T):Sp:=λvs H Q E=>∃(x C dx:Addr) (us:List (Str×V)) (vs1 vs2:List V) (ts1 ts2:List T) (B:Hp) (fs:List (Str×Fd)),vs=vs1++ .ref x :: vs2/\ts1.length=p/\(ts1++ts2).length=n/\cl k= .ref C/\H x=some (.ins C dx us)/\InC us/\FsO B H us fs/\zl B H/\zz B vs1 ts1/\zz B vs2 ts2/\Po ⟨B,H,E,cl,[]⟩ rC B H (g fs (ts1++ts2)) Q
def enO (k m:Nat)(fs:List (Str×Fd))(ts1 ts2:List T):En:=ts1.map Sl.vl++(.oc k fs :: (ts2.map Sl.vl++ad m .un))
theorem Yv {k m:Nat}{i:Nat}(h:(enO k m fs ts1 ts2)[i]? =some s):(i=ts1.length/\s= .oc k fs)\/(∃t,ts1[i]? =some t/\s= .vl t)\/(∃i' t,i=ts1.length+1+i' /\ts2[i']? =some t/\s= .vl t)\/s= .un:=by
 unfold enO at h
 by_cases h1:i < ts1.length
 ·rw[aD (by simpa using h1),au,aj h1]at h
  exact .inr (.inl ⟨_,aj h1,(aH h).symm⟩)
 ·obtain⟨q,hq⟩:∃q,i=ts1.length+q:=⟨i - ts1.length,by omega⟩
  rw[ay (by simpa using h1),ae,hq,eR]at h
  cases q with
  | zero=>exact .inl ⟨hq,(aH h).symm⟩
  | succ q=>
   rw[bo]at h
   by_cases h2:q < ts2.length
   ·rw[aD (by simpa using h2),au,aj h2]at h
    exact .inr (.inr (.inl ⟨q,_,by omega,aj h2,(aH h).symm⟩))
   ·rw[ay (by simpa using h2),aC]at h
    split at h
    ·exact .inr (.inr (.inr (aH h).symm))
    ·cases h
theorem SI.startO {k m:Nat}(hN:N.length=(ts1++ts2).length+1+m)(sB:zl B H)(hc:cl k= .ref C)(hx:H x=some (.ins C dx us))(hi:InC us)(hf:FsO B H us fs)(r1:zz B vs1 ts1)(r2:zz B vs2 ts2):
  SI ⟨B,H,E,cl,[]⟩ B (enO k m fs ts1 ts2) (L2.start N (vs1++ .ref x :: vs2)) H:=by
 have l1:=r1.length;have l2:=r2.length;have at0:(L2.start N (vs1++ .ref x :: vs2))[ts1.length]? =some (some (V.ref x)):=by
  unfold L2.start;rw[bE,bI,ay (by simp[l1]),ae,l1,dG];rfl
 refine⟨sB,zl.refl _,sB,λ_ _ _=>rfl, ?_,λi t h=> ?_,λi t h=> ?_,λi t h=> ?_,[],λ_=>none,cK _,λi os h=> ?_,λi _ os _ h=> ?_,λi k' n h=> ?_,λi k' fs0 h=> ?_,λi os h=> ?_⟩
 ·unfold enO L2.start;simp only[aB,ah,ae,aN]at hN ⊢;omega
 ·rcases Yv h with ⟨_,e⟩ | ⟨t',e2,e3⟩ | ⟨i',t',e1,e2,e3⟩ | e
  ·cases e
  ·cases e3;obtain⟨v,ev,rv⟩:=r1.at e2;refine⟨v, ?_,rv⟩;have hi:i < vs1.length:=(aq.mp ev).1;unfold L2.start;rw[bE,bI,aD (by simpa using hi),au,ev];rfl
  ·cases e3;obtain⟨v,ev,rv⟩:=r2.at e2;refine⟨v, ?_,rv⟩;have hi:i' < vs2.length:=(aq.mp ev).1;unfold L2.start;rw[e1,bE,bI,ay (by simp[l1];omega),ae,l1,show ts1.length+1+i' - ts1.length=i' +1 by omega,aI,bV,bo,aD (by simpa using hi),au,ev];rfl
  ·cases e
 all_goals (rcases Yv h with ⟨e0,e⟩ | ⟨_,_,e⟩ | ⟨_,_,_,_,e⟩ | e <;> try (cases e;done))
 cases e;subst e0;exact⟨x,C,dx,us,at0,hc,hx,hi,hf⟩
def qJ (Y:Fx)(B:Hp)(r:R (Bool×En))(σ:Sg)(Q:Bool->Hp->Prop):Prop:=match r with
 | .ok (b,ρ')=>∀H' B',zl B B' ->SI Y B' ρ' σ H' ->Q b H'
 | .ex c=>XP Y B c
 | .bad=>False
theorem qJ.up {r:R (Bool×En)}{Q:Bool->Hp->Prop}(s:zl B B')(h:qJ Y B r σ Q):qJ Y B' r σ Q:=by
 unfold qJ at h ⊢;split
 ·exact λH' B2 a=>h H' B2 (s.trans a)
 ·exact XP.up s h
 ·exact h
structure xv (X:Cx) (Y:Fx) (e:Expr) (f:En->R (Bool×En)):Prop where
 mk ::
 go:∀ρ,PT X e λσ H Q=>∃B,SI Y B ρ σ H/\qJ Y B (f ρ) σ Q
theorem KA {α β:Type}{rel:Hp->Hp->β->α->Prop}{f:En->R α}{k:α->R (Bool×En)}{Q:Bool->Hp->Prop}{K:β->Hp->Prop}(I:SI Y B ρ σ H)(h:qJ Y B ((f ρ).bind k) σ Q)
  (n:∀a b H1,f ρ= .ok a->zl H H1->rel (zE B H H1) H1 b a->SI Y (zE B H H1) ρ σ H1->qJ Y (zE B H H1) (k a) σ Q->K b H1):tS Y rel f ρ σ H K:=by
 refine⟨B,I, ?_⟩;cases e:f ρ with
 | bad=>rw[e]at h;exact h
 | ex c=>rw[e]at h;exact h
 | ok a=>
  rw[e]at h;exact λb H1 s r=>n a b H1 e s r (I.grow s) (qJ.up (zE.ge I.sB s) h)
section
def Xo (g:T->T->R Bool)(fm:En->R (T×En))(fb:En->R T):En->R (Bool×En):=λρ=>(fm ρ).bind λp=>(fb p.2).bind λt' =>(g p.1 t').bind λb=> .ok (b,p.2)
theorem KC (nx:Nx g)(ho:OpR X (compareOp op) (JY g))(ha:Qy X Y a fm)(hb:jx X Y b fb)(hm:behindInMarks op b=false):xv X Y (.Compare a [op] [b] pos) (Xo g fm fb):= .mk λρ=>
 PT.imp (u3 (tb:=λσ H Q=>∃ρ',tS Y rB fb ρ' σ H Q) ho (ha.go ρ) (λpins s σ H Q I ⟨ρ',q⟩=>hb ρ' pins s σ H Q I q) hm) λσ H Q ⟨B,I,q⟩=>by
  refine⟨B,I, ?_⟩;unfold Xo at q;revert q;cases fm ρ with
  | bad=>exact λq=>q
  | ex c=>exact λq=>q
  | ok p=>
   obtain⟨t,ρ'⟩:=p;intro q v H1 B1 s1 I1 r1;have q:qJ Y B1 ((fb ρ').bind λt' =>(g t t').bind λb=> .ok (b,ρ')) σ Q:=qJ.up s1 q;refine⟨ρ',KA I1 q λt' v' H2 _ s2 r2 I2 q2=> ?_⟩;cases e:g t t' with
   | bad=>rw[e]at q2;exact q2.elim
   | ex c=>exact absurd e (nx _ _ _)
   | ok b=>
    rw[e]at q2;exact⟨t,t',b,(r1.mono I1.sB).mono s2,r2,e,b,rfl,q2 H2 _ (zl.refl _) I2⟩
def ifM (ga:En->R (Bool×En))(f g:En->RS):En->RS:=λρ=>(ga ρ).s λp=>if p.1=true then f p.2 else g p.2
theorem z0S {ga:En->R (Bool×En)}(hc:xv X Y c ga)(h1:wN X Y sts f)(h2:wN X Y sts' g):Jg X Y (.If c sts sts' pos) (ifM ga f g):= .mk λρ=>
 PS.imp (V3 (t:=λD σ H=>∃ρ',tSS Y f ρ' D σ H) (u:=λD σ H=>∃ρ',tSS Y g ρ' D σ H) (hc.go ρ) (λpins s σ H D I ⟨ρ',q⟩=>h1 ρ' pins s σ H D I q) (λpins s σ H D I ⟨ρ',q⟩=>h2 ρ' pins s σ H D I q)) λD σ H ⟨B,I,q⟩=>by
  refine⟨B,I, ?_⟩;unfold ifM at q;revert q;cases ga ρ with
  | bad=>exact λq=>q
  | ex c=>exact λq=>q
  | ok p=>
   obtain⟨b,ρ'⟩:=p;intro q H' B' s I';cases b with
   | true=>exact⟨ρ',B',I',PoS.up s q⟩
   | false=>exact⟨ρ',B',I',PoS.up s q⟩
end
theorem SI.st0 (I:SI Y B ρ σ H)(hY:Y.as=[])(hno:∀(i:Nat) (s:Sl),s.isO=true->ρ[i]? ≠ some s)(j:Nat):SI Y B (ρ.set j (.st [])) σ H where
 s0:=I.s0
 sH:=I.sH
 sB:=I.sB
 old:=I.old
 len:=by rw[aP];exact I.len
 vl:=λi t h=>by
  rcases zk h with ⟨_,z⟩ | ⟨_,z⟩
  ·cases z
  ·exact I.vl i t z
 ow:=λi ts h=>by
  rcases zk h with ⟨_,z⟩ | ⟨_,z⟩
  ·cases z
  ·obtain⟨a,xs,e1,e2,e3,e4,e5,e6⟩:=I.ow i ts z;refine⟨a,xs,e1,e2,e3,e4,e5,λj' us hj hw=> ?_⟩;rcases zk hw with ⟨_,z⟩ | ⟨_,z⟩
   ·cases z
   ·exact e6 j' us hj z
 xc:=λi t h=>by
  rcases zk h with ⟨_,z⟩ | ⟨_,z⟩
  ·cases z
  ·exact I.xc i t z
 st:=by
  have one:∀i os,(ρ.set j (.st []))[i]? =some (Sl.st os)->i=j/\os=[]:=λi os h=>by
   rcases zk h with ⟨e,z⟩ | ⟨_,z⟩
   ·cases z;exact⟨e,rfl⟩
   ·exact(hno i _ rfl z).elim
  refine⟨[],λ_=>none,by rw[hY];exact cK _,λi os h=>by rw[(one i os h).2];rfl,λi i' os os' h h' =>by rw[(one i os h).1,(one i' os' h').1],λi k n h=> ?_,λi k fs0 h=> ?_,λi os h n k fs e=> ?_⟩
  ·rcases zk h with ⟨_,z⟩ | ⟨_,z⟩
   ·cases z
   ·exact(hno i _ rfl z).elim
  ·rcases zk h with ⟨_,z⟩ | ⟨_,z⟩
   ·cases z
   ·exact(hno i _ rfl z).elim
  ·rw[(one i os h).2]at e;simp at e
def enS (n:Nat)(ts:List T):En:=(en0 n ts).set (n - 1) (.st [])
theorem SI.startS (s:zl Y.B0 Y.H0)(r:zz Y.B0 vs ts)(hY:Y.as=[]):SI Y Y.B0 (enS N.length ts) (L2.start N vs) Y.H0:=
 (SI.start s r).st0 hY (λi s hs h=>u9 (λt z=>by rw[z]at hs;cases hs) (λz=>by rw[z]at hs;cases hs) h) _
section
variable {P:Program}{w:World}{K:ac}{mg:Str->Option Value}{base:Heap}
theorem xw {cl:Nat->Value}{x qual:Str}{st:Stmt}{f:Addr}{fd:FuncData}{N ps:List Str}{k n:Nat}{fb:En->RS}{g:List T->R T}(F:Fun K x qual st f fd)(S:zi N ps (zb st))(hn:n=ps.length)
  (hb:∀(cdv:Value) (A:Around) (outer:List Env) (s:Shared) (H:Hp) (E:XK) (Y:Fx),Y.cl=cl->Y.E=E->ZL k (A.deeper (envOfC qual (zb st) s.heap.objs.size f cdv))->
   wN (Jf (CX1 P w) P w K mg base N qual (zb st) f cdv A outer s H E) Y (zN st) fb)
  (hg:∀ts,ts.length=n->g ts=zj (fb (enS N.length ts))):zK P w K mg base (CX1 P w) (k+1) f fd ps (spP cl n g):=by
 subst hn;refine Fun.okX F S spP.len λcdv A outer s H vs Q E hr ⟨B,ts,hl,sB,r,q⟩=> ?_;refine⟨_,hb cdv A outer s H E ⟨B,H,E,cl,[]⟩ rfl rfl hr (enS N.length ts),B,SI.startS (Y:=⟨B,H,E,cl,[]⟩) sB r rfl, ?_⟩;rw[hg ts hl]at q;revert q;cases fb (enS N.length ts) with
 | rt t=>exact λq v H' s r=>q v H' s r
 | rf t=>exact λq a xs H' B' s0 n e r _ l=>q (.ref a) H' s0 (.lst (by rw[Z0 n];exact e) (r.mono l))
 | nx ρ=>exact λq σ' H' B' s' I' =>q _ H' I'.sH .non
 | bk ρ=>exact λq=>q.elim
 | ct ρ=>exact λq=>q.elim
 | ex c=>exact λq=>q
 | bad=>exact λq=>q
theorem JH {cl:Nat->Value}{x qual:Str}{st:Stmt}{f:Addr}{fd:FuncData}{N ps:List Str}{k p n m kr:Nat}{fb:En->RS}(F:Fun K x qual st f fd)(S:zi N ps (zb st))(hn:ps.length=n+1)(hN:N.length=n+1+m)
  (hb:∀(cdv:Value) (A:Around) (outer:List Env) (s:Shared) (H:Hp) (E:XK) (Y:Fx),Y.cl=cl->Y.E=E->ZL kr (A.deeper (envOfC qual (zb st) s.heap.objs.size f cdv))->
   wN (Jf (CX1 P w) P w K mg base N qual (zb st) f cdv A outer s H E) Y (zN st) fb):zK P w K mg base (CX1 P w) (kr+1) f fd ps (spO cl k p n λfs ts=>zj (fb (enO k m fs (ts.take p) (ts.drop p)))):=by
 refine Fun.okX F S (λvs H Q E z=> ?_) λcdv A outer s H vs Q E hr z=> ?_
 ·obtain⟨x,C,dx,us,vs1,vs2,ts1,ts2,B,fs,e,hl,hl2,_,_,_,_,_,r1,r2,_⟩:=z;rw[e,aB,ah,r1.length,r2.length,hn,← hl2,aB];rfl
 obtain⟨x,C,dx,us,vs1,vs2,ts1,ts2,B,fs,e,hl,hl2,hc,hx,hi,hf,sB,r1,r2,q⟩:=z;subst e;have e1:(ts1++ts2).take p=ts1:=by rw[← hl];simp
 have e2:(ts1++ts2).drop p=ts2:=by rw[← hl];simp
 refine⟨_,hb cdv A outer s H E ⟨B,H,E,cl,[]⟩ rfl rfl hr (enO k m fs ts1 ts2),B,SI.startO (by rw[hN,hl2]) sB hc hx hi hf r1 r2, ?_⟩
 have q:Po ⟨B,H,E,cl,[]⟩ rC B H (zj (fb (enO k m fs ((ts1++ts2).take p) ((ts1++ts2).drop p)))) Q:=q;rw[e1,e2]at q;revert q;cases fb (enO k m fs ts1 ts2) with
 | rt t=>exact λq v H' s r=>q v H' s r
 | rf t=>exact λq a xs H' B' s0 n e r _ l=>q (.ref a) H' s0 (.lst (by rw[Z0 n];exact e) (r.mono l))
 | nx ρ=>exact λq σ' H' B' s' I' =>q _ H' I'.sH .non
 | bk ρ=>exact λq=>q.elim
 | ct ρ=>exact λq=>q.elim
 | ex c=>exact λq=>q
 | bad=>exact λq=>q
end
section
variable {X:Cx}{Y:Fx}{a b:Expr}{cl:Nat->Value}{k i j kk kj nn:Nat}{x m:Str}{px ap p pos p' :Pos}{C f:Addr}{fd:FuncData}{ps:List Str}{es:List Expr}{ga:En->R (List T)}{pl:Sem Bool}
def obL (k i j:Nat)(ρ:En):Option (List (Str×Fd)):=match ρ[i]? with
 | some (.oc k' fs)=>if k' =k then some fs else none
 | _=>(obD k i j ρ).map λx=>x.2.1
theorem SI.obL (I:SI Y B ρ σ H)(h:obL k i j ρ=some fs):∃a C dx vs,σ[i]? =some (some (V.ref a))/\Y.cl k= .ref C/\H a=some (.ins C dx vs)/\InC vs/\FsO B H vs fs:=by
 unfold PV.obL at h;obtain⟨as,O,s⟩:=I.st;split at h
 ·rename_i k' fs' e;split at h
  ·rename_i hk;subst hk;cases h;obtain⟨a,C,dx,vs,e1,e2,e3,e4,e5⟩:=s.oc i _ _ e;exact⟨a,C,dx,vs,e1,e2,I.sH _ _ e3,e4,e5.mono (zl.refl _) I.sH⟩
  ·cases h
 ·cases e:obD k i j ρ with
  | none=>rw[e]at h;cases h
  | some x=>
   obtain⟨n,fs',os⟩:=x;rw[e]at h;cases h;obtain⟨h1,h2,h3⟩:=uT e;obtain⟨a,C,dx,vs,e1,e2,e3,e4,e5,e6,e7,e8⟩:=s.st j os h2 n k _ h3;obtain⟨a',C',dx',vs',g1,g2,_⟩:=s.ob i k n h1;rw[e1]at g1;cases g1;refine⟨a,C,dx,vs,g2,e2,e3,e7.2,λm f d z=> ?_⟩;obtain⟨v,z1,z2⟩:=e8 m f d z;refine⟨v,z1, ?_⟩;cases d with
   | tv t=>exact z2
   | tl ts=>obtain⟨l,xs,p1,_,_,p4,p5,_⟩:=z2;exact⟨l,xs,p1,p4,p5⟩
def ug (k i j:Nat)(f:Str):En->R T:=λρ=>match obL k i j ρ with
 | some fs=>(match fs.lookup f with
  | some (.tv t)=> .ok t
  | _=> .bad)
 | none=> .bad
theorem uW (hv:PE X (.Name x px) (wC i))(hc:Y.cl k= .ref C)(c:L2.Cls X.K C)(n:L2.NoAttr X.K C m)(hb:attributeBase (.Name x px) m X.env (eval (.Name x px) X.env)=eval (.Name x px) X.env:=by rfl):Snd X Y (.Attribute (.Name x px) m pos) (ug k i j m):= .mk λρ=>PE.imp (k9 hv hb) λσ H Q ⟨B,I,q⟩=>by
 unfold ug at q;split at q
 ·rename_i fs e;split at q
  ·rename_i t el;obtain⟨a,C',dx,vs,e1,e2,e3,e4,e5⟩:=I.obL e;rw[hc]at e2;cases e2;obtain⟨m',v,z1,z2,z3⟩:=Ys (λm g e he=>let ⟨v,z,_⟩:=e5 m g e he;⟨v,z⟩) el;obtain⟨v',y1,y2⟩:=e5 m' _ _ z1;rw[z2]at y1;cases y1;exact⟨.ref a,e1,a,C,dx,vs,v,rfl,e3,c,n,z3,po0 I.sB q rfl y2⟩
  ·exact q.elim
 ·exact q.elim
theorem poO {B H:Hp}{I0:Hp}{r:R T}{Q:VK}(s:zl Y.H0 H)(q:Po Y rC B H r Q):Po ⟨B,H,Y.E,Y.cl,[]⟩ rC B H r Q:=by
 cases r with
 | bad=>exact q
 | ex c=>exact λd H' z1 z2=>q d H' (s.trans z1) z2
 | ok t=>exact q
def jy (k i j nn:Nat)(g:List (Str×Fd)->List T->R T)(ga:En->R (List T)):En->R T:=λρ=>match obL k i j ρ with
 | some fs=>(ga ρ).bind λts=>if ts.length=nn then g fs ts else .bad
 | none=> .bad
theorem xx {g:List (Str×Fd)->List T->R T}(hv:PE X (.Name x px) (wC i))(hy:Y.cl=cl)(hc:cl k= .ref C)(c:L2.Cls X.K C)(hm:L2.Meth X.K C m f)(F:zK X.prog X.w X.K X.mg X.base (CX1 X.prog X.w) kj f fd ps (spO cl k 0 nn g))(hr:ZL kk X.A)(hj:kj<=kk)(bd:L2.Binds X.K fd ps [])(hp:Z4 (CX1 X.prog X.w) X Y.E)(ha:JB X Y (a :: es) ga)(hna:m ∉ Xl:=by decide)
  (hst:starEach (a :: es) X.env=(false,eval a X.env) :: starEach es X.env:=by exact zw rfl) (hpl:((backTo pos (starEach es X.env)).any λx=>x.fst)=false:=by exact zQ rfl)
  (ht:eval (.Call (.Attribute (.Name x px) m ap) (a :: es) [] pos) X.env=(do
   let ov ← eval (.Name x px) X.env
   standAt ap.atName
   let (f,first) ← holding [ov] (getMethod ov m pl)
   callWith pos f first (backTo pos (starEach (a :: es) X.env)) (backToKw pos (keywordEach [] X.env))):=by rfl):
  Snd X Y (.Call (.Attribute (.Name x px) m ap) (a :: es) [] pos) (jy k i j nn g ga):= .mk λρ=>PE.imp (yx (pl:=pl) hv c hm F (hr.mono hj) bd .nil hp (ha ρ) hst hpl ht) λσ H Q ⟨B,I,q⟩=>by
 unfold jy at q;split at q
 ·rename_i fs e;obtain⟨a',C',dx,vs,e1,e2,e3,e4,e5⟩:=I.obL e;subst hy;rw[hc]at e2;cases e2;refine⟨.ref a',e1,a',dx,vs,rfl,e3,e4 m hna, ?_⟩;refine step I q λts us H1 _ s1 r1 I1 q1=> ?_;split at q1
  ·rename_i hn;rw[bh];exact⟨a',C,dx,vs,[],us,[],ts,_,fs,rfl,rfl,hn,hc,s1 _ _ e3,e4,e5.mono (zE.ge I.sB s1) s1,I1.sB,.nil,r1,poO (I0:=H) I1.sH q1⟩
  ·exact q1.elim
 ·exact q.elim
theorem jR {g:List (Str×Fd)->List T->R T}(hv:PE X (.Name x px) (wC i))(hy:Y.cl=cl)(hc:cl k= .ref C)(c:L2.Cls X.K C)(hm:L2.Meth X.K C m f)(F:zK X.prog X.w X.K X.mg X.base (CX1 X.prog X.w) kj f fd ps (spO cl k 0 0 g))(hr:ZL kk X.A)(hj:kj<=kk)(bd:L2.Binds X.K fd ps [])(hp:Z4 (CX1 X.prog X.w) X Y.E)(hna:m ∉ Xl:=by decide)
  (ht:eval (.Call (.Attribute (.Name x px) m ap) [] [] pos) X.env=(do
   let ov ← eval (.Name x px) X.env
   standAt ap.atName
   let (f,first) ← holding [ov] (getMethod ov m pl)
   callWith pos f first (backTo pos (starEach [] X.env)) (backToKw pos (keywordEach [] X.env))):=by rfl):
  Snd X Y (.Call (.Attribute (.Name x px) m ap) [] [] pos) (jy k i j 0 g zf):= .mk λρ=>PE.imp (qW (pl:=pl) hv c hm F (hr.mono hj) bd .nil hp ht) λσ H Q ⟨B,I,q⟩=>by
 unfold jy at q;split at q
 ·rename_i fs e;obtain⟨a',C',dx,vs,e1,e2,e3,e4,e5⟩:=I.obL e;subst hy;rw[hc]at e2;cases e2;exact⟨.ref a',e1,a',dx,vs,rfl,e3,e4 m hna,a',C,dx,vs,[],[],[],[],_,fs,rfl,rfl,rfl,hc,e3,e4,e5,I.sB,.nil,.nil,poO (I0:=H) I.sH q⟩
 ·exact q.elim
def KD (k i j nn:Nat)(g:List (Str×Fd)->List T->R T)(ga:En->R (List T)):En->R T:=jy k i j nn g ga
theorem xy {g:List (Str×Fd)->List T->R T}(hv:PE X (.Name x px) (wC i))(hy:Y.cl=cl)(F:zK X.prog X.w X.K X.mg X.base (CX1 X.prog X.w) kj f fd ps (spO cl k 0 nn g))(hr:ZL kk X.A)(hj:kj<=kk)(gl:Gl X m)(mg:X.mg m=some (.ref f))(kp:bn X.K (.ref f)=true)(bd:L2.Binds X.K fd ps [])(hp:Z4 (CX1 X.prog X.w) X Y.E)(ha:JB X Y es ga)
  (hd:(m == ("__debug__":Str))=false:=by decide) (hst:starEach (.Name x px :: es) X.env=(false,eval (.Name x px) X.env) :: starEach es X.env:=by exact zw rfl) (hpl:((backTo pos (starEach es X.env)).any λx=>x.fst)=false:=by exact zQ rfl):
  Snd X Y (.Call (.Name m p) (.Name x px :: es) [] pos) (KD k i j nn g ga):= .mk λρ=>PE.imp (Jy F (hr.mono hj) gl mg kp bd .nil hp (zq hv (ha ρ) hst) hd hst hpl) λσ H Q ⟨B,I,q⟩=>by
 unfold KD jy at q;split at q
 ·rename_i fs e;obtain⟨a',C',dx,vs,e1,e2,e3,e4,e5⟩:=I.obL e;subst hy;refine⟨.ref a',e1, ?_⟩;refine step I q λts us H1 _ s1 r1 I1 q1=> ?_;split at q1
  ·rename_i hn;rw[bh];exact⟨a',C',dx,vs,[],us,[],ts,_,fs,rfl,rfl,hn,e2,s1 _ _ e3,e4,e5.mono (zE.ge I.sB s1) s1,I1.sB,.nil,r1,poO (I0:=H) I1.sH q1⟩
  ·exact q1.elim
 ·exact q.elim
def Jp (k i j nn:Nat)(g:List (Str×Fd)->List T->R T)(fa:En->R T)(ga:En->R (List T)):En->R T:=λρ=>(fa ρ).bind λt=>match obL k i j ρ with
 | some fs=>(ga ρ).bind λts=>if ts.length+1=nn then g fs (t :: ts) else .bad
 | none=> .bad
theorem uX {g:List (Str×Fd)->List T->R T}{fa:En->R T}(ha1:Snd X Y a fa)(hv:PE X (.Name x px) (wC i))(hy:Y.cl=cl)(F:zK X.prog X.w X.K X.mg X.base (CX1 X.prog X.w) kj f fd ps (spO cl k 1 nn g))(hr:ZL kk X.A)(hj:kj<=kk)(gl:Gl X m)(mg:X.mg m=some (.ref f))(kp:bn X.K (.ref f)=true)(bd:L2.Binds X.K fd ps [])(hp:Z4 (CX1 X.prog X.w) X Y.E)(ha:JB X Y es ga)
  (hd:(m == ("__debug__":Str))=false:=by decide) (hst:starEach (a :: .Name x px :: es) X.env=(false,eval a X.env) :: starEach (.Name x px :: es) X.env:=by exact zw rfl) (hs2:starEach (.Name x px :: es) X.env=(false,eval (.Name x px) X.env) :: starEach es X.env:=by exact zw rfl) (hpl:((backTo pos (starEach (.Name x px :: es) X.env)).any λx=>x.fst)=false:=by exact zQ rfl):
  Snd X Y (.Call (.Name m p) (a :: .Name x px :: es) [] pos) (Jp k i j nn g fa ga):= .mk λρ=>PE.imp (Jy F (hr.mono hj) gl mg kp bd .nil hp (zq (ha1 ρ) (zq hv (ha ρ) hs2) hst) hd hst hpl) λσ H Q ⟨B,I,q⟩=>step I q λt v H1 _ s1 r1 I1 q1=>by
 split at q1
 ·rename_i fs e;obtain⟨a',C',dx,vs,e1,e2,e3,e4,e5⟩:=I1.obL e;subst hy;refine⟨.ref a',e1, ?_⟩;refine step I1 q1 λts us H2 _ s2 r2 I2 q2=> ?_;split at q2
  ·rename_i hn;rw[bh];exact⟨a',C',dx,vs,[v],us,[t],ts,_,fs,rfl,rfl,by rw[← hn];simp,e2,s2 _ _ e3,e4,e5.mono (zE.ge I1.sB s2) s2,I2.sB,.cons (r1.mono (zE.ge I1.sB s2)) .nil,r2,poO (I0:=H) I2.sH q2⟩
  ·exact q2.elim
 ·exact q1.elim
def mkX (nn:Nat)(g:List (Str×Fd)->List T->R (T×List (Str×Fd)))(ga:En->R (List T)):En->R T:=λρ=>(ga ρ).bind λts=>if ts.length=nn then (match g [] ts with
 | .ex c=> .ex c
 | _=> .bad) else .bad
theorem z0T {g:List (Str×Fd)->List T->R (T×List (Str×Fd))}(hy:Y.cl=cl)(hc:cl k= .ref C)(M:L2.Mk X.K C f)(F:zK X.prog X.w X.K X.mg X.base (CX1 X.prog X.w) kj f fd ps (spM cl k nn g))(hr:ZL kk X.A)(hj:kj+1<=kk)(gl:Gl X c)(mg:X.mg c=some (.ref C))(bd:L2.Binds X.K fd ps [])(hp:Z4 (CX1 X.prog X.w) X Y.E)(ha:JB X Y (a :: es) ga)
  (hd:(c == ("__debug__":Str))=false:=by decide) (hst:starEach (a :: es) X.env=(false,eval a X.env) :: starEach es X.env:=by exact zw rfl) (hpl:((backTo pos (starEach es X.env)).any λx=>x.fst)=false:=by exact zQ rfl):Snd X Y (.Call (.Name c p) (a :: es) [] pos) (mkX nn g ga):= .mk λρ=>
 PE.imp (yy M F (hr.mono hj) gl mg bd .nil hp (ha ρ) hd hst hpl) λσ H Q ⟨B,I,q⟩=>step I q λts vs H1 _ s1 r1 I1 q1=>by
  subst hy;split at q1
  ·rename_i hn;intro y dx h1 h2 h3;rw[bh];split at q1
   ·rename_i c2 eg;have sd:zl H1 (upd H1 dx (.own y)):=zl.new h2 _;have hy0:upd H1 dx (.own y) y=none:=by rw[zn (bM h3)];exact h1
    refine⟨y,vs,ts,_,upd H1 dx (.own y),[],rfl,hn,I1.sB.trans sd,zl.new hy0 _,⟨C,dx,[],λ_=>some 0,hc,zB,I1.sB.free h1,hy0,rfl,⟨rfl,λ_ _=>rfl⟩,λm f d z=>by cases z⟩,r1, ?_⟩
    rw[eg];exact λd H' z1 z2=>q1 d H' ((I1.sH.trans sd).trans z1) z2
   ·exact q1.elim
  ·exact q1.elim
end
theorem SI.consV (I:SI Y B ρ σ H)(r:Rep B v t):SI Y B (.vl t :: ρ) (some v :: σ) H where
 s0:=I.s0
 sH:=I.sH
 sB:=I.sB
 old:=I.old
 len:=by rw[ah,ah,I.len]
 vl:=λi u h=>by
  cases i with
  | zero=>cases h;exact⟨v,rfl,r⟩
  | succ i=>exact I.vl i u h
 ow:=λi ts h=>by
  cases i with
  | zero=>cases h
  | succ i=>
   obtain⟨a,xs,e1,e2,e3,e4,e5,e6⟩:=I.ow i ts h;refine⟨a,xs,e1,e2,e3,e4,e5,λj us hj hw=> ?_⟩;cases j with
   | zero=>cases hw
   | succ j=>exact e6 j us (λz=>hj (by rw[z])) hw
 xc:=λi c h=>by
  cases i with
  | zero=>cases h
  | succ i=>exact I.xc i c h
 st:=by
  obtain⟨as,O,s⟩:=I.st;have ok:∀b,UB ρ σ b->UB (.vl t :: ρ) (some v :: σ) b:=λb h j us hj=>by
   cases j with
   | zero=>cases hj
   | succ j=>exact h j us hj
  refine⟨as,O,s.pre,λi os h=> ?_,λi j os os' h h' => ?_,λi k n h=> ?_,λi k fs h=> ?_,λi os h n k fs e=> ?_⟩
  ·cases i with
   | zero=>cases h
   | succ i=>exact s.len i os h
  ·cases i with
   | zero=>cases h
   | succ i=>
    cases j with
    | zero=>cases h'
    | succ j=>rw[s.one i j os os' h h']
  ·cases i with
   | zero=>cases h
   | succ i=>exact s.ob i k n h
  ·cases i with
   | zero=>cases h
   | succ i=>exact s.oc i k fs h
  ·cases i with
   | zero=>cases h
   | succ i=>
    obtain⟨a,C,dx,vs,e1,e2,e3,e4,e5,e6,e7,e8⟩:=s.st i os h n k fs e;refine⟨a,C,dx,vs,e1,e2,e3,e4,e5,e6,e7,λm f d z=> ?_⟩;obtain⟨w,z1,z2⟩:=e8 m f d z;refine⟨w,z1, ?_⟩;cases d with
    | tv t=>exact z2
    | tl ts=>obtain⟨l,xs,p1,p2,p3,p4,p5,p6,p7⟩:=z2;exact⟨l,xs,p1,p2,p3,p4,p5,ok l p6,p7⟩
def z0U (cl:Nat->Value)(k n:Nat)(g:List (Str×Fd)->List T->R (T×List (Str×Fd))):Sp:=λvs H Q E=>∃(x:Addr) (v1:V) (vs' :List V) (t1:T) (ts:List T) (B H0:Hp) (fs:List (Str×Fd)),vs=v1 :: .ref x :: vs' /\ts.length+1=n/\zl B H0/\zl H0 H/\vF cl k B H0 H x fs/\Rep B v1 t1/\zz B vs' ts/\PoO cl k B H0 x (g fs (t1 :: ts)) Q E
def Xp (k j:Nat)(fs:List (Str×Fd)):List T->En
 | t :: ts=> .vl t :: enM k (j - 1) fs ts
 | []=>[]
section
variable {P:Program}{w:World}{K:ac}{mg:Str->Option Value}{base:Heap}
theorem xz {cl:Nat->Value}{x qual:Str}{st:Stmt}{f:Addr}{fd:FuncData}{N ps:List Str}{k n j kr:Nat}{fb:En->R (T×En)}(F:Fun K x qual st f fd)(S:zi N ps (zb st))(hn:ps.length=n+1)(hN:N.length=j+1)(hj:n+1<=j)
  (hb:∀(cdv:Value) (A:Around) (outer:List Env) (s:Shared) (H:Hp) (E:XK) (Y:Fx),Y.cl=cl->Y.E=E->ZL kr (A.deeper (envOfC qual (zb st) s.heap.objs.size f cdv))->
   Qx (Jf (CX1 P w) P w K mg base N qual (zb st) f cdv A outer s H E) Y (zN st) fb):zK P w K mg base (CX1 P w) (kr+1) f fd ps (z0U cl k n λfs ts=>WV k j (fb (Xp k j fs ts))):=by
 refine Fun.okX F S (λvs H Q E z=> ?_) λcdv A outer s H vs Q E hr z=> ?_
 ·obtain⟨x,v1,vs',t1,ts,B,H0,fs,e,hl,_,_,_,_,r,_⟩:=z;rw[e,ah,ah,r.length,hn,← hl]
 obtain⟨x,v1,vs',t1,ts,B,H0,fs,e,hl,sB,sH,ob,r1,r,q⟩:=z;subst e;have st1:L2.start N (v1 :: .ref x :: vs')=some v1 :: L2.start N.tail (.ref x :: vs'):=by
  unfold L2.start;rw[aI,bV,ah,ib];congr 3
  omega
 refine⟨_,(hb cdv A outer s H E ⟨B,H0,E,cl,[x]⟩ rfl rfl hr).go (Xp k j fs (t1 :: ts)),B,by rw[st1];exact SI.consV (SI.startM (by rw[ib,hN];omega) (by omega) sB sH ob r) r1, ?_⟩
 have q:PoO cl k B H0 x (WV k j (fb (Xp k j fs (t1 :: ts)))) Q E:=q;unfold WV at q;revert q;cases fb (Xp k j fs (t1 :: ts)) with
 | bad=>exact λq=>q
 | ex c=>exact λq=>q
 | ok p=>
  obtain⟨t,ρ'⟩:=p;show PoO cl k B H0 x (match ρ'[j]? with | some (.st ((k',fs) :: _))=>(if k' =k then R.ok (t,fs) else R.bad) | _=>R.bad) Q E->_
  split
  ·rename_i k' fs' os ej;split
   ·rename_i hk;subst hk;intro q;have key:∀v σ' H' B',zl B B' ->SI ⟨B,H0,E,cl,[x]⟩ B' ρ' σ' H' ->Rep B' v t->Q v H' :=λv σ' H' B' s1 I' rv=>q v H' B' I'.sH s1 I'.sB (λb o h=>I'.old b o h) (I'.obAt rfl ej) rv;exact⟨key,λet σ' H' B' s1 I' =>key .non σ' H' B' s1 I' (by rw[et];exact .non)⟩
   ·exact λq=>q.elim
  ·exact λq=>q.elim
end
section
variable {k i j kk kj nn:Nat}
def Yw (k i j nn:Nat)(g:List (Str×Fd)->List T->R (T×List (Str×Fd)))(fa:En->R T)(ga:En->R (List T)):En->R (T×En):=λρ=>(fa ρ).bind λt=>match obD k i j ρ with
 | some (n,fs,os)=>(ga ρ).bind λts=>if ts.length+1=nn then (g fs (t :: ts)).bind λp=> .ok (p.1,ρ.set j (.st (os.set n (k,p.2)))) else .bad
 | none=> .bad
theorem xA {g:List (Str×Fd)->List T->R (T×List (Str×Fd))}(ha1:Snd X Y a fa)(hv:PE X (.Name x px) (wC i))(hy:Y.cl=cl)(F:zK X.prog X.w X.K X.mg X.base (CX1 X.prog X.w) kj f fd ps (z0U cl k nn g))(hr:ZL kk X.A)(hj:kj<=kk)(gl:Gl X m)(mg:X.mg m=some (.ref f))(kp:bn X.K (.ref f)=true)(bd:L2.Binds X.K fd ps [])(hp:Z4 (CX1 X.prog X.w) X Y.E)(ha:JB X Y es ga)
  (hd:(m == ("__debug__":Str))=false:=by decide) (hst:starEach (a :: .Name x px :: es) X.env=(false,eval a X.env) :: starEach (.Name x px :: es) X.env:=by exact zw rfl) (hs2:starEach (.Name x px :: es) X.env=(false,eval (.Name x px) X.env) :: starEach es X.env:=by exact zw rfl) (hpl:((backTo pos (starEach (.Name x px :: es) X.env)).any λx=>x.fst)=false:=by exact zQ rfl):
  Qy X Y (.Call (.Name m p) (a :: .Name x px :: es) [] pos) (Yw k i j nn g fa ga):= .mk λρ=>PE.imp (Jy F (hr.mono hj) gl mg kp bd .nil hp (zq (ha1 ρ) (zq hv (ha ρ) hs2) hst) hd hst hpl) λσ H Q ⟨B,I,q⟩=>xu I q λt v H1 _ s1 r1 I1 q1=>by
 split at q1
 ·rename_i n fs os e;obtain⟨a',C',dx,vs,e1,e2,e3,e4,al⟩:=I1.obA e;subst hy;refine⟨.ref a',e1, ?_⟩;refine xu I1 q1 λts us H2 _ s2 r2 I2 q2=> ?_;split at q2
  ·rename_i hn;rw[bh];obtain⟨H0,b1,b2,b3,b4,b5⟩:=I2.back e e1;refine⟨a',v,us,t,ts,_,H0,fs,rfl,hn,b1,b2,b3,r1.mono (zE.ge I1.sB s2),r2, ?_⟩;revert q2;cases g fs (t :: ts) with
   | bad=>exact λq2=>q2
   | ex c2=>exact λq2 d H' z1 z2=>q2 d H' (b4.trans z1) z2
   | ok p=>
    obtain⟨t',fs2⟩:=p;exact λq2 v H' B' z1 z2 z3 z4 z5 z6=>q2 v H' B' z2 (b5 H' B' fs2 z1 z2 z3 z4 z5) z6
  ·exact q2.elim
 ·exact q1.elim
def ifR (ft:En->R Bool)(fe g:En->R (T×En)):En->R (T×En):=λρ=>(ft ρ).bind λb=>if b=true then fe ρ else g ρ
theorem z0V {ft:En->R Bool}{fe g:En->R (T×En)}{rest:List Stmt}(hc:wJ X Y c ft)(h1:Qy X Y e fe)(h2:Qx X Y rest g):Qx X Y (.If c [.Return (some e) pr] [] pos :: rest) (ifR ft fe g):= .mk λρ=>by
 refine PSs.imp (wD (u:=λD σ H=>∃B,SI Y B ρ σ H/\PoR Y B (g ρ) D) (V3 (hc ρ) (wE (yg (h1.go ρ))) WZ) (h2.go ρ)) ?_;intro D σ H ⟨B,I,q⟩;unfold ifR at q;refine⟨B,I, ?_⟩;revert q;cases ft ρ with
 | bad=>exact λq=>q
 | ex c=>exact λq=>q
 | ok b=>
  intro q v H' s ev;have ev:v=b:=ev;subst ev;cases v with
  | true=>
   refine⟨_,I.grow s, ?_⟩;have q:PoR Y B (fe ρ) D:=q;have q:=q.up (zE.ge I.sB s);unfold PoR at q;unfold PoM;split at q
   ·exact λv H' B' a b c=>q.1 v σ H' B' a b c
   ·exact q
   ·exact q
  | false=>exact⟨_,I.grow s,PoR.up (zE.ge I.sB s) q⟩
def Wx:T->R T
 | .int i=> .ok (.int ((if i == 0 then 0 else i.natAbs.log2+1:Nat):Int))
 | _=> .bad
theorem xB:MtR X "int.bit_length" λx xs H Q=>∃i,x= .int i/\xs=[]/\Q (.int ((if i == 0 then 0 else i.natAbs.log2+1:Nat):Int)) H:=by
 intro pins s σ H x xs v us Q I rx rv ⟨i,e1,e2,q⟩;subst e1 e2;obtain⟨t,rfl⟩:=rx;have hus:=rv.zero;subst hus;exact call_int_bit_length ⟨.int _,H,I.tok _,⟨_,rfl⟩,q⟩
theorem KG (ha:Snd X Y a fa)(hb:attributeBase a "bit_length" X.env (eval a X.env)=eval a X.env:=by rfl)(hz:(ap.endLine == p.line)=true:=by rfl):Snd X Y (.Call (.Attribute a "bit_length" ap) [] [] p) (ap1 Wx fa):= .mk λρ=>
 PE.imp (km PySem.F.plainAttrs_int PySem.F.slot_int_bit_length PySem.F.type_int_bit_length xB (ha ρ) hb hz) λσ H Q ⟨B,I,q⟩=>step I q λt v H1 _ s1 r1 I1 q1=>by
  cases r1 with
  | int i=>exact⟨rfl,i,rfl,rfl,po0 I1.sB q1 rfl (.int _)⟩
  | _=>exact q1.elim
end
end PV
namespace G
open PySem PySem.Spec PyProof.Rows L2 PV
def okX (c:Nat):Bool:=decide (c < 6)
def J7 (c:Nat):Bool:=c == 0
def jC (c:Nat):Bool:=c == 1
def J8 (c:Nat):Bool:=c == 2
def jD (c:Nat):Bool:=c == 3
def JI (c:Nat):Bool:=c == 4
def J9 (c:Nat):Bool:=c == 5
def ZU (_:Nat):Bool:=true
def b_1d:En->RS:=
  zo (ifS (zx ltC (vB 1) (ap1 Z2 (vB 0))) (zv (zd ixT (vE 0) (vE 1))) (nxS))
  (zo (ifS (zx eqC (vB 0) (ZE (zf))) (zv (cE (.int 0))) (nxS))
  (zv (zd zp (zd zO (zd ixT (vE 0) (zd jN (vE 1) (ap1 Z2 (vB 0)))) (cE (.int 31))) (vE 1))))
def KH:List T->R T:=λts=>zj (b_1d  (en0 2 ts))
def b_5 (c_1d:List T->R T):En->RS:=
  zo (zt 3 (zd jN (zd zO (zd zp (zc 2 c_1d (za (vE 0) (za (vE 1) (zf)))) (zd zO (cE (.int 6151)) (zd zp (vE 1) (cE (.int 1))))) (cE (.int 40692))) (cE (.int 2147483399))))
  (zv (zd jN (zd jN (zd zp (zd zO (vE 3) (vE 3)) (zd jA (vE 3) (cE (.int 31)))) (cE (.int 2147483629))) (vE 2)))
def f_5:List T->R T:=λts=>zj (b_5 (KH) (en0 4 ts))
def b_z (c_5:List T->R T):En->RS:=
  zo (zt 2 (cE (.str "abcdefghijklmnopqrstuvwxyz")))
  (zo (ifS (zx gtC (zc 3 c_5 (za (vE 0) (za (vE 1) (za (cE (.int 6)) (zf))))) (cE (.int 0))) (zv (zd ixT (ZE (za (cE (.str "a")) (za (cE (.str "b")) (za (cE (.str "ab")) (za (cE (.str "cab")) (zf)))))) (zc 3 c_5 (za (vE 0) (za (zd zp (vE 1) (cE (.int 1))) (za (cE (.int 4)) (zf))))))) (nxS))
  (zv (ap1 (K2 "") (zZ (Zf (zd zp (cE (.int 1)) (zc 3 c_5 (za (vE 0) (za (zd zp (vE 1) (cE (.int 1))) (za (cE (.int 3)) (zf))))))) (zr 0) (Ze) (zd ixT (vE 3) (zc 3 c_5 (za (vE 1) (za (zd zp (zd zp (vE 2) (cE (.int 2))) (vE 0)) (za (cE (.int 26)) (zf)))))) 1 [0,1,2]))))
def f_z:List T->R T:=λts=>zj (b_z (f_5) (en0 3 ts))
def Ga (c_5:List T->R T)(c_z:List T->R T):En->RS:=
  zo (ifS (zx gtC (zc 3 c_5 (za (vE 0) (za (vE 1) (za (cE (.int 3)) (zf))))) (cE (.int 0))) (zo (zt 2 (zd ZS (zc 3 c_5 (za (vE 0) (za (zd zp (vE 1) (cE (.int 1))) (za (cE (.int 7)) (zf))))) (cE (.int 3))))
  (zo (ifS (zx eqC (zc 3 c_5 (za (vE 0) (za (zd zp (vE 1) (cE (.int 3))) (za (cE (.int 8)) (zf))))) (cE (.int 0))) (zt 2 (zd ixT (ZE (za (yM (cE (.int 20))) (za (cE (.int 17)) (za (cE (.int 20)) (zf))))) (zc 3 c_5 (za (vE 0) (za (zd zp (vE 1) (cE (.int 4))) (za (cE (.int 3)) (zf))))))) (nxS))
  (zv (Zd (za (cE (.str "whole")) (za (vE 2) (za (zd yZ (cE (.int 20)) (zd zp (vE 2) (zc 3 c_5 (za (vE 0) (za (zd zp (vE 1) (cE (.int 2))) (za (cE (.int 4)) (zf))))))) (zf)))))))) (nxS))
  (zo (UE 3 (zf))
  (zo (ja (Zf (zd zp (cE (.int 1)) (zc 3 c_5 (za (vE 0) (za (zd zp (vE 1) (cE (.int 1))) (za (cE (.int 4)) (zf))))))) (zr 4) (zo (zt 5 (zc 2 c_z (za (vE 0) (za (zd zp (zd zp (vE 1) (cE (.int 5))) (zd zO (cE (.int 5)) (vE 4))) (zf)))))
  (ifS (zx Q3 (vB 5) (vB 3)) (Q9 3 (vE 5)) (nxS))))
  (zv (Zd (za (cE (.str "pick")) (za (ap1 G5 (zZ (VO (vE 3)) (Zr 0 1) (Ze) (Zd (za (vE 1) (za (zd zp (cE (.int 1)) (zc 3 c_5 (za (vE 2) (za (zd zp (zd zp (vE 3) (cE (.int 30))) (vE 0)) (za (cE (.int 20)) (zf)))))) (zf)))) 2 [0,1])) (zf)))))))
def KI:List T->R T:=λts=>zj (Ga (f_5) (f_z) (en0 6 ts))
def b_k (c_5:List T->R T)(c_10:List T->R T)(c_k:List T->R T):En->RS:=
  zo (zt 3 (zc 3 c_5 (za (vE 0) (za (vE 1) (za (cE (.int 5)) (zf))))))
  (zo (ifS (orT (zx eqC (vB 2) (cE (.int 1))) (zx ltC (vB 3) (cE (.int 2)))) (zv (zc 2 c_10 (za (vE 0) (za (zd zp (vE 1) (cE (.int 1))) (zf))))) (nxS))
  (zo (ifS (zx ltC (vB 3) (cE (.int 4))) (zo (zt 4 (zZ (Zf (zd zp (cE (.int 1)) (zc 3 c_5 (za (vE 0) (za (zd zp (vE 1) (cE (.int 1))) (za (cE (.int 3)) (zf))))))) (zr 0) (Ze) (zc 3 c_k (za (vE 1) (za (zd zp (zd zp (zd zO (cE (.int 3)) (vE 2)) (cE (.int 40))) (zd zO (cE (.int 50)) (vE 0))) (za (zd ZS (vE 3) (cE (.int 1))) (zf))))) 1 [0,1,2]))
  (zv (Zd (za (cE (.str "row")) (za (ap1 G5 (vE 4)) (zf)))))) (nxS))
  (zo (zt 5 (zc 3 c_5 (za (vE 0) (za (zd zp (vE 1) (cE (.int 1))) (za (cE (.int 3)) (zf))))))
  (zv (Zd (za (cE (.str "many")) (za (zc 3 c_k (za (vE 0) (za (zd zp (zd zO (cE (.int 3)) (vE 1)) (cE (.int 40))) (za (zd ZS (vE 2) (cE (.int 1))) (zf))))) (za (vE 5) (za (zd yZ (cE (.int 3)) (zd zp (vE 5) (zc 3 c_5 (za (vE 0) (za (zd zp (vE 1) (cE (.int 2))) (za (cE (.int 3)) (zf))))))) (zf))))))))))
def S_k:Nat->Nat->List T->R T
 | 0,_=>λ_=> .bad
 | n+1,_=>λts=>zj (b_k (f_5) (KI) (S_k n 0) (en0 6 ts))
abbrev f_k (n:Nat):List T->R T:=S_k n 0
def b_j:En->RS:=
  zo (zt 1 (ZE (za (Zd (zf)) (zf))))
  (zo (ja (j0 (vE 0)) (zr 2) (zo (UE 3 (zf))
  (zo (ja (j0 (vE 1)) (zr 4) (Qa 3 (zZ (j0 (vE 2)) (zr 0) (Ze) (zd zp (vE 1) (Zd (za (vE 0) (zf)))) 1 [4])))
  (mvS 1 3))))
  (zv (vE 1)))
def f_j:List T->R T:=λts=>zj (b_j  (en0 5 ts))
def b_8 (c_8:List T->R T)(c_j:List T->R T):En->RS:=
  zo (ifS (zx eqC (zd ixT (vE 0) (cE (.int 0))) (cE (.str "whole"))) (zv (G6 (Jo (zd ixT (vE 0) (cE (.int 1))) (zd zp (zd ixT (vE 0) (cE (.int 2))) (cE (.int 1)))))) (nxS))
  (zo (ifS (zx eqC (zd ixT (vE 0) (cE (.int 0))) (cE (.str "pick"))) (zv (zZ (j0 (zd ixT (vE 0) (cE (.int 1)))) (Zr 0 1) (Ze) (vE 0) 2 [])) (nxS))
  (zo (ifS (zx eqC (zd ixT (vE 0) (cE (.int 0))) (cE (.str "row"))) (zv (zc 1 c_j (za (zZ (j0 (zd ixT (vE 0) (cE (.int 1)))) (zr 0) (Ze) (zc 1 c_8 (za (vE 0) (zf))) 1 []) (zf)))) (nxS))
  (zo (UE 1 (zf))
  (zo (ja (Jo (zd ixT (vE 0) (cE (.int 2))) (zd zp (zd ixT (vE 0) (cE (.int 3))) (cE (.int 1)))) (zr 2) (Qa 1 (zc 1 c_j (za (zd zO (ZE (za (zc 1 c_8 (za (zd ixT (vE 0) (cE (.int 1))) (zf))) (zf))) (vE 2)) (zf)))))
  (zv (vE 1))))))
def S_8:Nat->Nat->List T->R T
 | 0,_=>λ_=> .bad
 | n+1,_=>λts=>zj (b_8 (S_8 n 0) (f_j) (en0 3 ts))
abbrev f_8 (n:Nat):List T->R T:=S_8 n 0
def b_d (c_8:List T->R T)(c_d:List T->R T):En->RS:=
  zo (ifS (zx inC (zd ixT (vE 0) (cE (.int 0))) (Zd (za (cE (.str "whole")) (za (cE (.str "pick")) (zf))))) (zv (ap1 Z2 (zc 1 c_8 (za (vE 0) (zf))))) (nxS))
  (zo (zt 1 (ifE (zx eqC (zd ixT (vE 0) (cE (.int 0))) (cE (.str "row"))) (zZ (j0 (zd ixT (vE 0) (cE (.int 1)))) (zr 0) (Ze) (zc 1 c_d (za (vE 0) (zf))) 1 []) (ZE (zf))))
  (zo (zt 2 (cE (.int 1)))
  (zo (ja (j0 (vE 1)) (zr 3) (zt 2 (zd zO (vE 2) (vE 3))))
  (zo (ifS (zx eqC (zd ixT (vE 0) (cE (.int 0))) (cE (.str "many"))) (zo (zt 4 (zc 1 c_d (za (zd ixT (vE 0) (cE (.int 1))) (zf))))
  (zo (zt 2 (zd zp (ap1 Wa (jB eqC (zd ixT (vE 0) (cE (.int 2))) (cE (.int 0)))) (zd zO (vE 4) (ap1 Wa (chE leC leC (zd ixT (vE 0) (cE (.int 2))) (cE (.int 1)) (zd ixT (vE 0) (cE (.int 3))))))))
  (zo (zt 2 (zd zp (vE 2) (zd zO (zd zO (vE 4) (vE 4)) (ap1 Wa (chE leC leC (zd ixT (vE 0) (cE (.int 2))) (cE (.int 2)) (zd ixT (vE 0) (cE (.int 3))))))))
  (zt 2 (zd zp (vE 2) (zd zO (zd zO (zd zO (vE 4) (vE 4)) (vE 4)) (ap1 Wa (jB eqC (zd ixT (vE 0) (cE (.int 3))) (cE (.int 3)))))))))) (nxS))
  (zv (vE 2))))))
def S_d:Nat->Nat->List T->R T
 | 0,_=>λ_=> .bad
 | n+1,_=>λts=>zj (b_d (f_8 8) (S_d n 0) (en0 5 ts))
abbrev f_d (n:Nat):List T->R T:=S_d n 0
def Gb (c_k:List T->R T)(c_d:List T->R T):En->RS:=
  zo (zt 3 (zc 3 c_k (za (vE 0) (za (vE 1) (za (cE (.int 3)) (zf))))))
  (zo (ja (Zf (cE (.int 3))) (zr 4) (zo (ifS (zx leC (zc 1 c_d (za (vE 3) (zf))) (vB 2)) (zv (vE 3)) (nxS))
  (zt 3 (zc 3 c_k (za (vE 0) (za (zd zp (zd zp (vE 1) (cE (.int 500))) (zd zO (cE (.int 700)) (vE 4))) (za (cE (.int 2)) (zf))))))))
  (zv (ifE (zx leC (zc 1 c_d (za (vE 3) (zf))) (vB 2)) (vE 3) (Zd (za (cE (.str "whole")) (za (yM (cE (.int 1))) (za (cE (.int 2)) (zf))))))))
def Xq:List T->R T:=λts=>zj (Gb (f_k 8) (f_d 8) (en0 5 ts))
def b_p:En->RS:=
  zv (jI (ap1 (j9 "int") (vB 0)) (z0f (ap1 (j9 "bool") (vB 0))))
def f_p:List T->R T:=λts=>zj (b_p  (en0 1 ts))
def b_1e (c_p:List T->R T):En->RS:=
  zv (jI (zc 1 c_p (za (vE 0) (zf))) (jI (zc 1 c_p (za (vE 1) (zf))) (ch3E leC leC leC (vB 2) (vB 0) (vB 1) (vB 3))))
def Gc:List T->R T:=λts=>zj (b_1e (f_p) (en0 4 ts))
def b_f:En->RS:=
  zv (jI (ap1 (j9 "tuple") (vB 0)) (chE leC leC (vB 1) (ap1 Z2 (vB 0)) (vB 2)))
def f_f:List T->R T:=λts=>zj (b_f  (en0 3 ts))
def b_9:En->RS:=
  zo (ifS (orT (j8 (Zp (ap1 (j9 "str") (vB 0)))) (j8 (chT leC leC (cE (.int 1)) (ap1 Z2 (vB 0)) (cE (.int 3))))) (zv (cE (.bl false))) (nxS))
  (zv (ap1 vp (zZ (j0 (vE 0)) (zr 0) (Ze) (chE leC leC (cE (.str "a")) (vB 0) (cE (.str "z"))) 1 [])))
def f_9:List T->R T:=λts=>zj (b_9  (en0 1 ts))
def Ge (c_p:List T->R T)(c_f:List T->R T)(c_9:List T->R T):En->RS:=
  zv (jI (zc 3 c_f (za (vE 0) (za (cE (.int 2)) (za (cE (.int 2)) (zf))))) (jI (zc 1 c_9 (za (zd ixT (vE 0) (cE (.int 0))) (zf))) (jI (zc 1 c_p (za (zd ixT (vE 0) (cE (.int 1))) (zf))) (chE leC leC (cE (.int 1)) (zd ixT (vE 0) (cE (.int 1))) (cE (.int 20))))))
def xC:List T->R T:=λts=>zj (Ge (f_p) (f_f) (f_9) (en0 1 ts))
def b_x (c_f:List T->R T)(c_11:List T->R T):En->RS:=
  zo (ifS (orT (j8 (Zp (zc 3 c_f (za (vE 0) (za (cE (.int 1)) (za (cE (.int 4)) (zf))))))) (j8 (Zp (ap1 vp (zZ (j0 (vE 0)) (zr 0) (Ze) (zc 1 c_11 (za (vE 0) (zf))) 1 []))))) (zv (cE (.bl false))) (nxS))
  (zo (zt 1 (zZ (j0 (vE 0)) (zr 0) (Ze) (zd ixT (vE 0) (cE (.int 0))) 1 []))
  (zv (jB eqC (ap1 Qf (vB 1)) (ap1 Z2 (vB 1)))))
def f_x:List T->R T:=λts=>zj (b_x (f_f) (xC) (en0 2 ts))
def b_b (c_1e:List T->R T)(c_b:List T->R T)(c_x:List T->R T)(c_1c:List T->R T):En->RS:=
  zo (ifS (orT (zx eqC (vB 1) (cE (.int 0))) (orT (j8 (Zp (ap1 (j9 "tuple") (vB 0)))) (zx eqC (ap1 Z2 (vB 0)) (cE (.int 0))))) (zv (cE (.bl false))) (nxS))
  (zo (ifS (zx eqC (zd ixT (vE 0) (cE (.int 0))) (cE (.str "whole"))) (zv (jI (jB eqC (ap1 Z2 (vB 0)) (cE (.int 3))) (zc 4 c_1e (za (zd ixT (vE 0) (cE (.int 1))) (za (zd ixT (vE 0) (cE (.int 2))) (za (yM (cE (.int 20))) (za (cE (.int 20)) (zf)))))))) (nxS))
  (zo (ifS (zx eqC (zd ixT (vE 0) (cE (.int 0))) (cE (.str "pick"))) (zv (jI (jB eqC (ap1 Z2 (vB 0)) (cE (.int 2))) (zc 1 c_x (za (zd ixT (vE 0) (cE (.int 1))) (zf))))) (nxS))
  (zo (ifS (zx eqC (zd ixT (vE 0) (cE (.int 0))) (cE (.str "row"))) (zv (jI (jB eqC (ap1 Z2 (vB 0)) (cE (.int 2))) (zc 2 c_1c (za (zd ixT (vE 0) (cE (.int 1))) (za (zd ZS (vE 1) (cE (.int 1))) (zf)))))) (nxS))
  (zo (ifS (zx eqC (zd ixT (vE 0) (cE (.int 0))) (cE (.str "many"))) (zv (jI (jB eqC (ap1 Z2 (vB 0)) (cE (.int 4))) (jI (zc 4 c_1e (za (zd ixT (vE 0) (cE (.int 2))) (za (zd ixT (vE 0) (cE (.int 3))) (za (cE (.int 0)) (za (cE (.int 3)) (zf)))))) (zc 2 c_b (za (zd ixT (vE 0) (cE (.int 1))) (za (zd ZS (vE 1) (cE (.int 1))) (zf))))))) (nxS))
  (zv (cE (.bl false)))))))
def Gf (c_f:List T->R T)(c_b:List T->R T):En->RS:=
  zv (jI (zc 3 c_f (za (vE 0) (za (cE (.int 1)) (za (cE (.int 3)) (zf))))) (ap1 vp (zZ (j0 (vE 0)) (zr 0) (Ze) (zc 2 c_b (za (vE 0) (za (vE 1) (zf)))) 1 [1])))
def S_b:Nat->Nat->List T->R T
 | 0,_=>λ_=> .bad
 | n+1,0=>λts=>zj (b_b (Gc) (S_b n 0) (f_x) (S_b n 1) (en0 2 ts))
 | n+1,_=>λts=>zj (Gf (f_f) (S_b n 0) (en0 2 ts))
abbrev f_b (n:Nat):List T->R T:=S_b n 0
abbrev f_1c (n:Nat):List T->R T:=S_b n 1
def b_1 (c_b:List T->R T):En->RS:=
  zv (zc 2 c_b (za (vE 0) (za (cE (.int 3)) (zf))))
def f_1:List T->R T:=λts=>zj (b_1 (f_b 20) (en0 1 ts))
def b_n (c_1:List T->R T):En->RS:=
  ifS (j8 (Zp (zc 1 c_1 (za (vE 0) (zf))))) (uN 0) (nxS)
def f_n:List T->R T:=λts=>zj (b_n (f_1) (en0 1 ts))
def b_2 (c_t:List T->R T)(c_l:List T->R T):En->RS:=
  zo (ifS (zx eqC (zd ixT (vE 0) (cE (.int 0))) (cE (.str "whole"))) (zv (zd zp (zd ZS (zd ixT (vE 0) (cE (.int 2))) (zd ixT (vE 0) (cE (.int 1)))) (cE (.int 1)))) (nxS))
  (zo (ifS (zx eqC (zd ixT (vE 0) (cE (.int 0))) (cE (.str "pick"))) (zv (ap1 Z2 (zd ixT (vE 0) (cE (.int 1))))) (nxS))
  (zo (ifS (zx eqC (zd ixT (vE 0) (cE (.int 0))) (cE (.str "row"))) (zv (zc 1 c_t (za (zd ixT (vE 0) (cE (.int 1))) (zf)))) (nxS))
  (zv (zc 2 c_l (za (vE 0) (za (zd zp (zd ixT (vE 0) (cE (.int 3))) (cE (.int 1))) (zf)))))))
def b_t (c_2:List T->R T):En->RS:=
  zo (zt 1 (cE (.int 1)))
  (zo (ja (j0 (vE 0)) (zr 2) (zt 1 (zd zO (vE 1) (zc 1 c_2 (za (vE 2) (zf))))))
  (zv (vE 1)))
def b_l (c_t:List T->R T):En->RS:=
  zv (ap1 G7 (zZ (Jo (zd ixT (vE 0) (cE (.int 2))) (vE 1)) (zr 0) (Ze) (zc 1 c_t (za (zd zO (ZE (za (zd ixT (vE 1) (cE (.int 1))) (zf))) (vE 0)) (zf))) 1 [0]))
def S_2:Nat->Nat->List T->R T
 | 0,_=>λ_=> .bad
 | n+1,0=>λts=>zj (b_2 (S_2 n 1) (S_2 n 2) (en0 1 ts))
 | n+1,1=>λts=>zj (b_t (S_2 n 0) (en0 3 ts))
 | n+1,_=>λts=>zj (b_l (S_2 n 1) (en0 2 ts))
abbrev f_2 (n:Nat):List T->R T:=S_2 n 0
abbrev f_t (n:Nat):List T->R T:=S_2 n 1
abbrev f_l (n:Nat):List T->R T:=S_2 n 2
def b_y (c_n:List T->R T)(c_2:List T->R T):En->RS:=
  zo (JE (zc 1 c_n (za (vE 0) (zf))))
  (zv (zc 1 c_2 (za (vE 0) (zf))))
def f_y:List T->R T:=λts=>zj (b_y (f_n) (f_2 20) (en0 1 ts))
def b_18 (c_y:List T->R T):En->RS:=
  zv (ap1 Wx (zd ZS (zc 1 c_y (za (vE 0) (zf))) (cE (.int 1))))
def xD:List T->R T:=λts=>zj (b_18 (f_y) (en0 1 ts))
def b_q (c_n:List T->R T)(c_2:List T->R T):En->R (T×En):=
  j6 (JE (zc 1 c_n (za (vE 1) (zf))))
  (j6 (stF 102 0 2 "kind" (vE 1))
  (j6 (stF 102 0 2 "first" (cE (.int 0)))
  (j6 (stF 102 0 2 "last" (zd ZS (zc 1 c_2 (za (vE 1) (zf))) (cE (.int 1))))
  (j6 (stF 102 0 2 "answered" (cE (.int 0)))
  (z0P)))))
def f_q:List (Str×Fd)->List T->R (T×List (Str×Fd)):=λfs ts=>WV 102 2 (b_q (f_n) (f_2 20) (enM 102 2 fs ts))
def b_6:En->RS:=
  zo (UE 1 (za (JG 0 okX JI) (za (JG 0 okX J7) (za (JG 0 okX J8) (za (JG 0 okX J9) (zf))))))
  (zo (Qa 1 (ZE (za (JG 0 okX jC) (za (JG 0 okX jD) (zf)))))
  (zo (ifS (orT (zx neC (Kj z0H (vB 1) (cE (.bl true))) (cE (.int 1))) (j8 (Zp (JG 0 okX ZU)))) (zv (cE (.str "wrong"))) (nxS))
  (zv (zd ixT (ZE (za (cE (.str "ended")) (za (cE (.str "no kind")) (za (cE (.str "no rule")) (za (cE (.str "no text")) (za (cE (.str "no worth")) (za (cE (.str "too many")) (zf)))))))) (Kj xl (vB 1) (cE (.bl true)))))))
def f_6:Nat->R T:=λc=>zj (b_6  (enC 2 c))
def b_3 (c_6:Nat->R T)(c_18:List T->R T)(c_q:List (Str×Fd)->List T->R (T×List (Str×Fd))):En->RS:=
  zo (zt 3 (cE .non))
  (zo (zt 4 (cE .non))
  (zo (Qg 3 okX (ifS (zx eqC (vB 0) (cE (.int 0))) (vz) (ifS (zx eqC (vB 0) (cE (.int 1))) (vz) (zt 4 (ifE (zx eqC (vB 0) (cE (.int 2))) (zc 1 c_18 (za (vE 1) (zf))) (mkX 1 c_q (za (vE 1) (zf))))))))
  (zo (ifS (K7 3) (zv (vE 4)) (nxS))
  (zv (Yd 3 c_6)))))
def f_3:List T->R T:=λts=>zj (b_3 (f_6) (xD) (f_q) (en0 7 ts))
def b_g:En->RS:=
  zv (zd zp (zd ZS (ug 102 0 1 "last") (ug 102 0 1 "first")) (cE (.int 1)))
def f_g:List (Str×Fd)->List T->R T:=λfs ts=>zj (b_g  (enO 102 1 fs (ts.take 0) (ts.drop 0)))
def b_4 (c_g:List (Str×Fd)->List T->R T):En->RS:=
  zo (ifS (zx eqC (jy 102 0 1 0 c_g zf) (cE (.int 1))) (uN 4) (nxS))
  (zv (zd zp (ug 102 0 1 "first") (zd jA (jy 102 0 1 0 c_g zf) (cE (.int 2)))))
def f_4:List (Str×Fd)->List T->R T:=λfs ts=>zj (b_4 (f_g) (enO 102 1 fs (ts.take 0) (ts.drop 0)))
def Gg (c_4:List (Str×Fd)->List T->R T):En->RS:=
  zo (zt 2 (jy 102 0 3 0 c_4 zf))
  (zo (vz)
  (vz))
def KJ:List (Str×Fd)->List T->R T:=λfs ts=>zj (Gg (f_4) (enO 102 2 fs (ts.take 0) (ts.drop 0)))
def Xr (c_6:Nat->R T)(c_4:List (Str×Fd)->List T->R T)(c_1g:List (Str×Fd)->List T->R T):En->RS:=
  zo (zt 3 (cE .non))
  (zo (zt 4 (cE .non))
  (zo (Qg 3 okX (ifS (zx eqC (vB 0) (cE (.int 0))) (zt 4 (jy 102 1 6 0 c_4 zf)) (ifS (zx eqC (vB 0) (cE (.int 1))) (zt 4 (jy 102 1 6 1 c_1g (za (vE 2) (zf)))) (vz))))
  (zo (ifS (K7 3) (zv (vE 4)) (nxS))
  (zv (Yd 3 c_6)))))
def UI:List (Str×Fd)->List T->R T:=λfs ts=>zj (Xr (f_6) (f_4) (KJ) (enO 102 4 fs (ts.take 1) (ts.drop 1)))
def b_m:En->RS:=
  zv (zZ (j0 (zd ixT (vE 0) (cE (.int 1)))) (zr 0) (Ze) (zd ixT (vE 0) (cE (.int 0))) 1 [])
def f_m:List T->R T:=λts=>zj (b_m  (en0 1 ts))
def b_h (c_m:List T->R T)(c_1f:List T->R T)(c_w:List T->R T):En->RS:=
  zo (ifS (zx eqC (zd ixT (vE 0) (cE (.int 0))) (cE (.str "whole"))) (zv (zd zp (zd ixT (vE 0) (cE (.int 1))) (vE 1))) (nxS))
  (zo (ifS (zx eqC (zd ixT (vE 0) (cE (.int 0))) (cE (.str "pick"))) (zv (zd ixT (zc 1 c_m (za (vE 0) (zf))) (vE 1))) (nxS))
  (zo (ifS (zx eqC (zd ixT (vE 0) (cE (.int 0))) (cE (.str "row"))) (zv (zc 2 c_w (za (zd ixT (vE 0) (cE (.int 1))) (za (vE 1) (zf))))) (nxS))
  (zv (zc 2 c_1f (za (vE 0) (za (vE 1) (zf)))))))
def Xs (c_l:List T->R T)(c_w:List T->R T):En->RS:=
  zo (zt 2 (zd ixT (vE 0) (cE (.int 2))))
  (zo (Zx (zx leC (zc 2 c_l (za (vE 0) (za (zd zp (vE 2) (cE (.int 1))) (zf)))) (vB 1)) (zt 2 (zd zp (vE 2) (cE (.int 1)))) (8))
  (zv (zc 2 c_w (za (zd zO (ZE (za (zd ixT (vE 0) (cE (.int 1))) (zf))) (vE 2)) (za (zd ZS (vE 1) (zc 2 c_l (za (vE 0) (za (vE 2) (zf))))) (zf))))))
def b_w (c_2:List T->R T)(c_h:List T->R T):En->RS:=
  zo (UE 2 (zf))
  (zo (zt 3 (vE 1))
  (zo (ja (z0M (vE 0)) (zr 4) (zo (zt 5 (zc 1 c_2 (za (vE 4) (zf))))
  (zo (Q9 2 (zc 2 c_h (za (vE 4) (za (zd jN (vE 3) (vE 5)) (zf)))))
  (zt 3 (zd jA (vE 3) (vE 5))))))
  (zv (ap1 Qw (vE 2)))))
def S_h:Nat->Nat->List T->R T
 | 0,_=>λ_=> .bad
 | n+1,0=>λts=>zj (b_h (f_m) (S_h n 1) (S_h n 2) (en0 2 ts))
 | n+1,1=>λts=>zj (Xs (f_l 20) (S_h n 2) (en0 3 ts))
 | n+1,_=>λts=>zj (b_w (f_2 20) (S_h n 0) (en0 6 ts))
abbrev f_h (n:Nat):List T->R T:=S_h n 0
abbrev f_1f (n:Nat):List T->R T:=S_h n 1
abbrev f_w (n:Nat):List T->R T:=S_h n 2
def b_s (c_h:List T->R T)(c_g:List (Str×Fd)->List T->R T):En->RS:=
  zo (ifS (zx gtC (jy 102 0 1 0 c_g zf) (cE (.int 1))) (zv (cE .non)) (nxS))
  (zv (zc 2 c_h (za (ug 102 0 1 "kind") (za (ug 102 0 1 "first") (zf)))))
def f_s:List (Str×Fd)->List T->R T:=λfs ts=>zj (b_s (f_h 20) (f_g) (enO 102 1 fs (ts.take 0) (ts.drop 0)))
def b_r:En->RS:=
  zv (ug 102 0 1 "answered")
def f_r:List (Str×Fd)->List T->R T:=λfs ts=>zj (b_r  (enO 102 1 fs (ts.take 0) (ts.drop 0)))
def b_e (c_4:List (Str×Fd)->List T->R T):En->R (T×En):=
  j6 (zt 2 (jy 102 0 3 0 c_4 zf))
  (j6 (ifS (Zp (vB 1)) (stF 102 0 3 "last" (zd ZS (vE 2) (cE (.int 1)))) (stF 102 0 3 "first" (vE 2)))
  (j6 (stF 102 0 3 "answered" (zd zp (ug 102 0 3 "answered") (cE (.int 1))))
  (z0P)))
def f_e:List (Str×Fd)->List T->R (T×List (Str×Fd)):=λfs ts=>WV 102 3 (b_e (f_4) (enM 102 3 fs ts))
def Gh (c_6:Nat->R T)(c_e:List (Str×Fd)->List T->R (T×List (Str×Fd))):En->R (T×En):=
  j6 (zt 3 (cE .non))
  (j6 (zt 4 (cE .non))
  (j6 (Qg 3 okX (ifS (zx eqC (vB 0) (cE (.int 0))) (vz) (ifS (zx eqC (vB 0) (cE (.int 1))) (seM 4 (Ky 102 1 6 "answer" 1 c_e (za (vE 2) (zf)))) (vz))))
  (ifR (K7 3) (G9 (vE 4))
  (G9 (Yd 3 c_6)))))
def Gi:List (Str×Fd)->List T->R (T×List (Str×Fd)):=λfs ts=>WV 102 6 (Gh (f_6) (f_e) (Xp 102 6 fs ts))
def b_i (c_p:List T->R T)(c_f:List T->R T)(c_m:List T->R T)(c_17:List T->R T):En->RS:=
  zo (ifS (zx eqC (zd ixT (vE 0) (cE (.int 0))) (cE (.str "whole"))) (zv (jI (zc 1 c_p (za (vE 1) (zf))) (chE leC leC (zd ixT (vE 0) (cE (.int 1))) (vB 1) (zd ixT (vE 0) (cE (.int 2)))))) (nxS))
  (zo (ifS (zx eqC (zd ixT (vE 0) (cE (.int 0))) (cE (.str "pick"))) (zv (jB inC (vB 1) (zc 1 c_m (za (vE 0) (zf))))) (nxS))
  (zo (ifS (zx eqC (zd ixT (vE 0) (cE (.int 0))) (cE (.str "row"))) (zv (jI (zc 3 c_f (za (vE 1) (za (ap1 Z2 (zd ixT (vE 0) (cE (.int 1)))) (za (ap1 Z2 (zd ixT (vE 0) (cE (.int 1)))) (zf))))) (zc 2 c_17 (za (zd ixT (vE 0) (cE (.int 1))) (za (vE 1) (zf)))))) (nxS))
  (zv (jI (zc 3 c_f (za (vE 1) (za (zd ixT (vE 0) (cE (.int 2))) (za (zd ixT (vE 0) (cE (.int 3))) (zf))))) (zc 2 c_17 (za (zd zO (ZE (za (zd ixT (vE 0) (cE (.int 1))) (zf))) (ap1 Z2 (vB 1))) (za (vE 1) (zf))))))))
def KK (c_i:List T->R T):En->RS:=
  zv (ap1 vp (zZ (Kh (vE 0) (vE 1)) (Zr 0 1) (Ze) (zc 2 c_i (za (vE 0) (za (vE 1) (zf)))) 2 []))
def S_i:Nat->Nat->List T->R T
 | 0,_=>λ_=> .bad
 | n+1,0=>λts=>zj (b_i (f_p) (f_f) (f_m) (S_i n 1) (en0 2 ts))
 | n+1,_=>λts=>zj (KK (S_i n 0) (en0 2 ts))
abbrev f_i (n:Nat):List T->R T:=S_i n 0
abbrev f_17 (n:Nat):List T->R T:=S_i n 1
def Gj (c_n:List T->R T)(c_i:List T->R T):En->RS:=
  zo (JE (zc 1 c_n (za (vE 0) (zf))))
  (zv (zc 2 c_i (za (vE 0) (za (vE 1) (zf)))))
def Xt:List T->R T:=λts=>zj (Gj (f_n) (f_i 20) (en0 2 ts))
def Gk (c_14:List T->R T):En->RS:=
  ifS (j8 (Zp (zc 2 c_14 (za (vE 0) (za (vE 1) (zf)))))) (uN 1) (nxS)
def Gm:List T->R T:=λts=>zj (Gk (Xt) (en0 2 ts))
def b_7 (c_m:List T->R T)(c_l:List T->R T)(c_19:List T->R T):En->RS:=
  zo (ifS (zx eqC (zd ixT (vE 0) (cE (.int 0))) (cE (.str "whole"))) (zv (zd ZS (vE 1) (zd ixT (vE 0) (cE (.int 1))))) (nxS))
  (zo (ifS (zx eqC (zd ixT (vE 0) (cE (.int 0))) (cE (.str "pick"))) (zv (Kj xl (zc 1 c_m (za (vE 0) (zf))) (vB 1))) (nxS))
  (zo (ifS (zx eqC (zd ixT (vE 0) (cE (.int 0))) (cE (.str "row"))) (zv (zc 2 c_19 (za (zd ixT (vE 0) (cE (.int 1))) (za (vE 1) (zf))))) (nxS))
  (zo (zt 2 (ap1 Z2 (vB 1)))
  (zv (zd zp (zc 2 c_l (za (vE 0) (za (vE 2) (zf)))) (zc 2 c_19 (za (zd zO (ZE (za (zd ixT (vE 0) (cE (.int 1))) (zf))) (vE 2)) (za (vE 1) (zf)))))))))
def Xu (c_2:List T->R T)(c_7:List T->R T):En->RS:=
  zo (zt 2 (cE (.int 0)))
  (zo (ja (Kh (vE 0) (vE 1)) (Zr 3 4) (zt 2 (zd zp (zd zO (vE 2) (zc 1 c_2 (za (vE 3) (zf)))) (zc 2 c_7 (za (vE 3) (za (vE 4) (zf)))))))
  (zv (vE 2)))
def S_7:Nat->Nat->List T->R T
 | 0,_=>λ_=> .bad
 | n+1,0=>λts=>zj (b_7 (f_m) (f_l 20) (S_7 n 1) (en0 3 ts))
 | n+1,_=>λts=>zj (Xu (f_2 20) (S_7 n 0) (en0 5 ts))
abbrev f_7 (n:Nat):List T->R T:=S_7 n 0
abbrev f_19 (n:Nat):List T->R T:=S_7 n 1
def Gn (c_1a:List T->R T)(c_7:List T->R T):En->RS:=
  zo (JE (zc 2 c_1a (za (vE 0) (za (vE 1) (zf)))))
  (zv (zc 2 c_7 (za (vE 0) (za (vE 1) (zf)))))
def Go:List T->R T:=λts=>zj (Gn (Gm) (f_7 20) (en0 2 ts))
def Gp (c_g:List (Str×Fd)->List T->R T)(c_r:List (Str×Fd)->List T->R T)(c_12:List (Str×Fd)->List T->R T):En->RS:=
  zo (ifS (orT (zx gtC (jy 102 0 2 0 c_r zf) (vB 1)) (zx neC (jy 102 0 2 0 c_g zf) (cE (.int 1)))) (zv (cE (.bl false))) (nxS))
  (zv (jB eqC (zZ (Zf (cE (.int 2))) (zr 0) (Ze) (Jp 102 1 2 2 c_12 (vE 0) (za (cE (.bl true)) (zf))) 1 [0]) (zd zO (ZE (za (cE (.str "ended")) (zf))) (cE (.int 2)))))
def KL:List (Str×Fd)->List T->R T:=λfs ts=>zj (Gp (f_g) (f_r) (UI) (enO 102 1 fs (ts.take 0) (ts.drop 0)))
def b_o (c_o:List T->R T):En->RS:=
  zo (UE 1 (za (Zd (zf)) (zf)))
  (zo (ifS (Zp (ap1 (j9 "tuple") (vB 0))) (ja (Zf (ap1 Z2 (vB 0))) (zr 2) (Qa 1 (zZ (j0 (zc 1 c_o (za (zd ixT (vE 0) (vE 2)) (zf)))) (zr 0) (Ze) (zd zp (Zd (za (vE 1) (zf))) (vE 0)) 1 [2]))) (nxS))
  (zv (vE 1)))
def S_o:Nat->Nat->List T->R T
 | 0,_=>λ_=> .bad
 | n+1,_=>λts=>zj (b_o (S_o n 0) (en0 3 ts))
abbrev f_o (n:Nat):List T->R T:=S_o n 0
def Gq:En->RS:=
  zo (ja (j0 (vE 1)) (zr 2) (zt 0 (zd ixT (vE 0) (vE 2))))
  (zv (vE 0))
def Xv:List T->R T:=λts=>zj (Gq  (en0 3 ts))
def b_c (c_c:List T->R T):En->RS:=
  zo (ifS (zx eqC (vB 1) (Zd (zf))) (zv (vE 2)) (nxS))
  (zo (zt 3 (zd ixT (vE 1) (cE (.int 0))))
  (zv (zd zp (zd zp (slE (vE 0) (noO) (Zq (vE 3))) (Zd (za (zc 3 c_c (za (zd ixT (vE 0) (vE 3)) (za (slE (vE 1) (Zq (cE (.int 1))) (noO)) (za (vE 2) (zf))))) (zf)))) (slE (vE 0) (Zq (zd zp (vE 3) (cE (.int 1)))) (noO)))))
def S_c:Nat->Nat->List T->R T
 | 0,_=>λ_=> .bad
 | n+1,_=>λts=>zj (b_c (S_c n 0) (en0 4 ts))
abbrev f_c (n:Nat):List T->R T:=S_c n 0
def Gr (c_5:List T->R T)(c_o:List T->R T)(c_15:List T->R T)(c_c:List T->R T):En->RS:=
  zo (zt 3 (zc 1 c_o (za (vE 2) (zf))))
  (zo (zt 4 (zd ixT (vE 3) (zc 3 c_5 (za (vE 0) (za (vE 1) (za (ap1 Z2 (vB 3)) (zf)))))))
  (zo (zt 5 (zc 2 c_15 (za (vE 2) (za (vE 4) (zf)))))
  (zo (zt 6 (ZE (za (cE (.int 0)) (za (cE (.int 1)) (za (yM (cE (.int 21))) (za (cE (.int 21)) (za (cE (.int 3)) (za (cE (.int 4)) (za (cE (.bl true)) (za (cE .non) (za (cE (.str "a")) (za (cE (.str "abcd")) (za (cE (.str "A")) (za (cE (.str "")) (za (cE (.str "many")) (za (cE (.str "row")) (za (Zd (zf)) (za (Zd (za (vE 5) (zf))) (za (ZE (za (vE 5) (zf))) (za (Zd (za (cE (.str "whole")) (za (cE (.int 1)) (za (cE (.int 0)) (zf))))) (zf)))))))))))))))))))))
  (zo (zt 7 (zc 3 c_5 (za (vE 0) (za (zd zp (vE 1) (cE (.int 1))) (za (zd zp (ap1 Z2 (vB 6)) (cE (.int 5))) (zf))))))
  (zo (ifS (zx ltC (vB 7) (ap1 Z2 (vB 6))) (zv (zc 3 c_c (za (vE 2) (za (vE 4) (za (zd ixT (vE 6) (vE 7)) (zf)))))) (nxS))
  (zo (ifS (JD (Zp (ap1 (j9 "tuple") (vB 5))) (zx neC (vB 5) (Zd (zf)))) (zo (zt 8 (zc 3 c_5 (za (vE 0) (za (zd zp (vE 1) (cE (.int 2))) (za (ap1 Z2 (vB 5)) (zf))))))
  (zv (zc 3 c_c (za (vE 2) (za (vE 4) (za (zd ixT (ZE (za (zd zp (slE (vE 5) (noO) (Zq (vE 8))) (slE (vE 5) (Zq (zd zp (vE 8) (cE (.int 1)))) (noO))) (za (zd zp (zd zp (slE (vE 5) (noO) (Zq (vE 8))) (slE (vE 5) (Zq (vE 8)) (Zq (zd zp (vE 8) (cE (.int 1)))))) (slE (vE 5) (Zq (vE 8)) (noO))) (zf)))) (zd jN (vE 7) (cE (.int 2)))) (zf))))))) (nxS))
  (zo (ifS (Zp (ap1 (j9 "int") (vB 5))) (zv (zc 3 c_c (za (vE 2) (za (vE 4) (za (zd ZS (zd zp (vE 5) (cE (.int 1))) (zd zO (cE (.int 2)) (zd jN (vE 7) (cE (.int 2))))) (zf)))))) (nxS))
  (zv (zc 3 c_c (za (vE 2) (za (vE 4) (za (Zd (za (cE (.str "row")) (za (Zd (za (vE 5) (za (vE 5) (zf)))) (zf)))) (zf)))))))))))))
def KM:List T->R T:=λts=>zj (Gr (f_5) (f_o 40) (Xv) (f_c 40) (en0 9 ts))
def b_u:En->RS:=
  zv (jI (ap1 (j9 "int") (vB 0)) (jI (z0f (ap1 (j9 "bool") (vB 0))) (chE leC leC (vB 1) (vB 0) (vB 2))))
def f_u:List T->R T:=λts=>zj (b_u  (en0 3 ts))
def b_v:En->RS:=
  zv (jI (ap1 (j9 "str") (vB 0)) (jI (chE leC leC (cE (.int 1)) (ap1 Z2 (vB 0)) (cE (.int 3))) (jB eqC (zZ (j0 (vE 0)) (zr 0) (j8 (chT leC leC (cE (.str "a")) (vB 0) (cE (.str "z")))) (vE 0) 1 []) (ZE (zf)))))
def f_v:List T->R T:=λts=>zj (b_v  (en0 1 ts))
def b_a (c_u:List T->R T)(c_v:List T->R T)(c_a:List T->R T):En->RS:=
  zo (ifS (orT (j8 (Zp (ap1 (j9 "tuple") (vB 0)))) (orT (zx ltC (ap1 Z2 (vB 0)) (cE (.int 2))) (orT (j8 (Zp (ap1 (j9 "str") (zd ixT (vE 0) (cE (.int 0)))))) (zx ltC (vB 1) (cE (.int 1)))))) (zv (cE (.bl false))) (nxS))
  (zo (VQ 2 3 (za (zd ixT (vE 0) (cE (.int 0))) (za (slE (vE 0) (Zq (cE (.int 1))) (noO)) (zf))))
  (zo (ifS (zx eqC (vB 2) (cE (.str "whole"))) (zv (jI (jB eqC (ap1 Z2 (vB 3)) (cE (.int 2))) (jI (zc 3 c_u (za (zd ixT (vE 3) (cE (.int 0))) (za (yM (cE (.int 20))) (za (cE (.int 20)) (zf))))) (zc 3 c_u (za (zd ixT (vE 3) (cE (.int 1))) (za (zd ixT (vE 3) (cE (.int 0))) (za (cE (.int 20)) (zf)))))))) (nxS))
  (zo (ifS (zx eqC (vB 2) (cE (.str "pick"))) (zo (ifS (orT (zx neC (ap1 Z2 (vB 3)) (cE (.int 1))) (orT (j8 (Zp (ap1 (j9 "tuple") (zd ixT (vE 3) (cE (.int 0)))))) (j8 (chT leC leC (cE (.int 1)) (ap1 Z2 (zd ixT (vE 3) (cE (.int 0)))) (cE (.int 4)))))) (zv (cE (.bl false))) (nxS))
  (zo (zt 4 (zZ (j0 (zd ixT (vE 3) (cE (.int 0)))) (zr 0) (JD (Zp (ap1 (j9 "tuple") (vB 0))) (zx eqC (ap1 Z2 (vB 0)) (cE (.int 2)))) (vE 0) 1 []))
  (zo (zt 5 (zZ (j0 (vE 4)) (zr 0) (JD (Zp (zc 1 c_v (za (zd ixT (vE 0) (cE (.int 0))) (zf)))) (Zp (zc 3 c_u (za (zd ixT (vE 0) (cE (.int 1))) (za (cE (.int 1)) (za (cE (.int 20)) (zf))))))) (zd ixT (vE 0) (cE (.int 0))) 1 []))
  (zv (jI (jB eqC (ap1 Z2 (vB 5)) (ap1 Z2 (zd ixT (vE 3) (cE (.int 0))))) (jB eqC (zZ (Zf (ap1 Z2 (vB 5))) (zr 0) (zx inC (zd ixT (vE 1) (vE 0)) (slE (vE 1) (noO) (Zq (vE 0)))) (vE 0) 1 [5]) (ZE (zf)))))))) (nxS))
  (zo (ifS (zx eqC (vB 2) (cE (.str "row"))) (zo (ifS (orT (zx neC (ap1 Z2 (vB 3)) (cE (.int 1))) (orT (j8 (Zp (ap1 (j9 "tuple") (zd ixT (vE 3) (cE (.int 0)))))) (j8 (chT leC leC (cE (.int 1)) (ap1 Z2 (zd ixT (vE 3) (cE (.int 0)))) (cE (.int 3)))))) (zv (cE (.bl false))) (nxS))
  (zv (jB eqC (zZ (j0 (zd ixT (vE 3) (cE (.int 0)))) (zr 0) (j8 (Zp (zc 2 c_a (za (vE 0) (za (zd ZS (vE 1) (cE (.int 1))) (zf)))))) (vE 0) 1 [1]) (ZE (zf))))) (nxS))
  (zo (ifS (orT (zx neC (vB 2) (cE (.str "many"))) (orT (zx neC (ap1 Z2 (vB 3)) (cE (.int 3))) (orT (j8 (Zp (zc 3 c_u (za (zd ixT (vE 3) (cE (.int 1))) (za (cE (.int 0)) (za (cE (.int 3)) (zf))))))) (j8 (Zp (zc 3 c_u (za (zd ixT (vE 3) (cE (.int 2))) (za (zd ixT (vE 3) (cE (.int 1))) (za (cE (.int 3)) (zf)))))))))) (zv (cE (.bl false))) (nxS))
  (zv (zc 2 c_a (za (zd ixT (vE 3) (cE (.int 0))) (za (zd ZS (vE 1) (cE (.int 1))) (zf))))))))))
def S_a:Nat->Nat->List T->R T
 | 0,_=>λ_=> .bad
 | n+1,_=>λts=>zj (b_a (f_u) (f_v) (S_a n 0) (en0 6 ts))
abbrev f_a (n:Nat):List T->R T:=S_a n 0
def b_0 (c_1b:List T->R T)(c_5:List T->R T)(c_8:List T->R T)(c_13:List T->R T)(c_a:List T->R T)(c_16:List T->R T)(c_3:List T->R T)(c_q:List (Str×Fd)->List T->R (T×List (Str×Fd)))(c_g:List (Str×Fd)->List T->R T)(c_s:List (Str×Fd)->List T->R T)(c_r:List (Str×Fd)->List T->R T)(c_12:List (Str×Fd)->List T->R T)(c_1i:List (Str×Fd)->List T->R (T×List (Str×Fd)))(c_1h:List (Str×Fd)->List T->R T):En->RS:=
  zo (zt 1 (zc 3 c_13 (za (vE 0) (za (cE (.int 0)) (za (cE (.int 120)) (zf))))))
  (zo (zt 2 (zc 1 c_8 (za (vE 1) (zf))))
  (zo (zt 3 (zc 3 c_3 (za (cE (.int 2)) (za (vE 1) (za (cE .non) (zf))))))
  (zo (zt 4 (cE (.int 1)))
  (zo (ja (Zf (vE 3)) (zr 5) (zt 4 (zd zO (cE (.int 2)) (vE 4))))
  (zo (ifS (orT (zx ltC (vB 4) (ap1 Z2 (vB 2))) (JD (zx gtC (vB 3) (cE (.int 0))) (zx geC (zd jA (vE 4) (cE (.int 2))) (ap1 Z2 (vB 2))))) (zv (cE (.bl false))) (nxS))
  (zo (ja (Zf (cE (.int 3))) (zr 6) (zo (mkS 7 15 102 1 c_q (za (vE 1) (zf)))
  (zo (zt 8 (zc 3 c_5 (za (vE 0) (za (zd zp (cE (.int 4000)) (vE 6)) (za (ap1 Z2 (vB 2)) (zf))))))
  (zo (VQ 9 10 (za (cE (.int 0)) (za (zd ZS (ap1 Z2 (vB 2)) (cE (.int 1))) (zf))))
  (zo (zt 11 (cE (.int 0)))
  (zo (Zx (zx ltC (vB 9) (vB 10)) (zo (zt 12 (Jp 102 7 15 2 c_12 (cE (.int 0)) (za (cE .non) (zf))))
  (zo (ifS (orT (j8 (Zp (ap1 (j9 "int") (vB 12)))) (orT (j8 (chT ltC leC (vB 9) (vB 12) (vB 10))) (zx JC (jy 102 7 15 0 c_s zf) (cE .non)))) (zv (cE (.bl false))) (nxS))
  (zo (zt 13 (jB ltC (vB 8) (vB 12)))
  (zo (ifS (zx eqC (vB 6) (cE (.int 2))) (zt 13 (jB eqC (zc 3 c_5 (za (vE 0) (za (zd zp (cE (.int 4010)) (jy 102 7 15 0 c_r zf)) (za (cE (.int 2)) (zf))))) (cE (.int 0)))) (nxS))
  (zo (ifM (Xo JC (Yw 102 7 15 2 c_1i (cE (.int 1)) (za (vE 13) (zf))) (cE .non)) (zv (cE (.bl false))) (nxS))
  (zo (G8 (ifE (Zp (vB 13)) (Zd (za (vE 9) (za (zd ZS (vE 12) (cE (.int 1))) (zf)))) (Zd (za (vE 12) (za (vE 10) (zf))))) (Zr 9 10))
  (zo (zt 11 (zd zp (vE 11) (cE (.int 1))))
  (ifS (orT (zx neC (jy 102 7 15 0 c_g zf) (zd zp (zd ZS (vE 10) (vE 9)) (cE (.int 1)))) (zx neC (jy 102 7 15 0 c_r zf) (vB 11))) (zv (cE (.bl false))) (nxS))))))))) (20))
  (zo (ifS (orT (zx neC (jy 102 7 15 0 c_s zf) (zd ixT (vE 2) (vE 9))) (JD (zx ltC (vB 6) (cE (.int 2))) (zx neC (zc 2 c_1b (za (vE 1) (za (jy 102 7 15 0 c_s zf) (zf)))) (vB 8)))) (zv (cE (.bl false))) (nxS))
  (ifS (j8 (Zp (KD 102 7 15 1 c_1h (za (vE 3) (zf))))) (zv (cE (.bl false))) (nxS)))))))))
  (zo (zt 14 (zc 3 c_16 (za (vE 0) (za (cE (.int 4200)) (za (vE 1) (zf))))))
  (zv (orE (zc 2 c_a (za (vE 14) (za (cE (.int 3)) (zf)))) (jB eqC (zZ (j0 (Zd (za (cE (.int 2)) (za (cE (.int 3)) (zf))))) (zr 0) (Ze) (zc 3 c_3 (za (vE 0) (za (vE 1) (za (cE .non) (zf))))) 1 [14]) (zd zO (ZE (za (cE (.str "no kind")) (zf))) (cE (.int 2)))))))))))))
def f_0:List T->R T:=λts=>zj (b_0 (Go) (f_5) (f_8 8) (Xq) (f_a 12) (KM) (f_3) (f_q) (f_g) (f_s) (f_r) (UI) (Gi) (KL) (enS 16 ts))
end G
namespace G
open PySem L2 PV
abbrev scr (ns:List Int):T:= .fz (ns.map T.int)
theorem xE (ns:List Int)(k:Int)(h0:0<=k):∃c,KH [scr ns,.int k]= .ok (.int c):=by
 have e1:KH [scr ns,.int k]=zj (if decide (k < ((ns.map T.int).length:Int))=true then (atT (ns.map T.int) k).s (λt=> .rt t) else
   match (eqC (scr ns) (.lst [])).s (λb=>if b=true then RS.rt (.int 0) else .nx [.vl (scr ns),.vl (.int k)]) with
   | .nx ρ' =>zv (zd zp (zd zO (zd ixT (vE 0) (zd jN (vE 1) (ap1 Z2 (vB 0)))) (cE (.int 31))) (vE 1)) ρ'
   | r=>r):=by
  show zj (match (if decide (k < ((ns.map T.int).length:Int))=true then (atT (ns.map T.int) k).s (λt=>RS.rt t) else .nx [.vl (scr ns),.vl (.int k)]) with
   | .nx ρ' =>_
   | r=>r)=_
  cases decide (k < ((ns.map T.int).length:Int)) with
  | true=>
   rw[if_pos rfl,if_pos rfl];unfold atT;cases atI (ns.map T.int) k <;> rfl
  | false=>rfl
 rw[e1,ae]
 by_cases hk:k < (ns.length:Int)
 ·obtain⟨v,hv⟩:∃v,ns[k.toNat]? =some v:=⟨ns[k.toNat]'(by omega),aj (by omega)⟩
  have ea:atI (ns.map T.int) k=some (.int v):=by
   have:k=((k.toNat:Nat):Int):=by omega
   rw[this];exact ZD (by rw[au,hv];rfl)
  rw[decide_eq_true hk,if_pos rfl];exact⟨v,by unfold atT;rw[ea];rfl⟩
 ·rw[decide_eq_false hk,if_neg av];cases ns with
  | nil=>exact⟨0,rfl⟩
  | cons x xs=>
   have hm0:=fo k (show (((x :: xs).length:Nat):Int) ≠ 0 by simp only[ah];omega)
   have hm1:=eC k (show (0:Int) < (((x :: xs).length:Nat):Int) by simp only[ah];omega)
   obtain⟨v,hv⟩:∃v,(x :: xs)[(k % (((x :: xs).length:Nat):Int)).toNat]? =some v:=⟨_,aj (by omega)⟩
   have ea:atI ((x :: xs).map T.int) (k % (((x :: xs).length:Nat):Int))=some (.int v):=by
    have e:k % (((x :: xs).length:Nat):Int)=(((k % (((x :: xs).length:Nat):Int)).toNat:Nat):Int):=by omega
    rw[e];exact ZD (by rw[au,hv];rfl)
   have cm:W9 v 31:= .inr ⟨by decide,by decide⟩
   have hp:(0:Int) < (((x :: xs).map T.int).length:Int):=by simp only[ae,ah];omega
   refine⟨v*31+k, ?_⟩;show zj (((((if 0 < (((x :: xs).map T.int).length:Int) then R.ok (T.int (k % (((x :: xs).map T.int).length:Int))) else .bad).bind λy=>ixT (scr (x :: xs)) y).bind λa=>zO a (.int 31)).bind λa=>zp a (.int k)).s λt=> .rt t)=_
   rw[if_pos hp];show zj ((((atT ((x :: xs).map T.int) (k % (((x :: xs).map T.int).length:Int))).bind λa=>zO a (.int 31)).bind λa=>zp a (.int k)).s λt=> .rt t)=_;rw[ae];unfold atT;rw[ea];show zj ((((if W9 v 31 then R.ok (T.int (v*31)) else .bad)).bind λa=>zp a (.int k)).s λt=> .rt t)=_
   rw[if_pos cm];rfl
theorem zR (ns:List Int)(k m:Int)(h0:0<=k)(hm:0 < m):∃p,f_5 [scr ns,.int k,.int m]= .ok (.int p)/\0<=p/\p < m:=by
 obtain⟨c,hc⟩:=xE ns k h0;have cm1:W9 6151 (k+1):= .inl ⟨by decide,by decide⟩
 have cm2:W9 (c+6151*(k+1)) 40692:= .inr ⟨by decide,by decide⟩
 generalize hd:(c+6151*(k+1))*40692 % 2147483399=d;have hd0:0<=d:=by rw[← hd];exact fo _ (by decide)
 have hd1:d < 2147483399:=by rw[← hd];exact eC _ (by decide)
 have cm3:W9 d d:= .inl ⟨by omega,by omega⟩
 refine⟨(d*d+d / 31) % 2147483629 % m, ?_,fo _ (by omega),eC _ hm⟩
 have e1:f_5 [scr ns,.int k,.int m]=zj (match ((((((KH [scr ns,.int k]).bind λx=>(zO (.int 6151) (.int (k+1))).bind λy=>zp x y).bind λx=>zO x (.int 40692)).bind λx=>jN x (.int 2147483399))).s λt=>RS.nx [.vl (scr ns),.vl (.int k),.vl (.int m),.vl t]) with
   | .nx ρ' =>zv (zd jN (zd jN (zd zp (zd zO (vE 3) (vE 3)) (zd jA (vE 3) (cE (.int 31)))) (cE (.int 2147483629))) (vE 2)) ρ'
   | r=>r):=rfl
 rw[e1,hc];show zj (match (((((if W9 6151 (k+1) then R.ok (T.int (6151*(k+1))) else .bad).bind λy=>zp (.int c) y).bind λx=>zO x (.int 40692)).bind λx=>jN x (.int 2147483399)).s λt=>RS.nx [.vl (scr ns),.vl (.int k),.vl (.int m),.vl t]) with
   | .nx ρ' =>_
   | r=>r)=_
 rw[if_pos cm1];show zj (match ((((if W9 (c+6151*(k+1)) 40692 then R.ok (T.int ((c+6151*(k+1))*40692)) else .bad)).bind λx=>jN x (.int 2147483399)).s λt=>RS.nx [.vl (scr ns),.vl (.int k),.vl (.int m),.vl t]) with
   | .nx ρ' =>_
   | r=>r)=_
 rw[if_pos cm2];show zj (zv (zd jN (zd jN (zd zp (zd zO (vE 3) (vE 3)) (zd jA (vE 3) (cE (.int 31)))) (cE (.int 2147483629))) (vE 2)) [.vl (scr ns),.vl (.int k),.vl (.int m),.vl (.int ((c+6151*(k+1))*40692 % 2147483399))])=_;rw[hd];show zj (((((if W9 d d then R.ok (T.int (d*d)) else .bad).bind λx=>zp x (.int (d / 31))).bind λx=>jN x (.int 2147483629)).bind λx=>jN x (.int m)).s λt=>RS.rt t)=_
 rw[if_pos cm3];show zj ((if 0 < m then R.ok (T.int ((d*d+d / 31) % 2147483629 % m)) else .bad).s λt=>RS.rt t)=_
 rw[if_pos hm];rfl
theorem Yx {ft:En->R Bool}{fe:En->R T}:∀(ts:List T) (ρ:En) (x:Sl),zH (zr 0) ft fe ts (ρ.set 0 x)=zH (zr 0) ft fe ts ρ
 | [],_,_=>rfl
 | t :: ts,ρ,x=>by
  unfold zH zr;rw[List.set_set]
theorem Z8 {ft:En->R Bool}{fe:En->R T}{p:T->Bool}{h:T->T}:∀(ts:List T) (ρ:En),(∀t∈ts,ft (ρ.set 0 (.vl t))= .ok (p t)/\(p t=true->fe (ρ.set 0 (.vl t))= .ok (h t)))->zH (zr 0) ft fe ts ρ= .ok ((ts.filter p).map h)
 | [],_,_=>rfl
 | t :: ts,ρ,H=>by
  obtain⟨h1,h2⟩:=H t aw;have ih:=Z8 ts ρ λu hu=>H u (af _ hu);have e:zH (zr 0) ft fe (t :: ts) ρ=(ft (ρ.set 0 (.vl t))).bind λk=>if k=true then (fe (ρ.set 0 (.vl t))).bind λv=>(zH (zr 0) ft fe ts (ρ.set 0 (.vl t))).bind λvs=> .ok (v :: vs) else zH (zr 0) ft fe ts (ρ.set 0 (.vl t)):=rfl
  rw[e,h1,Yx,ih];show (if p t=true then _ else _)=_
  cases hp:p t with
  | true=>rw[if_pos rfl,h2 hp,dw hp];rfl
  | false=>rw[if_neg av,dy (by rw[hp];exact av)]
theorem Yy {fe:En->R T}{h:T->T}(ts:List T)(ρ:En)(H:∀t∈ts,fe (ρ.set 0 (.vl t))= .ok (h t)):zH (zr 0) Ze fe ts ρ= .ok (ts.map h):=by
 have:=Z8 (ft:=Ze) (fe:=fe) (p:=λ_=>true) (h:=h) ts ρ λt ht=>⟨rfl,λ_=>H t ht⟩;rw[this,fK.mpr (λ_ _=>rfl)]
theorem Z9 {fe:En->R T}{h:T->T}{k:Nat}{js:List Nat}{ρ:En}(ts:List T)(hl:ts.length<=bnd)(H:∀t∈ts,fe ((JZ k js ρ).set 0 (.vl t))= .ok (h t)):zI (zr 0) Ze fe k js ρ ts= .ok (ts.map h):=by
 unfold zI;rw[if_pos hl,Yy ts _ H];rfl
theorem Jq (p:T->Bool):∀ts:List T,WU (ts.map λt=>T.bl (p t))=some (ts.all p)
 | []=>rfl
 | t :: ts=>by
  show (match WU (ts.map λt=>T.bl (p t)) with | some j=>some (p t && j) | none=>none)=_
  rw[Jq p ts];rfl
def isW:T->Bool
 | .int _=>true
 | _=>false
theorem uY (t:T):f_p [t]= .ok (.bl (isW t)):=by cases t <;> rfl
def UJ (a b:Nat):T->Bool
 | .tup xs=>decide (a<=xs.length) && decide (xs.length<=b)
 | _=>false
theorem ZH (t:T)(a b:Nat):f_f [t,.int a,.int b]= .ok (.bl (UJ a b t)):=by
 cases t with
 | tup xs=>
  show zj ((if decide ((a:Int)<=(xs.length:Int))=true then R.ok (T.bl (decide ((xs.length:Int)<=(b:Int)))) else .ok (.bl false)).s λt=> .rt t)=_
  have e1:decide ((a:Int)<=(xs.length:Int))=decide (a<=xs.length):=by simp
  have e2:decide ((xs.length:Int)<=(b:Int))=decide (xs.length<=b):=by simp
  rw[e1,e2];show _=R.ok (T.bl (decide (a<=xs.length) && decide (xs.length<=b)));cases decide (a<=xs.length) <;> rfl
 | _=>rfl
def jc (lo hi:Int):T->T->Bool
 | .int i,.int j=>decide (lo<=i) && decide (i<=j) && decide (j<=hi)
 | _,_=>false
theorem Yz (t u:T)(lo hi:Int):Gc [t,u,.int lo,.int hi]= .ok (.bl (jc lo hi t u)):=by
 cases t with
 | int i=>
  cases u with
  | int j=>
   show zj ((if decide (lo<=i)=true then (if decide (i<=j)=true then R.ok (T.bl (decide (j<=hi))) else .ok (.bl false)) else .ok (.bl false)).s λt=> .rt t)=_
   show _=R.ok (T.bl (decide (lo<=i) && decide (i<=j) && decide (j<=hi)));cases decide (lo<=i) <;> cases decide (i<=j) <;> rfl
  | _=>rfl
 | _=>cases u <;> rfl
def zV (c:Nat):Bool:=decide (97<=c) && decide (c<=122)
def Z1:T->Bool
 | .str x=>decide (1<=x.length) && decide (x.length<=3) && x.cps.toList.all zV
 | _=>false
theorem uZ (a b:Nat):decide ([a] < [b])=decide (a < b):=by
 by_cases h:a < b
 ·rw[decide_eq_true h];exact decide_eq_true (List.Lex.rel h)
 ·rw[decide_eq_false h];refine decide_eq_false λz=> ?_;cases z with
  | rel h' =>exact h h'
  | cons h' =>cases h'
theorem xF (c:Nat)(ρ:En):chE leC leC (cE (.str "a")) (vB 0) (cE (.str "z")) ((Sl.vl (.str ⟨#[c]⟩)) :: ρ)= .ok (.bl (zV c)):=by
 have e1:leC (.str "a") (.str ⟨#[c]⟩)= .ok (decide (97<=c)):=by
  show R.ok (!decide ([c] < [97]))=_;rw[uZ]
  by_cases h:c < 97
  ·rw[decide_eq_true h,decide_eq_false (by omega)];rfl
  ·rw[decide_eq_false h,decide_eq_true (by omega)];rfl
 have e2:leC (.str ⟨#[c]⟩) (.str "z")= .ok (decide (c<=122)):=by
  show R.ok (!decide ([122] < [c]))=_;rw[uZ]
  by_cases h:122 < c
  ·rw[decide_eq_true h,decide_eq_false (by omega)];rfl
  ·rw[decide_eq_false h,decide_eq_true (by omega)];rfl
 show (leC (.str "a") (.str ⟨#[c]⟩)).bind (λk=>if k=true then (leC (.str ⟨#[c]⟩) (.str "z")).bind λk' =>R.ok (T.bl k') else R.ok (T.bl false))=_
 rw[e1,e2];unfold zV;show (if decide (97<=c)=true then R.ok (T.bl (decide (c<=122))) else .ok (.bl false))=_
 cases decide (97<=c) <;> rfl
def xG:T->Prop
 | .str x=>x.length<=bnd
 | _=>True
theorem xH (t:T)(ht:xG t):f_9 [t]= .ok (.bl (Z1 t)):=by
 cases t with
 | str x=>
  have hx:x.length<=bnd:=ht;have e0:Z2 (.str x)= .ok (.int x.length):=if_pos hx;have ec:zI (zr 0) Ze (chE leC leC (cE (.str "a")) (vB 0) (cE (.str "z"))) 1 [] [.vl (.str x)] (ZF x)= .ok (x.cps.toList.map λc=>T.bl (zV c)):=by
   have hs:(ZF x).length<=bnd:=by unfold ZF;rw[ae,cg];exact hx
   have:=Z9 (fe:=chE leC leC (cE (.str "a")) (vB 0) (cE (.str "z"))) (h:=λt=>match t with | .str y=>T.bl (zV (y.cps.toList.headD 0)) | t=>t) (k:=1) (js:=[]) (ρ:=[.vl (.str x)]) (ZF x) hs λt ht=>by
    unfold ZF at ht;obtain⟨c,_,rfl⟩:=aO.mp ht;exact xF c []
   rw[this];unfold ZF;rw[br];rfl
  have ea:WU (x.cps.toList.map λc=>T.bl (zV c))=some (x.cps.toList.all zV):=by
   have:=Jq (λt=>match t with | .str y=>zV (y.cps.toList.headD 0) | _=>true) (ZF x)
   unfold ZF at this;rw[br,fY]at this;exact this
  have e1:f_9 [.str x]=zj (match ((((Z2 (.str x)).bind λy=>(leC (.int 1) y).bind λk=>if k=true then leC y (.int 3) else .ok false).bind λb=> .ok (!b)).s λk=>if k=true then RS.rt (.bl false) else .nx [.vl (.str x)]) with
    | .nx ρ' =>zv (ap1 vp (zZ (j0 (vE 0)) (zr 0) (Ze) (chE leC leC (cE (.str "a")) (vB 0) (cE (.str "z"))) 1 [])) ρ'
    | r=>r):=rfl
  rw[e1,e0];have c1:decide ((1:Int)<=(x.length:Int))=decide (1<=x.length):=by
   by_cases h:1<=x.length
   ·rw[decide_eq_true h];exact decide_eq_true (by omega)
   ·rw[decide_eq_false h];exact decide_eq_false (by omega)
  have c2:decide ((x.length:Int)<=(3:Int))=decide (x.length<=3):=by
   by_cases h:x.length<=3
   ·rw[decide_eq_true h];exact decide_eq_true (by omega)
   ·rw[decide_eq_false h];exact decide_eq_false (by omega)
  show zj (match ((((if decide ((1:Int)<=(x.length:Int))=true then R.ok (decide ((x.length:Int)<=(3:Int))) else .ok false)).bind λb=> .ok (!b)).s λk=>if k=true then RS.rt (.bl false) else .nx [.vl (.str x)]) with
    | .nx ρ' =>_
    | r=>r)=_
  rw[c1,c2];show _=R.ok (T.bl (decide (1<=x.length) && decide (x.length<=3) && x.cps.toList.all zV));cases decide (1<=x.length) with
  | false=>rfl
  | true=>
   cases decide (x.length<=3) with
   | false=>rfl
   | true=>
    show zj ((((zI (zr 0) Ze (chE leC leC (cE (.str "a")) (vB 0) (cE (.str "z"))) 1 [] [.vl (.str x)] (ZF x)).bind λvs=> .ok (.lst vs)).bind vp).s λt=> .rt t)=_;rw[ec];show zj ((match WU (x.cps.toList.map λc=>T.bl (zV c)) with | some k=>R.ok (T.bl k) | none=> .bad).s λt=> .rt t)=_
    rw[ea];rfl
 | _=>rfl
theorem bOk {α β:Type}(a:α)(f:α->R β):(R.ok a).bind f=f a:=rfl
theorem zS {α:Type}(a:α)(f:α->RS):(R.ok a).s f=f a:=rfl
theorem ZI (r:R T):zj (r.s λt=> .rt t)=r:=by cases r <;> rfl
theorem zL (f:En->R T)(ρ:En):zv f ρ=(f (frz ρ)).s λt=> .rt t:=rfl
theorem Z5 {g:List T->R T}{f:En->R T}{ρ:En}:zc 1 g (za f zf) ρ=(f ρ).bind λx=>g [x]:=by
 unfold zc za zf;cases f ρ <;> rfl
theorem Zl {g:List T->R T}{f f' :En->R T}{ρ:En}:zc 2 g (za f (za f' zf)) ρ=(f ρ).bind λx=>(f' ρ).bind λy=>g [x,y]:=by
 unfold zc za zf;cases f ρ with
 | ok a=>cases f' ρ <;> rfl
 | ex c=>rfl
 | bad=>rfl
theorem Za {g:List T->R T}{f f' f'' :En->R T}{ρ:En}:zc 3 g (za f (za f' (za f'' zf))) ρ=(f ρ).bind λx=>(f' ρ).bind λy=>(f'' ρ).bind λz=>g [x,y,z]:=by
 unfold zc za zf;cases f ρ with
 | ok a=>
  cases f' ρ with
  | ok b=>cases f'' ρ <;> rfl
  | ex c=>rfl
  | bad=>rfl
 | ex c=>rfl
 | bad=>rfl
theorem z0W {g:List T->R T}{f f' f'' f3:En->R T}{ρ:En}:zc 4 g (za f (za f' (za f'' (za f3 zf)))) ρ=(f ρ).bind λx=>(f' ρ).bind λy=>(f'' ρ).bind λz=>(f3 ρ).bind λw=>g [x,y,z,w]:=by
 unfold zc za zf;cases f ρ with
 | ok a=>
  cases f' ρ with
  | ok b=>
   cases f'' ρ with
   | ok c=>cases f3 ρ <;> rfl
   | ex c=>rfl
   | bad=>rfl
  | ex c=>rfl
  | bad=>rfl
 | ex c=>rfl
 | bad=>rfl
def Xw (r k:R T):R T:=r.bind λx=>match x with
 | .bl true=>k
 | .bl false=> .ok (.bl false)
 | _=> .bad
theorem jS (f g:En->R T)(ρ:En):jI f g ρ=Xw (f ρ) (g ρ):=rfl
theorem Zj (a:Bool)(k:R T):Xw (.ok (.bl a)) k=if a=true then k else .ok (.bl false):=by cases a <;> rfl
theorem v0 {t:T}{ρ:En}:vE 0 (.vl t :: ρ)= .ok t:=rfl
theorem v1 {t:T}{a:Sl}{ρ:En}:vE 1 (a :: .vl t :: ρ)= .ok t:=rfl
theorem w0 {t:T}{ρ:En}:vB 0 (.vl t :: ρ)= .ok t:=rfl
theorem w1 {t:T}{a:Sl}{ρ:En}:vB 1 (a :: .vl t :: ρ)= .ok t:=rfl
theorem zM {t:T}{ρ:En}:cE t ρ= .ok t:=rfl
theorem zh {g:T->T->R T}{f f' :En->R T}{ρ:En}:zd g f f' ρ=(f ρ).bind λx=>(f' ρ).bind λy=>g x y:=rfl
theorem Zy {t:T}{ρ:En}:frz (.vl t :: ρ)= .vl t :: frz ρ:=rfl
theorem Ja {ρ:En}:frz (.un :: ρ)= .un :: frz ρ:=rfl
theorem ZV:frz []=[]:=rfl
theorem QA {g g' :T->T->R Bool}{fa fb fc:En->R T}{ρ:En}:chE g g' fa fb fc ρ=(fa ρ).bind λx=>(fb ρ).bind λy=>(g x y).bind λk=>if k=true then (fc ρ).bind λz=>(g' y z).bind λk' => .ok (.bl k') else .ok (.bl false):=rfl
theorem Zz {g:T->R T}{f:En->R T}{ρ:En}:ap1 g f ρ=(f ρ).bind g:=rfl
theorem wU {i j:Int}:leC (.int i) (.int j)= .ok (decide (i<=j)):=rfl
theorem ZJ {g:T->T->R Bool}{f f' :En->R T}{ρ:En}:jB g f f' ρ=(f ρ).bind λx=>(f' ρ).bind λy=>(g x y).bind λb=> .ok (.bl b):=rfl
theorem j3 {xs:List T}:Z2 (.tup xs)= .ok (.int xs.length):=rfl
theorem QB {xs:List T}:Z2 (.lst xs)= .ok (.int xs.length):=rfl
mutual
def sOk:T->Prop
 | .str x=>x.length<=bnd
 | .tup xs=>jm xs
 | .lst xs=>jm xs
 | .fz xs=>jm xs
 | _=>True
def jm:List T->Prop
 | []=>True
 | t :: ts=>sOk t/\jm ts
end
theorem ZB:∀{ts:List T} {t:T},jm ts->t∈ts->sOk t
 | u :: ts,t,h,hm=>by
  have h' :sOk u/\jm ts:=by simpa only[jm] using h
  rcases aG.mp hm with rfl | hm
  ·exact h'.1
  ·exact ZB h'.2 hm
theorem sOk.str {t:T}(h:sOk t):xG t:=by
 cases t with
 | str x=>
  have h' :x.length<=bnd:=by simpa only[sOk] using h
  exact h'
 | _=>trivial
theorem ZK {xs:List T}(h:sOk (.tup xs)):jm xs:=by simpa only[sOk] using h
def zm:T->Bool
 | .tup [w,.int i]=>Z1 w && decide (1<=i) && decide (i<=20)
 | _=>false
theorem YA (t:T)(ht:sOk t):xC [t]= .ok (.bl (zm t)):=by
 have e:xC [t]=zj (Ge f_p f_f f_9 [.vl t]):=rfl;rw[e,Ge];simp only[zL,ZI,Zy,ZV,jS,Za,Z5,v0,zM,bOk,zh,QA];rw[show f_f [t,.int 2,.int 2]= .ok (.bl (UJ 2 2 t)) from ZH t 2 2,Zj];cases t with
 | tup xs=>
  match xs,ht with
  | [],_=>rfl
  | [_],_=>rfl
  | _ :: _ :: _ :: _,_=>simp[UJ,zm]
  | [w,n],ht=>
   have hw:sOk w:=ZB (ZK ht) (by simp)
   show (if true=true then Xw (f_9 [w]) (Xw (f_p [n]) ((leC (.int 1) n).bind λk=>if k=true then (leC n (.int 20)).bind λk' =>R.ok (T.bl k') else .ok (.bl false))) else _)=_
   rw[if_pos rfl,xH w hw.str,uY,Zj,Zj];cases n with
   | int i=>
    show (if Z1 w=true then (if true=true then (if decide (1<=i)=true then R.ok (T.bl (decide (i<=20))) else .ok (.bl false)) else _) else _)=R.ok (T.bl (Z1 w && decide (1<=i) && decide (i<=20)))
    cases Z1 w <;> cases decide (1<=i) <;> rfl
   | _=>
    show (if Z1 w=true then (if false=true then _ else R.ok (T.bl false)) else R.ok (T.bl false))=R.ok (T.bl false)
    cases Z1 w <;> rfl
 | _=>rfl
theorem zu (f g:En->RS)(ρ:En):zo f g ρ=match f ρ with | .nx ρ' =>g ρ' | r=>r:=rfl
theorem Zm (g:En->R Bool)(f1 f2:En->RS)(ρ:En):ifS g f1 f2 ρ=(g ρ).s λk=>if k=true then f1 ρ else f2 ρ:=rfl
theorem YB (f g:En->R Bool)(ρ:En):orT f g ρ=(f ρ).bind λx=>if x=true then .ok true else g ρ:=rfl
theorem JJ (f:En->R Bool)(ρ:En):j8 f ρ=(f ρ).bind λx=> .ok (!x):=rfl
theorem jz (f:En->R T)(ρ:En):Zp f ρ=(f ρ).bind tru:=rfl
theorem Zo (k:Bool):tru (.bl k)= .ok k:=rfl
theorem Zs (i:Nat)(f:En->R T)(ρ:En):zt i f ρ=(f ρ).s λt=> .nx (ρ.set i (.vl t)):=rfl
theorem zD {g:T->T->R Bool}{f f' :En->R T}{ρ:En}:zx g f f' ρ=(f ρ).bind λx=>(f' ρ).bind λy=>g x y:=rfl
theorem zT {fi:En->R (List T)}{g:T->En->R En}{ft:En->R Bool}{fe:En->R T}{k:Nat}{js:List Nat}{ρ:En}:zZ fi g ft fe k js ρ=(fi ρ).bind λts=>(zI g ft fe k js ρ ts).bind λvs=> .ok (.lst vs):=rfl
theorem ZX {f:En->R T}{ρ:En}:j0 f ρ=(f ρ).bind jQ:=rfl
def zJ:T->Str
 | .tup (.str w :: _)=>w
 | _=>⟨#[]⟩
def Wy:T->Bool
 | .tup cs=>decide (1<=cs.length) && decide (cs.length<=4) && cs.all zm && decide ((dd [] (cs.map zJ)).length=cs.length)
 | _=>false
theorem Ji {c:T}(h:zm c=true):∃w n,c= .tup [.str w,n]:=by
 unfold zm at h;split at h
 ·rename_i w i;cases w with
  | str x=>exact⟨x,_,rfl⟩
  | _=>cases h
 ·cases h
theorem wo:∀{cs:List T},cs.all zm=true->ya (cs.map λc=>T.str (zJ c))=some (cs.map zJ)
 | [],_=>rfl
 | c :: cs,h=>by
  rw[bW,ak]at h;have ih:=wo h.2;show (match ya (cs.map λc=>T.str (zJ c)) with | some ys=>some (zJ c :: ys) | none=>none)=_
  rw[ih];rfl
theorem UK (t:T)(ht:sOk t):f_x [t]= .ok (.bl (Wy t)):=by
 have e:f_x [t]=zj (b_x f_f xC [.vl t,.un]):=rfl;rw[e,b_x];simp only[zu,Zm,YB,JJ,jz,Za,v0,zM,bOk];rw[show f_f [t,.int 1,.int 4]= .ok (.bl (UJ 1 4 t)) from ZH t 1 4];simp only[bOk,Zo];cases t with
 | tup cs=>
  have hl:UJ 1 4 (.tup cs)=(decide (1<=cs.length) && decide (cs.length<=4)):=rfl;rw[hl];show _=R.ok (T.bl (decide (1<=cs.length) && decide (cs.length<=4) && cs.all zm && decide ((dd [] (cs.map zJ)).length=cs.length)));cases h14:(decide (1<=cs.length) && decide (cs.length<=4)) with
  | false=>rfl
  | true=>
   rw[ak,decide_eq_true_eq,decide_eq_true_eq]at h14;have hb:cs.length<=bnd:=aF h14.2 (by decide)
   have ec:zI (zr 0) Ze (zc 1 xC (za (vE 0) zf)) 1 [] [.vl (.tup cs),.un] cs= .ok (cs.map λc=>T.bl (zm c)):=
    Z9 (h:=λc=>T.bl (zm c)) cs hb λc hc=>by
     show zc 1 xC (za (vE 0) zf) [.vl c]=_;rw[Z5,v0,bOk];exact YA c (ZB (ZK ht) hc)
   simp only[bc,az,if_false,Zz,zT,ZX,v0,bOk,jQ,ec];have ea:vp (.lst (cs.map λc=>T.bl (zm c)))= .ok (.bl (cs.all zm)):=by
    show (match WU (cs.map λc=>T.bl (zm c)) with | some k=>R.ok (T.bl k) | none=> .bad)=_
    rw[Jq]
   rw[ea];simp only[bOk,Zo,zS];cases hall:cs.all zm with
   | false=>rfl
   | true=>
    have ew:zI (zr 0) Ze (zd ixT (vE 0) (cE (.int 0))) 1 [] [.vl (.tup cs),.un] cs= .ok (cs.map λc=>T.str (zJ c)):=
     Z9 (h:=λc=>T.str (zJ c)) cs hb λc hc=>by
      obtain⟨w,n,rfl⟩:=Ji (aT.mp hall c hc);rfl
    simp only[bc,az,if_false,nxS,Zs,zT,ZX,v0,bOk,jQ,ew,zS,zL];show zj (((Qf (.lst (cs.map λc=>T.str (zJ c)))).bind λx=>(Z2 (.lst (cs.map λc=>T.str (zJ c)))).bind λy=>(eqC x y).bind λb=>R.ok (T.bl b)).s λt=> .rt t)=_;have el:Qf (.lst (cs.map λc=>T.str (zJ c)))= .ok (.int (dd [] (cs.map zJ)).length):=by
     show (match ya (cs.map λc=>T.str (zJ c)) with | some ys=>if (cs.map λc=>T.str (zJ c)).length+1 < 4096 then R.ok (T.int (dd [] ys).length) else .bad | none=> .bad)=_
     rw[wo hall];exact if_pos (by rw[ae];omega)
    rw[el,QB,ae,ZI];show R.ok (T.bl (((dd [] (cs.map zJ)).length:Int) == (cs.length:Int)))=_;congr 2
    by_cases hq:(dd [] (cs.map zJ)).length=cs.length
    ·rw[decide_eq_true hq,hq];simp
    ·rw[decide_eq_false hq];simp only[cH,beq_eq_false_iff_ne];omega
 | _=>rfl
def isS (w:Str):T->Bool
 | .str s=>s == w
 | _=>false
theorem eqS (h:T)(w:Str):eqC h (.str w)= .ok (isS w h):=by cases h <;> rfl
theorem eqI (i j:Int):eqC (.int i) (.int j)= .ok (i == j):=rfl
theorem at0 {h:T}{r:List T}:ixT (.tup (h :: r)) (.int 0)= .ok h:=by
 show atT (h :: r) 0=_;unfold atT;rw[show atI (h :: r) 0=some h from ZD (j:=0) rfl]
theorem at1 {h a:T}{r:List T}:ixT (.tup (h :: a :: r)) (.int 1)= .ok a:=by
 show atT (h :: a :: r) 1=_;unfold atT;rw[show atI (h :: a :: r) 1=some a from ZD (j:=1) rfl]
theorem at2 {h a b:T}{r:List T}:ixT (.tup (h :: a :: b :: r)) (.int 2)= .ok b:=by
 show atT (h :: a :: b :: r) 2=_;unfold atT;rw[show atI (h :: a :: b :: r) 2=some b from ZD (j:=2) rfl]
theorem at3 {h a b c:T}{r:List T}:ixT (.tup (h :: a :: b :: c :: r)) (.int 3)= .ok c:=by
 show atT (h :: a :: b :: c :: r) 3=_;unfold atT;rw[show atI (h :: a :: b :: c :: r) 3=some c from ZD (j:=3) rfl]
def JK (k:T->Bool):T->Bool
 | .tup ks=>decide (1<=ks.length) && decide (ks.length<=3) && ks.all k
 | _=>false
def Jj:List T->Bool
 | [a,b]=>jc (-20) 20 a b
 | _=>false
def Wz:List T->Bool
 | [c]=>Wy c
 | _=>false
def vH (k:T->Bool):List T->Bool
 | [c]=>JK k c
 | _=>false
def WA (k:T->Bool):List T->Bool
 | [c,a,b]=>jc 0 3 a b && k c
 | _=>false
def wV (k:T->Bool):T->Bool
 | .tup (h :: r)=>if isS "whole" h=true then Jj r else if isS "pick" h=true then Wz r else if isS "row" h=true then vH k r else if isS "many" h=true then WA k r else false
 | _=>false
def isK:Nat->T->Bool
 | 0,_=>false
 | d+1,t=>wV (isK d) t
theorem JL {α:Type}(xs:List α)(n:Nat):((xs.length:Int) == (n:Int))=decide (xs.length=n):=by
 by_cases h:xs.length=n
 ·rw[decide_eq_true h,h];simp
 ·rw[decide_eq_false h,beq_eq_false_iff_ne];omega
theorem vI {f:En->R T}{ρ:En}:yM f ρ=(f ρ).bind λx=>match x with | .int i=> .ok (.int (-i)) | _=> .bad:=rfl
theorem jd {i j:Int}:ZS (.int i) (.int j)= .ok (.int (i - j)):=rfl
set_option maxHeartbeats 1000000 in
theorem xI {n:Nat}{d:Nat}{k:T->Bool}(H0:∀t,sOk t->S_b n 0 [t,.int d]= .ok (.bl (k t)))(H1:∀t,sOk t->S_b n 1 [t,.int d]= .ok (.bl (JK k t)))(t:T)(ht:sOk t):
  S_b (n+1) 0 [t,.int ((d+1:Nat):Int)]= .ok (.bl (wV k t)):=by
 have e:S_b (n+1) 0 [t,.int ((d+1:Nat):Int)]=zj (b_b Gc (S_b n 0) f_x (S_b n 1) [.vl t,.vl (.int ((d+1:Nat):Int))]):=rfl;have hL:(((d+1:Nat):Int) == 0)=false:=by rw[beq_eq_false_iff_ne];omega
 have hL1:((d+1:Nat):Int) - 1=(d:Int):=by omega
 rw[e,b_b];simp only[zu,Zm,YB,JJ,jz,zD,w0,w1,zM,bOk,eqI,hL,az,if_false,Zz];cases t with
 | tup xs=>
  cases xs with
  | nil=>rfl
  | cons h r=>
   have hs:=ZK ht;have hm:∀u∈r,sOk u:=λu hu=>ZB hs (af _ hu);have z0:(((h :: r).length:Int) == 0)=false:=by rw[beq_eq_false_iff_ne];simp only[ah];omega
   have ti:j9 "tuple" (.tup (h :: r))= .ok (.bl true):=rfl;simp only[ti,bOk,Zo,bc,az,if_false,j3,eqI,z0,zS,nxS,zh,v0,v1,zM,at0,eqS,zL,Zy,ZV,jS,ZJ,Zz,w0,z0W,Z5,Zl,vI,jd,hL1];show _=R.ok (T.bl (if isS "whole" h=true then Jj r else if isS "pick" h=true then Wz r else if isS "row" h=true then vH k r else if isS "many" h=true then WA k r else false))
   have l3:(((h :: r).length:Int) == 3)=decide ((h :: r).length=3):=JL (h :: r) 3;have l2:(((h :: r).length:Int) == 2)=decide ((h :: r).length=2):=JL (h :: r) 2;have l4:(((h :: r).length:Int) == 4)=decide ((h :: r).length=4):=JL (h :: r) 4;simp only[l2,l3,l4,Zj];cases isS "whole" h with
   | true=>
    simp only[if_true]
    match r,hm with
    | [],_=>rfl
    | [_],_=>rfl
    | _ :: _ :: _ :: _,_=>simp[Jj,zS,zj]
    | [a,b],_=>
     simp only[at1,at2,bOk,Yz];rfl
   | false=>
    simp only[az,if_false,v0,v1,w0,bOk,at0,zS,Zy,ZV,j3,eqI,l2,l4,Zj,jd,hL1];cases isS "pick" h with
    | true=>
     simp only[if_true]
     match r,hm with
     | [],_=>rfl
     | _ :: _ :: _,_=>simp[Wz,zS,zj]
     | [c],hm=>
      simp only[at1,bOk,UK c (hm c (by simp))]
      rfl
    | false=>
     simp only[az,if_false,v0,v1,w0,bOk,at0,zS,Zy,ZV,j3,eqI,l2,l4,Zj,jd,hL1];cases isS "row" h with
     | true=>
      simp only[if_true]
      match r,hm with
      | [],_=>rfl
      | _ :: _ :: _,_=>simp[vH,zS,zj]
      | [c],hm=>
       simp only[at1,bOk,H1 c (hm c (by simp))]
       rfl
     | false=>
      simp only[az,if_false,v0,v1,w0,bOk,at0,zS,Zy,ZV,j3,eqI,l2,l4,Zj,jd,hL1];cases isS "many" h with
      | true=>
       simp only[if_true]
       match r,hm with
       | [],_=>rfl
       | [_],_=>rfl
       | [_,_],_=>rfl
       | _ :: _ :: _ :: _ :: _,_=>simp[WA,zS,zj]
       | [c,a,b],hm=>
        simp only[at1,at2,at3,bOk,Yz,H0 c (hm c (by simp)),Zj]
        show zj (match (if jc 0 3 a b=true then R.ok (T.bl (k c)) else .ok (.bl false)).s (λt=>RS.rt t) with | .nx _=>RS.rt (T.bl false) | r=>r)=R.ok (T.bl (jc 0 3 a b && k c))
        cases jc 0 3 a b <;> rfl
      | false=>rfl
 | _=>rfl
theorem KN {n:Nat}{d:Nat}{k:T->Bool}(H0:∀t,sOk t->S_b n 0 [t,.int d]= .ok (.bl (k t)))(t:T)(ht:sOk t):S_b (n+1) 1 [t,.int d]= .ok (.bl (JK k t)):=by
 have e:S_b (n+1) 1 [t,.int d]=zj (Gf f_f (S_b n 0) [.vl t,.vl (.int d)]):=rfl;rw[e,Gf];simp only[zL,ZI,Zy,ZV,jS,Za,v0,zM,bOk];rw[show f_f [t,.int 1,.int 3]= .ok (.bl (UJ 1 3 t)) from ZH t 1 3,Zj];cases t with
 | tup ks=>
  show (if (decide (1<=ks.length) && decide (ks.length<=3))=true then _ else _)=R.ok (T.bl (decide (1<=ks.length) && decide (ks.length<=3) && ks.all k))
  cases h13:(decide (1<=ks.length) && decide (ks.length<=3)) with
  | false=>rfl
  | true=>
   rw[ak,decide_eq_true_eq,decide_eq_true_eq]at h13;have hb:ks.length<=bnd:=aF h13.2 (by decide)
   have ec:zI (zr 0) Ze (zc 2 (S_b n 0) (za (vE 0) (za (vE 1) zf))) 1 [1] [.vl (.tup ks),.vl (.int d)] ks= .ok (ks.map λc=>T.bl (k c)):=
    Z9 (h:=λc=>T.bl (k c)) ks hb λc hc=>by
     show zc 2 (S_b n 0) (za (vE 0) (za (vE 1) zf)) [.vl c,.vl (.int d)]=_;rw[Zl,v0,v1,bOk,bOk];exact H0 c (ZB (ZK ht) hc)
   simp only[if_true,Zz,zT,ZX,v0,bOk,jQ,ec];show (match WU (ks.map λc=>T.bl (k c)) with | some k=>R.ok (T.bl k) | none=> .bad)=_
   rw[Jq];rfl
 | _=>rfl
theorem uh:∀(d n:Nat),2*d+1<=n->∀t,sOk t->S_b n 0 [t,.int d]= .ok (.bl (isK d t))
 | 0,n+1,_,t,_=>rfl
 | d+1,n+2,h,t,ht=>xI (n:=n+1) (λu hu=>uh d (n+1) (by omega) u hu) (λu hu=>KN (λv hv=>uh d n (by omega) v hv) u hu) t ht
theorem UL (t:T)(ht:sOk t):f_1 [t]= .ok (.bl (isK 3 t)):=by
 have e:f_1 [t]=zj (b_1 (f_b 20) [.vl t]):=rfl;rw[e,b_1];simp only[zL,ZI,Zy,ZV,Zl,v0,zM,bOk];exact uh 3 20 (by omega) t ht
def inR (lo hi:Int):T->Bool
 | .int i=>decide (lo<=i) && decide (i<=hi)
 | _=>false
theorem ZO (t:T)(lo hi:Int):f_u [t,.int lo,.int hi]= .ok (.bl (inR lo hi t)):=by
 cases t with
 | int i=>
  show zj ((if decide (lo<=i)=true then R.ok (T.bl (decide (i<=hi))) else .ok (.bl false)).s λt=> .rt t)=R.ok (T.bl (decide (lo<=i) && decide (i<=hi)))
  cases decide (lo<=i) <;> rfl
 | _=>rfl
theorem YC (xs:List T):eqC (.lst xs) (.lst [])= .ok xs.isEmpty:=by cases xs <;> rfl
theorem QC (c:Nat)(ρ:En):j8 (chT leC leC (cE (.str "a")) (vB 0) (cE (.str "z"))) ((Sl.vl (.str ⟨#[c]⟩)) :: ρ)= .ok (!zV c):=by
 have e1:leC (.str "a") (.str ⟨#[c]⟩)= .ok (decide (97<=c)):=by
  show R.ok (!decide ([c] < [97]))=_;rw[uZ]
  by_cases h:c < 97
  ·rw[decide_eq_true h,decide_eq_false (by omega)];rfl
  ·rw[decide_eq_false h,decide_eq_true (by omega)];rfl
 have e2:leC (.str ⟨#[c]⟩) (.str "z")= .ok (decide (c<=122)):=by
  show R.ok (!decide ([122] < [c]))=_;rw[uZ]
  by_cases h:122 < c
  ·rw[decide_eq_true h,decide_eq_false (by omega)];rfl
  ·rw[decide_eq_false h,decide_eq_true (by omega)];rfl
 show ((leC (.str "a") (.str ⟨#[c]⟩)).bind (λk=>if k=true then leC (.str ⟨#[c]⟩) (.str "z") else R.ok false)).bind (λx=>R.ok (!x))=_
 rw[e1,e2];unfold zV;show (if decide (97<=c)=true then R.ok (decide (c<=122)) else R.ok false).bind (λx=>R.ok (!x))=_
 cases decide (97<=c) <;> rfl
theorem je {α:Type}(p:α->Bool):∀xs:List α,(xs.filter λx=> !p x).isEmpty=xs.all p
 | []=>rfl
 | x :: xs=>by
  have ih:=je p xs;rw[bW];cases hp:p x with
  | true=>rw[dy (by simp[hp]),ih];rfl
  | false=>rw[dw (by simp[hp])];rfl
def xJ:T->Bool
 | .str y=> !zV (y.cps.toList.headD 0)
 | _=>false
theorem ui (t:T)(ht:xG t):f_v [t]= .ok (.bl (Z1 t)):=by
 cases t with
 | str x=>
  have hx:x.length<=bnd:=ht;have e0:Z2 (.str x)= .ok (.int x.length):=if_pos hx;have hs:(ZF x).length<=bnd:=by unfold ZF;rw[ae,cg];exact hx
  have ec:zI (zr 0) (j8 (chT leC leC (cE (.str "a")) (vB 0) (cE (.str "z")))) (vE 0) 1 [] [.vl (.str x)] (ZF x)= .ok (((ZF x).filter xJ).map id):=by
   unfold zI;rw[if_pos hs];have:=Z8 (ft:=j8 (chT leC leC (cE (.str "a")) (vB 0) (cE (.str "z")))) (fe:=vE 0) (p:=xJ) (h:=id) (ZF x) (JZ 1 [] [.vl (.str x)]) λt ht=>by
    unfold ZF at ht;obtain⟨c,_,rfl⟩:=aO.mp ht;exact⟨QC c [],λ_=>rfl⟩
   rw[this];rfl
  have em:(((ZF x).filter xJ).map id).isEmpty=x.cps.toList.all zV:=by
   rw[fG];unfold ZF;rw[List.filter_map,List.isEmpty_map];exact je zV x.cps.toList
  have e:f_v [.str x]=zj (b_v [.vl (.str x)]):=rfl;rw[e,b_v];simp only[zL,ZI,Zy,ZV,jS,Zz,w0,v0,bOk,QA,zM,e0,wU,ZJ,zT,ZX,jQ,ec];have c1:decide ((1:Int)<=(x.length:Int))=decide (1<=x.length):=by
   by_cases h:1<=x.length
   ·rw[decide_eq_true h];exact decide_eq_true (by omega)
   ·rw[decide_eq_false h];exact decide_eq_false (by omega)
  have c2:decide ((x.length:Int)<=(3:Int))=decide (x.length<=3):=by
   by_cases h:x.length<=3
   ·rw[decide_eq_true h];exact decide_eq_true (by omega)
   ·rw[decide_eq_false h];exact decide_eq_false (by omega)
  rw[c1,c2];have el:ZE zf [Sl.vl (T.str x)]= .ok (.lst []):=rfl;rw[el];simp only[bOk,YC,em];show Xw (R.ok (T.bl true)) (Xw (if decide (1<=x.length)=true then R.ok (T.bl (decide (x.length<=3))) else R.ok (T.bl false)) (R.ok (T.bl (x.cps.toList.all zV))))=R.ok (T.bl (decide (1<=x.length) && decide (x.length<=3) && x.cps.toList.all zV))
  cases decide (1<=x.length) <;> cases decide (x.length<=3) <;> rfl
 | _=>rfl
theorem WB:∀(ws acc:List Str),(dd acc ws).length<=acc.length+ws.length
 | [],acc=>am _
 | w :: ws,acc=>by
  unfold dd;have:=WB ws (if w∈acc then acc else acc++[w])
  by_cases h:w∈acc
  ·rw[if_pos h]at this ⊢;simp only[ah];omega
  ·rw[if_neg h]at this ⊢;rw[aB,aE]at this;simp only[ah];omega
theorem JM:∀(ws acc:List Str),((dd acc ws).length=acc.length+ws.length)↔∀(k:Nat) (w:Str),ws[k]? =some w->w ∉ acc++ws.take k
 | [],acc=>by simp[dd]
 | w :: ws,acc=>by
  unfold dd
  by_cases h:w∈acc
  ·rw[if_pos h];have:=WB ws acc;constructor
   ·intro e;simp only[ah]at e;omega
   ·intro H;exact absurd (db _ h) (H 0 w rfl)
  ·rw[if_neg h];have ih:=JM ws (acc++[w]);rw[aB,aE]at ih;rw[show acc.length+(w :: ws).length=acc.length+1+ws.length by simp only[ah];omega,ih]
   constructor
   ·intro H k v e;cases k with
    | zero=>simp at e;subst e;simpa using h
    | succ k=>
     have:=H k v (by simpa using e)
     simpa[bI] using this
   ·intro H k v e;have:=H (k+1) v (by simpa using e)
    simpa[bI] using this
theorem cut1 {h:T}{r:List T}:slT (.tup (h :: r)) (some 1) none= .ok (.tup r):=by
 show R.ok (T.tup (cut (h :: r) (some 1) none))=_;have:cut (h :: r) (some 1) none=r:=by
  unfold cut;rw[show HT.sIx (h :: r).length 0 (some (1:Int))=1 from by rw[show (1:Int)=((1:Nat):Int) from rfl,HT.sIx_nat];simp only[ah];omega,HT.sIx_none]
  simp
 rw[this]
theorem neS (h:T)(w:Str):neC h (.str w)= .ok (!isS w h):=by cases h <;> rfl
theorem neI (i j:Int):neC (.int i) (.int j)= .ok (!(i == j)):=rfl
theorem ltI (i j:Int):ltC (.int i) (.int j)= .ok (decide (i < j)):=rfl
theorem v2 {t:T}{a b:Sl}{ρ:En}:vE 2 (a :: b :: .vl t :: ρ)= .ok t:=rfl
theorem v3 {t:T}{a b c:Sl}{ρ:En}:vE 3 (a :: b :: c :: .vl t :: ρ)= .ok t:=rfl
theorem w2 {t:T}{a b:Sl}{ρ:En}:vB 2 (a :: b :: .vl t :: ρ)= .ok t:=rfl
theorem w3 {t:T}{a b c:Sl}{ρ:En}:vB 3 (a :: b :: c :: .vl t :: ρ)= .ok t:=rfl
theorem w5 {t:T}{a b c d e:Sl}{ρ:En}:vB 5 (a :: b :: c :: d :: e :: .vl t :: ρ)= .ok t:=rfl
theorem v4 {t:T}{a b c d:Sl}{ρ:En}:vE 4 (a :: b :: c :: d :: .vl t :: ρ)= .ok t:=rfl
theorem YD (f g:En->R Bool)(ρ:En):JD f g ρ=(f ρ).bind λx=>if x=true then g ρ else .ok false:=rfl
theorem vJ {g g' :T->T->R Bool}{fa fb fc:En->R T}{ρ:En}:chT g g' fa fb fc ρ=(fa ρ).bind λx=>(fb ρ).bind λy=>(g x y).bind λk=>if k=true then (fc ρ).bind λz=>g' y z else .ok false:=rfl
theorem Jb (t:T):j9 "tuple" t= .ok (.bl (match t with | .tup _=>true | _=>false)):=by cases t <;> rfl
theorem xK {n d:Nat}{k:T->Bool}(H0:∀t,sOk t->S_a n 0 [t,.int d]= .ok (.bl (k t))){ks:List T}(hk:∀u∈ks,sOk u)(hl:ks.length<=3){x y z:Sl}{L:Int}(hL:L - 1=(d:Int)){ρ:En}:
  zI (zr 0) (j8 (Zp (zc 2 (S_a n 0) (za (vE 0) (za (zd ZS (vE 1) (cE (.int 1))) zf))))) (vE 0) 1 [1] (x :: .vl (.int L) :: ρ) ks= .ok (ks.filter λc=> !k c):=by
 unfold zI;rw[if_pos (aF hl (by decide))]
 have:=Z8 (ft:=j8 (Zp (zc 2 (S_a n 0) (za (vE 0) (za (zd ZS (vE 1) (cE (.int 1))) zf))))) (fe:=vE 0) (p:=λc=> !k c) (h:=id) ks (JZ 1 [1] (x :: .vl (.int L) :: ρ)) λc hc=>by
  refine⟨?_,λ_=>rfl⟩;show j8 (Zp (zc 2 (S_a n 0) (za (vE 0) (za (zd ZS (vE 1) (cE (.int 1))) zf)))) [.vl c,.vl (.int L)]=_;simp only[JJ,jz,Zl,v0,v1,bOk,zh,zM,jd,hL,H0 c (hk c hc),Zo]
 rw[this,fG];rfl
def WW:T->Bool
 | .tup [_,_]=>true
 | _=>false
def uj:T->T
 | .tup (w :: _)=>w
 | t=>t
theorem z0X {cs:List T}(hl:cs.length<=4){ρ:En}:zI (zr 0) (JD (Zp (ap1 (j9 "tuple") (vB 0))) (zx eqC (ap1 Z2 (vB 0)) (cE (.int 2)))) (vE 0) 1 [] ρ cs= .ok (cs.filter WW):=by
 unfold zI;rw[if_pos (aF hl (by decide))]
 have:=Z8 (ft:=JD (Zp (ap1 (j9 "tuple") (vB 0))) (zx eqC (ap1 Z2 (vB 0)) (cE (.int 2)))) (fe:=vE 0) (p:=WW) (h:=id) cs (JZ 1 [] ρ) λc _=>by
  refine⟨?_,λ_=>rfl⟩;show JD (Zp (ap1 (j9 "tuple") (vB 0))) (zx eqC (ap1 Z2 (vB 0)) (cE (.int 2))) [.vl c]=_;cases c with
  | tup xs=>
   match xs with
   | []=>rfl
   | [_]=>rfl
   | [_,_]=>rfl
   | _ :: _ :: _ :: xs=>
    simp only[YD,jz,Zz,w0,bOk,Jb,Zo,if_true,zD,j3,zM,eqI,WW];congr 1
    all_goals (rw[beq_eq_false_iff_ne];simp only[ah];omega)
  | _=>rfl
 rw[this,fG];rfl
theorem wp (c:T):zm c=(WW c && (match c with | .tup [w,n]=>Z1 w && inR 1 20 n | _=>false)):=by
 cases c with
 | tup xs=>
  match xs with
  | []=>rfl
  | [_]=>rfl
  | _ :: _ :: _ :: _=>simp[zm,WW]
  | [w,n]=>
   cases n with
   | int i=>
    show (Z1 w && decide (1<=i) && decide (i<=20))=(true && (Z1 w && (decide (1<=i) && decide (i<=20))));rw[cH,Bool.and_assoc]
   | _=>
    show false=(true && (Z1 w && false));cases Z1 w <;> rfl
 | _=>rfl
theorem z0Y {cs:List T}(hs:∀c∈cs,sOk c)(hl:cs.length<=4){ρ:En}:
  zI (zr 0) (JD (Zp (zc 1 f_v (za (zd ixT (vE 0) (cE (.int 0))) zf))) (Zp (zc 3 f_u (za (zd ixT (vE 0) (cE (.int 1))) (za (cE (.int 1)) (za (cE (.int 20)) zf)))))) (zd ixT (vE 0) (cE (.int 0))) 1 [] ρ (cs.filter WW)= .ok ((cs.filter zm).map uj):=by
 unfold zI;have hl' :(cs.filter WW).length<=bnd:=aF (fx _ _) (aF hl (by decide))
 rw[if_pos hl'];have:=Z8 (ft:=JD (Zp (zc 1 f_v (za (zd ixT (vE 0) (cE (.int 0))) zf))) (Zp (zc 3 f_u (za (zd ixT (vE 0) (cE (.int 1))) (za (cE (.int 1)) (za (cE (.int 20)) zf)))))) (fe:=zd ixT (vE 0) (cE (.int 0))) (p:=zm) (h:=uj) (cs.filter WW) (JZ 1 [] ρ) λc hc=>by
  obtain⟨hc1,hc2⟩:=fg.mp hc;have hso:=hs c hc1;unfold WW at hc2;split at hc2
  ·rename_i w n;have hw:sOk w:=ZB (ZK hso) (by simp)
   refine⟨?_,λ_=> ?_⟩
   ·show JD (Zp (zc 1 f_v (za (zd ixT (vE 0) (cE (.int 0))) zf))) (Zp (zc 3 f_u (za (zd ixT (vE 0) (cE (.int 1))) (za (cE (.int 1)) (za (cE (.int 20)) zf))))) [.vl (.tup [w,n])]=_;simp only[YD,jz,Z5,Za,zh,v0,zM,bOk,at0,at1,ui w hw.str,ZO,Zo,wp];show (if Z1 w=true then R.ok (inR 1 20 n) else R.ok false)=R.ok (true && (Z1 w && inR 1 20 n))
    cases Z1 w <;> rfl
   ·show zd ixT (vE 0) (cE (.int 0)) [.vl (.tup [w,n])]=_;simp only[zh,v0,zM,bOk,at0];rfl
  ·cases hc2
 rw[this,List.filter_filter];have:(cs.filter λa=>zm a && WW a)=cs.filter zm:=by
  refine List.filter_congr λc _=> ?_;rw[wp];cases WW c <;> simp
 rw[this];rfl
theorem wW (w:Str):∀ws:List Str,uI (λy=>eqF 30 y (.str w)) (ws.map T.str)=some (decide (w∈ws))
 | []=>rfl
 | x :: ws=>by
  have ih:=wW w ws;show (match uI (λy=>eqF 30 y (.str w)) (ws.map T.str) with | none=>none | some c=>some ((x == w) || c))=_
  rw[ih];show some ((x == w) || decide (w∈ws))=_
  congr 1
  by_cases h:x=w
  ·subst h;simp
  ·have h' :¬ w=x:=λz=>h z.symm;simp[h,h']
theorem QD {xs:List T}{k:Nat}:slT (.lst xs) none (some (k:Int))= .ok (.lst (xs.take k)):=by
 show R.ok (T.lst (cut xs none (some (k:Int))))=_;have:cut xs none (some (k:Int))=xs.take k:=by
  unfold cut;rw[HT.sIx_none,HT.sIx_nat];simp only[fA,Nat.sub_zero];rw[List.take_eq_take_iff];omega
 rw[this]
theorem KO {xs:List T}{k:Nat}{t:T}(h:xs[k]? =some t):ixT (.lst xs) (.int k)= .ok t:=by
 show atT xs k=_;unfold atT;rw[ZD h]
theorem z0Z {ws:List Str}(hl:ws.length<=4){a b c d e:Sl}:∃r,zI (zr 0) (zx inC (zd ixT (vE 1) (vE 0)) (slE (vE 1) noO (Zq (vE 0)))) (vE 0) 1 [5] [a,b,c,d,e,.vl (.lst (ws.map T.str))] (rng 0 ws.length)= .ok r/\
  (r.isEmpty=true↔∀(k:Nat) (w:Str),ws[k]? =some w->w ∉ ws.take k):=by
 have hl' :(rng 0 ws.length).length<=bnd:=by unfold rng;rw[ae,bR];exact aF hl (by decide)
 let p:T->Bool:=λt=>match t with
  | .int i=>match ws[i.toNat]? with | some w=>decide (w∈ws.take i.toNat) | none=>false
  | _=>false
 have key:=Z8 (ft:=zx inC (zd ixT (vE 1) (vE 0)) (slE (vE 1) noO (Zq (vE 0)))) (fe:=vE 0) (p:=p) (h:=id) (rng 0 ws.length) (JZ 1 [5] [a,b,c,d,e,.vl (.lst (ws.map T.str))]) λt ht=>by
  unfold rng at ht;obtain⟨k,hk,rfl⟩:=aO.mp ht;have hk' :k < ws.length:=bu.mp hk;refine⟨?_,λ_=>rfl⟩;show zx inC (zd ixT (vE 1) (vE 0)) (slE (vE 1) noO (Zq (vE 0))) [.vl (.int (0+(k:Int))),.vl (.lst (ws.map T.str))]=_;rw[show (0:Int)+(k:Int)=(k:Int) by omega]
  have e1:ixT (.lst (ws.map T.str)) (.int k)= .ok (.str ws[k]):=KO (by rw[au,aj hk'];rfl)
  have e2:slE (vE 1) noO (Zq (vE 0)) [.vl (.int (k:Int)),.vl (.lst (ws.map T.str))]=slT (.lst (ws.map T.str)) none (some (k:Int)):=rfl;simp only[zD,zh,v1,v0,bOk,e1,e2,QD];show inC (.str ws[k]) (.lst ((ws.map T.str).take k))=R.ok (p (.int (k:Int)));have e3:inC (.str ws[k]) (.lst ((ws.map T.str).take k))= .ok (decide (ws[k]∈ws.take k)):=by
   show (match uI (λy=>eqF 30 y (.str ws[k])) ((ws.map T.str).take k) with | some b=>R.ok b | none=> .bad)=_
   rw[← List.map_take,wW]
  rw[e3];show _=R.ok (match ws[((k:Int)).toNat]? with | some w=>decide (w∈ws.take ((k:Int)).toNat) | none=>false)
  rw[ba,aj hk']
 refine⟨((rng 0 ws.length).filter p).map id, ?_, ?_⟩
 ·unfold zI;rw[if_pos hl',key];rfl
 ·rw[fG,List.isEmpty_iff,List.filter_eq_nil_iff];constructor
  ·intro H k w e;have hk:k < ws.length:=(aq.mp e).1;have:=H (.int (0+(k:Int))) (aO.mpr ⟨k,bu.mpr hk,rfl⟩);rw[show (0:Int)+(k:Int)=(k:Int) by omega]at this
   have q:p (.int (k:Int))=decide (w∈ws.take k):=by
    show (match ws[((k:Int)).toNat]? with | some w=>decide (w∈ws.take ((k:Int)).toNat) | none=>false)=_
    rw[ba,e]
   rw[q]at this;simpa using this
  ·intro H t ht;unfold rng at ht;obtain⟨k,hk,rfl⟩:=aO.mp ht;have hk' :k < ws.length:=bu.mp hk;rw[show (0:Int)+(k:Int)=(k:Int) by omega]
   have q:p (.int (k:Int))=decide (ws[k]∈ws.take k):=by
    show (match ws[((k:Int)).toNat]? with | some w=>decide (w∈ws.take ((k:Int)).toNat) | none=>false)=_
    rw[ba,aj hk']
   rw[q];simpa using H k ws[k] (aj hk')
theorem z14 {cs:List T}(h:cs.all zm=true):(cs.filter zm).map uj=(cs.map zJ).map T.str:=by
 rw[fK.mpr (λc hc=>aT.mp h c hc),br];refine cj λc hc=> ?_;obtain⟨w,n,rfl⟩:=Ji (aT.mp h c hc);rfl
theorem jE {α:Type}(p:α->Bool):∀xs:List α,((xs.filter p).length=xs.length)↔xs.all p=true
 | []=>by simp
 | x :: xs=>by
  have ih:=jE p xs;have hl:=fx p xs;cases hp:p x with
  | true=>rw[dw hp,bW,hp,cH,← ih];simp
  | false=>
   rw[dy (by rw[hp];exact av),bW,hp,Bool.false_and]
   simp only[ah];constructor
   ·intro z;omega
   ·intro z;cases z
theorem WC (lo hi:Int)(a b:T):(if inR lo hi a=true then f_u [b,a,.int hi] else R.ok (.bl false))= .ok (.bl (jc lo hi a b)):=by
 cases a with
 | int i=>
  rw[ZO];show (if (decide (lo<=i) && decide (i<=hi))=true then R.ok (T.bl (inR i hi b)) else R.ok (T.bl false))=_
  cases b with
  | int j=>
   show (if (decide (lo<=i) && decide (i<=hi))=true then R.ok (T.bl (decide (i<=j) && decide (j<=hi))) else R.ok (T.bl false))=R.ok (T.bl (decide (lo<=i) && decide (i<=j) && decide (j<=hi)))
   by_cases h1:lo<=i
   ·by_cases h2:i<=hi
    ·rw[decide_eq_true h1,decide_eq_true h2];rfl
    ·rw[decide_eq_true h1,decide_eq_false h2];show R.ok (T.bl false)=R.ok (T.bl (decide (i<=j) && decide (j<=hi)))
     by_cases h3:i<=j
     ·rw[decide_eq_true h3,decide_eq_false (show ¬ j<=hi by omega)];rfl
     ·rw[decide_eq_false h3];rfl
   ·rw[decide_eq_false h1];rfl
  | _=>
   show (if (decide (lo<=i) && decide (i<=hi))=true then R.ok (T.bl false) else R.ok (T.bl false))=R.ok (T.bl false)
   cases (decide (lo<=i) && decide (i<=hi)) <;> rfl
 | _=>cases b <;> rfl
theorem xL {xs:List T}(h:xs.length<=4){a b c d e:Sl}:Zf (ap1 Z2 (vB 5)) [a,b,c,d,e,.vl (.lst xs)]= .ok (rng 0 xs.length):=by
 have e1:Zf (ap1 Z2 (vB 5)) [a,b,c,d,e,.vl (.lst xs)]=(R.ok (T.int (xs.length:Int))).bind λt=>match t with | .int j=>if -1000000 < j/\j < 1000000 then .ok (rng 0 j.toNat) else .bad | _=> .bad:=rfl
 rw[e1,bOk];dsimp only;rw[if_pos ⟨by omega,by omega⟩,ba]
theorem wX {c:T}(hc:sOk c){a b d e f:Sl}:
  zj (match (((j9 "tuple" c).bind tru).bind λx=>R.ok (!x)).bind (λx=>if x=true then R.ok true else ((Z2 c).bind λy=>(leC (.int 1) y).bind λk=>if k=true then leC y (.int 4) else R.ok false).bind λx=>R.ok (!x)) with
   | .ok k=>if k=true then RS.rt (T.bl false) else (zv (jI (jB eqC (ap1 Z2 (vB 5)) (ap1 Z2 (zd ixT (vE 3) (cE (.int 0))))) (jB eqC (zZ (Zf (ap1 Z2 (vB 5))) (zr 0) (zx inC (zd ixT (vE 1) (vE 0)) (slE (vE 1) (noO) (Zq (vE 0)))) (vE 0) 1 [5]) (ZE (zf)))) [a,b,d,.vl (.tup [c]),f,.vl (.lst (match c with | .tup cs=>(cs.filter zm).map uj | _=>[]))])
   | .ex c=> .ex c
   | .bad=> .bad)= .ok (.bl (Wy c)):=by
 cases c with
 | tup cs=>
  have e1:(leC (.int 1) (.int (cs.length:Int))).bind (λk=>if k=true then leC (.int (cs.length:Int)) (.int 4) else R.ok false)= .ok (decide (1<=cs.length) && decide (cs.length<=4)):=by
   show (if decide ((1:Int)<=(cs.length:Int))=true then R.ok (decide ((cs.length:Int)<=4)) else R.ok false)=_
   by_cases h:1<=cs.length
   ·rw[decide_eq_true h,decide_eq_true (show (1:Int)<=(cs.length:Int) by omega)]
    show R.ok (decide ((cs.length:Int)<=4))=R.ok (decide (cs.length<=4))
    by_cases h4:cs.length<=4
    ·rw[decide_eq_true h4,decide_eq_true (show (cs.length:Int)<=4 by omega)]
    ·rw[decide_eq_false h4,decide_eq_false (show ¬ (cs.length:Int)<=4 by omega)]
   ·rw[decide_eq_false h,decide_eq_false (show ¬ (1:Int)<=(cs.length:Int) by omega)];rfl
  simp only[Jb,bOk,Zo,bc,az,if_false,j3,e1];show _=R.ok (T.bl (decide (1<=cs.length) && decide (cs.length<=4) && cs.all zm && decide ((dd [] (cs.map zJ)).length=cs.length)));cases h14:(decide (1<=cs.length) && decide (cs.length<=4)) with
  | false=>rfl
  | true=>
   rw[ak,decide_eq_true_eq,decide_eq_true_eq]at h14;simp only[bc,az,if_false,zL,ZI,Zy,jS,ZJ,Zz];have ef:frz [a,b,d,.vl (.tup [.tup cs]),f,.vl (.lst ((cs.filter zm).map uj))]=[wk a,wk b,wk d,.vl (.tup [.tup cs]),wk f,.vl (.lst ((cs.filter zm).map uj))]:=rfl;rw[ef];simp only[w5,zh,v3,zM,bOk,at0,QB,j3,eqI,ae,zT];rw[JL,Zj]
   by_cases hall:cs.all zm=true
   ·rw[decide_eq_true ((jE zm cs).mpr hall),if_pos rfl,hall];have hw:(cs.map zJ).length<=4:=by rw[ae];exact h14.2
    obtain⟨r,er,hr⟩:=z0Z hw (a:=wk a) (b:=wk b) (c:=wk d) (d:= .vl (.tup [.tup cs])) (e:=wk f);rw[z14 hall];have ei:Zf (ap1 Z2 (vB 5)) [wk a,wk b,wk d,.vl (.tup [.tup cs]),wk f,.vl (.lst ((cs.map zJ).map T.str))]= .ok (rng 0 (cs.map zJ).length):=by
     rw[xL (by rw[ae];exact hw),ae]
    rw[ei];simp only[bOk,er];have el:ZE zf [wk a,wk b,wk d,.vl (.tup [.tup cs]),wk f,.vl (.lst ((cs.map zJ).map T.str))]= .ok (.lst []):=rfl;rw[el];rw[bOk,YC,bOk];rw[cH,cH];refine congrArg (λz=>R.ok (T.bl z)) ?_;have hdd:=JM (cs.map zJ) [];rw[bi,f8,ae]at hdd;simp only[bC]at hdd
    by_cases hq:(dd [] (cs.map zJ)).length=cs.length
    ·rw[decide_eq_true hq];exact hr.mpr (hdd.mp hq)
    ·rw[decide_eq_false hq];cases hre:r.isEmpty with
     | false=>rfl
     | true=>exact absurd (hdd.mpr (hr.mp hre)) hq
   ·have hn:¬ (cs.filter zm).length=cs.length:=λz=>hall ((jE zm cs).mp z);rw[decide_eq_false hn,if_neg av];have:cs.all zm=false:=by simpa using hall
    rw[this];rfl
 | _=>rfl
theorem KP {i j:Nat}{f f' :En->R T}{ρ:En}:VQ i j (za f (za f' zf)) ρ=(f ρ).s λx=>(f' ρ).s λy=> .nx ((ρ.set i (.vl x)).set j (.vl y)):=by
 unfold VQ za zf;cases f ρ with
 | ok a=>cases f' ρ <;> rfl
 | ex c=>rfl
 | bad=>rfl
theorem wY {f:En->R T}{l h:En->R (Option Int)}{ρ:En}:slE f l h ρ=(f ρ).bind λt=>(l ρ).bind λlo=>(h ρ).bind λhi=>slT t lo hi:=rfl
theorem vK {i:Int}{ρ:En}:Zq (cE (.int i)) ρ= .ok (some i):=rfl
theorem vL {ρ:En}:noO ρ= .ok none:=rfl
theorem YE (t:T):j9 "str" t= .ok (.bl (match t with | .str _=>true | _=>false)):=by cases t <;> rfl
theorem btw {n m:Nat}{M:Int}(hM:M=(m:Int)):(if decide ((1:Int)<=(n:Int))=true then R.ok (decide ((n:Int)<=M)) else R.ok false)=R.ok (decide (1<=n) && decide (n<=m)):=by
 subst hM
 by_cases h:1<=n
 ·rw[decide_eq_true h,decide_eq_true (show (1:Int)<=(n:Int) by omega),if_pos rfl,cH]
  by_cases h4:n<=m
  ·rw[decide_eq_true h4,decide_eq_true (show (n:Int)<=m by omega)]
  ·rw[decide_eq_false h4,decide_eq_false (show ¬ (n:Int)<=m by omega)]
 ·rw[decide_eq_false h,decide_eq_false (show ¬ (1:Int)<=(n:Int) by omega)];rfl
set_option maxHeartbeats 1000000 in
theorem QE {n:Nat}{d:Nat}{k:T->Bool}(H0:∀t,sOk t->S_a n 0 [t,.int d]= .ok (.bl (k t)))(t:T)(ht:sOk t):
  S_a (n+1) 0 [t,.int ((d+1:Nat):Int)]= .ok (.bl (wV k t)):=by
 have e:S_a (n+1) 0 [t,.int ((d+1:Nat):Int)]=zj (b_a f_u f_v (S_a n 0) [.vl t,.vl (.int ((d+1:Nat):Int)),.un,.un,.un,.un]):=rfl;have hL:decide (((d+1:Nat):Int) < 1)=false:=decide_eq_false (by omega)
 have hL1:((d+1:Nat):Int) - 1=(d:Int):=by omega
 rw[e,b_a];simp only[zu,Zm,YB,JJ,jz,zD,w0,w1,v0,zM,bOk,Zz,Jb,Zo,zh];cases t with
 | tup xs=>
  match xs,ht with
  | [],_=>rfl
  | [h],_=>
   have:wV k (.tup [h])=false:=by
    unfold wV;simp[Jj,Wz,vH,WA]
   rw[this];rfl
  | h :: a :: r,ht=>
   have hs:=ZK ht;have hm:∀u∈a :: r,sOk u:=λu hu=>ZB hs (af _ hu);have z0:decide (((h :: a :: r).length:Int) < 2)=false:=decide_eq_false (by simp only[ah];omega)
   simp only[bc,az,if_false,j3,ltI,z0,bOk,at0,YE,Zo,hL];cases h with
   | str s=>
    simp only[bc,az,if_false,zS,bOk,hL,KP,zh,v0,zM,at0,wY,vK,vL,cut1,nxS];have hset:(([Sl.vl (T.tup (T.str s :: a :: r)),Sl.vl (.int ((d+1:Nat):Int)),.un,.un,.un,.un]:En).set 2 (.vl (.str s))).set 3 (.vl (.tup (a :: r)))=[Sl.vl (T.tup (T.str s :: a :: r)),Sl.vl (.int ((d+1:Nat):Int)),.vl (.str s),.vl (.tup (a :: r)),.un,.un]:=rfl;simp only[hset,w2,zM,bOk,eqS,neS,zS];have l2:(((a :: r).length:Int) == 2)=decide ((a :: r).length=2):=JL (a :: r) 2;have l1:(((a :: r).length:Int) == 1)=decide ((a :: r).length=1):=JL (a :: r) 1;have l3:(((a :: r).length:Int) == 3)=decide ((a :: r).length=3):=JL (a :: r) 3;show _=R.ok (T.bl (if isS "whole" (.str s)=true then Jj (a :: r) else if isS "pick" (.str s)=true then Wz (a :: r) else if isS "row" (.str s)=true then vH k (a :: r) else if isS "many" (.str s)=true then WA k (a :: r) else false))
    cases hw:isS "whole" (.str s) with
    | true=>
     simp only[if_true,zL,Zy,Ja,ZV,jS,ZJ,Zz,w3,v3,bOk,j3,zM,eqI,l2,Zj,Za,zh,vI]
     match r,hm with
     | [],_=>rfl
     | _ :: _ :: _,_=>simp[Jj,zS,zj]
     | [b],_=>
      simp only[at0,at1,bOk,ZO,Zj];rw[WC];rfl
    | false=>
     simp only[az,if_false,w2,w3,v3,bOk,zS,j3,neI,l1];cases hp:isS "pick" (.str s) with
     | true=>
      simp only[if_true]
      match r,hm with
      | _ :: _,_=>simp[Wz,zS,zj,zM];rfl
      | [],hm=>
       simp only[ah,bi,decide_true,bc,az,if_false,at0,bOk];cases a with
       | tup cs=>
        have hc:sOk (.tup cs):=hm _ (by simp)
        have P:=wX hc (a:= .vl (.tup [.str s,.tup cs])) (b:= .vl (.int ((d+1:Nat):Int))) (d:= .vl (.str s)) (e:= .un) (f:= .vl (.lst (cs.filter WW)));simp only[Jb,bOk,Zo,bc,az,if_false,vJ,Zz,zh,v3,zM,at0,j3,wU,btw (m:=4) (M:=4) rfl]at P ⊢;cases h14:(decide (1<=cs.length) && decide (cs.length<=4)) with
        | false=>
         rw[h14]at P;exact P
        | true=>
         rw[h14]at P;have h4:cs.length<=4:=by
          rw[ak,decide_eq_true_eq,decide_eq_true_eq]at h14;exact h14.2
         simp only[bc,az,if_false,zS]at P ⊢;have s4:∀(x0 x1 x2:Sl),zt 4 (zZ (j0 (zd ixT (vE 3) (cE (T.int 0)))) (zr 0) (JD (Zp (ap1 (j9 "tuple") (vB 0))) (zx eqC (ap1 Z2 (vB 0)) (cE (T.int 2)))) (vE 0) 1 []) [x0,x1,x2,.vl (.tup [.tup cs]),.un,.un]= .nx [x0,x1,x2,.vl (.tup [.tup cs]),.vl (.lst (cs.filter WW)),.un]:=by
          intro x0 x1 x2;simp only[Zs,zT,ZX,zh,v3,zM,bOk,at0];show ((zI (zr 0) _ _ 1 [] _ cs).bind λvs=>R.ok (T.lst vs)).s _=_;rw[z0X h4];rfl
         have s5:∀(x0 x1 x2:Sl),zt 5 (zZ (j0 (vE 4)) (zr 0) (JD (Zp (zc 1 f_v (za (zd ixT (vE 0) (cE (T.int 0))) zf))) (Zp (zc 3 f_u (za (zd ixT (vE 0) (cE (T.int 1))) (za (cE (T.int 1)) (za (cE (T.int 20)) zf)))))) (zd ixT (vE 0) (cE (T.int 0))) 1 []) [x0,x1,x2,.vl (.tup [.tup cs]),.vl (.lst (cs.filter WW)),.un]= .nx [x0,x1,x2,.vl (.tup [.tup cs]),.vl (.lst (cs.filter WW)),.vl (.lst ((cs.filter zm).map uj))]:=by
          intro x0 x1 x2;simp only[Zs,zT,ZX,v4,bOk];show ((zI (zr 0) _ _ 1 [] _ (cs.filter WW)).bind λvs=>R.ok (T.lst vs)).s _=_;rw[z0Y (λc hc' =>ZB (ZK hc) hc') h4];rfl
         simp only[s4,s5];revert P;simp only[zL];generalize jI _ _ _=z;intro P;cases z with
         | ok t=>exact P
         | ex c=>exact P
         | bad=>exact P
       | _=>rfl
     | false=>
      simp only[az,if_false,w2,w3,v3,bOk,zS,j3,neI,l1];cases hr:isS "row" (.str s) with
      | true=>
       simp only[if_true]
       match r,hm with
       | _ :: _,_=>simp[vH,zS,zj,zM];rfl
       | [],hm=>
        simp only[ah,bi,decide_true,bc,az,if_false,at0,bOk];cases a with
        | tup cs=>
         have hc:sOk (.tup cs):=hm _ (by simp)
         simp only[Jb,bOk,Zo,bc,az,if_false,vJ,Zz,zh,v3,zM,at0,j3,wU,btw (m:=3) (M:=3) rfl];show _=R.ok (T.bl (decide (1<=cs.length) && decide (cs.length<=3) && cs.all k));cases h14:(decide (1<=cs.length) && decide (cs.length<=3)) with
         | false=>rfl
         | true=>
          have h4:cs.length<=3:=by
           rw[ak,decide_eq_true_eq,decide_eq_true_eq]at h14;exact h14.2
          simp only[bc,az,if_false,zS,zL,Zy,Ja,ZV,ZJ,zT,ZX,zh,v3,zM,bOk,at0,cH];have ia:jQ (.tup cs)= .ok cs:=rfl;simp only[ia,bOk,xK H0 (λu hu=>ZB (ZK hc) hu) h4 (x:= .vl (.tup [.str s,.tup cs])) (y:= .un) (z:= .un) hL1];have el:∀ρ,ZE zf ρ= .ok (.lst []):=λ_=>rfl;simp only[el,bOk,YC,je,zS,zj]
        | _=>rfl
      | false=>
       simp only[az,if_false,w2,w3,v3,bOk,zS,j3,neI,l3];cases hy:isS "many" (.str s) with
       | true=>
        simp only[bc,az,if_false,bOk]
        match r,hm with
        | [],_=>rfl
        | [_],_=>rfl
        | _ :: _ :: _ :: _,_=>simp[WA,zS,zj,zM];rfl
        | [b,c],hm=>
         simp only[Za,Zl,zh,v3,zM,bOk,at0,at1,at2,ZO,Zo];have S:=WC 0 3 b c;show _=R.ok (T.bl (jc 0 3 b c && k a));cases hb:inR 0 3 b with
         | false=>
          rw[hb]at S;injection S with S;injection S with S;rw[← S];rfl
         | true=>
          rw[hb,if_pos rfl]at S;simp only[S,bOk,Zo];cases jc 0 3 b c with
          | false=>rfl
          | true=>
           have hk:=H0 a (hm a (by simp))
           simp only[zL,Zy,Ja,ZV,v1,v3,jd,bOk,at0,hL1,hk,bc,az,if_false,zS,zj,ah,bi,decide_true,cH,Zl,zh,zM]
       | false=>rfl
   | _=>rfl
 | _=>rfl
theorem YF {n:Nat}(t:T):S_a (n+1) 0 [t,.int 0]= .ok (.bl false):=by
 have e:S_a (n+1) 0 [t,.int 0]=zj (b_a f_u f_v (S_a n 0) [.vl t,.vl (.int 0),.un,.un,.un,.un]):=rfl;rw[e,b_a];simp only[zu,Zm,YB,JJ,jz,zD,w0,w1,v0,zM,bOk,Zz,Jb,Zo,zh];cases t with
 | tup xs=>
  match xs with
  | []=>rfl
  | [h]=>rfl
  | h :: a :: r=>
   have z0:decide (((h :: a :: r).length:Int) < 2)=false:=decide_eq_false (by simp only[ah];omega)
   have hL:decide ((0:Int) < 1)=true:=rfl;simp only[bc,az,if_false,j3,ltI,z0,bOk,at0,YE,Zo,hL];cases h <;> rfl
 | _=>rfl
theorem JN:∀(d n:Nat),d+1<=n->∀t,sOk t->S_a n 0 [t,.int d]= .ok (.bl (isK d t))
 | 0,n+1,_,t,_=>YF t
 | d+1,n+1,h,t,ht=>QE (λt ht=>JN d n (by omega) t ht) t ht
theorem wa (t:T)(ht:sOk t):f_a 12 [t,.int 3]= .ok (.bl (isK 3 t)):=JN 3 12 (by omega) t ht
theorem gtI (i j:Int):gtC (.int i) (.int j)= .ok (decide (i > j)):=rfl
theorem zP (i j:Int):zp (.int i) (.int j)= .ok (.int (i+j)):=rfl
theorem z15:∀n:Nat,n < 26->(match ixT (.str "abcdefghijklmnopqrstuvwxyz") (.int (n:Int)) with | .ok (.str u)=>u == ⟨#[97+n]⟩ | _=>false)=true:=by decide+kernel
theorem KQ (p:Int)(h0:0<=p)(h1:p < 26):ixT (.str "abcdefghijklmnopqrstuvwxyz") (.int p)= .ok (.str ⟨#[97+p.toNat]⟩):=by
 obtain⟨n,rfl⟩:∃n:Nat,p=(n:Int):=⟨p.toNat,by omega⟩
 have h:=z15 n (by omega)
 split at h
 ·rename_i u e;rw[e,eq_of_beq h,ba]
 ·cases h
abbrev Gs:En->R T:=zd ixT (vE 3) (zc 3 f_5 (za (vE 1) (za (zd zp (zd zp (vE 2) (cE (.int 2))) (vE 0)) (za (cE (.int 26)) (zf)))))
theorem KR (ns:List Int)(k:Int)(h0:0<=k)(j:Nat):∃c:Nat,(97<=c/\c<=122)/\Gs [.vl (.int (j:Int)),.vl (scr ns),.vl (.int k),.vl (.str "abcdefghijklmnopqrstuvwxyz")]= .ok (.str ⟨#[c]⟩):=by
 obtain⟨p,e,p0,p1⟩:=zR ns (k+2+j) 26 (by omega) (by omega)
 refine⟨97+p.toNat,⟨by omega,by omega⟩, ?_⟩
 simp only[Gs,zh,v3,bOk,Za,v1,v2,v0,zM,zP,e];exact KQ p p0 p1
theorem UM (ns:List Int)(k:Int)(h0:0<=k):∃w:Str,f_z [scr ns,.int k]= .ok (.str w)/\Z1 (.str w)=true:=by
 have e:f_z [scr ns,.int k]=zj (b_z f_5 [.vl (scr ns),.vl (.int k),.un]):=rfl;obtain⟨p,e0,p0,p1⟩:=zR ns k 6 h0 (by omega)
 have hset:∀t,([Sl.vl (scr ns),Sl.vl (.int k),.un]:En).set 2 (.vl t)=[Sl.vl (scr ns),Sl.vl (.int k),.vl t]:=λ_=>rfl;rw[e,b_z];simp only[zu,Zm,Zs,zM,zS,hset,zD,Za,v0,v1,bOk,e0,gtI];cases hp:decide (p > 0) with
 | true=>
  obtain⟨q,e1,q0,q1⟩:=zR ns (k+1) 4 (by omega) (by omega)
  simp only[if_true,zL,Zy,ZV,zh,Za,v0,v1,zM,bOk,zP,e1];have hq:q=0\/q=1\/q=2\/q=3:=by omega
  rcases hq with rfl | rfl | rfl | rfl
  ·exact⟨"a",rfl,by decide⟩
  ·exact⟨"b",rfl,by decide⟩
  ·exact⟨"ab",rfl,by decide⟩
  ·exact⟨"cab",rfl,by decide⟩
 | false=>
  obtain⟨q,e1,q0,q1⟩:=zR ns (k+1) 3 (by omega) (by omega)
  simp only[az,if_false,nxS,zL,ZI,Zy,ZV,Zz,zT];obtain⟨g,hg⟩:=ic.mp (KR ns k h0);have ei:Zf (zd zp (cE (.int 1)) (zc 3 f_5 (za (vE 0) (za (zd zp (vE 1) (cE (.int 1))) (za (cE (.int 3)) (zf)))))) [Sl.vl (scr ns),Sl.vl (.int k),.vl (.str "abcdefghijklmnopqrstuvwxyz")]= .ok (rng 0 (1+q).toNat):=by
   unfold Zf;simp only[zh,Za,v0,v1,zM,bOk,zP,e1];rw[if_pos ⟨by omega,by omega⟩]
  have ec:∀n:Nat,n<=3->zI (zr 0) Ze Gs 1 [0,1,2] [Sl.vl (scr ns),Sl.vl (.int k),.vl (.str "abcdefghijklmnopqrstuvwxyz")] (rng 0 n)= .ok ((rng 0 n).map λt=>match t with | .int j=> .str ⟨#[g j.toNat]⟩ | t=>t):=λn hn=>
   Z9 (rng 0 n) (by unfold rng;rw[ae,bR];exact aF hn (by decide)) λt ht=>by
    unfold rng at ht;obtain⟨j,_,rfl⟩:=aO.mp ht;show Gs [.vl (.int (0+(j:Int))),.vl (scr ns),.vl (.int k),.vl (.str "abcdefghijklmnopqrstuvwxyz")]= .ok (.str ⟨#[g (0+(j:Int)).toNat]⟩);rw[f9,ba];exact(hg j).2
  rw[ei,bOk,ec _ (by omega),bOk,bOk]
  have hw:∀j,zV (g j)=true:=λj=>by
   obtain⟨a,b⟩:=(hg j).1;unfold zV;rw[decide_eq_true a,decide_eq_true b];rfl
  have hq:q=0\/q=1\/q=2:=by omega
  rcases hq with rfl | rfl | rfl
  ·refine⟨⟨#[g 0]⟩,rfl, ?_⟩;show (zV (g 0) && true)=true;rw[hw 0];rfl
  ·refine⟨⟨#[g 0,g 1]⟩,rfl, ?_⟩;show (zV (g 0) && (zV (g 1) && true))=true;rw[hw 0,hw 1];rfl
  ·refine⟨⟨#[g 0,g 1,g 2]⟩,rfl, ?_⟩;show (zV (g 0) && (zV (g 1) && (zV (g 2) && true)))=true;rw[hw 0,hw 1,hw 2];rfl
theorem z16 (j:Int):zO (.int 5) (.int j)= .ok (.int (5*j)):=by
 show (if W9 5 j then R.ok (T.int (5*j)) else .bad)=_
 rw[if_pos (.inl ⟨by decide,by decide⟩)]
theorem QF {f g:En->R T}{ρ:En}{x y:T}(hf:f ρ= .ok x)(hg:g ρ= .ok y):Zd (za f (za g zf)) ρ= .ok (.tup [x,y]):=by
 unfold Zd za zf;rw[hf,hg];rfl
theorem tup3 {f g h:En->R T}{ρ:En}{x y z:T}(hf:f ρ= .ok x)(hg:g ρ= .ok y)(hh:h ρ= .ok z):Zd (za f (za g (za h zf))) ρ= .ok (.tup [x,y,z]):=by
 unfold Zd za zf;rw[hf,hg,hh];rfl
theorem tup4 {f g h i:En->R T}{ρ:En}{x y z w:T}(hf:f ρ= .ok x)(hg:g ρ= .ok y)(hh:h ρ= .ok z)(hi:i ρ= .ok w):Zd (za f (za g (za h (za i zf)))) ρ= .ok (.tup [x,y,z,w]):=by
 unfold Zd za zf;rw[hf,hg,hh,hi];rfl
def Dst (ws:List Str):Prop:=∀(k:Nat) (w:Str),ws[k]? =some w->w ∉ ws.take k
theorem Dst.add {ws:List Str}(h:Dst ws){w:Str}(hw:w ∉ ws):Dst (ws++[w]):=λk x hx=>by
 by_cases hk:k < ws.length
 ·rw[aD hk]at hx;rw[List.take_append_of_le_length (by omega)]
  exact h k x hx
 ·rw[ay (by omega)]at hx
  have hk' :k=ws.length:=by
   rcases Nat.lt_or_ge (k - ws.length) 1 with z | z
   ·omega
   ·rw[bw (by simpa using z)]at hx;cases hx
  subst hk';rw[dG]at hx;cases hx;rw[List.take_left']
  ·exact hw
  ·rfl
abbrev WD:En->RS:=zo (zt 5 (zc 2 f_z (za (vE 0) (za (zd zp (zd zp (vE 1) (cE (.int 5))) (zd zO (cE (.int 5)) (vE 4))) (zf)))))
  (ifS (zx Q3 (vB 5) (vB 3)) (Q9 3 (vE 5)) (nxS))
theorem JO (ns:List Int)(k:Int)(h0:0<=k):∀(js:List Nat) (ws:List Str) (x4 x5:Sl),js.length+ws.length<=4->Dst ws->(∀w∈ws,Z1 (.str w)=true)->
  ∃ws' y4 y5,Zk (zr 4) WD (js.map λ(j:Nat)=>T.int (0+(j:Int))) [.vl (scr ns),.vl (.int k),.un,.ow (ws.map T.str),x4,x5]= .nx [.vl (scr ns),.vl (.int k),.un,.ow (ws'.map T.str),y4,y5]/\ws'.length<=4/\Dst ws' /\(∀w∈ws',Z1 (.str w)=true)/\(0 < js.length+ws.length->0 < ws'.length)
 | [],ws,x4,x5,hl,hd,hw=>⟨ws,x4,x5,rfl,by simpa using hl,hd,hw,λh=>by simpa using h⟩
 | j :: js,ws,x4,x5,hl,hd,hw=>by
  obtain⟨w,ew,hw'⟩:=UM ns (k+5+5*(0+(j:Int))) (by omega)
  have hl' :js.length+ws.length+1<=4:=by simpa[ah,Nat.add_right_comm] using hl
  have e:Zk (zr 4) WD ((j :: js).map λ(j:Nat)=>T.int (0+(j:Int))) [.vl (scr ns),.vl (.int k),.un,.ow (ws.map T.str),x4,x5]=match WD [.vl (scr ns),.vl (.int k),.un,.ow (ws.map T.str),.vl (.int (0+(j:Int))),x5] with
   | .nx ρ2=>Zk (zr 4) WD (js.map λ(j:Nat)=>T.int (0+(j:Int))) ρ2
   | .ct ρ2=>Zk (zr 4) WD (js.map λ(j:Nat)=>T.int (0+(j:Int))) ρ2
   | .bk ρ2=> .nx ρ2
   | r=>r:=rfl
  have eb:WD [.vl (scr ns),.vl (.int k),.un,.ow (ws.map T.str),.vl (.int (0+(j:Int))),x5]= .nx [.vl (scr ns),.vl (.int k),.un,.ow ((if w∈ws then ws else ws++[w]).map T.str),.vl (.int (0+(j:Int))),.vl (.str w)]:=by
   have w3o:∀(a b c:Sl) (ts:List T) (ρ:En),vB 3 (a :: b :: c :: .ow ts :: ρ)= .ok (.lst ts):=λ_ _ _ _ _=>rfl;have hset:∀t,([.vl (scr ns),.vl (.int k),.un,.ow (ws.map T.str),.vl (.int (0+(j:Int))),x5]:En).set 5 (.vl t)=[.vl (scr ns),.vl (.int k),.un,.ow (ws.map T.str),.vl (.int (0+(j:Int))),.vl t]:=λ_=>rfl;have en:Q3 (.str w) (.lst (ws.map T.str))= .ok (!decide (w∈ws)):=by
    show ((match uI (λy=>eqF 30 y (.str w)) (ws.map T.str) with | some b=>R.ok b | none=> .bad)).bind (λb=>R.ok (!b))=_
    rw[wW];rfl
   simp only[WD,zu,Zs,Zl,v0,v1,v4,zh,zM,bOk,zP,z16,ew,zS,hset,Zm,zD,w5,w3o,en]
   by_cases hm:w∈ws
   ·rw[decide_eq_true hm,if_pos hm];rfl
   ·rw[decide_eq_false hm,if_neg hm];have hb:(ws.map T.str).length < bnd:=by rw[ae];exact cu (show ws.length<=4 by omega) (by decide)
    show (if (ws.map T.str).length < bnd then RS.nx _ else .bad)=_
    rw[if_pos hb,bE];rfl
  rw[e,eb]
  by_cases hm:w∈ws
  ·rw[if_pos hm];obtain⟨ws',y4,y5,r1,r2,r3,r4,r5⟩:=JO ns k h0 js ws (.vl (.int (0+(j:Int)))) (.vl (.str w)) (by omega) hd hw
   exact⟨ws',y4,y5,r1,r2,r3,r4,λ_=>r5 (by have:=List.length_pos_of_mem hm;omega)⟩
  ·rw[if_neg hm];obtain⟨ws',y4,y5,r1,r2,r3,r4,r5⟩:=JO ns k h0 js (ws++[w]) (.vl (.int (0+(j:Int)))) (.vl (.str w)) (by simp only[aB,ah,bi];omega) (hd.add hm) (λx hx=>by
    rcases dN.mp hx with z | z
    ·exact hw x z
    ·rw[aY.mp z];exact hw')
   exact⟨ws',y4,y5,r1,r2,r3,r4,λ_=>r5 (by simp only[aB,ah,bi];omega)⟩
abbrev KS:En->R T:=Zd (za (vE 1) (za (zd zp (cE (.int 1)) (zc 3 f_5 (za (vE 2) (za (zd zp (zd zp (vE 3) (cE (.int 30))) (vE 0)) (za (cE (.int 20)) (zf)))))) (zf)))
theorem U0 (ns:List Int)(k:Int)(h0:0<=k):∀(ws:List Str) (i:Nat) (x0 x1:Sl),(∀w∈ws,Z1 (.str w)=true)->∃cs:List T,zH (Zr 0 1) Ze KS (((ws.map T.str).zipIdx i).map λp=>T.tup [.int (p.2:Nat),p.1]) [x0,x1,.vl (scr ns),.vl (.int k)]= .ok cs/\cs.all zm=true/\cs.map zJ=ws
 | [],i,x0,x1,_=>⟨[],rfl,rfl,rfl⟩
 | w :: ws,i,x0,x1,hw=>by
  obtain⟨p,e,p0,p1⟩:=zR ns (k+30+i) 20 (by omega) (by omega)
  obtain⟨cs,r1,r2,r3⟩:=U0 ns k h0 ws (i+1) (.vl (.int (i:Int))) (.vl (.str w)) λx hx=>hw x (af _ hx);have ec:KS [.vl (.int (i:Int)),.vl (.str w),.vl (scr ns),.vl (.int k)]= .ok (.tup [.str w,.int (1+p)]):=by
   have ea:zc 3 f_5 (za (vE 2) (za (zd zp (zd zp (vE 3) (cE (.int 30))) (vE 0)) (za (cE (.int 20)) (zf)))) [.vl (.int (i:Int)),.vl (.str w),.vl (scr ns),.vl (.int k)]= .ok (.int p):=by
    simp only[Za,v2,v3,v0,zh,zM,bOk,zP,e]
   have eb:zd zp (cE (.int 1)) (zc 3 f_5 (za (vE 2) (za (zd zp (zd zp (vE 3) (cE (.int 30))) (vE 0)) (za (cE (.int 20)) (zf))))) [.vl (.int (i:Int)),.vl (.str w),.vl (scr ns),.vl (.int k)]= .ok (.int (1+p)):=by
    rw[zh,ea];rfl
   exact QF v1 eb
  refine⟨.tup [.str w,.int (1+p)] :: cs, ?_, ?_, ?_⟩
  ·show ((KS [.vl (.int (i:Int)),.vl (.str w),.vl (scr ns),.vl (.int k)]).bind λv=>(zH (Zr 0 1) Ze KS (((ws.map T.str).zipIdx (i+1)).map λp=>T.tup [.int (p.2:Nat),p.1]) [.vl (.int (i:Int)),.vl (.str w),.vl (scr ns),.vl (.int k)]).bind λvs=>R.ok (v :: vs))=_;rw[ec,r1];rfl
  ·rw[bW,r2,Bool.and_true];show (Z1 (.str w) && decide (1<=1+p) && decide (1+p<=20))=true;rw[hw w aw,decide_eq_true (by omega),decide_eq_true (by omega)];rfl
  ·rw[aI,r3];rfl
theorem vM (i j:Int):yZ (.int i) (.int j)= .ok (.int (if j < i then j else i)):=rfl
theorem xM (ns:List Int)(k:Int)(h0:0<=k):∃t,KI [scr ns,.int k]= .ok t/\∀d,isK (d+1) t=true:=by
 have e:KI [scr ns,.int k]=zj (Ga f_5 f_z [.vl (scr ns),.vl (.int k),.un,.un,.un,.un]):=rfl;obtain⟨p,e0,p0,p1⟩:=zR ns k 3 h0 (by omega)
 rw[e,Ga,zu];simp only[Zm,zD,Za,v0,v1,zM,bOk,e0,gtI,zS];cases hp:decide (p > 0) with
 | true=>
  obtain⟨q,e1,q0,q1⟩:=zR ns (k+1) 7 (by omega) (by omega)
  obtain⟨q3,e3,_,_⟩:=zR ns (k+3) 8 (by omega) (by omega)
  obtain⟨q4,e4,a4,b4⟩:=zR ns (k+4) 3 (by omega) (by omega)
  obtain⟨q2,e2,a2,b2⟩:=zR ns (k+2) 4 (by omega) (by omega)
  have hset:∀t x,([.vl (scr ns),.vl (.int k),x,.un,.un,.un]:En).set 2 (.vl t)=[.vl (scr ns),.vl (.int k),.vl t,.un,.un,.un]:=λ_ _=>rfl;have fin:∀low:Int, -20<=low->low<=20->∃t,zj (zv (Zd (za (cE (.str "whole")) (za (vE 2) (za (zd yZ (cE (.int 20)) (zd zp (vE 2) (zc 3 f_5 (za (vE 0) (za (zd zp (vE 1) (cE (.int 2))) (za (cE (.int 4)) (zf))))))) (zf))))) [.vl (scr ns),.vl (.int k),.vl (.int low),.un,.un,.un])= .ok t/\∀d,isK (d+1) t=true:=by
   intro low hl1 hl2;refine⟨.tup [.str "whole",.int low,.int (if low+q2 < 20 then low+q2 else 20)], ?_,λd=> ?_⟩
   ·rw[zL,ZI];refine tup3 rfl rfl ?_;simp only[Zy,Ja,ZV,zh,v2,v0,v1,Za,zM,bOk,zP,e2,vM]
   ·show (decide (-20<=low) && decide (low<=_) && decide (_<=(20:Int)))=true;rw[decide_eq_true hl1,decide_eq_true (by split <;> omega),decide_eq_true (by split <;> omega)];rfl
  simp only[if_true,zu,Zs,Zm,zh,Za,v0,v1,zM,bOk,zP,e1,jd,zS,hset,zD,e3,eqI];cases hq:(q3 == 0) with
  | true=>
   have h3:q4=0\/q4=1\/q4=2:=by omega
   rcases h3 with rfl | rfl | rfl
   ·obtain⟨t,r,s⟩:=fin (-20) (by omega) (by omega)
    refine⟨t, ?_,s⟩;rw[← r];simp only[if_true,e4,bOk];have hv:∀ρ,(ZE (za (yM (cE (.int 20))) (za (cE (.int 17)) (za (cE (.int 20)) (zf)))) ρ)= .ok (.lst [.int (-20),.int 17,.int 20]):=λ_=>rfl;simp only[hv,bOk];have hx:ixT (.lst [.int (-20),.int 17,.int 20]) (.int 0)= .ok (.int (-20)):=rfl;simp only[hx,zS,hset,zL];generalize Zd _ _=z;cases z <;> rfl
   ·obtain⟨t,r,s⟩:=fin (17) (by omega) (by omega)
    refine⟨t, ?_,s⟩;rw[← r];simp only[if_true,e4,bOk];have hv:∀ρ,(ZE (za (yM (cE (.int 20))) (za (cE (.int 17)) (za (cE (.int 20)) (zf)))) ρ)= .ok (.lst [.int (-20),.int 17,.int 20]):=λ_=>rfl;simp only[hv,bOk];have hx:ixT (.lst [.int (-20),.int 17,.int 20]) (.int 1)= .ok (.int (17)):=rfl;simp only[hx,zS,hset,zL];generalize Zd _ _=z;cases z <;> rfl
   ·obtain⟨t,r,s⟩:=fin (20) (by omega) (by omega)
    refine⟨t, ?_,s⟩;rw[← r];simp only[if_true,e4,bOk];have hv:∀ρ,(ZE (za (yM (cE (.int 20))) (za (cE (.int 17)) (za (cE (.int 20)) (zf)))) ρ)= .ok (.lst [.int (-20),.int 17,.int 20]):=λ_=>rfl;simp only[hv,bOk];have hx:ixT (.lst [.int (-20),.int 17,.int 20]) (.int 2)= .ok (.int (20)):=rfl;simp only[hx,zS,hset,zL];generalize Zd _ _=z;cases z <;> rfl
  | false=>
   obtain⟨t,r,s⟩:=fin (q - 3) (by omega) (by omega)
   refine⟨t, ?_,s⟩;rw[← r];simp only[az,if_false,nxS,zL];generalize Zd _ _=z;cases z <;> rfl
 | false=>
  obtain⟨q,e1,q0,q1⟩:=zR ns (k+1) 4 (by omega) (by omega)
  simp only[az,if_false,nxS,zu];have ei:Zf (zd zp (cE (.int 1)) (zc 3 f_5 (za (vE 0) (za (zd zp (vE 1) (cE (.int 1))) (za (cE (.int 4)) (zf)))))) [.vl (scr ns),.vl (.int k),.un,.ow [],.un,.un]= .ok (rng 0 (1+q).toNat):=by
   unfold Zf;simp only[zh,Za,v0,v1,zM,bOk,zP,e1];rw[if_pos ⟨by omega,by omega⟩]
  have el:UE 3 zf [.vl (scr ns),.vl (.int k),.un,.un,.un,.un]= .nx [.vl (scr ns),.vl (.int k),.un,.ow [],.un,.un]:=rfl;rw[el];have hn:(aW (1+q).toNat).length=(1+q).toNat:=bR;obtain⟨ws,y4,y5,r1,r2,r3,r4,r5⟩:=JO ns k h0 (aW (1+q).toNat) [] .un .un (by rw[hn,bi];omega) (λk w h=>by cases h) (λw h=>by cases h)
  have hpos:0 < ws.length:=r5 (by rw[hn,bi];omega)
  have ef:ja (Zf (zd zp (cE (.int 1)) (zc 3 f_5 (za (vE 0) (za (zd zp (vE 1) (cE (.int 1))) (za (cE (.int 4)) (zf))))))) (zr 4) WD [.vl (scr ns),.vl (.int k),.un,.ow [],.un,.un]= .nx [.vl (scr ns),.vl (.int k),.un,.ow (ws.map T.str),y4,y5]:=by
   unfold ja;rw[ei,zS];exact r1
  obtain⟨cs,s1,s2,s3⟩:=U0 ns k h0 ws 0 .un .un r4;have hcl:cs.length=ws.length:=by rw[← s3,ae]
  refine⟨.tup [.str "pick",.tup cs], ?_,λd=> ?_⟩
  ·dsimp only;rw[ef];dsimp only;rw[zL,ZI];refine QF rfl ?_;rw[Zz,zT];have ee:VO (vE 3) (frz [.vl (scr ns),.vl (.int k),.un,.ow (ws.map T.str),y4,y5])= .ok (w9 (ws.map T.str)):=rfl;rw[ee,bOk];unfold zI;rw[if_pos (by unfold w9;rw[ae,List.length_zipIdx,ae];exact aF r2 (by decide))]
   have ec:zH (Zr 0 1) Ze KS (w9 (ws.map T.str)) (JZ 2 [0,1] (frz [.vl (scr ns),.vl (.int k),.un,.ow (ws.map T.str),y4,y5]))= .ok cs:=s1;rw[ec];rfl
  ·show (decide (1<=cs.length) && decide (cs.length<=4) && cs.all zm && decide ((dd [] (cs.map zJ)).length=cs.length))=true;have hd:(dd [] (cs.map zJ)).length=cs.length:=by
    rw[s3,hcl];have:=(JM ws []).mpr (λk w h=>by simpa using r3 k w h)
    simpa using this
   rw[decide_eq_true (by omega),decide_eq_true (by omega),s2,decide_eq_true hd];rfl
theorem UN (c:Int)(j:Int)(hc:W9 c j):zO (.int c) (.int j)= .ok (.int (c*j)):=by
 show (if W9 c j then R.ok (T.int (c*j)) else .bad)=_
 rw[if_pos hc]
theorem KT (j:Int):zO (.int 3) (.int j)= .ok (.int (3*j)):=UN _ _ (.inl ⟨by decide,by decide⟩)
theorem KU (j:Int):zO (.int 50) (.int j)= .ok (.int (50*j)):=UN _ _ (.inl ⟨by decide,by decide⟩)
abbrev Gu (c:List T->R T):En->R T:=zc 3 c (za (vE 1) (za (zd zp (zd zp (zd zO (cE (.int 3)) (vE 2)) (cE (.int 40))) (zd zO (cE (.int 50)) (vE 0))) (za (zd ZS (vE 3) (cE (.int 1))) (zf))))
theorem uk (ns:List Int):∀(d n:Nat),d<=n->1<=d->∀k:Int,0<=k->∃t,S_k n 0 [scr ns,.int k,.int (d:Int)]= .ok t/\isK d t=true
 | d+1,n+1,hn,_,k,h0=>by
  have e:S_k (n+1) 0 [scr ns,.int k,.int ((d+1:Nat):Int)]=zj (b_k f_5 KI (S_k n 0) [.vl (scr ns),.vl (.int k),.vl (.int ((d+1:Nat):Int)),.un,.un,.un]):=rfl;obtain⟨p,e0,p0,p1⟩:=zR ns k 5 h0 (by omega)
  obtain⟨l,el,hl⟩:=xM ns (k+1) (by omega)
  have hset:([.vl (scr ns),.vl (.int k),.vl (.int ((d+1:Nat):Int)),.un,.un,.un]:En).set 3 (.vl (.int p))=[.vl (scr ns),.vl (.int k),.vl (.int ((d+1:Nat):Int)),.vl (.int p),.un,.un]:=rfl;rw[e,b_k];simp only[zu,Zs,Zm,YB,zD,Za,Zl,v0,v1,v2,zM,bOk,e0,zS,hset,w2,w3,eqI,ltI,zP,zL,Zy,Ja,ZV,zh,el];have hd1:((((d+1:Nat):Int) == 1))=decide (d=0):=by
   by_cases h:d=0
   ·subst h;rfl
   ·rw[decide_eq_false h,beq_eq_false_iff_ne];omega
  rw[hd1]
  by_cases hleaf:d=0\/p < 2
  ·refine⟨l, ?_,hl d⟩;rcases hleaf with h | h
   ·rw[decide_eq_true h];rfl
   ·rw[decide_eq_true h];cases decide (d=0) <;> rfl
  ·have hd0:¬ d=0:=λz=>hleaf (.inl z);have hp2:¬ p < 2:=λz=>hleaf (.inr z);have hsub:((d+1:Nat):Int) - 1=(d:Int):=by omega
   rw[decide_eq_false hd0,decide_eq_false hp2];simp only[az,if_false,zS,nxS,w3,v0,v1,v2,bOk,ltI,zM];cases hp:decide (p < 4) with
   | true=>
    obtain⟨q,e1,q0,q1⟩:=zR ns (k+1) 3 (by omega) (by omega)
    have hj:∀j:Nat,∃t,Gu (S_k n 0) [.vl (.int (0+(j:Int))),.vl (scr ns),.vl (.int k),.vl (.int ((d+1:Nat):Int))]= .ok t/\isK d t=true:=λj=>by
     obtain⟨t,r,s⟩:=uk ns d n (by omega) (by omega) (3*k+40+50*(0+(j:Int))) (by omega)
     refine⟨t, ?_,s⟩;simp only[Gu,Za,v0,v1,v2,v3,zh,zM,bOk,KT,KU,zP,jd,hsub,r]
    obtain⟨g,hg⟩:=ic.mp hj;have ei:Zf (zd zp (cE (.int 1)) (zc 3 f_5 (za (vE 0) (za (zd zp (vE 1) (cE (.int 1))) (za (cE (.int 3)) (zf)))))) [.vl (scr ns),.vl (.int k),.vl (.int ((d+1:Nat):Int)),.vl (.int p),.un,.un]= .ok (rng 0 (1+q).toNat):=by
     unfold Zf;simp only[zh,Za,v0,v1,zM,bOk,zP,e1];rw[if_pos ⟨by omega,by omega⟩]
    have ec:zI (zr 0) Ze (Gu (S_k n 0)) 1 [0,1,2] [.vl (scr ns),.vl (.int k),.vl (.int ((d+1:Nat):Int)),.vl (.int p),.un,.un] (rng 0 (1+q).toNat)= .ok ((rng 0 (1+q).toNat).map λt=>match t with | .int j=>g j.toNat | t=>t):=
     Z9 (rng 0 (1+q).toNat) (by unfold rng;rw[ae,bR];exact aF (show (1+q).toNat<=3 by omega) (by decide)) λt ht=>by
      unfold rng at ht;obtain⟨j,_,rfl⟩:=aO.mp ht;show Gu (S_k n 0) [.vl (.int (0+(j:Int))),.vl (scr ns),.vl (.int k),.vl (.int ((d+1:Nat):Int))]= .ok (g (0+(j:Int)).toNat);rw[(hg j).1,f9,ba]
    generalize hcs:((rng 0 (1+q).toNat).map λt=>match t with | .int j=>g j.toNat | t=>t)=cs at ec
    have hlen:cs.length=(1+q).toNat:=by rw[← hcs];unfold rng;rw[ae,ae,bR]
    have hall:∀t∈cs,isK d t=true:=λt ht=>by
     rw[← hcs]at ht;obtain⟨u,hu,rfl⟩:=aO.mp ht;unfold rng at hu;obtain⟨j,_,rfl⟩:=aO.mp hu;exact(hg _).2
    refine⟨.tup [.str "row",.tup cs], ?_, ?_⟩
    ·have hs4:([.vl (scr ns),.vl (.int k),.vl (.int ((d+1:Nat):Int)),.vl (.int p),.un,.un]:En).set 4 (.vl (.lst cs))=[.vl (scr ns),.vl (.int k),.vl (.int ((d+1:Nat):Int)),.vl (.int p),.vl (.lst cs),.un]:=rfl;simp only[if_true,zT,ei,bOk,ec,zS,hs4,Zy,Ja,ZV];rfl
    ·show (decide (1<=cs.length) && decide (cs.length<=3) && cs.all (isK d))=true;rw[decide_eq_true (by omega),decide_eq_true (by omega),aT.mpr hall];rfl
   | false=>
    obtain⟨q,e1,q0,q1⟩:=zR ns (k+1) 3 (by omega) (by omega)
    obtain⟨q2,e2,_,_⟩:=zR ns (k+2) 3 (by omega) (by omega)
    obtain⟨t,r,s⟩:=uk ns d n (by omega) (by omega) (3*k+40) (by omega)
    refine⟨.tup [.str "many",t,.int q,.int (if q+q2 < 3 then q+q2 else 3)], ?_, ?_⟩
    ·have hs5:([.vl (scr ns),.vl (.int k),.vl (.int ((d+1:Nat):Int)),.vl (.int p),.un,.un]:En).set 5 (.vl (.int q))=[.vl (scr ns),.vl (.int k),.vl (.int ((d+1:Nat):Int)),.vl (.int p),.un,.vl (.int q)]:=rfl;simp only[az,if_false,v0,v1,zh,zM,bOk,zP,e1,zS,hs5,Zy,Ja,ZV,ZI];refine tup4 rfl ?_ rfl ?_
     ·simp only[Za,v0,v1,v2,zh,zM,bOk,KT,zP,jd,hsub,r]
     ·have v5:∀{t:T} {a b c d e:Sl} {ρ:En},vE 5 (a :: b :: c :: d :: e :: .vl t :: ρ)= .ok t:=rfl;simp only[Za,v0,v1,v5,zh,zM,bOk,zP,e2,vM]
    ·show (jc 0 3 (.int q) (.int _) && isK d t)=true;rw[s,Bool.and_true];show (decide (0<=q) && decide (q<=_) && decide (_<=(3:Int)))=true;rw[decide_eq_true (by omega),decide_eq_true (by split <;> omega),decide_eq_true (by split <;> omega)];rfl
mutual
def dep:T->Nat
 | .tup xs=>jt xs+1
 | .lst xs=>jt xs+1
 | _=>1
def jt:List T->Nat
 | []=>0
 | t :: ts=>max (dep t) (jt ts)
end
mutual
def siz:T->Nat
 | .tup xs=>j7 xs+1
 | .lst xs=>j7 xs+1
 | _=>1
def j7:List T->Nat
 | []=>0
 | t :: ts=>siz t+j7 ts
end
theorem Jk {w:Str}{t:T}(h:isS w t=true):t= .str w:=by
 cases t with
 | str s=>
  have:(s == w)=true:=h;rw[eq_of_beq this]
 | _=>cases h
theorem YG {lo hi:Int}{t:T}(h:inR lo hi t=true):∃i,t= .int i:=by
 cases t with
 | int i=>exact⟨i,rfl⟩
 | _=>cases h
theorem Jr {lo hi:Int}{a b:T}(h:jc lo hi a b=true):∃i j,a= .int i/\b= .int j:=by
 cases a with
 | int i=>
  cases b with
  | int j=>exact⟨i,j,rfl,rfl⟩
  | _=>cases h
 | _=>cases h
structure Fit (D S:Nat) (t:T):Prop where
 so:sOk t
 dp:dep t<=D
 sz:siz t<=S
theorem UO {c:T}(h:zm c=true):Fit 2 3 c:=by
 unfold zm at h;split at h
 ·rename_i w i;have hw:Z1 w=true:=by
   rw[ak,ak]at h;exact h.1.1
  cases w with
  | str x=>
   have hx:(decide (1<=x.length) && decide (x.length<=3) && x.cps.toList.all zV)=true:=hw;rw[ak,ak,decide_eq_true_eq,decide_eq_true_eq]at hx;refine⟨?_, ?_, ?_⟩
   ·simp only[sOk,jm,and_true];exact aF hx.1.2 (by decide)
   ·simp[dep,jt]
   ·simp[siz,j7]
  | _=>cases hw
 ·cases h
theorem z17 {D S:Nat}:∀{cs:List T},(∀c∈cs,Fit D S c)->jm cs/\jt cs<=D/\j7 cs<=S*cs.length
 | [],_=>⟨by simp only[jm],bO _,bO _⟩
 | c :: cs,h=>by
  obtain⟨a,b,d⟩:=z17 (cs:=cs) λx hx=>h x (af _ hx);obtain⟨x,y,z⟩:=h c aw;refine⟨?_, ?_, ?_⟩
  ·simp only[jm];exact⟨x,a⟩
  ·simp only[jt];omega
  ·simp only[j7,ah,Nat.mul_add,Nat.mul_one];omega
theorem jT:∀(d:Nat) (t:T),isK d t=true->Fit (2*d+2) (15*4 ^ d) t
 | 0,_,h=>by cases h
 | d+1,t,h=>by
  have hpow:4 ^ (d+1)=4*4 ^ d:=by rw[cU,bG]
  have hone:1<=4 ^ d:=Nat.pow_pos (by omega)
  have h:wV (isK d) t=true:=h;unfold wV at h;split at h
  ·rename_i hd r;split at h
   ·rename_i e;rw[Jk e];unfold Jj at h;split at h
    ·obtain⟨i,j,rfl,rfl⟩:=Jr h;refine⟨by simp only[sOk,jm,and_true];decide,by simp only[dep,jt];omega,by simp only[siz,j7];omega⟩
    ·cases h
   ·split at h
    ·rename_i e;rw[Jk e];unfold Wz at h;split at h
     ·rename_i c;unfold Wy at h;split at h
      ·rename_i cs;rw[ak,ak,ak,decide_eq_true_eq,decide_eq_true_eq]at h;obtain⟨a,b,z⟩:=z17 (D:=2) (S:=3) (cs:=cs) λc hc=>UO (aT.mp h.1.2 c hc);refine⟨by simp only[sOk,jm,and_true];exact⟨by decide,a⟩,by simp only[dep,jt];omega,by simp only[siz,j7];omega⟩
      ·cases h
     ·cases h
    ·split at h
     ·rename_i e;rw[Jk e];unfold vH at h;split at h
      ·rename_i c;unfold JK at h;split at h
       ·rename_i cs;rw[ak,ak,decide_eq_true_eq,decide_eq_true_eq]at h;obtain⟨a,b,z⟩:=z17 (D:=2*d+2) (S:=15*4 ^ d) (cs:=cs) λc hc=>jT d c (aT.mp h.2 c hc);have:15*4 ^ d*cs.length<=15*4 ^ d*3:=Nat.mul_le_mul_left _ h.1.2;refine⟨by simp only[sOk,jm,and_true];exact⟨by decide,a⟩,by simp only[dep,jt];omega,by simp only[siz,j7];omega⟩
       ·cases h
      ·cases h
     ·split at h
      ·rename_i e;rw[Jk e];unfold WA at h;split at h
       ·rename_i c a b;rw[ak]at h;obtain⟨i,j,rfl,rfl⟩:=Jr h.1;obtain⟨x,y,z⟩:=jT d c h.2;refine⟨by simp only[sOk,jm,and_true];exact⟨by decide,x⟩,by simp only[dep,jt];omega,by simp only[siz,j7];omega⟩
       ·cases h
      ·cases h
  ·cases h
def Wb:T->List Nat->Option T
 | t,[]=>some t
 | .tup xs,i :: r=>match xs[i]? with | some x=>Wb x r | none=>none
 | _,_ :: _=>none
abbrev pth (p:List Nat):T:= .tup (p.map λ(i:Nat)=>T.int (i:Int))
abbrev vN (c:List T->R T):En->RS:=Qa 1 (zZ (j0 (zc 1 c (za (zd ixT (vE 0) (vE 2)) (zf)))) (zr 0) (Ze) (zd zp (Zd (za (vE 1) (zf))) (vE 0)) 1 [2])
def UP (xs:List T)(j:Nat):Nat:=match xs[j]? with | some x=>siz x | none=>0
theorem ul:∀xs:List T,((aW xs.length).map (UP xs)).sum=j7 xs
 | []=>rfl
 | x :: xs=>by
  rw[ah,cR,aI,cY,br];show siz x+((aW xs.length).map (UP xs)).sum=siz x+j7 xs;rw[ul xs]
theorem wZ:∀{xs:List T} {x:T},x∈xs->siz x<=j7 xs
 | y :: ys,x,h=>by
  simp only[j7];rcases aG.mp h with rfl | h
  ·omega
  ·have:=wZ h;omega
theorem um (t:T):1<=siz t:=by cases t <;> simp[siz]
theorem U1:∀{t u:T} (p:List Nat),Wb t p=some u->p.length < siz t
 | t,_,[],_=>um t
 | .tup xs,u,i :: r,h=>by
  have h:(match xs[i]? with | some x=>Wb x r | none=>none)=some u:=h
  cases hx:xs[i]? with
  | none=>rw[hx]at h;cases h
  | some x=>
   rw[hx]at h;have a:=U1 r h;have b:=wZ (bq hx);simp only[siz,ah];omega
 | .non,_,_ :: _,h=>by cases h
 | .bl _,_,_ :: _,h=>by cases h
 | .int _,_,_ :: _,h=>by cases h
 | .str _,_,_ :: _,h=>by cases h
 | .lst _,_,_ :: _,h=>by cases h
 | .fz _,_,_ :: _,h=>by cases h
theorem z18 {f:En->R T}{ρ:En}{x:T}(hf:f ρ= .ok x):Zd (za f zf) ρ= .ok (.tup [x]):=by
 unfold Zd za zf;rw[hf];rfl
theorem U2 {c:List T->R T}{xs:List T}(H:∀x∈xs,∃ps:List (List Nat),c [x]= .ok (.lst (ps.map pth))/\ps.length<=siz x/\∀p∈ps,∃u,Wb x p=some u):
  ∀(js:List Nat),(∀j∈js,j < xs.length)->∀(acc:List (List Nat)) (x2:Sl),(∀p∈acc,∃u,Wb (.tup xs) p=some u)->acc.length+(js.map (UP xs)).sum<=bnd->
  ∃(acc' :List (List Nat)) (y2:Sl),Zk (zr 2) (vN c) (js.map λ(j:Nat)=>T.int (0+(j:Int))) [.vl (.tup xs),.ow (acc.map pth),x2]= .nx [.vl (.tup xs),.ow (acc'.map pth),y2]/\acc.length<=acc'.length/\acc'.length<=acc.length+(js.map (UP xs)).sum/\∀p∈acc',∃u,Wb (.tup xs) p=some u
 | [],_,acc,x2,ha,hl=>⟨acc,x2,rfl,am _,by simp,ha⟩
 | j :: js,hj,acc,x2,ha,hl=>by
  have hjl:j < xs.length:=hj j aw;have hx:xs[j]? =some xs[j]:=aj hjl;obtain⟨ps,e1,e2,e3⟩:=H xs[j] (ie hjl);have hsz:UP xs j=siz xs[j]:=by unfold UP;rw[hx]
  rw[aI,cY,hsz]at hl;have e:Zk (zr 2) (vN c) ((j :: js).map λ(j:Nat)=>T.int (0+(j:Int))) [.vl (.tup xs),.ow (acc.map pth),x2]=match vN c [.vl (.tup xs),.ow (acc.map pth),.vl (.int (0+(j:Int)))] with
   | .nx ρ2=>Zk (zr 2) (vN c) (js.map λ(j:Nat)=>T.int (0+(j:Int))) ρ2
   | .ct ρ2=>Zk (zr 2) (vN c) (js.map λ(j:Nat)=>T.int (0+(j:Int))) ρ2
   | .bk ρ2=> .nx ρ2
   | r=>r:=rfl
  have eb:vN c [.vl (.tup xs),.ow (acc.map pth),.vl (.int (0+(j:Int)))]= .nx [.vl (.tup xs),.ow ((acc++ps.map (j :: ·)).map pth),.vl (.int (0+(j:Int)))]:=by
   have ex:ixT (.tup xs) (.int (0+(j:Int)))= .ok xs[j]:=by
    rw[f9];show atT xs j=_;unfold atT;rw[ZD hx]
   have ei:j0 (zc 1 c (za (zd ixT (vE 0) (vE 2)) (zf))) [.vl (.tup xs),.ow (acc.map pth),.vl (.int (0+(j:Int)))]= .ok (ps.map pth):=by
    simp only[ZX,Z5,zh,v0,v2,bOk,ex,e1];rfl
   have ec:zI (zr 0) Ze (zd zp (Zd (za (vE 1) (zf))) (vE 0)) 1 [2] [.vl (.tup xs),.ow (acc.map pth),.vl (.int (0+(j:Int)))] (ps.map pth)= .ok ((ps.map pth).map λt=>match t with | .tup q=> .tup (.int (0+(j:Int)) :: q) | t=>t):=
    Z9 _ (by rw[ae];omega) λt ht=>by
     obtain⟨p,hp,rfl⟩:=aO.mp ht;show zd zp (Zd (za (vE 1) (zf))) (vE 0) [.vl (pth p),.vl (.int (0+(j:Int)))]=_;rw[zh,z18 v1,bOk,v0,bOk];obtain⟨u,hu⟩:=e3 p hp;have hpl:=U1 p hu;show (if [T.int (0+(j:Int))].length+(p.map λ(i:Nat)=>T.int (i:Int)).length<=bnd then R.ok (T.tup _) else .bad)=_
     rw[if_pos (by rw[ae,aE];omega)]
     rfl
   show ((zZ _ _ _ _ _ _ _).s λt=>match t with | .lst us=>if (acc.map pth).length+us.length<=bnd then RS.nx _ else .bad | _=> .bad)=_
   rw[zT,ei,bOk,ec,bOk,zS];show (if _ then _ else _)=_
   rw[if_pos (by simp only[ae];omega)]
   rw[bE,br,br];show RS.nx [.vl (.tup xs),.ow (acc.map pth++_),.vl (.int (0+(j:Int)))]=_;have hm:List.map ((λt=>match t with | .tup q=>T.tup (.int (0+(j:Int)) :: q) | t=>t) ∘ pth) ps=List.map (pth ∘ λx=>j :: x) ps:=by
    refine cj λp _=> ?_;show T.tup (T.int (0+(j:Int)) :: _)=T.tup (T.int (j:Int) :: _);rw[f9]
   rw[← hm]
  rw[e,eb];obtain⟨acc',y2,r1,r2,r3,r4⟩:=U2 H js (λi hi=>hj i (af _ hi)) (acc++ps.map (j :: ·)) (.vl (.int (0+(j:Int)))) (λp hp=>by
   rcases dN.mp hp with z | z
   ·exact ha p z
   ·obtain⟨q,hq,rfl⟩:=aO.mp z;obtain⟨u,hu⟩:=e3 q hq;refine⟨u, ?_⟩;show (match xs[j]? with | some x=>Wb x q | none=>none)=some u
    rw[hx];exact hu) (by rw[aB,ae];omega)
  rw[aB,ae]at r2 r3;refine⟨acc',y2,r1,by omega, ?_,r4⟩
  rw[aI,cY,hsz];omega
theorem YH:∀{xs:List T} {x:T},x∈xs->dep x<=jt xs
 | y :: ys,x,h=>by
  simp only[jt];rcases aG.mp h with rfl | h
  ·omega
  ·have:=YH h;omega
def lim:Nat:=900000
theorem uo:lim+lim+lim+10<=bnd:=by decide
theorem xN:(lim:Int)+10 < 1000000:=by decide
abbrev UQ (c:List T->R T)(t:T):Prop:=∃ps:List (List Nat),c [t]= .ok (.lst (ps.map pth))/\0 < ps.length/\ps.length<=siz t/\∀p∈ps,∃u,Wb t p=some u
theorem Js:∀xs:List T,xs.length<=j7 xs
 | []=>bO _
 | x :: xs=>by
  have:=um x;have:=Js xs;simp only[j7,ah];omega
theorem KW {xs:List T}{a b:Sl}(h:(xs.length:Int) < 1000000):Zf (ap1 Z2 (vB 0)) [.vl (.tup xs),a,b]= .ok (rng 0 xs.length):=by
 unfold Zf;rw[Zz,w0,bOk,j3,bOk];dsimp only;rw[if_pos ⟨by omega,by omega⟩,ba]
theorem YI (t:T)(ps:List (List Nat))(y:Sl):zj (zv (vE 1) [.vl t,.ow (ps.map pth),y])= .ok (.lst (ps.map pth)):=rfl
theorem KY (t:T):UE 1 (za (Zd zf) zf) [.vl t,.un,.un]= .nx [.vl t,.ow [.tup []],.un]:=rfl
theorem vO {c:List T->R T}(t:T):zj (b_o c (en0 3 [t]))=zj (match (tru (.bl (isT "tuple" t))).s λk=>if k=true then ja (Zf (ap1 Z2 (vB 0))) (zr 2) (vN c) [.vl t,.ow [.tup []],.un] else nxS [.vl t,.ow [.tup []],.un] with | .nx ρ=>zv (vE 1) ρ | r=>r):=by
 have e:zj (b_o c (en0 3 [t]))=zj (b_o c [.vl t,.un,.un]):=rfl;rw[e,b_o,zu,KY];dsimp only;rw[zu,Zm,jz,Zz,w0,bOk];rfl
theorem UR {c:List T->R T}(xs:List T)(hs:j7 xs+1<=lim)(H:∀x∈xs,UQ c x):UQ (λts=>zj (b_o c (en0 3 ts))) (.tup xs):=by
 have hb:=uo;have hm:=xN;have H:∀x∈xs,∃ps:List (List Nat),c [x]= .ok (.lst (ps.map pth))/\ps.length<=siz x/\∀p∈ps,∃u,Wb x p=some u:=λx hx=>by
  obtain⟨ps,r1,r2,r3,r4⟩:=H x hx;exact⟨ps,r1,r3,r4⟩
 have hlen:=Js xs;obtain⟨acc,y,r1,r2,r3,r4⟩:=U2 H (aW xs.length) (λj hj=>bu.mp hj) [[]] .un (λp hp=>by
  rw[aY.mp hp];exact⟨_,rfl⟩) (by rw[ul,aE];omega)
 rw[ul,aE]at r3;rw[aE]at r2;refine⟨acc, ?_,by omega,by simp only[siz];omega,r4⟩
 have ef:ja (Zf (ap1 Z2 (vB 0))) (zr 2) (vN c) [.vl (.tup xs),.ow [.tup []],.un]= .nx [.vl (.tup xs),.ow (acc.map pth),y]:=by
  unfold ja;rw[KW (by omega),zS]
  exact r1
 dsimp only;rw[vO,show isT "tuple" (.tup xs)=true from rfl,Zo,zS,if_pos rfl,ef];exact YI _ acc y
theorem US {c:List T->R T}(t:T)(ht:∀xs,t ≠ .tup xs):UQ (λts=>zj (b_o c (en0 3 ts))) t:=by
 have e:isT "tuple" t=false:=by
  cases t with
  | tup xs=>exact(ht xs rfl).elim
  | _=>rfl
 refine⟨[[]], ?_,by decide,um t,λp hp=> ?_⟩
 ·dsimp only;rw[vO,e,Zo,zS,if_neg av];exact YI t [[]] .un
 rw[aY.mp hp];exact⟨t,by cases t <;> rfl⟩
theorem uq {c:List T->R T}(t:T)(hs:siz t<=lim)(H:∀xs,t= .tup xs->∀x∈xs,UQ c x):UQ (λts=>zj (b_o c (en0 3 ts))) t:=by
 by_cases ht:∃xs,t= .tup xs
 ·obtain⟨xs,rfl⟩:=ht;simp only[siz]at hs;exact UR xs hs (H xs rfl)
 ·exact US t λxs z=>ht ⟨xs,z⟩
theorem YJ (n:Nat):∀(t:T),dep t<=n->siz t<=lim->UQ (S_o n 0) t:=by
 induction n with
 | zero=>intro t h;cases t <;> simp[dep]at h
 | succ n ih=>
  intro t h hs;exact uq t hs λxs e x hx=>by
   subst e;simp only[dep,siz]at h hs;have a:=YH hx;have b:=wZ hx;exact ih x (by omega) (by omega)
theorem vP {xs:List T}{j:Nat}{x:T}(h:xs[j]? =some x):ixT (.tup xs) (.int (j:Int))= .ok x:=by
 show atT xs j=_;unfold atT;rw[ZD h]
theorem JP {xs:List T}{i:Nat}{r:List Nat}{u:T}(h:Wb (.tup xs) (i :: r)=some u):∃x,xs[i]? =some x/\Wb x r=some u:=by
 have h:(match xs[i]? with | some x=>Wb x r | none=>none)=some u:=h
 cases hx:xs[i]? with
 | none=>rw[hx]at h;cases h
 | some x=>rw[hx]at h;exact⟨x,rfl,h⟩
theorem W0 {t:T}{i:Nat}{r:List Nat}{u:T}(h:Wb t (i :: r)=some u):∃xs,t= .tup xs:=by
 cases t with
 | tup xs=>exact⟨xs,rfl⟩
 | _=>cases h
theorem U3 (t:T):Wb t []=some t:=by cases t <;> rfl
theorem YK {X:Sl}:∀(p:List Nat) (t u:T) (y:Sl),Wb t p=some u->∃y',Zk (zr 2) (zt 0 (zd ixT (vE 0) (vE 2))) (p.map λ(i:Nat)=>T.int (i:Int)) [.vl t,X,y]= .nx [.vl u,X,y']
 | [],t,u,y,h=>by
  rw[U3]at h;cases h;exact⟨y,rfl⟩
 | i :: r,t,u,y,h=>by
  obtain⟨xs,rfl⟩:=W0 h;obtain⟨x,hx,hr⟩:=JP h;obtain⟨y',e⟩:=YK (X:=X) r x u (.vl (.int (i:Int))) hr;refine⟨y', ?_⟩;have e1:Zk (zr 2) (zt 0 (zd ixT (vE 0) (vE 2))) ((i :: r).map λ(i:Nat)=>T.int (i:Int)) [.vl (.tup xs),X,y]=match zt 0 (zd ixT (vE 0) (vE 2)) [.vl (.tup xs),X,.vl (.int (i:Int))] with
   | .nx ρ2=>Zk (zr 2) (zt 0 (zd ixT (vE 0) (vE 2))) (r.map λ(j:Nat)=>T.int (j:Int)) ρ2
   | .ct ρ2=>Zk (zr 2) (zt 0 (zd ixT (vE 0) (vE 2))) (r.map λ(j:Nat)=>T.int (j:Int)) ρ2
   | .bk ρ2=> .nx ρ2
   | r=>r:=rfl
  rw[e1,Zs,zh,v0,bOk,v2,bOk,vP hx,zS];exact e
theorem z19 {t u:T}{p:List Nat}(h:Wb t p=some u):Xv [t,pth p]= .ok u:=by
 obtain⟨y',e⟩:=YK (X:= .vl (pth p)) p t u .un h;have e0:Xv [t,pth p]=zj (Gq [.vl t,.vl (pth p),.un]):=rfl;have ef:ja (j0 (vE 1)) (zr 2) (zt 0 (zd ixT (vE 0) (vE 2))) [.vl t,.vl (pth p),.un]= .nx [.vl u,.vl (pth p),y']:=e;rw[e0,Gq,zu,ef];rfl
def WE:T->List Nat->T->T
 | _,[],v=>v
 | .tup xs,i :: r,v=>match xs[i]? with
  | some x=> .tup (xs.take i++[WE x r v]++xs.drop (i+1))
  | none=> .tup xs
 | t,_ :: _,_=>t
theorem YL {xs:List T}{i:Nat}(h:i < xs.length):slT (.tup xs) none (some (i:Int))= .ok (.tup (xs.take i)):=by
 show R.ok (T.tup (cut xs none (some (i:Int))))=_;have:cut xs none (some (i:Int))=xs.take i:=by
  unfold cut;rw[HT.sIx_none,HT.sIx_nat,dn (by omega),Nat.sub_zero,fA]
 rw[this]
theorem YM {xs:List T}{i:Nat}(h:i<=xs.length):slT (.tup xs) (some (i:Int)) none= .ok (.tup (xs.drop i)):=by
 show R.ok (T.tup (cut xs (some (i:Int)) none))=_;have:cut xs (some (i:Int)) none=xs.drop i:=by
  unfold cut;rw[HT.sIx_none,HT.sIx_nat,dn h];exact f7 (by rw[cJ];omega)
 rw[this]
theorem QG {xs:List T}{i j:Nat}(hi:i<=xs.length)(hj:j<=xs.length):slT (.tup xs) (some (i:Int)) (some (j:Int))= .ok (.tup ((xs.drop i).take (j - i))):=by
 show R.ok (T.tup (cut xs (some (i:Int)) (some (j:Int))))=_;have:cut xs (some (i:Int)) (some (j:Int))=(xs.drop i).take (j - i):=by
  unfold cut;rw[HT.sIx_nat,HT.sIx_nat,dn hi,dn hj]
 rw[this]
theorem wq {xs ys:List T}(h:xs.length+ys.length<=bnd):zp (.tup xs) (.tup ys)= .ok (.tup (xs++ys)):=if_pos h
theorem Jl {f:En->R T}{ρ:En}{i:Int}(h:f ρ= .ok (.int i)):Zq f ρ= .ok (some i):=by
 unfold Zq;rw[h];rfl
theorem QH {c:List T->R T}{xs:List T}{i:Nat}{r:List Nat}{v x w:T}(hx:xs[i]? =some x)(hl:xs.length<=lim)(hc:c [x,pth r,v]= .ok w):
  zj (b_c c (en0 4 [.tup xs,pth (i :: r),v]))= .ok (.tup (xs.take i++[w]++xs.drop (i+1))):=by
 have hi:i < xs.length:=(aq.mp hx).1;have hb:=uo;have e:zj (b_c c (en0 4 [.tup xs,pth (i :: r),v]))=zj (b_c c [.vl (.tup xs),.vl (pth (i :: r)),.vl v,.un]):=rfl;have e1:zx eqC (vB 1) (Zd zf) [.vl (.tup xs),.vl (pth (i :: r)),.vl v,.un]= .ok false:=rfl;have e2:zt 3 (zd ixT (vE 1) (cE (.int 0))) [.vl (.tup xs),.vl (pth (i :: r)),.vl v,.un]= .nx [.vl (.tup xs),.vl (pth (i :: r)),.vl v,.vl (.int (i:Int))]:=by
  rw[Zs,zh,v1,bOk,zM,bOk,show ixT (pth (i :: r)) (.int 0)= .ok (.int (i:Int)) from at0,zS];rfl
 rw[e,b_c,zu,Zm,e1,zS,if_neg av];unfold nxS;dsimp only;rw[zu,e2];dsimp only;rw[zL,Zy,Zy,Zy,Zy,ZV,ZI];have ep:slE (vE 1) (Zq (cE (.int 1))) noO [.vl (.tup xs),.vl (pth (i :: r)),.vl v,.vl (.int (i:Int))]= .ok (pth r):=by
  rw[wY,v1,bOk,vK,bOk,vL,bOk];exact cut1
 have ec:zc 3 c (za (zd ixT (vE 0) (vE 3)) (za (slE (vE 1) (Zq (cE (.int 1))) (noO)) (za (vE 2) (zf)))) [.vl (.tup xs),.vl (pth (i :: r)),.vl v,.vl (.int (i:Int))]= .ok w:=by
  rw[Za,zh,v0,bOk,v3,bOk,vP hx,bOk,ep,bOk,v2,bOk,hc]
 have ea:zp (.int (i:Int)) (.int 1)= .ok (.int ((i+1:Nat):Int)):=by
  rw[zP,fq];rfl
 have eb:zd zp (vE 3) (cE (.int 1)) [.vl (.tup xs),.vl (pth (i :: r)),.vl v,.vl (.int (i:Int))]= .ok (.int ((i+1:Nat):Int)):=by
  rw[zh,v3,bOk,zM,bOk,ea]
 rw[zh,zh,wY,v0,bOk,vL,bOk,Jl v3,bOk,YL hi,bOk,z18 ec,bOk,wq (by rw[bT,aE];omega),bOk,wY,v0,bOk,Jl eb,bOk,vL,bOk,YM (by omega),bOk]
 exact wq (by rw[aB,bT,aE,cJ];omega)
theorem KZ (n:Nat):∀(p:List Nat) (t u v:T),p.length < n->siz t<=lim->Wb t p=some u->S_c n 0 [t,pth p,v]= .ok (WE t p v):=by
 induction n with
 | zero=>intro p t u v h;omega
 | succ n ih=>
  intro p t u v h hs hg;cases p with
  | nil=>
   have:WE t [] v=v:=by cases t <;> rfl
   rw[this];rfl
  | cons i r=>
   obtain⟨xs,rfl⟩:=W0 hg;obtain⟨x,hx,hr⟩:=JP hg;simp only[siz]at hs;have hl:=Js xs;have hz:=wZ (bq hx);rw[ah]at h;have hc:=ih r x u v (by omega) (by omega) hr
   have:=QH (c:=S_c n 0) (r:=r) hx (by omega) hc
   have e:WE (.tup xs) (i :: r) v= .tup (xs.take i++[WE x r v]++xs.drop (i+1)):=by
    show (match xs[i]? with | some x=>T.tup (xs.take i++[WE x r v]++xs.drop (i+1)) | none=> .tup xs)=_
    rw[hx]
   rw[e];exact this
theorem jn:∀(xs ys:List T),j7 (xs++ys)=j7 xs+j7 ys
 | [],ys=>by simp[j7]
 | x :: xs,ys=>by simp only[bV,j7,jn xs ys];omega
theorem jo:∀(xs ys:List T),jt (xs++ys)=max (jt xs) (jt ys)
 | [],ys=>by simp[jt]
 | x :: xs,ys=>by simp only[bV,jt,jo xs ys,Nat.max_assoc]
theorem jp:∀{xs ys:List T},jm (xs++ys)↔jm xs/\jm ys
 | [],ys=>by simp[jm]
 | x :: xs,ys=>by simp only[bV,jm,jp (xs:=xs) (ys:=ys),and_assoc]
theorem QI {xs:List T}{i:Nat}{x:T}(h:xs[i]? =some x):xs=xs.take i++([x]++xs.drop (i+1)):=by
 obtain⟨hi,rfl⟩:=aq.mp h;rw[List.singleton_append,← cz,List.take_append_drop]
theorem JQ {xs:List T}{i:Nat}{x:T}(h:xs[i]? =some x):(jm xs->jm (xs.take i)/\sOk x/\jm (xs.drop (i+1)))/\jt (xs.take i)<=jt xs/\dep x<=jt xs/\jt (xs.drop (i+1))<=jt xs/\j7 (xs.take i)+siz x+j7 (xs.drop (i+1))=j7 xs:=by
 have e:=QI h;have e1:jm xs↔jm (xs.take i)/\jm [x]/\jm (xs.drop (i+1)):=by
  conv=>lhs;rw[e,jp,jp]
 have e2:jt xs=max (jt (xs.take i)) (max (jt [x]) (jt (xs.drop (i+1)))):=by
  conv=>lhs;rw[e,jo,jo]
 have e3:j7 xs=j7 (xs.take i)+(j7 [x]+j7 (xs.drop (i+1))):=by
  conv=>lhs;rw[e,jn,jn]
 simp only[jt,j7,Nat.add_zero,Nat.max_zero]at e2 e3;refine⟨λq=> ?_,by omega,by omega,by omega,by omega⟩
 have:=e1.mp q;simp only[jm,and_true]at this;exact this
theorem YN:∀(p:List Nat) (t v:T),sOk t->sOk v->sOk (WE t p v)/\dep (WE t p v)<=dep t+dep v/\siz (WE t p v)<=siz t+siz v
 | [],t,v,ht,hv=>by
  have:WE t [] v=v:=by cases t <;> rfl
  rw[this];exact⟨hv,by omega,by omega⟩
 | i :: r,t,v,ht,hv=>by
  by_cases hx:∃xs x,t= .tup xs/\xs[i]? =some x
  ·obtain⟨xs,x,rfl,hx⟩:=hx;have e:WE (.tup xs) (i :: r) v= .tup (xs.take i++[WE x r v]++xs.drop (i+1)):=by
    show (match xs[i]? with | some x=>T.tup (xs.take i++[WE x r v]++xs.drop (i+1)) | none=> .tup xs)=_
    rw[hx]
   obtain⟨q1,q2,q3,q4,q5⟩:=JQ hx;obtain⟨s1,s2,s3⟩:=q1 (ZK ht);obtain⟨i1,i2,i3⟩:=YN r x v s2 hv;rw[e];refine⟨?_, ?_, ?_⟩
   ·simp only[sOk,jp,jm,and_true];exact⟨⟨s1,i1⟩,s3⟩
   ·simp only[dep,jo,jt,Nat.max_zero];omega
   ·simp only[siz,jn,j7,Nat.add_zero];omega
  ·have:WE t (i :: r) v=t:=by
    cases t with
    | tup xs=>
     show (match xs[i]? with | some x=>T.tup (xs.take i++[WE x r v]++xs.drop (i+1)) | none=> .tup xs)=_
     cases hi:xs[i]? with
     | none=>rfl
     | some x=>exact(hx ⟨xs,x,rfl,hi⟩).elim
    | _=>rfl
   rw[this];exact⟨ht,by omega,by omega⟩
theorem YO:∀(p:List Nat) (t u:T),Wb t p=some u->(sOk t->sOk u)/\dep u+p.length<=dep t/\siz u<=siz t
 | [],t,u,h=>by
  rw[U3]at h;cases h;exact⟨id,am _,am _⟩
 | i :: r,t,u,h=>by
  obtain⟨xs,rfl⟩:=W0 h;obtain⟨x,hx,hr⟩:=JP h;obtain⟨q1,q2,q3,q4,q5⟩:=JQ hx;obtain⟨i1,i2,i3⟩:=YO r x u hr;refine⟨λq=>i1 (q1 (ZK q)).2.1, ?_, ?_⟩
  ·simp only[dep,ah];omega
  ·simp only[siz];omega
theorem YQ (t:T):1<=dep t:=by cases t <;> simp[dep]
theorem YR {xs:List T}{j:Nat}{x:T}(h:xs[j]? =some x):ixT (.lst xs) (.int (j:Int))= .ok x:=by
 show atT xs j=_;unfold atT;rw[ZD h]
theorem ixl {xs:List T}{i:Int}(h0:0<=i)(h1:i < (xs.length:Int)):∃x,ixT (.lst xs) (.int i)= .ok x/\x∈xs:=by
 have hj:i.toNat < xs.length:=by omega
 have e:i=((i.toNat:Nat):Int):=by omega
 have q:=YR (aj hj);rw[← e]at q;exact⟨xs[i.toNat],q,ie hj⟩
def jf (u:T):List T:=[.int 0,.int 1,.int (-21),.int 21,.int 3,.int 4,.bl true,.non,.str "a",.str "abcd",.str "A",.str "",.str "many",.str "row",.tup [],.tup [u],.lst [u],.tup [.str "whole",.int 1,.int 0]]
theorem UT {u:T}{D S:Nat}(h:Fit D S u):∀v∈jf u,Fit (D+2) (2*S+4) v:=by
 obtain⟨h1,h2,h3⟩:=h;have hl:∀n:Nat,n<=10->n<=bnd:=λn h=>aF h (by decide)
 intro v hv;unfold jf at hv;simp only[aG,bP,or_false]at hv;rcases hv with rfl | rfl | rfl | rfl | rfl | rfl | rfl | rfl | rfl | rfl | rfl | rfl | rfl | rfl | rfl | rfl | rfl | rfl
 all_goals first
  | exact⟨by simp only[sOk,jm,and_true];first | decide | exact h1,by simp only[dep,jt];omega,by simp only[siz,j7];omega⟩
  | exact⟨by simp only[sOk,jm],by simp only[dep,jt];omega,by simp only[siz,j7];omega⟩
  | exact⟨hl _ (by decide),by simp only[dep,jt];omega,by simp only[siz,j7];omega⟩
theorem W1 {a b t d p e g h i:T}{j:Sl}{f:En->R T}{v w:T}(hj:wk j=j)(hf:f [.vl a,.vl b,.vl t,.vl d,.vl p,.vl e,.vl g,.vl h,j]= .ok v)(hw:f_c 40 [t,p,v]= .ok w):
  zj (zv (zc 3 (f_c 40) (za (vE 2) (za (vE 4) (za f zf)))) [.vl a,.vl b,.vl t,.vl d,.vl p,.vl e,.vl g,.vl h,j])= .ok w:=by
 have ez:frz [.vl a,.vl b,.vl t,.vl d,.vl p,.vl e,.vl g,.vl h,j]=[.vl a,.vl b,.vl t,.vl d,.vl p,.vl e,.vl g,.vl h,j]:=by
  show [Sl.vl a,.vl b,.vl t,.vl d,.vl p,.vl e,.vl g,.vl h,wk j]=_;rw[hj]
 rw[zL,ez,ZI,Za,v2,bOk,v4,bOk,hf,bOk];exact hw
theorem z1a (j:Int):zO (.int 2) (.int j)= .ok (.int (2*j)):=UN _ _ (.inl ⟨by decide,by decide⟩)
abbrev QJ:En->R T:=zd zp (slE (vE 5) (noO) (Zq (vE 8))) (slE (vE 5) (Zq (zd zp (vE 8) (cE (.int 1)))) (noO))
abbrev QK:En->R T:=zd zp (zd zp (slE (vE 5) (noO) (Zq (vE 8))) (slE (vE 5) (Zq (vE 8)) (Zq (zd zp (vE 8) (cE (.int 1)))))) (slE (vE 5) (Zq (vE 8)) (noO))
abbrev en9 (a:T)(k:Int)(t d p e:T)(g:List T)(w:Int)(j:Sl):En:=[.vl a,.vl (.int k),.vl t,.vl d,.vl p,.vl e,.vl (.lst g),.vl (.int w),j]
theorem WF {xs:List T}{i:Nat}{x:T}(h:xs[i]? =some x):xs.drop i=x :: xs.drop (i+1):=by
 obtain⟨hi,rfl⟩:=aq.mp h;exact cz hi
theorem xO {a t d p:T}{g xs:List T}{k w:Int}{i:Nat}{x:T}(hx:xs[i]? =some x)(hl:xs.length<=lim):
  QJ (en9 a k t d p (.tup xs) g w (.vl (.int (i:Int))))= .ok (.tup (xs.take i++xs.drop (i+1)))/\
  QK (en9 a k t d p (.tup xs) g w (.vl (.int (i:Int))))= .ok (.tup (xs.take i++[x]++(x :: xs.drop (i+1)))):=by
 have hi:i < xs.length:=(aq.mp hx).1;have hb:=uo;have e5:vE 5 (en9 a k t d p (.tup xs) g w (.vl (.int (i:Int))))= .ok (.tup xs):=rfl;have e8:vE 8 (en9 a k t d p (.tup xs) g w (.vl (.int (i:Int))))= .ok (.int (i:Int)):=rfl;have ea:zp (.int (i:Int)) (.int 1)= .ok (.int ((i+1:Nat):Int)):=by
  rw[zP,fq];rfl
 have eb:zd zp (vE 8) (cE (.int 1)) (en9 a k t d p (.tup xs) g w (.vl (.int (i:Int))))= .ok (.int ((i+1:Nat):Int)):=by
  rw[zh,e8,bOk,zM,bOk,ea]
 have em:(xs.drop i).take (i+1 - i)=[x]:=by
  rw[WF hx,show i+1 - i=1 from by omega];rfl
 constructor
 ·unfold QJ;rw[zh,wY,e5,bOk,vL,bOk,Jl e8,bOk,YL hi,bOk,wY,e5,bOk,Jl eb,bOk,vL,bOk,YM (by omega),bOk]
  exact wq (by rw[bT,cJ];omega)
 ·unfold QK;rw[zh,zh,wY,e5,bOk,vL,bOk,Jl e8,bOk,YL hi,bOk,wY,e5,bOk,Jl e8,bOk,Jl eb,bOk,QG (by omega) (by omega),bOk,em,wq (by rw[bT,aE];omega),bOk,wY,e5,bOk,Jl e8,bOk,vL,bOk,YM (by omega),bOk,← WF hx]
  exact wq (by rw[aB,bT,aE,cJ];omega)
theorem xP {D S:Nat}{xs:List T}{i:Nat}{x:T}(hx:xs[i]? =some x)(h:Fit D S (.tup xs)):Fit (D+2) (2*S+4) (.tup (xs.take i++xs.drop (i+1)))/\Fit (D+2) (2*S+4) (.tup (xs.take i++[x]++(x :: xs.drop (i+1)))):=by
 obtain⟨h1,h2,h3⟩:=h;obtain⟨q1,q2,q3,q4,q5⟩:=JQ hx;obtain⟨s1,s2,s3⟩:=q1 (ZK h1);simp only[dep,siz]at h2 h3;refine⟨⟨?_, ?_, ?_⟩,⟨?_, ?_, ?_⟩⟩
 ·simp only[sOk,jp];exact⟨s1,s3⟩
 ·simp only[dep,jo];omega
 ·simp only[siz,jn];omega
 ·simp only[sOk,jp,jm,and_true];exact⟨⟨s1,s2⟩,s2,s3⟩
 ·simp only[dep,jo,jt];omega
 ·simp only[siz,jn,j7];omega
abbrev wb (cp:List T->R T)(cput:List T->R T):En->RS:=
  (zo (ifS (JD (Zp (ap1 (j9 "tuple") (vB 5))) (zx neC (vB 5) (Zd (zf)))) (zo (zt 8 (zc 3 cp (za (vE 0) (za (zd zp (vE 1) (cE (.int 2))) (za (ap1 Z2 (vB 5)) (zf))))))
  (zv (zc 3 cput (za (vE 2) (za (vE 4) (za (zd ixT (ZE (za QJ (za QK (zf)))) (zd jN (vE 7) (cE (.int 2)))) (zf))))))) (nxS))
  (zo (ifS (Zp (ap1 (j9 "int") (vB 5))) (zv (zc 3 cput (za (vE 2) (za (vE 4) (za (zd ZS (zd zp (vE 5) (cE (.int 1))) (zd zO (cE (.int 2)) (zd jN (vE 7) (cE (.int 2))))) (zf)))))) (nxS))
  (zv (zc 3 cput (za (vE 2) (za (vE 4) (za (Zd (za (cE (.str "row")) (za (Zd (za (vE 5) (za (vE 5) (zf)))) (zf)))) (zf))))))))
theorem lst2 {f g:En->R T}{ρ:En}{x y:T}(hf:f ρ= .ok x)(hg:g ρ= .ok y):ZE (za f (za g zf)) ρ= .ok (.lst [x,y]):=by
 unfold ZE za zf;rw[hf,hg];rfl
theorem QL (ns:List Int){t d p:T}{g xs:List T}{k w:Int}(h0:0<=k){D S:Nat}(hl:S<=lim)(hF:Fit D S (.tup xs))(hne:xs ≠ [])(H:∀v,Fit (D+2) (2*S+4) v->∃r,f_c 40 [t,p,v]= .ok r):
  ∃v r,Fit (D+2) (2*S+4) v/\f_c 40 [t,p,v]= .ok r/\zj (wb f_5 (f_c 40) (en9 (scr ns) k t d p (.tup xs) g w .un))= .ok r:=by
 have hxl:=Js xs;have hz:=hF.sz;simp only[siz]at hz;have hpos:0 < xs.length:=List.length_pos_iff.mpr hne;obtain⟨q,hq,q0,q1⟩:=zR ns (k+2) (xs.length:Int) (by omega) (by omega)
 have hqi:q=((q.toNat:Nat):Int):=by omega
 have hqx:xs[q.toNat]? =some (xs[q.toNat]'(by omega)):=aj (by omega)
 generalize xs[q.toNat]'(by omega)=x at hqx
 generalize q.toNat=i at hqi hqx;subst hqi;obtain⟨c1,c2⟩:=xO (a:=scr ns) (t:=t) (d:=d) (p:=p) (g:=g) (k:=k) (w:=w) hqx (by omega)
 obtain⟨f1,f2⟩:=xP hqx hF;have ec:JD (Zp (ap1 (j9 "tuple") (vB 5))) (zx neC (vB 5) (Zd (zf))) (en9 (scr ns) k t d p (.tup xs) g w .un)= .ok true:=by
  cases xs with
  | nil=>exact(hne rfl).elim
  | cons _ _=>rfl
 have es:zt 8 (zc 3 f_5 (za (vE 0) (za (zd zp (vE 1) (cE (.int 2))) (za (ap1 Z2 (vB 5)) (zf))))) (en9 (scr ns) k t d p (.tup xs) g w .un)= .nx (en9 (scr ns) k t d p (.tup xs) g w (.vl (.int (i:Int)))):=by
  rw[Zs,Za,v0,bOk,zh,v1,bOk,zM,bOk,zP,bOk,Zz,show vB 5 (en9 (scr ns) k t d p (.tup xs) g w .un)= .ok (.tup xs) from rfl,bOk,j3,bOk,hq,zS];rfl
 have em:zd jN (vE 7) (cE (.int 2)) (en9 (scr ns) k t d p (.tup xs) g w (.vl (.int (i:Int))))= .ok (.int (w % 2)):=rfl;have hm:w % 2=0\/w % 2=1:=by omega
 have go:∀v,zd ixT (ZE (za QJ (za QK (zf)))) (zd jN (vE 7) (cE (.int 2))) (en9 (scr ns) k t d p (.tup xs) g w (.vl (.int (i:Int))))= .ok v->Fit (D+2) (2*S+4) v->∃v r,Fit (D+2) (2*S+4) v/\f_c 40 [t,p,v]= .ok r/\zj (wb f_5 (f_c 40) (en9 (scr ns) k t d p (.tup xs) g w .un))= .ok r:=λv hv fv=>by
  obtain⟨r,hr⟩:=H v fv;refine⟨v,r,fv,hr, ?_⟩;have e1:=W1 (i:= .non) (j:= .vl (.int (i:Int))) rfl hv hr;unfold wb;rw[zu,Zm,ec,zS,if_pos rfl,zu,es];dsimp only;rw[zL]at e1 ⊢;rw[ZI]at e1;rw[e1];rfl
 rcases hm with hm | hm
 ·exact go _ (by rw[zh,lst2 c1 c2,bOk,em,bOk,hm];rfl) f1
 ·exact go _ (by rw[zh,lst2 c1 c2,bOk,em,bOk,hm];rfl) f2
abbrev intE:En->R T:=zd ZS (zd zp (vE 5) (cE (.int 1))) (zd zO (cE (.int 2)) (zd jN (vE 7) (cE (.int 2))))
abbrev rowE:En->R T:=Zd (za (cE (.str "row")) (za (Zd (za (vE 5) (za (vE 5) (zf)))) (zf)))
theorem YS {D S:Nat}(i:Int):Fit (D+2) (2*S+4) (.int i):=⟨by simp only[sOk],by simp only[dep];omega,by simp only[siz];omega⟩
theorem YT {D S:Nat}{u:T}(h:Fit D S u):Fit (D+2) (2*S+4) (.tup [.str "row",.tup [u,u]]):=by
 obtain⟨h1,h2,h3⟩:=h;have hd:=YQ u;refine⟨?_, ?_, ?_⟩
 ·simp only[sOk,jm,and_true];exact⟨by decide,h1,h1⟩
 ·simp only[dep,jt];omega
 ·simp only[siz,j7];omega
theorem QM {cp:List T->R T}{a t d p u:T}{g:List T}{k w:Int}{r:T}(ht:JD (Zp (ap1 (j9 "tuple") (vB 5))) (zx neC (vB 5) (Zd (zf))) (en9 a k t d p u g w .un)= .ok false)(hi:isT "int" u=false)
  (hr:f_c 40 [t,p,.tup [.str "row",.tup [u,u]]]= .ok r):zj (wb cp (f_c 40) (en9 a k t d p u g w .un))= .ok r:=by
 have e1:=W1 (f:=rowE) (a:=a) (b:= .int k) (t:=t) (d:=d) (p:=p) (e:=u) (g:= .lst g) (h:= .int w) (i:= .non) (j:= .un) rfl (QF zM (QF rfl rfl)) hr;have ei:Zp (ap1 (j9 "int") (vB 5)) (en9 a k t d p u g w .un)= .ok false:=by
  show tru (.bl (isT "int" u))=_;rw[hi];rfl
 unfold wb;rw[zu,Zm,ht,zS,if_neg av];unfold nxS;dsimp only;rw[zu,Zm,ei,zS,if_neg av];exact e1
theorem QN {cp:List T->R T}{a t d p u:T}{g:List T}{k w i:Int}{r:T}(ht:isT "tuple" u=false)(hi:isT "int" u=true)(ha:zp u (.int 1)= .ok (.int i))
  (hr:f_c 40 [t,p,.int (i - 2*(w % 2))]= .ok r):zj (wb cp (f_c 40) (en9 a k t d p u g w .un))= .ok r:=by
 have e0:intE (en9 a k t d p u g w .un)= .ok (.int (i - 2*(w % 2))):=by
  show ((zp u (.int 1)).bind λx=>(zO (.int 2) (.int (w % 2))).bind λy=>ZS x y)=_;rw[ha,z1a];rfl
 have e1:=W1 (f:=intE) (a:=a) (b:= .int k) (t:=t) (d:=d) (p:=p) (e:=u) (g:= .lst g) (h:= .int w) (i:= .non) (j:= .un) rfl e0 hr;have et:JD (Zp (ap1 (j9 "tuple") (vB 5))) (zx neC (vB 5) (Zd (zf))) (en9 a k t d p u g w .un)= .ok false:=by
  show (tru (.bl (isT "tuple" u))).bind (λx=>if x=true then _ else R.ok false)=_
  rw[ht];rfl
 have ei:Zp (ap1 (j9 "int") (vB 5)) (en9 a k t d p u g w .un)= .ok true:=by
  show tru (.bl (isT "int" u))=_;rw[hi];rfl
 unfold wb;rw[zu,Zm,et,zS,if_neg av];unfold nxS;dsimp only;rw[zu,Zm,ei,zS,if_pos rfl];rw[zL]at e1 ⊢;rw[ZI]at e1;rw[e1];rfl
theorem xQ (ns:List Int){t d p u:T}{g:List T}{k w:Int}(h0:0<=k){D S:Nat}(hl:S<=lim)(hF:Fit D S u)(H:∀v,Fit (D+2) (2*S+4) v->∃r,f_c 40 [t,p,v]= .ok r):
  ∃v r,Fit (D+2) (2*S+4) v/\f_c 40 [t,p,v]= .ok r/\zj (wb f_5 (f_c 40) (en9 (scr ns) k t d p u g w .un))= .ok r:=by
 have row:JD (Zp (ap1 (j9 "tuple") (vB 5))) (zx neC (vB 5) (Zd (zf))) (en9 (scr ns) k t d p u g w .un)= .ok false->isT "int" u=false->∃v r,Fit (D+2) (2*S+4) v/\f_c 40 [t,p,v]= .ok r/\zj (wb f_5 (f_c 40) (en9 (scr ns) k t d p u g w .un))= .ok r:=λe1 e2=>by
  obtain⟨r,hr⟩:=H _ (YT hF);exact⟨_,r,YT hF,hr,QM e1 e2 hr⟩
 have num:∀i,isT "tuple" u=false->isT "int" u=true->zp u (.int 1)= .ok (.int i)->∃v r,Fit (D+2) (2*S+4) v/\f_c 40 [t,p,v]= .ok r/\zj (wb f_5 (f_c 40) (en9 (scr ns) k t d p u g w .un))= .ok r:=λi e1 e2 e3=>by
  obtain⟨r,hr⟩:=H _ (YS (i - 2*(w % 2)));exact⟨_,r,YS _,hr,QN e1 e2 e3 hr⟩
 cases u with
 | tup xs=>
  by_cases hx:xs=[]
  ·subst hx;exact row rfl rfl
  ·exact QL ns h0 hl hF hx H
 | int i=>exact num (i+1) rfl rfl rfl
 | bl b=>exact num (b2 b+1) rfl rfl rfl
 | non=>exact row rfl rfl
 | str x=>exact row rfl rfl
 | lst x=>exact row rfl rfl
 | fz x=>exact row rfl rfl
theorem YU (ns:List Int)(k:Int)(h0:0<=k){D S:Nat}(hD:D<=40)(hS:S<=lim){t:T}(hF:Fit D S t):
  ∃r,KM [scr ns,.int k,t]= .ok r/\Fit (2*D+2) (3*S+4) r:=by
 obtain⟨ht,hd,hs⟩:=hF;have hs' :=aF hs hS;obtain⟨ps,hp,hp0,hpl,hpv⟩:=YJ 40 t (aF hd hD) hs';have hp:f_o 40 [t]= .ok (.lst (ps.map pth)):=hp;obtain⟨q,hq,q0,q1⟩:=zR ns k (ps.length:Int) h0 (by omega)
 obtain⟨x,ex,hx⟩:=ixl (xs:=ps.map pth) q0 (by rw[ae];exact q1)
 obtain⟨p,hpm,rfl⟩:=aO.mp hx;obtain⟨u,hu⟩:=hpv p hpm;obtain⟨g1,g2,g3⟩:=YO p t u hu;have hdu:=YQ u;have hUF:Fit D S u:=⟨g1 ht,by omega,by omega⟩
 have hput:∀v,f_c 40 [t,pth p,v]= .ok (WE t p v):=λv=>KZ 40 p t u v (by omega) hs' hu
 have fin:∀v,Fit (D+2) (2*S+4) v->Fit (2*D+2) (3*S+4) (WE t p v):=λv hv=>by
  obtain⟨a,b,c⟩:=YN p t v ht hv.so;have:=hv.dp;have:=hv.sz;exact⟨a,by omega,by omega⟩
 obtain⟨w,hw,w0',w1⟩:=zR ns (k+1) 23 (by omega) (by omega)
 have e:KM [scr ns,.int k,t]=zj (Gr f_5 (f_o 40) Xv (f_c 40) [.vl (scr ns),.vl (.int k),.vl t,.un,.un,.un,.un,.un,.un]):=rfl;have e1:zt 3 (zc 1 (f_o 40) (za (vE 2) (zf))) [.vl (scr ns),.vl (.int k),.vl t,.un,.un,.un,.un,.un,.un]= .nx [.vl (scr ns),.vl (.int k),.vl t,.vl (.lst (ps.map pth)),.un,.un,.un,.un,.un]:=by
  rw[Zs,Z5,v2,bOk,hp,zS];rfl
 have e2:zt 4 (zd ixT (vE 3) (zc 3 f_5 (za (vE 0) (za (vE 1) (za (ap1 Z2 (vB 3)) (zf)))))) [.vl (scr ns),.vl (.int k),.vl t,.vl (.lst (ps.map pth)),.un,.un,.un,.un,.un]= .nx [.vl (scr ns),.vl (.int k),.vl t,.vl (.lst (ps.map pth)),.vl (pth p),.un,.un,.un,.un]:=by
  rw[Zs,zh,v3,bOk,Za,v0,bOk,v1,bOk,Zz,w3,bOk,QB,bOk,ae,hq,bOk,ex,zS];rfl
 have e3:zt 5 (zc 2 Xv (za (vE 2) (za (vE 4) (zf)))) [.vl (scr ns),.vl (.int k),.vl t,.vl (.lst (ps.map pth)),.vl (pth p),.un,.un,.un,.un]= .nx [.vl (scr ns),.vl (.int k),.vl t,.vl (.lst (ps.map pth)),.vl (pth p),.vl u,.un,.un,.un]:=by
  rw[Zs,Zl,v2,bOk,v4,bOk,z19 hu,zS];rfl
 rw[e,Gr,zu,e1];dsimp only;rw[zu,e2];dsimp only;rw[zu,e3];dsimp only;rw[zu];have e4:zt 6 (ZE (za (cE (.int 0)) (za (cE (.int 1)) (za (yM (cE (.int 21))) (za (cE (.int 21)) (za (cE (.int 3)) (za (cE (.int 4)) (za (cE (.bl true)) (za (cE .non) (za (cE (.str "a")) (za (cE (.str "abcd")) (za (cE (.str "A")) (za (cE (.str "")) (za (cE (.str "many")) (za (cE (.str "row")) (za (Zd (zf)) (za (Zd (za (vE 5) (zf))) (za (ZE (za (vE 5) (zf))) (za (Zd (za (cE (.str "whole")) (za (cE (.int 1)) (za (cE (.int 0)) (zf))))) (zf)))))))))))))))))))) [.vl (scr ns),.vl (.int k),.vl t,.vl (.lst (ps.map pth)),.vl (pth p),.vl u,.un,.un,.un]= .nx [.vl (scr ns),.vl (.int k),.vl t,.vl (.lst (ps.map pth)),.vl (pth p),.vl u,.vl (.lst (jf u)),.un,.un]:=rfl;rw[e4];dsimp only;have e5:zt 7 (zc 3 f_5 (za (vE 0) (za (zd zp (vE 1) (cE (.int 1))) (za (zd zp (ap1 Z2 (vB 6)) (cE (.int 5))) (zf))))) [.vl (scr ns),.vl (.int k),.vl t,.vl (.lst (ps.map pth)),.vl (pth p),.vl u,.vl (.lst (jf u)),.un,.un]= .nx (en9 (scr ns) k t (.lst (ps.map pth)) (pth p) u (jf u) w .un):=by
  rw[Zs,Za,v0,bOk,zh,v1,bOk,zM,bOk,zP,bOk];rw[show zd zp (ap1 Z2 (vB 6)) (cE (.int 5)) [.vl (scr ns),.vl (.int k),.vl t,.vl (.lst (ps.map pth)),.vl (pth p),.vl u,.vl (.lst (jf u)),.un,.un]= .ok (.int 23) from rfl,bOk,hw,zS];rfl
 rw[zu,e5];dsimp only;rw[zu,Zm];have e6:zx ltC (vB 7) (ap1 Z2 (vB 6)) (en9 (scr ns) k t (.lst (ps.map pth)) (pth p) u (jf u) w .un)= .ok (decide (w < 18)):=rfl;rw[e6,zS]
 by_cases h18:w < 18
 ·rw[decide_eq_true h18,if_pos rfl];obtain⟨v,ev,hv⟩:=ixl (xs:=jf u) w0' (by show w < 18;exact h18)
  have hfv:=UT hUF v hv;have er:=W1 (f:=zd ixT (vE 6) (vE 7)) (a:=scr ns) (b:= .int k) (t:=t) (d:= .lst (ps.map pth)) (p:=pth p) (e:=u) (g:= .lst (jf u)) (h:= .int w) (i:= .non) (j:= .un) rfl (show ixT (.lst (jf u)) (.int w)= .ok v from ev) (hput v);refine⟨_, ?_,fin v hfv⟩;rw[zL]at er ⊢;rw[ZI]at er;rw[er];rfl
 ·rw[decide_eq_false h18,if_neg av];obtain⟨v,r,hfv,hr,et⟩:=xQ ns (t:=t) (d:= .lst (ps.map pth)) (p:=pth p) (u:=u) (g:=jf u) (k:=k) (w:=w) h0 hS hUF λv _=>⟨_,hput v⟩;rw[hput v]at hr;cases hr;exact⟨_,et,fin v hfv⟩
theorem wt (ρ:En):nxS ρ= .nx ρ:=rfl
inductive Kd where
 | whole (lo hi:Int)
 | pick (cs:List (Str×Int))
 | row (ks:List Kd)
 | many (k:Kd) (lo hi:Nat)
def Jc (c:Str×Int):T:= .tup [.str c.1,.int c.2]
mutual
def Kd.t:Kd->T
 | .whole lo hi=> .tup [.str "whole",.int lo,.int hi]
 | .pick cs=> .tup [.str "pick",.tup (cs.map Jc)]
 | .row ks=> .tup [.str "row",.tup (Kd.ts ks)]
 | .many k lo hi=> .tup [.str "many",k.t,.int (lo:Int),.int (hi:Int)]
def Kd.ts:List Kd->List T
 | []=>[]
 | k :: ks=>k.t :: Kd.ts ks
end
theorem Kd.ts_map:∀ks:List Kd,Kd.ts ks=ks.map Kd.t
 | []=>by simp only[Kd.ts,cQ]
 | k :: ks=>by simp only[Kd.ts,aI,Kd.ts_map ks]
def Kd.Ok:Nat->Kd->Prop
 | 0,_=>False
 | _+1,.whole lo hi=> -20<=lo/\lo<=hi/\hi<=20
 | _+1,.pick cs=>1<=cs.length/\cs.length<=4/\(∀c∈cs,Z1 (.str c.1)=true/\1<=c.2/\c.2<=20)/\Dst (cs.map (·.1))
 | d+1,.row ks=>1<=ks.length/\ks.length<=3/\∀k∈ks,Kd.Ok d k
 | d+1,.many k lo hi=>lo<=hi/\hi<=3/\Kd.Ok d k
theorem YV {c:T}(h:zm c=true):∃p:Str×Int,c=Jc p/\Z1 (.str p.1)=true/\1<=p.2/\p.2<=20:=by
 unfold zm at h;split at h
 ·rename_i w i;rw[ak,ak,decide_eq_true_eq,decide_eq_true_eq]at h;cases w with
  | str x=>exact⟨(x,i),rfl,h.1.1,h.1.2,h.2⟩
  | _=>cases h.1.1
 ·cases h
theorem ur {α:Type}{P:T->Prop}{Q:α->Prop}{f:α->T}(H:∀t,P t->∃a,t=f a/\Q a):∀(ts:List T),(∀t∈ts,P t)->∃as:List α,ts=as.map f/\∀a∈as,Q a
 | [],_=>⟨[],rfl,λ_ h=>nomatch h⟩
 | t :: ts,h=>by
  obtain⟨a,rfl,ha⟩:=H t (h t aw);obtain⟨as,rfl,has⟩:=ur H ts λu hu=>h u (af _ hu);exact⟨a :: as,rfl,λb hb=>by
   rcases aG.mp hb with rfl | hb
   ·exact ha
   ·exact has b hb⟩
theorem ut:∀(d:Nat) (t:T),isK d t=true->∃k:Kd,t=k.t/\k.Ok d
 | 0,_,h=>by cases h
 | d+1,t,h=>by
  have h:wV (isK d) t=true:=h;unfold wV at h;split at h
  ·rename_i hd r;split at h
   ·rename_i e;rw[Jk e];unfold Jj at h;split at h
    ·obtain⟨i,j,rfl,rfl⟩:=Jr h;have h:(decide (-20<=i) && decide (i<=j) && decide (j<=20))=true:=h;rw[ak,ak,decide_eq_true_eq,decide_eq_true_eq,decide_eq_true_eq]at h;exact⟨.whole i j,by simp only[Kd.t],h.1.1,h.1.2,h.2⟩
    ·cases h
   ·split at h
    ·rename_i e;rw[Jk e];unfold Wz at h;split at h
     ·rename_i c;unfold Wy at h;split at h
      ·rename_i cs;rw[ak,ak,ak,decide_eq_true_eq,decide_eq_true_eq,decide_eq_true_eq]at h;obtain⟨⟨⟨h1,h2⟩,h3⟩,h4⟩:=h;obtain⟨as,rfl,has⟩:=ur (λt ht=>YV ht) cs λc hc=>aT.mp h3 c hc;rw[ae]at h1 h2;refine⟨.pick as,by simp only[Kd.t],h1,h2,has, ?_⟩
       have e1:(as.map Jc).map zJ=as.map (·.1):=by rw[br];rfl
       rw[e1]at h4;have:=(JM (as.map (·.1)) []).mp (by rw[h4,ae,ae];simp)
       exact λk w hw hm=>this k w hw (by simpa using hm)
      ·cases h
     ·cases h
    ·split at h
     ·rename_i e;rw[Jk e];unfold vH at h;split at h
      ·rename_i c;unfold JK at h;split at h
       ·rename_i cs;rw[ak,ak,decide_eq_true_eq,decide_eq_true_eq]at h;obtain⟨ks,rfl,hks⟩:=ur (λt ht=>ut d t ht) cs λc hc=>aT.mp h.2 c hc;rw[ae]at h;exact⟨.row ks,by simp only[Kd.t,Kd.ts_map],h.1.1,h.1.2,hks⟩
       ·cases h
      ·cases h
     ·split at h
      ·rename_i e;rw[Jk e];unfold WA at h;split at h
       ·rename_i c a b;rw[ak]at h;obtain⟨h1,h2⟩:=h;obtain⟨i,j,rfl,rfl⟩:=Jr h1;obtain⟨k,rfl,hk⟩:=ut d c h2;have h1:(decide (0<=i) && decide (i<=j) && decide (j<=3))=true:=h1;rw[ak,ak,decide_eq_true_eq,decide_eq_true_eq,decide_eq_true_eq]at h1;obtain⟨⟨a1,a2⟩,a3⟩:=h1;obtain⟨m,rfl⟩:=eS a1;obtain⟨n,rfl⟩:=eS (Int.le_trans a1 a2);exact⟨.many k m n,by simp only[Kd.t],by omega,by omega,hk⟩
       ·cases h
      ·cases h
  ·cases h
def Zb (made:List (List T)):List (List T)->List (List T)
 | []=>made
 | ls :: r=>Zb (made.flatMap λa=>ls.map λx=>a++[x]) r
abbrev WG (ls:List (List T)):List T:=(Zb [[]] ls).map T.tup
mutual
def Kd.all:Kd->List T
 | .whole lo hi=>(aW (hi+1 - lo).toNat).map λ(i:Nat)=>T.int (lo+(i:Int))
 | .pick cs=>cs.map λc=>T.str c.1
 | .row ks=>WG (Kd.alls ks)
 | .many k lo hi=>(aW (hi+1 - lo)).flatMap λi=>WG (ad (lo+i) k.all)
def Kd.alls:List Kd->List (List T)
 | []=>[]
 | k :: ks=>k.all :: Kd.alls ks
end
theorem Kd.alls_map:∀ks:List Kd,Kd.alls ks=ks.map Kd.all
 | []=>by simp only[Kd.alls,cQ]
 | k :: ks=>by simp only[Kd.alls,aI,Kd.alls_map ks]
def prd:List Nat->Nat
 | []=>1
 | n :: r=>n*prd r
theorem JR:∀{ns:List Nat},(∀n∈ns,1<=n)->1<=prd ns
 | [],_=>am _
 | n :: ns,h=>eG (h n aw) (JR λm hm=>h m (af _ hm))
theorem Jt {α β:Type}(f:α->List β)(n:Nat):∀as:List α,(∀a∈as,(f a).length=n)->(as.flatMap f).length=as.length*n
 | [],_=>by simp
 | a :: as,h=>by
  rw[c9,aB,h a aw,Jt f n as λb hb=>h b (af _ hb),ah,io,b_,Nat.add_comm]
theorem JS:∀(ls:List (List T)) (made:List (List T)),(Zb made ls).length=made.length*prd (ls.map (·.length))
 | [],made=>by simp[Zb,prd]
 | l :: ls,made=>by
  rw[Zb,JS ls,Jt _ l.length made λa _=>ae ..,aI,prd,cI]
abbrev vQ:En->RS:=Qa 3 (zZ (j0 (vE 2)) (zr 0) (Ze) (zd zp (vE 1) (Zd (za (vE 0) (zf)))) 1 [4])
theorem U4 {L M:T}{l:List T}(hl:l.length<=bnd):∀(as:List (List T)) (acc:List T) (x:Sl),(∀a∈as,a.length<=1000)->acc.length+as.length*l.length<=bnd->
  ∃y,Zk (zr 4) vQ (as.map T.tup) [.vl L,.vl M,.vl (.lst l),.ow acc,x]= .nx [.vl L,.vl M,.vl (.lst l),.ow (acc++(as.flatMap λa=>l.map λx=>a++[x]).map T.tup),y]
 | [],acc,x,_,_=>⟨x,by simp[Zk]⟩
 | a :: as,acc,x,ha,hb=>by
  have ha1:=ha a aw;have hb1:bnd=16777216:=rfl;rw[ah,io,b_]at hb;have ec:zI (zr 0) Ze (zd zp (vE 1) (Zd (za (vE 0) (zf)))) 1 [4] [.vl L,.vl M,.vl (.lst l),.ow acc,.vl (.tup a)] l= .ok (l.map λx=>T.tup (a++[x])):=
   Z9 (h:=λx=>T.tup (a++[x])) l hl λx hx=>by
    show zd zp (vE 1) (Zd (za (vE 0) (zf))) [.vl x,.vl (.tup a)]=_;rw[zh,v1,bOk,z18 v0,bOk];exact wq (by rw[aE];omega)
  have eb:vQ [.vl L,.vl M,.vl (.lst l),.ow acc,.vl (.tup a)]= .nx [.vl L,.vl M,.vl (.lst l),.ow (acc++l.map λx=>T.tup (a++[x])),.vl (.tup a)]:=by
   show ((zZ _ _ _ _ _ _ _).s λt=>match t with | .lst us=>if acc.length+us.length<=bnd then RS.nx _ else .bad | _=> .bad)=_
   rw[zT,ZX,v2,bOk];show (((zI _ _ _ _ _ _ l).bind _).s _)=_;rw[ec,bOk,zS];show (if _ then _ else _)=_
   rw[if_pos (by rw[ae];omega)]
   rfl
  obtain⟨y,ih⟩:=U4 hl as (acc++l.map λx=>T.tup (a++[x])) (.vl (.tup a)) (λb hb=>ha b (af _ hb)) (by rw[aB,ae];omega)
  refine⟨y, ?_⟩;have e:Zk (zr 4) vQ ((a :: as).map T.tup) [.vl L,.vl M,.vl (.lst l),.ow acc,x]=match vQ [.vl L,.vl M,.vl (.lst l),.ow acc,.vl (.tup a)] with
   | .nx ρ2=>Zk (zr 4) vQ (as.map T.tup) ρ2
   | .ct ρ2=>Zk (zr 4) vQ (as.map T.tup) ρ2
   | .bk ρ2=> .nx ρ2
   | r=>r:=rfl
  rw[e,eb];dsimp only;rw[ih,c9,bE,br,bI];rfl
abbrev WH:En->RS:=(zo (UE 3 (zf))
  (zo (ja (j0 (vE 1)) (zr 4) vQ)
  (mvS 1 3)))
theorem WI {L:T}(m:Nat):∀(ls:List (List T)) (made:List (List T)) (k:Nat) (x y z:Sl),(∀a∈made,a.length<=k)->k+ls.length<=1000->(∀l∈ls,1<=l.length)->made.length*prd (ls.map (·.length))<=bnd->1<=made.length->
  ∃x' y' z',Zk (zr 2) WH (ls.map T.lst) [.vl L,.vl (.lst (made.map T.tup)),x,y,z]= .nx [.vl L,.vl (.lst ((Zb made ls).map T.tup)),x',y',z']
 | [],made,k,x,y,z,_,_,_,_,_=>⟨x,y,z,by simp[Zk,Zb]⟩
 | l :: ls,made,k,x,y,z,hk,hkl,hpos,hb,hm=>by
  have hpr:1<=prd (ls.map (·.length)):=JR λn hn=>by
   obtain⟨l',hl',rfl⟩:=aO.mp hn;exact hpos l' (af _ hl')
  rw[aI,prd,← cI]at hb;have hb1:made.length*l.length<=bnd:=aF (cN _ hpr) hb;have hll:l.length<=bnd:=aF (Nat.le_mul_of_pos_left _ hm) hb1;rw[ah]at hkl;obtain⟨w,er⟩:=U4 (L:=L) (M:= .lst (made.map T.tup)) hll made [] z (λa ha=>aF (hk a ha) (by omega)) (by rw[bi];omega)
  rw[bC]at er;have es:WH [.vl L,.vl (.lst (made.map T.tup)),.vl (.lst l),y,z]= .nx [.vl L,.vl (.lst ((made.flatMap λa=>l.map λx=>a++[x]).map T.tup)),.vl (.lst l),.vl (.lst ((made.flatMap λa=>l.map λx=>a++[x]).map T.tup)),w]:=by
   have e0:UE 3 (zf) [.vl L,.vl (.lst (made.map T.tup)),.vl (.lst l),y,z]= .nx [.vl L,.vl (.lst (made.map T.tup)),.vl (.lst l),.ow [],z]:=rfl;have e1:ja (j0 (vE 1)) (zr 4) vQ [.vl L,.vl (.lst (made.map T.tup)),.vl (.lst l),.ow [],z]= .nx [.vl L,.vl (.lst (made.map T.tup)),.vl (.lst l),.ow ((made.flatMap λa=>l.map λx=>a++[x]).map T.tup),w]:=er;unfold WH;rw[zu,e0];dsimp only;rw[zu,e1];rfl
  obtain⟨x',y',z',ih⟩:=WI (L:=L) m ls (made.flatMap λa=>l.map λx=>a++[x]) (k+1) (.vl (.lst l)) (.vl (.lst ((made.flatMap λa=>l.map λx=>a++[x]).map T.tup))) w (λa ha=>by
   obtain⟨b,hb,hx⟩:=cO.mp ha;obtain⟨u,_,rfl⟩:=aO.mp hx;have:=hk b hb;rw[aB,aE];omega) (by omega) (λl' hl' =>hpos l' (af _ hl')) (by
    rw[Jt _ l.length made λa _=>ae ..];exact hb) (by
    rw[Jt _ l.length made λa _=>ae ..];exact eG hm (hpos l aw))
  refine⟨x',y',z', ?_⟩;have e:Zk (zr 2) WH ((l :: ls).map T.lst) [.vl L,.vl (.lst (made.map T.tup)),x,y,z]=match WH [.vl L,.vl (.lst (made.map T.tup)),.vl (.lst l),y,z] with
   | .nx ρ2=>Zk (zr 2) WH (ls.map T.lst) ρ2
   | .ct ρ2=>Zk (zr 2) WH (ls.map T.lst) ρ2
   | .bk ρ2=> .nx ρ2
   | r=>r:=rfl
  rw[e,es];exact ih
theorem YW (ls:List (List T))(hl:ls.length<=1000)(hpos:∀l∈ls,1<=l.length)(hb:prd (ls.map (·.length))<=bnd):f_j [.lst (ls.map T.lst)]= .ok (.lst (WG ls)):=by
 obtain⟨x',y',z',er⟩:=WI (L:= .lst (ls.map T.lst)) 0 ls [[]] 0 .un .un .un (λa ha=>by rw[aY.mp ha];exact am _) (by omega) hpos (by rw[aE,b_];exact hb) (am _)
 have e:f_j [.lst (ls.map T.lst)]=zj (b_j [.vl (.lst (ls.map T.lst)),.un,.un,.un,.un]):=rfl;have e0:zt 1 (ZE (za (Zd (zf)) (zf))) [.vl (.lst (ls.map T.lst)),.un,.un,.un,.un]= .nx [.vl (.lst (ls.map T.lst)),.vl (.lst [.tup []]),.un,.un,.un]:=rfl;have e1:ja (j0 (vE 0)) (zr 2) WH [.vl (.lst (ls.map T.lst)),.vl (.lst [.tup []]),.un,.un,.un]= .nx [.vl (.lst (ls.map T.lst)),.vl (.lst (WG ls)),x',y',z']:=er;rw[e,b_j,zu,e0];dsimp only;rw[zu,e1];rfl
theorem j4 (n:Nat):∀m:Nat,prd (ad m n)=n ^ m
 | 0=>rfl
 | m+1=>by rw[aU,prd,j4 n m,cU,bG]
theorem Ju (ls:List (List T)):(WG ls).length=prd (ls.map (·.length)):=by
 unfold WG;rw[ae,JS,aE,b_]
def pw (n lo hi:Nat):Nat:=((aW (hi+1 - lo)).map λi=>n ^ (lo+i)).sum
theorem ZP (k:Kd)(lo hi:Nat):(Kd.many k lo hi).all.length=pw k.all.length lo hi:=by
 rw[Kd.all,List.length_flatMap,pw];congr 1
 refine cj λi _=> ?_;rw[Ju,aS,j4]
theorem Jd (ks:List Kd):(Kd.row ks).all.length=prd (ks.map λk=>k.all.length):=by
 rw[Kd.all,Ju,Kd.alls_map,br];rfl
theorem ZY (lo hi:Int):(Kd.whole lo hi).all.length=(hi+1 - lo).toNat:=by
 rw[Kd.all,ae,bR]
theorem W2 (cs:List (Str×Int)):(Kd.pick cs).all.length=cs.length:=by
 rw[Kd.all,ae]
set_option synthInstance.maxSize 2000 in
set_option synthInstance.maxHeartbeats 400000 in
theorem g6:∀hi:Nat,hi < 4->∀lo:Nat,lo < hi+1->(lo=0/\hi=0)\/(lo=0/\hi=1)\/(lo=0/\hi=2)\/(lo=0/\hi=3)\/(lo=1/\hi=1)\/(lo=1/\hi=2)\/(lo=1/\hi=3)\/(lo=2/\hi=2)\/(lo=2/\hi=3)\/(lo=3/\hi=3):=by decide+kernel
theorem xR {lo hi:Nat}(h:lo<=hi)(h3:hi<=3):(lo=0/\hi=0)\/(lo=0/\hi=1)\/(lo=0/\hi=2)\/(lo=0/\hi=3)\/(lo=1/\hi=1)\/(lo=1/\hi=2)\/(lo=1/\hi=3)\/(lo=2/\hi=2)\/(lo=2/\hi=3)\/(lo=3/\hi=3):=g6 hi (by omega) lo (by omega)
def iv (b:Bool):Nat:=if b then 1 else 0
theorem xS (n:Nat){lo hi:Nat}(h:lo<=hi)(h3:hi<=3):pw n lo hi=iv (lo == 0)+n*iv (decide (lo<=1) && decide (1<=hi))+n*n*iv (decide (lo<=2) && decide (2<=hi))+n*n*n*iv (hi == 3):=by
 rcases xR h h3 with ⟨rfl,rfl⟩ | ⟨rfl,rfl⟩ | ⟨rfl,rfl⟩ | ⟨rfl,rfl⟩ | ⟨rfl,rfl⟩ | ⟨rfl,rfl⟩ | ⟨rfl,rfl⟩ | ⟨rfl,rfl⟩ | ⟨rfl,rfl⟩ | ⟨rfl,rfl⟩ <;>
  simp[pw,iy,iv,cU]
 all_goals omega
theorem g9 {n:Nat}(hn:1<=n){lo hi:Nat}(h:lo<=hi)(h3:hi<=3):1<=pw n lo hi:=by
 have h2:1<=n*n:=eG hn hn;have h1:1<=n*n*n:=eG h2 hn;rw[xS n h h3];rcases xR h h3 with ⟨rfl,rfl⟩ | ⟨rfl,rfl⟩ | ⟨rfl,rfl⟩ | ⟨rfl,rfl⟩ | ⟨rfl,rfl⟩ | ⟨rfl,rfl⟩ | ⟨rfl,rfl⟩ | ⟨rfl,rfl⟩ | ⟨rfl,rfl⟩ | ⟨rfl,rfl⟩ <;>
  simp[iv] <;> omega
theorem z1b {n N:Nat}(hn:n<=N){lo hi:Nat}(h:lo<=hi)(h3:hi<=3):pw n lo hi<=1+N+N*N+N*N*N:=by
 have h2:n*n<=N*N:=dH hn hn;have h1:n*n*n<=N*N*N:=dH h2 hn;rw[xS n h h3];rcases xR h h3 with ⟨rfl,rfl⟩ | ⟨rfl,rfl⟩ | ⟨rfl,rfl⟩ | ⟨rfl,rfl⟩ | ⟨rfl,rfl⟩ | ⟨rfl,rfl⟩ | ⟨rfl,rfl⟩ | ⟨rfl,rfl⟩ | ⟨rfl,rfl⟩ | ⟨rfl,rfl⟩ <;>
  simp[iv] <;> omega
theorem vR {N:Nat}(hN:1<=N):∀(ns:List Nat),(∀n∈ns,n<=N)->prd ns<=N ^ ns.length
 | [],_=>am _
 | n :: ns,h=>by
  rw[prd,ah,cU,bG];exact dH (vR hN ns λm hm=>h m (af _ hm)) (h n aw)
theorem Zv:∀(d:Nat) (k:Kd),k.Ok d->1<=k.all.length
 | 0,_,h=>h.elim
 | d+1,.whole lo hi,h=>by
  obtain⟨_,h2,_⟩:=h;rw[ZY];omega
 | d+1,.pick cs,h=>by
  rw[W2];exact h.1
 | d+1,.row ks,h=>by
  rw[Jd];refine JR λn hn=> ?_;obtain⟨k,hk,rfl⟩:=aO.mp hn;exact Zv d k (h.2.2 k hk)
 | d+1,.many k lo hi,h=>by
  rw[ZP];exact g9 (Zv d k h.2.2) h.1 h.2.1
def mx:Nat->Nat
 | 0=>0
 | 1=>41
 | d+1=>1+mx d+mx d*mx d+mx d*mx d*mx d
theorem vS (d:Nat):41<=mx (d+1):=by
 induction d with
 | zero=>exact am _
 | succ d ih=>
  show 41<=1+mx (d+1)+mx (d+1)*mx (d+1)+mx (d+1)*mx (d+1)*mx (d+1);omega
theorem YX (d:Nat)(n:Nat)(h:n<=41):n<=mx (d+1):=aF h (vS d)
theorem xT {N m:Nat}(hN:1<=N)(h:m<=3):N ^ m<=1+N+N*N+N*N*N:=by
 have:m=0\/m=1\/m=2\/m=3:=by omega
 rcases this with rfl | rfl | rfl | rfl <;> simp[cU] <;> omega
theorem jg:∀(d:Nat) (k:Kd),k.Ok d->k.all.length<=mx d
 | 0,_,h=>h.elim
 | d+1,.whole lo hi,h=>by
  obtain⟨h1,h2,h3⟩:=h;rw[ZY];exact YX d _ (by omega)
 | d+1,.pick cs,h=>by
  rw[W2];exact YX d _ (aF h.2.1 (by omega))
 | 1,.row ks,h=>by
  obtain⟨h1,h2,h3⟩:=h
  match ks,h1,h3 with
  | k :: _,_,h3=>exact(h3 k aw).elim
 | d+2,.row ks,h=>by
  obtain⟨h1,h2,h3⟩:=h;rw[Jd];have hp:=aF (by omega:1<=41) (vS d)
  have:=vR hp (ks.map λk=>k.all.length) λn hn=>by
   obtain⟨k,hk,rfl⟩:=aO.mp hn;exact jg (d+1) k (h3 k hk)
  rw[ae]at this;exact aF this (xT hp h2)
 | 1,.many k lo hi,h=>h.2.2.elim
 | d+2,.many k lo hi,h=>by
  rw[ZP];exact z1b (jg (d+1) k h.2.2) h.1 h.2.1
theorem zg {f g:En->RS}{ρ ρ' :En}(h:f ρ= .nx ρ'):zo f g ρ=g ρ' :=by rw[zu,h]
theorem cs0 {x w:Str}{r:List T}{ρ:En}:zx eqC (zd ixT (vE 0) (cE (.int 0))) (cE (.str w)) (.vl (.tup (.str x :: r)) :: ρ)= .ok (x == w):=by
 rw[zD,zh,v0,bOk,zM,bOk,at0,bOk,zM,bOk,eqS];rfl
theorem WX {a b:T}{r:List T}{ρ:En}:zd ixT (vE 0) (cE (.int 1)) (.vl (.tup (a :: b :: r)) :: ρ)= .ok b:=by
 rw[zh,v0,bOk,zM,bOk,at1]
theorem xU {a b c:T}{r:List T}{ρ:En}:zd ixT (vE 0) (cE (.int 2)) (.vl (.tup (a :: b :: c :: r)) :: ρ)= .ok c:=by
 rw[zh,v0,bOk,zM,bOk,at2]
theorem Xx {a b c d:T}{r:List T}{ρ:En}:zd ixT (vE 0) (cE (.int 3)) (.vl (.tup (a :: b :: c :: d :: r)) :: ρ)= .ok d:=by
 rw[zh,v0,bOk,zM,bOk,at3]
theorem YY {f:En->R T}{ρ:En}{i:Int}(h:f ρ= .ok (.int i)):zd zp f (cE (.int 1)) ρ= .ok (.int (i+1)):=by
 rw[zh,h,bOk,zM,bOk,zP]
theorem uu {f g:En->R T}{ρ:En}{i j:Int}(hf:f ρ= .ok (.int i))(hg:g ρ= .ok (.int j))(h: -1000000 < i/\i < 1000000/\ -1000000 < j/\j < 1000000):Jo f g ρ= .ok (rng i (j - i).toNat):=by
 unfold Jo;rw[hf,bOk,hg,bOk];exact if_pos h
theorem YZ:∀(cs:List (Str×Int)) (x y:Sl),zH (Zr 0 1) Ze (vE 0) (cs.map Jc) [x,y]= .ok (cs.map λc=>T.str c.1)
 | [],_,_=>rfl
 | c :: cs,x,y=>by
  have e:zH (Zr 0 1) Ze (vE 0) ((c :: cs).map Jc) [x,y]=(zH (Zr 0 1) Ze (vE 0) (cs.map Jc) [.vl (.str c.1),.vl (.int c.2)]).bind λvs=> .ok (.str c.1 :: vs):=rfl;rw[e,YZ cs];rfl
theorem WJ {x:T}{m:Nat}(h:m<=3):zO (.lst [x]) (.int (m:Int))= .ok (.lst (ad m [x]).flatten):=by
 unfold zO;dsimp only;have c:0<=(m:Int)/\(m:Int) < 1000000/\[x].length*(m:Int).toNat<=bnd:=by
  have hb:3<=bnd:=by decide
  refine⟨by omega,by omega, ?_⟩
  rw[aE,ba,b_];exact aF h hb
 rw[if_pos c,ba]
theorem jq {α:Type}(x:α):∀m:Nat,(ad m [x]).flatten=ad m x
 | 0=>rfl
 | m+1=>by rw[aU,aU,c8,jq x m];rfl
abbrev wc (ca cr:List T->R T):En->RS:=Qa 1 (zc 1 cr (za (zd zO (ZE (za (zc 1 ca (za (zd ixT (vE 0) (cE (.int 1))) (zf))) (zf))) (vE 2)) (zf)))
theorem gc {f:En->R T}{ρ:En}{x:T}(hf:f ρ= .ok x):ZE (za f zf) ρ= .ok (.lst [x]):=by
 unfold ZE za zf;rw[hf];rfl
theorem WK {ca:List T->R T}{k:Kd}{t:T}{lo:Nat}{ws:List T}(hw:ca [t]= .ok (.lst ws))(hpos:1<=ws.length){a b c:T}:∀(js:List Nat) (acc:List T) (x:Sl),(∀j∈js,lo+j<=3)->acc.length+(js.map λj=>ws.length ^ (lo+j)).sum<=bnd->
  ∃y,Zk (zr 2) (wc ca f_j) (js.map λ(j:Nat)=>T.int ((lo:Int)+(j:Int))) [.vl (.tup [a,t,b,c]),.ow acc,x]= .nx [.vl (.tup [a,t,b,c]),.ow (acc++js.flatMap λj=>WG (ad (lo+j) ws)),y]
 | [],acc,x,_,_=>⟨x,by simp[Zk]⟩
 | j :: js,acc,x,hj,hb=>by
  have hj1:=hj j aw;have hb1:bnd=16777216:=rfl;rw[aI,cY]at hb;have er:f_j [.lst ((ad (lo+j) ws).map T.lst)]= .ok (.lst (WG (ad (lo+j) ws))):=YW _ (by rw[aN];omega) (λl hl=>by rw[bL hl];exact hpos) (by rw[aS,j4];omega)
  have hlen:(WG (ad (lo+j) ws)).length=ws.length ^ (lo+j):=by rw[Ju,aS,j4]
  have em:zO (.lst [.lst ws]) (.int ((lo:Int)+(j:Int)))= .ok (.lst ((ad (lo+j) ws).map T.lst)):=by
   have e1:(lo:Int)+(j:Int)=((lo+j:Nat):Int):=by omega
   rw[e1,WJ (by omega),jq,aS]
  have eb:wc ca f_j [.vl (.tup [a,t,b,c]),.ow acc,.vl (.int ((lo:Int)+(j:Int)))]= .nx [.vl (.tup [a,t,b,c]),.ow (acc++WG (ad (lo+j) ws)),.vl (.int ((lo:Int)+(j:Int)))]:=by
   have e1:zc 1 f_j (za (zd zO (ZE (za (zc 1 ca (za (zd ixT (vE 0) (cE (.int 1))) (zf))) (zf))) (vE 2)) (zf)) [.vl (.tup [a,t,b,c]),.ow acc,.vl (.int ((lo:Int)+(j:Int)))]= .ok (.lst (WG (ad (lo+j) ws))):=by
    have e0:zc 1 ca (za (zd ixT (vE 0) (cE (.int 1))) (zf)) [.vl (.tup [a,t,b,c]),.ow acc,.vl (.int ((lo:Int)+(j:Int)))]= .ok (.lst ws):=by
     rw[Z5,WX,bOk,hw]
    rw[Z5,zh,gc e0,bOk,v2,bOk,em,bOk,er]
   show ((zc 1 f_j _ _).s λt=>match t with | .lst us=>if acc.length+us.length<=bnd then RS.nx _ else .bad | _=> .bad)=_
   rw[e1,zS];show (if _ then _ else _)=_
   rw[if_pos (by rw[hlen];omega)]
   rfl
  obtain⟨y,ih⟩:=WK (k:=k) hw hpos (a:=a) (b:=b) (c:=c) js (acc++WG (ad (lo+j) ws)) (.vl (.int ((lo:Int)+(j:Int)))) (λi hi=>hj i (af _ hi)) (by rw[aB,hlen];omega)
  refine⟨y, ?_⟩;have e:Zk (zr 2) (wc ca f_j) ((j :: js).map λ(j:Nat)=>T.int ((lo:Int)+(j:Int))) [.vl (.tup [a,t,b,c]),.ow acc,x]=match wc ca f_j [.vl (.tup [a,t,b,c]),.ow acc,.vl (.int ((lo:Int)+(j:Int)))] with
   | .nx ρ2=>Zk (zr 2) (wc ca f_j) (js.map λ(j:Nat)=>T.int ((lo:Int)+(j:Int))) ρ2
   | .ct ρ2=>Zk (zr 2) (wc ca f_j) (js.map λ(j:Nat)=>T.int ((lo:Int)+(j:Int))) ρ2
   | .bk ρ2=> .nx ρ2
   | r=>r:=rfl
  rw[e,eb];dsimp only;rw[ih,c9,bI]
theorem QO {ca:List T->R T}{a t:T}{lo hi:Nat}(h1:lo<=hi)(h2:hi<=3){x:Sl}{acc:List T}{r:RS}
  (el:Zk (zr 2) (wc ca f_j) ((aW (hi+1 - lo)).map λ(j:Nat)=>T.int ((lo:Int)+(j:Int))) [.vl (.tup [a,t,.int (lo:Int),.int (hi:Int)]),.ow acc,x]=r):
  ja (Jo (zd ixT (vE 0) (cE (.int 2))) (zd zp (zd ixT (vE 0) (cE (.int 3))) (cE (.int 1)))) (zr 2) (wc ca f_j) [.vl (.tup [a,t,.int (lo:Int),.int (hi:Int)]),.ow acc,x]=r:=by
 have hn:((hi:Int)+1 - (lo:Int)).toNat=hi+1 - lo:=by omega
 have hc: -1000000 < (lo:Int)/\(lo:Int) < 1000000/\ -1000000 < (hi:Int)+1/\(hi:Int)+1 < 1000000:=by omega
 have e:ja (Jo (zd ixT (vE 0) (cE (.int 2))) (zd zp (zd ixT (vE 0) (cE (.int 3))) (cE (.int 1)))) (zr 2) (wc ca f_j) [.vl (.tup [a,t,.int (lo:Int),.int (hi:Int)]),.ow acc,x]=(Jo (zd ixT (vE 0) (cE (.int 2))) (zd zp (zd ixT (vE 0) (cE (.int 3))) (cE (.int 1))) [.vl (.tup [a,t,.int (lo:Int),.int (hi:Int)]),.ow acc,x]).s λts=>Zk (zr 2) (wc ca f_j) ts [.vl (.tup [a,t,.int (lo:Int),.int (hi:Int)]),.ow acc,x]:=rfl;rw[e,uu xU (YY Xx) hc,zS,hn];exact el
theorem gf {n L lo hi:Nat}(e:L=pw n lo hi)(h:L<=1000000):([]:List T).length+((aW (hi+1 - lo)).map λj=>n ^ (lo+j)).sum<=bnd:=by
 have h' :pw n lo hi<=bnd:=aF (e ▸ h) (by decide)
 unfold pw at h';rw[bi,f8];exact h'
theorem qa {ca:List T->R T}(d:Nat)(lo hi:Int)(h:(Kd.whole lo hi).Ok (d+1))(hl:(Kd.whole lo hi).all.length<=1000000)(H:∀k' :Kd,k'.Ok d->ca [k'.t]= .ok (.lst k'.all)):zj (b_8 ca f_j (en0 3 [(Kd.whole lo hi).t]))= .ok (.lst (Kd.whole lo hi).all):=by
 have hb1:bnd=16777216:=rfl;have e:zj (b_8 ca f_j (en0 3 [(Kd.whole lo hi).t]))=zj (b_8 ca f_j [.vl (Kd.whole lo hi).t,.un,.un]):=rfl;rw[e,b_8,zu,Zm];obtain⟨h1,h2,h3⟩:=h;simp only[Kd.t];rw[cs0,zS,show (("whole":Str) == "whole")=true from rfl,if_pos rfl,zL,Zy,Ja,Ja,ZV];unfold G6;rw[uu WX (YY xU) ⟨by omega,by omega,by omega,by omega⟩]
 rw[Kd.all];rfl
theorem QP {ca:List T->R T}(d:Nat)(cs:List (Str×Int))(h:(Kd.pick cs).Ok (d+1))(hl:(Kd.pick cs).all.length<=1000000)(H:∀k' :Kd,k'.Ok d->ca [k'.t]= .ok (.lst k'.all)):zj (b_8 ca f_j (en0 3 [(Kd.pick cs).t]))= .ok (.lst (Kd.pick cs).all):=by
 have hb1:bnd=16777216:=rfl;have e:zj (b_8 ca f_j (en0 3 [(Kd.pick cs).t]))=zj (b_8 ca f_j [.vl (Kd.pick cs).t,.un,.un]):=rfl;rw[e,b_8,zu,Zm];simp only[Kd.t];rw[cs0,zS,show (("pick":Str) == "whole")=false from rfl,if_neg av,wt];dsimp only;rw[zu,Zm,cs0,zS,show (("pick":Str) == "pick")=true from rfl,if_pos rfl,zL,Zy,Ja,Ja,ZV,zT,ZX,WX,bOk];have hc:cs.length<=4:=h.2.1;have ec:zI (Zr 0 1) Ze (vE 0) 2 [] [.vl (.tup [.str "pick",.tup (cs.map Jc)]),.un,.un] (cs.map Jc)= .ok (cs.map λc=>T.str c.1):=by
  unfold zI;rw[if_pos (by rw[ae];omega)]
  show quiet (zH (Zr 0 1) Ze (vE 0) (cs.map Jc) [.un,.un])=_;rw[YZ];rfl
 show zj (match ((((R.ok (cs.map Jc)).bind λts=>(zI (Zr 0 1) Ze (vE 0) 2 [] [.vl (.tup [.str "pick",.tup (cs.map Jc)]),.un,.un] ts).bind λvs=> .ok (.lst vs))).s λt=> .rt t) with | .nx ρ' =>_ | r=>r)=_
 rw[bOk,ec];rw[Kd.all];rfl
theorem xV {ca:List T->R T}(d:Nat)(ks:List Kd)(h:(Kd.row ks).Ok (d+1))(hl:(Kd.row ks).all.length<=1000000)(H:∀k' :Kd,k'.Ok d->ca [k'.t]= .ok (.lst k'.all)):zj (b_8 ca f_j (en0 3 [(Kd.row ks).t]))= .ok (.lst (Kd.row ks).all):=by
 have hb1:bnd=16777216:=rfl;have e:zj (b_8 ca f_j (en0 3 [(Kd.row ks).t]))=zj (b_8 ca f_j [.vl (Kd.row ks).t,.un,.un]):=rfl;rw[e,b_8,zu,Zm];obtain⟨h1,h2,h3⟩:=h;simp only[Kd.t];rw[cs0,zS,show (("row":Str) == "whole")=false from rfl,if_neg av,wt];dsimp only;rw[zu,Zm,cs0,zS,show (("row":Str) == "pick")=false from rfl,if_neg av,wt];dsimp only;rw[zu,Zm,cs0,zS,show (("row":Str) == "row")=true from rfl,if_pos rfl,zL,Zy,Ja,Ja,ZV,Z5,zT,ZX,WX,bOk,Kd.ts_map];have ec:zI (zr 0) Ze (zc 1 ca (za (vE 0) (zf))) 1 [] [.vl (.tup [.str "row",.tup (ks.map Kd.t)]),.un,.un] (ks.map Kd.t)= .ok ((ks.map Kd.all).map T.lst):=by
  unfold zI;rw[if_pos (by rw[ae];omega)]
  show quiet (zH (zr 0) Ze _ (ks.map Kd.t) [.un])=_;have:∀(ks:List Kd) (x:Sl),(∀k∈ks,k.Ok d)->zH (zr 0) Ze (zc 1 ca (za (vE 0) (zf))) (ks.map Kd.t) [x]= .ok ((ks.map Kd.all).map T.lst):=by
   intro ks
   induction ks with
   | nil=>intro _ _;rfl
   | cons k ks ih=>
    intro x hk;have e1:zH (zr 0) Ze (zc 1 ca (za (vE 0) (zf))) ((k :: ks).map Kd.t) [x]=(zc 1 ca (za (vE 0) (zf)) [.vl k.t]).bind λv=>(zH (zr 0) Ze (zc 1 ca (za (vE 0) (zf))) (ks.map Kd.t) [.vl k.t]).bind λvs=> .ok (v :: vs):=rfl;rw[e1,Z5,v0,bOk,H k (hk k aw),bOk,ih _ λk' hk' =>hk k' (af _ hk')];rfl
  rw[this ks .un h3];rfl
 have hrow:=Jd ks;have er:f_j [.lst ((ks.map Kd.all).map T.lst)]= .ok (.lst (WG (ks.map Kd.all))):=YW _ (by rw[ae];omega) (λl hl=>by
  obtain⟨k,hk,rfl⟩:=aO.mp hl;exact Zv d k (h3 k hk)) (by
  rw[br];show prd (ks.map λk=>k.all.length)<=bnd;omega)
 show zj (match ((((R.ok (ks.map Kd.t)).bind λts=>(zI (zr 0) Ze (zc 1 ca (za (vE 0) (zf))) 1 [] [.vl (.tup [.str "row",.tup (ks.map Kd.t)]),.un,.un] ts).bind λvs=> .ok (.lst vs)).bind λx=>f_j [x]).s λt=> .rt t) with | .nx ρ' =>_ | r=>r)=_
 rw[bOk,ec,bOk,bOk,er,Kd.all,Kd.alls_map];rfl
theorem QQ {ca:List T->R T}(d:Nat)(k:Kd)(lo hi:Nat)(h:(Kd.many k lo hi).Ok (d+1))(hl:(Kd.many k lo hi).all.length<=1000000)(H:∀k' :Kd,k'.Ok d->ca [k'.t]= .ok (.lst k'.all)):zj (b_8 ca f_j (en0 3 [(Kd.many k lo hi).t]))= .ok (.lst (Kd.many k lo hi).all):=by
 have hb1:bnd=16777216:=rfl;have e:zj (b_8 ca f_j (en0 3 [(Kd.many k lo hi).t]))=zj (b_8 ca f_j [.vl (Kd.many k lo hi).t,.un,.un]):=rfl;rw[e,b_8,zu,Zm];obtain⟨h1,h2,h3⟩:=h;have hml:=ZP k lo hi;simp only[Kd.t];rw[cs0,zS,show (("many":Str) == "whole")=false from rfl,if_neg av,wt];dsimp only;rw[zu,Zm,cs0,zS,show (("many":Str) == "pick")=false from rfl,if_neg av,wt];dsimp only;rw[zu,Zm,cs0,zS,show (("many":Str) == "row")=false from rfl,if_neg av,wt];dsimp only;have e0:UE 1 (zf) [.vl (.tup [.str "many",k.t,.int (lo:Int),.int (hi:Int)]),.un,.un]= .nx [.vl (.tup [.str "many",k.t,.int (lo:Int),.int (hi:Int)]),.ow [],.un]:=rfl;rw[zu,e0];dsimp only;obtain⟨y,el⟩:=WK (k:=k) (lo:=lo) (H k h3) (Zv d k h3) (a:= .str "many") (b:= .int (lo:Int)) (c:= .int (hi:Int)) (aW (hi+1 - lo)) [] .un (λj hj=>by have:=bu.mp hj;omega) (gf hml hl)
 have e1:=QO (ca:=ca) (t:=k.t) h1 h2 el;rw[bC]at e1;rw[zg e1,Kd.all];rfl
theorem QR {ca:List T->R T}(d:Nat)(k:Kd)(h:k.Ok (d+1))(hl:k.all.length<=1000000)(H:∀k' :Kd,k'.Ok d->ca [k'.t]= .ok (.lst k'.all)):zj (b_8 ca f_j (en0 3 [k.t]))= .ok (.lst k.all):=by
 cases k with
 | whole lo hi=>exact qa d lo hi h hl H
 | pick cs=>exact QP d cs h hl H
 | row ks=>exact xV d ks h hl H
 | many k lo hi=>exact QQ d k lo hi h hl H
theorem qb:∀(d n:Nat),d<=n->d<=3->∀k:Kd,k.Ok d->k.all.length<=1000000->S_8 n 0 [k.t]= .ok (.lst k.all)
 | 0,_,_,_,_,h,_=>h.elim
 | d+1,0,hn,_,_,_,_=>by omega
 | d+1,n+1,hn,hd,k,h,hl=>by
  have e:S_8 (n+1) 0 [k.t]=zj (b_8 (S_8 n 0) f_j (en0 3 [k.t])):=rfl;rw[e];refine QR d k h hl λk' hk' =>qb d n (by omega) (by omega) k' hk' ?_
  have h1:=jg d k' hk';have:mx d<=1000000:=by
   have:d=0\/d=1\/d=2:=by omega
   rcases this with rfl | rfl | rfl <;> decide
  omega
theorem in2 {x a b:Str}{r:List T}{ρ:En}:zx inC (zd ixT (vE 0) (cE (.int 0))) (Zd (za (cE (.str a)) (za (cE (.str b)) (zf)))) (.vl (.tup (.str x :: r)) :: ρ)=inC (.str x) (.tup [.str a,.str b]):=by
 rw[zD,zh,v0,bOk,zM,bOk,at0,bOk,QF zM zM,bOk]
theorem Wc {g:En->R Bool}{f1 f2:En->RS}{ρ:En}(h:g ρ= .ok true):ifS g f1 f2 ρ=f1 ρ:=by rw[Zm,h,zS,if_pos rfl]
theorem qK {g:En->R Bool}{f1 f2:En->RS}{ρ:En}(h:g ρ= .ok false):ifS g f1 f2 ρ=f2 ρ:=by rw[Zm,h,zS,if_neg av]
theorem ZW {g:En->R Bool}{f1:En->RS}{ρ:En}(h:g ρ= .ok false):ifS g f1 nxS ρ= .nx ρ:=by rw[qK h];rfl
theorem zW {i:Nat}{f:En->R T}{ρ:En}{t:T}(h:f ρ= .ok t):zt i f ρ= .nx (ρ.set i (.vl t)):=by rw[Zs,h,zS]
theorem zy {f:En->R T}{ρ:En}{t:T}(h:f (frz ρ)= .ok t):zv f ρ= .rt t:=by rw[zL,h,zS]
theorem jU {g:T->En->R En}{fb:En->RS}{t:T}{ts:List T}{ρ ρ1 ρ2:En}(hg:g t ρ= .ok ρ1)(hb:fb ρ1= .nx ρ2):Zk g fb (t :: ts) ρ=Zk g fb ts ρ2:=by
 rw[Zk,hg];dsimp only;rw[hb]
theorem Zt {f g:En->RS}{ρ:En}{t:T}(h:f ρ= .rt t):zo f g ρ= .rt t:=by rw[zu,h]
theorem U5 {i j:Nat}(h:i < 2 ^ 60):zO (.int (i:Int)) (.int (j:Int))= .ok (.int ((i*j:Nat):Int)):=by
 rw[UN _ _ (.inl ⟨by omega,by omega⟩),iw]
theorem xW {d n:Nat}(h:n<=mx d)(hd:d<=3):n < 2 ^ 60:=by
 have:d=0\/d=1\/d=2\/d=3:=by omega
 have h3:mx 3 < 2 ^ 60:=by decide
 have h2:mx 2 < 2 ^ 60:=by decide
 have h1:mx 1 < 2 ^ 60:=by decide
 have h0:mx 0 < 2 ^ 60:=by decide
 rcases this with rfl | rfl | rfl | rfl <;> omega
theorem U6 {a b:Sl}:∀(ns:List Nat) (m:Nat) (x y:Sl),(∀n∈ns,1<=n)->m*prd ns < 2 ^ 60->∃x',Zk (zr 3) (zt 2 (zd zO (vE 2) (vE 3))) (ns.map λ(n:Nat)=>T.int (n:Int)) [a,b,.vl (.int (m:Int)),x,y]= .nx [a,b,.vl (.int ((m*prd ns:Nat):Int)),x',y]
 | [],m,x,y,_,_=>⟨x,by simp[Zk,prd]⟩
 | n :: ns,m,x,y,hp,hb=>by
  have hpr:=JR (ns:=ns) λk hk=>hp k (af _ hk);have hn:=hp n aw;have hmm:m<=m*prd (n :: ns):=cN _ (eG hn hpr);have hb2:m < 2 ^ 60:=cu hmm hb;rw[prd,← cI]at hb;obtain⟨x',ih⟩:=U6 (a:=a) (b:=b) ns (m*n) (.vl (.int (n:Int))) y (λk hk=>hp k (af _ hk)) hb;refine⟨x', ?_⟩;have es:zt 2 (zd zO (vE 2) (vE 3)) [a,b,.vl (.int (m:Int)),.vl (.int (n:Int)),y]= .nx [a,b,.vl (.int ((m*n:Nat):Int)),.vl (.int (n:Int)),y]:=by
   rw[Zs,zh,v2,bOk,v3,bOk,U5 hb2,zS];rfl
  have s3:zr 3 (T.int (n:Int)) [a,b,.vl (.int (m:Int)),x,y]= .ok [a,b,.vl (.int (m:Int)),.vl (.int (n:Int)),y]:=rfl;rw[aI,jU s3 es,prd,← cI];exact ih
theorem QS:∀(d:Nat) (lo hi:Int),(Kd.whole lo hi).Ok (d+1)->(Kd.whole lo hi).Ok 1
 | _,_,_,h=>h
theorem QT:∀(d:Nat) (cs:List (Str×Int)),(Kd.pick cs).Ok (d+1)->(Kd.pick cs).Ok 1
 | _,_,h=>h
theorem WL {cs:List T->R T}(k:Kd)(h:k.Ok 1){x:Str}{r:List T}(ht:k.t= .tup (.str x :: r))(hx:inC (.str x) (.tup [.str "whole",.str "pick"])= .ok true):zj (b_d (f_8 8) cs (en0 5 [k.t]))= .ok (.int (k.all.length:Int)):=by
 have ha:f_8 8 [k.t]= .ok (.lst k.all):=qb 1 8 (by omega) (by omega) k h (aF (jg 1 k h) (by decide))
 have e:zj (b_d (f_8 8) cs (en0 5 [k.t]))=zj (b_d (f_8 8) cs [.vl k.t,.un,.un,.un,.un]):=rfl;have e1:zx inC (zd ixT (vE 0) (cE (.int 0))) (Zd (za (cE (.str "whole")) (za (cE (.str "pick")) (zf)))) [.vl k.t,.un,.un,.un,.un]= .ok true:=by
  rw[ht,in2,hx]
 have e2:zv (ap1 Z2 (zc 1 (f_8 8) (za (vE 0) (zf)))) [.vl k.t,.un,.un,.un,.un]= .rt (.int (k.all.length:Int)):=by
  refine zy ?_;rw[Zy,Zz,Z5,v0,bOk,ha,bOk,QB]
 rw[e,b_d,Zt (by rw[Wc e1,e2])]
 rfl
theorem z1c (b:Bool):b2 b=(iv b:Int):=by cases b <;> rfl
theorem QU {cs:List T->R T}{d:Nat}(hd:d+1<=3)(ks:List Kd)(h:(Kd.row ks).Ok (d+1))(H:∀k:Kd,k.Ok d->cs [k.t]= .ok (.int (k.all.length:Int))):zj (b_d (f_8 8) cs (en0 5 [(Kd.row ks).t]))= .ok (.int ((Kd.row ks).all.length:Int)):=by
 have hlt:=xW (jg (d+1) (.row ks) h) hd;rw[Jd]at hlt ⊢;obtain⟨h1,h2,h3⟩:=h;simp only[Kd.t,Kd.ts_map];have e:zj (b_d (f_8 8) cs (en0 5 [.tup [.str "row",.tup (ks.map Kd.t)]]))=zj (b_d (f_8 8) cs [.vl (.tup [.str "row",.tup (ks.map Kd.t)]),.un,.un,.un,.un]):=rfl;have e1:zx inC (zd ixT (vE 0) (cE (.int 0))) (Zd (za (cE (.str "whole")) (za (cE (.str "pick")) (zf)))) [.vl (.tup [.str "row",.tup (ks.map Kd.t)]),.un,.un,.un,.un]= .ok false:=by
  rw[in2];rfl
 have ec:zI (zr 0) Ze (zc 1 cs (za (vE 0) (zf))) 1 [] [.vl (.tup [.str "row",.tup (ks.map Kd.t)]),.un,.un,.un,.un] (ks.map Kd.t)= .ok ((ks.map λk=>k.all.length).map λ(n:Nat)=>T.int (n:Int)):=by
  unfold zI;rw[if_pos (by rw[ae];exact aF h2 (by decide))]
  have:∀(ks:List Kd) (x:Sl),(∀k∈ks,k.Ok d)->zH (zr 0) Ze (zc 1 cs (za (vE 0) (zf))) (ks.map Kd.t) [x]= .ok ((ks.map λk=>k.all.length).map λ(n:Nat)=>T.int (n:Int)):=by
   intro ks
   induction ks with
   | nil=>intro _ _;rfl
   | cons k ks ih=>
    intro x hk;have e1:zH (zr 0) Ze (zc 1 cs (za (vE 0) (zf))) ((k :: ks).map Kd.t) [x]=(zc 1 cs (za (vE 0) (zf)) [.vl k.t]).bind λv=>(zH (zr 0) Ze (zc 1 cs (za (vE 0) (zf))) (ks.map Kd.t) [.vl k.t]).bind λvs=> .ok (v :: vs):=rfl;rw[e1,Z5,v0,bOk,H k (hk k aw),bOk,ih _ λk' hk' =>hk k' (af _ hk')];rfl
  show quiet (zH (zr 0) Ze _ (ks.map Kd.t) [.un])=_;rw[this ks .un h3];rfl
 have e2:ifE (zx eqC (zd ixT (vE 0) (cE (.int 0))) (cE (.str "row"))) (zZ (j0 (zd ixT (vE 0) (cE (.int 1)))) (zr 0) (Ze) (zc 1 cs (za (vE 0) (zf))) 1 []) (ZE (zf)) [.vl (.tup [.str "row",.tup (ks.map Kd.t)]),.un,.un,.un,.un]= .ok (.lst ((ks.map λk=>k.all.length).map λ(n:Nat)=>T.int (n:Int))):=by
  unfold ifE;rw[cs0,bOk,show (("row":Str) == "row")=true from rfl,if_pos rfl,zT,ZX,WX,bOk];show ((R.ok (ks.map Kd.t)).bind _)=_;rw[bOk,ec,bOk]
 obtain⟨x',el⟩:=U6 (a:= .vl (.tup [.str "row",.tup (ks.map Kd.t)])) (b:= .vl (.lst ((ks.map λk=>k.all.length).map λ(n:Nat)=>T.int (n:Int)))) (ks.map λk=>k.all.length) 1 .un .un (λn hn=>by
  obtain⟨k,hk,rfl⟩:=aO.mp hn;exact Zv d k (h3 k hk)) (by rw[b_];exact hlt)
 rw[b_]at el;have e3:ja (j0 (vE 1)) (zr 3) (zt 2 (zd zO (vE 2) (vE 3))) [.vl (.tup [.str "row",.tup (ks.map Kd.t)]),.vl (.lst ((ks.map λk=>k.all.length).map λ(n:Nat)=>T.int (n:Int))),.vl (.int 1),.un,.un]=_:=el;have e4:zx eqC (zd ixT (vE 0) (cE (.int 0))) (cE (.str "many")) [.vl (.tup [.str "row",.tup (ks.map Kd.t)]),.vl (.lst ((ks.map λk=>k.all.length).map λ(n:Nat)=>T.int (n:Int))),.vl (.int ((prd (ks.map λk=>k.all.length):Nat):Int)),x',.un]= .ok false:=by
  rw[cs0];rfl
 rw[e,b_d,zg (ZW e1),zg (zW e2)];have s1:([.vl (.tup [.str "row",.tup (ks.map Kd.t)]),.un,.un,.un,.un]:En).set 1 (.vl (.lst ((ks.map λk=>k.all.length).map λ(n:Nat)=>T.int (n:Int))))=[.vl (.tup [.str "row",.tup (ks.map Kd.t)]),.vl (.lst ((ks.map λk=>k.all.length).map λ(n:Nat)=>T.int (n:Int))),.un,.un,.un]:=rfl;rw[s1,zg (zW zM)];have s2:([.vl (.tup [.str "row",.tup (ks.map Kd.t)]),.vl (.lst ((ks.map λk=>k.all.length).map λ(n:Nat)=>T.int (n:Int))),.un,.un,.un]:En).set 2 (.vl (.int 1))=[.vl (.tup [.str "row",.tup (ks.map Kd.t)]),.vl (.lst ((ks.map λk=>k.all.length).map λ(n:Nat)=>T.int (n:Int))),.vl (.int 1),.un,.un]:=rfl;rw[s2,zg e3,zg (ZW e4)];rfl
theorem gh {f g:En->R T}{ρ:En}{i j c:Int}(hf:f ρ= .ok (.int i))(hg:g ρ= .ok (.int j)):chE leC leC f (cE (.int c)) g ρ= .ok (.bl (decide (i<=c) && decide (c<=j))):=by
 rw[QA,hf,bOk,zM,bOk,wU,bOk,hg];cases decide (i<=c) <;> rfl
theorem wu (a b:Nat):decide ((a:Int)<=(b:Int))=decide (a<=b):=by
 by_cases h:a<=b
 ·rw[decide_eq_true h];exact decide_eq_true (by omega)
 ·rw[decide_eq_false h];exact decide_eq_false (by omega)
theorem vT (a b:Nat):((a:Int) == (b:Int))=(a == b):=by
 by_cases h:a=b
 ·subst h;simp
 ·rw[beq_eq_false_iff_ne.mpr h,beq_eq_false_iff_ne];omega
theorem Gv {f:En->R T}{ρ:En}{b:Bool}(h:f ρ= .ok (.bl b)):ap1 Wa f ρ= .ok (.int ((iv b:Nat):Int)):=by
 rw[Zz,h,bOk];show R.ok (T.int (b2 b))=_;rw[z1c]
theorem qc {f g:En->R T}{ρ:En}{i j:Nat}(hf:f ρ= .ok (.int (i:Int)))(hg:g ρ= .ok (.int (j:Int))):zd zp f g ρ= .ok (.int ((i+j:Nat):Int)):=by
 rw[zh,hf,bOk,hg,bOk,zP,fq]
theorem Je {f g:En->R T}{ρ:En}{i j:Nat}(h:i < 2 ^ 60)(hf:f ρ= .ok (.int (i:Int)))(hg:g ρ= .ok (.int (j:Int))):zd zO f g ρ= .ok (.int ((i*j:Nat):Int)):=by
 rw[zh,hf,bOk,hg,bOk,U5 h]
theorem xX {d n:Nat}(h:n<=mx d)(hd:d+1<=3)(h0:1<=d):n*n*n < 2 ^ 60/\n*n < 2 ^ 60/\n < 2 ^ 60:=by
 have h1:n<=70644:=by
  have:d=1\/d=2:=by omega
  have h2:mx 2=70644:=by decide
  have h1:mx 1=41:=by decide
  rcases this with rfl | rfl <;> omega
 have h2:n*n<=70644*70644:=dH h1 h1;have h3:n*n*n<=70644*70644*70644:=dH h2 h1;have h4:70644*70644*70644 < 2 ^ 60:=by decide
 have h5:70644*70644 < 2 ^ 60:=by decide
 have h6:70644 < 2 ^ 60:=by decide
 exact⟨cu h3 h4,cu h2 h5,cu h1 h6⟩
abbrev mt (t:T)(lo hi:Nat):T:= .tup [.str "many",t,.int (lo:Int),.int (hi:Int)]
theorem v4' {t:T}{a b c d:Sl}{ρ:En}:vE 4 (a :: b :: c :: d :: .vl t :: ρ)= .ok t:=rfl
theorem qd {t:T}{a x:Sl}{lo hi n:Nat}(h3:n*n*n < 2 ^ 60)(h2:n*n < 2 ^ 60)(h1:n < 2 ^ 60):
  zo (zt 2 (zd zp (ap1 Wa (jB eqC (zd ixT (vE 0) (cE (.int 2))) (cE (.int 0)))) (zd zO (vE 4) (ap1 Wa (chE leC leC (zd ixT (vE 0) (cE (.int 2))) (cE (.int 1)) (zd ixT (vE 0) (cE (.int 3))))))))
  (zo (zt 2 (zd zp (vE 2) (zd zO (zd zO (vE 4) (vE 4)) (ap1 Wa (chE leC leC (zd ixT (vE 0) (cE (.int 2))) (cE (.int 2)) (zd ixT (vE 0) (cE (.int 3))))))))
  (zt 2 (zd zp (vE 2) (zd zO (zd zO (zd zO (vE 4) (vE 4)) (vE 4)) (ap1 Wa (jB eqC (zd ixT (vE 0) (cE (.int 3))) (cE (.int 3))))))))
  [.vl (mt t lo hi),a,.vl (.int 1),x,.vl (.int (n:Int))]= .nx [.vl (mt t lo hi),a,.vl (.int ((iv (lo == 0)+n*iv (decide (lo<=1) && decide (1<=hi))+n*n*iv (decide (lo<=2) && decide (2<=hi))+n*n*n*iv (hi == 3):Nat):Int)),x,.vl (.int (n:Int))]:=by
 have le1:∀{p q r s:Sl},ap1 Wa (chE leC leC (zd ixT (vE 0) (cE (.int 2))) (cE (.int 1)) (zd ixT (vE 0) (cE (.int 3)))) [.vl (mt t lo hi),p,q,r,s]= .ok (.int ((iv (decide (lo<=1) && decide (1<=hi)):Nat):Int)):=λ{p q r s}=>Gv (by
  rw[gh (c:=1) xU Xx];rw[show decide ((lo:Int)<=1)=decide (lo<=1) from wu lo 1,show decide ((1:Int)<=(hi:Int))=decide (1<=hi) from wu 1 hi])
 have le2:∀{p q r s:Sl},ap1 Wa (chE leC leC (zd ixT (vE 0) (cE (.int 2))) (cE (.int 2)) (zd ixT (vE 0) (cE (.int 3)))) [.vl (mt t lo hi),p,q,r,s]= .ok (.int ((iv (decide (lo<=2) && decide (2<=hi)):Nat):Int)):=λ{p q r s}=>Gv (by
  rw[gh (c:=2) xU Xx];rw[show decide ((lo:Int)<=2)=decide (lo<=2) from wu lo 2,show decide ((2:Int)<=(hi:Int))=decide (2<=hi) from wu 2 hi])
 have eq0:∀{p q r s:Sl},ap1 Wa (jB eqC (zd ixT (vE 0) (cE (.int 2))) (cE (.int 0))) [.vl (mt t lo hi),p,q,r,s]= .ok (.int ((iv (lo == 0):Nat):Int)):=λ{p q r s}=>Gv (by
  rw[ZJ,xU,bOk,zM,bOk,eqI,bOk,show ((lo:Int) == 0)=(lo == 0) from vT lo 0])
 have eq3:∀{p q r s:Sl},ap1 Wa (jB eqC (zd ixT (vE 0) (cE (.int 3))) (cE (.int 3))) [.vl (mt t lo hi),p,q,r,s]= .ok (.int ((iv (hi == 3):Nat):Int)):=λ{p q r s}=>Gv (by
  rw[ZJ,Xx,bOk,zM,bOk,eqI,bOk,show ((hi:Int) == 3)=(hi == 3) from vT hi 3])
 have a1:=zW (i:=2) (qc (eq0 (p:=a) (q:= .vl (.int 1)) (r:=x) (s:= .vl (.int (n:Int)))) (Je h1 v4' le1));have a1:zt 2 (zd zp (ap1 Wa (jB eqC (zd ixT (vE 0) (cE (.int 2))) (cE (.int 0)))) (zd zO (vE 4) (ap1 Wa (chE leC leC (zd ixT (vE 0) (cE (.int 2))) (cE (.int 1)) (zd ixT (vE 0) (cE (.int 3))))))) [.vl (mt t lo hi),a,.vl (.int 1),x,.vl (.int (n:Int))]= .nx [.vl (mt t lo hi),a,.vl (.int ((iv (lo == 0)+n*iv (decide (lo<=1) && decide (1<=hi)):Nat):Int)),x,.vl (.int (n:Int))]:=a1;rw[zg a1];generalize iv (lo == 0)+n*iv (decide (lo<=1) && decide (1<=hi))=m1;have a2:=zW (i:=2) (qc (v2 (t:= .int (m1:Int)) (a:= .vl (mt t lo hi)) (b:=a) (ρ:=[x,.vl (.int (n:Int))])) (Je h2 (Je h1 v4' v4') le2));have a2:zt 2 (zd zp (vE 2) (zd zO (zd zO (vE 4) (vE 4)) (ap1 Wa (chE leC leC (zd ixT (vE 0) (cE (.int 2))) (cE (.int 2)) (zd ixT (vE 0) (cE (.int 3))))))) [.vl (mt t lo hi),a,.vl (.int (m1:Int)),x,.vl (.int (n:Int))]= .nx [.vl (mt t lo hi),a,.vl (.int ((m1+n*n*iv (decide (lo<=2) && decide (2<=hi)):Nat):Int)),x,.vl (.int (n:Int))]:=a2;rw[zg a2];generalize m1+n*n*iv (decide (lo<=2) && decide (2<=hi))=m2;have a3:=zW (i:=2) (qc (v2 (t:= .int (m2:Int)) (a:= .vl (mt t lo hi)) (b:=a) (ρ:=[x,.vl (.int (n:Int))])) (Je h3 (Je h2 (Je h1 v4' v4') v4') eq3));exact a3
theorem qe {cs:List T->R T}{d:Nat}(hd:d+1<=3)(k:Kd)(lo hi:Nat)(h:(Kd.many k lo hi).Ok (d+1))(H:∀k:Kd,k.Ok d->cs [k.t]= .ok (.int (k.all.length:Int))):zj (b_d (f_8 8) cs (en0 5 [(Kd.many k lo hi).t]))= .ok (.int ((Kd.many k lo hi).all.length:Int)):=by
 obtain⟨h1,h2,h3⟩:=h;have hd0:1<=d:=by
  cases d with
  | zero=>exact h3.elim
  | succ d=>omega
 obtain⟨c3,c2,c1⟩:=xX (jg d k h3) hd hd0;rw[ZP,xS _ h1 h2];simp only[Kd.t];have hk:=H k h3;generalize k.all.length=n at*;generalize k.t=t at*;have e:zj (b_d (f_8 8) cs (en0 5 [mt t lo hi]))=zj (b_d (f_8 8) cs [.vl (mt t lo hi),.un,.un,.un,.un]):=rfl;have e1:zx inC (zd ixT (vE 0) (cE (.int 0))) (Zd (za (cE (.str "whole")) (za (cE (.str "pick")) (zf)))) [.vl (mt t lo hi),.un,.un,.un,.un]= .ok false:=by
  rw[in2];rfl
 have e2:ifE (zx eqC (zd ixT (vE 0) (cE (.int 0))) (cE (.str "row"))) (zZ (j0 (zd ixT (vE 0) (cE (.int 1)))) (zr 0) (Ze) (zc 1 cs (za (vE 0) (zf))) 1 []) (ZE (zf)) [.vl (mt t lo hi),.un,.un,.un,.un]= .ok (.lst []):=by
  unfold ifE;rw[cs0,bOk,show (("many":Str) == "row")=false from rfl,if_neg av];rfl
 have s1:([.vl (mt t lo hi),.un,.un,.un,.un]:En).set 1 (.vl (.lst []))=[.vl (mt t lo hi),.vl (.lst []),.un,.un,.un]:=rfl;have s2:([.vl (mt t lo hi),.vl (.lst []),.un,.un,.un]:En).set 2 (.vl (.int 1))=[.vl (mt t lo hi),.vl (.lst []),.vl (.int 1),.un,.un]:=rfl;have e3:ja (j0 (vE 1)) (zr 3) (zt 2 (zd zO (vE 2) (vE 3))) [.vl (mt t lo hi),.vl (.lst []),.vl (.int 1),.un,.un]= .nx [.vl (mt t lo hi),.vl (.lst []),.vl (.int 1),.un,.un]:=rfl;have e4:zx eqC (zd ixT (vE 0) (cE (.int 0))) (cE (.str "many")) [.vl (mt t lo hi),.vl (.lst []),.vl (.int 1),.un,.un]= .ok true:=by
  rw[cs0];rfl
 have e5:zc 1 cs (za (zd ixT (vE 0) (cE (.int 1))) (zf)) [.vl (mt t lo hi),.vl (.lst []),.vl (.int 1),.un,.un]= .ok (.int (n:Int)):=by
  rw[Z5,WX,bOk,hk]
 have s5:([.vl (mt t lo hi),.vl (.lst []),.vl (.int 1),.un,.un]:En).set 4 (.vl (.int (n:Int)))=[.vl (mt t lo hi),.vl (.lst []),.vl (.int 1),.un,.vl (.int (n:Int))]:=rfl;have e6:=qd (t:=t) (a:= .vl (.lst [])) (x:= .un) (lo:=lo) (hi:=hi) c3 c2 c1;rw[e,b_d,zg (ZW e1),zg (zW e2),s1,zg (zW zM),s2,zg e3];have e7:∀(P:En->RS),ifS (zx eqC (zd ixT (vE 0) (cE (.int 0))) (cE (.str "many"))) (zo (zt 4 (zc 1 cs (za (zd ixT (vE 0) (cE (.int 1))) (zf)))) P) nxS [.vl (mt t lo hi),.vl (.lst []),.vl (.int 1),.un,.un]=P [.vl (mt t lo hi),.vl (.lst []),.vl (.int 1),.un,.vl (.int (n:Int))]:=λP=>by
  rw[Wc e4,zg (zW e5),s5]
 rw[zg (Eq.trans (e7 _) e6)];rfl
theorem qf:∀(d n:Nat),d<=n->d<=3->∀k:Kd,k.Ok d->S_d n 0 [k.t]= .ok (.int (k.all.length:Int))
 | 0,_,_,_,_,h=>h.elim
 | d+1,0,hn,_,_,_=>by omega
 | d+1,n+1,hn,hd,k,h=>by
  have e:S_d (n+1) 0 [k.t]=zj (b_d (f_8 8) (S_d n 0) (en0 5 [k.t])):=rfl;rw[e];have H:∀k:Kd,k.Ok d->S_d n 0 [k.t]= .ok (.int (k.all.length:Int)):=λk' hk' =>qf d n (by omega) (by omega) k' hk'
  cases k with
  | whole lo hi=>exact WL (.whole lo hi) (QS d lo hi h) (x:="whole") (r:=[.int lo,.int hi]) (by simp only[Kd.t]) rfl
  | pick cs=>exact WL (.pick cs) (QT d cs h) (x:="pick") (r:=[.tup (cs.map Jc)]) (by simp only[Kd.t]) rfl
  | row ks=>exact QU (by omega) ks h H
  | many k lo hi=>exact qe (by omega) k lo hi h H
theorem Ok.mono:∀(d:Nat) (k:Kd),k.Ok d->k.Ok (d+1)
 | 0,_,h=>h.elim
 | d+1,.whole _ _,h=>h
 | d+1,.pick _,h=>h
 | d+1,.row ks,h=>⟨h.1,h.2.1,λk hk=>Ok.mono d k (h.2.2 k hk)⟩
 | d+1,.many k _ _,h=>⟨h.1,h.2.1,Ok.mono d k h.2.2⟩
theorem xY (j:Int):zO (.int 700) (.int j)= .ok (.int (700*j)):=UN _ _ (.inl ⟨by decide,by decide⟩)
theorem gi (ns:List Int)(d:Nat)(h1:1<=d)(h8:d<=8)(k:Int)(h0:0<=k):∃q:Kd,f_k 8 [scr ns,.int k,.int (d:Int)]= .ok q.t/\q.Ok d:=by
 obtain⟨t,ht,hi⟩:=uk ns d 8 h8 h1 k h0;obtain⟨q,rfl,hq⟩:=ut d t hi;exact⟨q,ht,hq⟩
abbrev smB:En->RS:=zo (ifS (zx leC (zc 1 (f_d 8) (za (vE 3) (zf))) (vB 2)) (zv (vE 3)) (nxS))
  (zt 3 (zc 3 (f_k 8) (za (vE 0) (za (zd zp (zd zp (vE 1) (cE (.int 500))) (zd zO (cE (.int 700)) (vE 4))) (za (cE (.int 2)) (zf))))))
abbrev en5 (ns:List Int)(a:Int)(m:Nat)(k:Kd)(x:Sl):En:=[.vl (scr ns),.vl (.int a),.vl (.int (m:Int)),.vl k.t,x]
theorem qg {ns:List Int}{a:Int}{m:Nat}{k:Kd}{x:Sl}(hk:k.Ok 3):zx leC (zc 1 (f_d 8) (za (vE 3) (zf))) (vB 2) (en5 ns a m k x)= .ok (decide (k.all.length<=m)):=by
 have e:f_d 8 [k.t]= .ok (.int (k.all.length:Int)):=qf 3 8 (by omega) (by omega) k hk
 rw[zD,Z5,v3,bOk,e,bOk,w2,bOk,wU,wu]
theorem xZ (ns:List Int){a:Int}{m:Nat}(ha:0<=a){k:Kd}(hk:k.Ok 3)(j:Nat):(k.all.length<=m/\smB (en5 ns a m k (.vl (.int (0+(j:Int)))))= .rt k.t)\/∃k' :Kd,k'.Ok 3/\smB (en5 ns a m k (.vl (.int (0+(j:Int)))))= .nx (en5 ns a m k' (.vl (.int (0+(j:Int))))):=by
 by_cases h:k.all.length<=m
 ·refine .inl ⟨h, ?_⟩;unfold smB;refine Zt ?_;rw[Wc (by rw[qg hk,decide_eq_true h])]
  exact zy rfl
 ·obtain⟨q,hq,ho⟩:=gi ns 2 (by omega) (by omega) (a+500+700*(0+(j:Int))) (by omega)
  refine .inr ⟨q,Ok.mono 2 q ho, ?_⟩;unfold smB;rw[zg (ZW (by rw[qg hk,decide_eq_false h]))]
  have hq:f_k 8 [scr ns,.int (a+500+700*(0+(j:Int))),.int 2]= .ok q.t:=hq;have e:zc 3 (f_k 8) (za (vE 0) (za (zd zp (zd zp (vE 1) (cE (.int 500))) (zd zO (cE (.int 700)) (vE 4))) (za (cE (.int 2)) (zf)))) (en5 ns a m k (.vl (.int (0+(j:Int)))))= .ok q.t:=by
   rw[Za,v0,bOk,zh,zh,v1,bOk,zM,bOk,zP,bOk,zh,zM,bOk,v4,bOk,xY,bOk,zP,bOk,zM,bOk,hq]
  rw[zW e];rfl
theorem gj {g:T->En->R En}{fb:En->RS}{t:T}{ts:List T}{ρ ρ1:En}{r:T}(hg:g t ρ= .ok ρ1)(hb:fb ρ1= .rt r):Zk g fb (t :: ts) ρ= .rt r:=by
 rw[Zk,hg];dsimp only;rw[hb]
theorem qh (ns:List Int){a:Int}{m:Nat}(ha:0<=a):∀(js:List Nat) (k:Kd) (x:Sl),k.Ok 3->(∃k' :Kd,k'.Ok 3/\k'.all.length<=m/\Zk (zr 4) smB (js.map λ(j:Nat)=>T.int (0+(j:Int))) (en5 ns a m k x)= .rt k'.t)\/
  ∃(k' :Kd) (x' :Sl),k'.Ok 3/\Zk (zr 4) smB (js.map λ(j:Nat)=>T.int (0+(j:Int))) (en5 ns a m k x)= .nx (en5 ns a m k' x')
 | [],k,x,hk=> .inr ⟨k,x,hk,rfl⟩
 | j :: js,k,x,hk=>by
  have s3:zr 4 (T.int (0+(j:Int))) (en5 ns a m k x)= .ok (en5 ns a m k (.vl (.int (0+(j:Int))))):=rfl;rw[aI];rcases xZ ns ha (m:=m) hk j with ⟨h1,h2⟩ | ⟨k',h1,h2⟩
  ·exact .inl ⟨k,hk,h1,gj s3 h2⟩
  ·rw[jU s3 h2];exact qh ns ha js k' _ h1
theorem QV (ns:List Int)(a:Int)(ha:0<=a)(m:Nat)(hm:4<=m):∃k:Kd,k.Ok 3/\k.all.length<=m/\Xq [scr ns,.int a,.int (m:Int)]= .ok k.t:=by
 obtain⟨q,hq,ho⟩:=gi ns 3 (by omega) (by omega) a ha
 have hq:f_k 8 [scr ns,.int a,.int 3]= .ok q.t:=hq;have e:Xq [scr ns,.int a,.int (m:Int)]=zj (Gb (f_k 8) (f_d 8) [.vl (scr ns),.vl (.int a),.vl (.int (m:Int)),.un,.un]):=rfl;have e1:zc 3 (f_k 8) (za (vE 0) (za (vE 1) (za (cE (.int 3)) (zf)))) [.vl (scr ns),.vl (.int a),.vl (.int (m:Int)),.un,.un]= .ok q.t:=by
  rw[Za,v0,bOk,v1,bOk,zM,bOk,hq]
 have s1:([.vl (scr ns),.vl (.int a),.vl (.int (m:Int)),.un,.un]:En).set 3 (.vl q.t)=en5 ns a m q .un:=rfl;rw[e,Gb,zg (zW e1),s1];rcases qh ns ha (m:=m) (aW 3) q .un ho with ⟨k,h1,h2,h3⟩ | ⟨k,x,h1,h3⟩
 ·refine⟨k,h1,h2, ?_⟩;have e2:ja (Zf (cE (.int 3))) (zr 4) smB (en5 ns a m q .un)= .rt k.t:=h3;rw[Zt e2];rfl
 ·have e2:ja (Zf (cE (.int 3))) (zr 4) smB (en5 ns a m q .un)= .nx (en5 ns a m k x):=h3;rw[zg e2];have ec:zx leC (zc 1 (f_d 8) (za (vE 3) (zf))) (vB 2) (frz (en5 ns a m k x))= .ok (decide (k.all.length<=m)):=qg (x:=wk x) h1
  by_cases h:k.all.length<=m
  ·refine⟨k,h1,h, ?_⟩;rw[zy (t:=k.t)]
   ·rfl
   ·unfold ifE;rw[ec,bOk,decide_eq_true h,if_pos rfl];rfl
  ·refine⟨.whole (-1) 2,⟨by omega,by omega,by omega⟩,by rw[ZY];exact hm, ?_⟩
   rw[zy (t:=(Kd.whole (-1) 2).t)]
   ·rfl
   ·unfold ifE;rw[ec,bOk,decide_eq_false h,if_neg av,Kd.t];rfl
mutual
def Kd.has:Kd->T->Bool
 | .whole lo hi=>λt=>inR lo hi t
 | .pick cs=>λt=>match t with | .str x=>cs.any λc=>c.1 == x | _=>false
 | .row ks=>λt=>match t with | .tup xs=>xs.length == ks.length && Kd.hass ks xs | _=>false
 | .many k lo hi=>λt=>match t with | .tup xs=>decide (lo<=xs.length) && decide (xs.length<=hi) && xs.all k.has | _=>false
def Kd.hass:List Kd->List T->Bool
 | []=>λ_=>true
 | k :: ks=>λxs=>match xs with | []=>true | x :: xs=>k.has x && Kd.hass ks xs
end
theorem U7:∀(ks:List Kd) (xs:List T),Kd.hass ks xs=(ks.zip xs).all λq=>q.1.has q.2
 | [],_=>by simp[Kd.hass]
 | k :: ks,[]=>by simp[Kd.hass]
 | k :: ks,x :: xs=>by simp[Kd.hass,U7 ks xs]
def UU:List (List T)->List T->Prop
 | [],[]=>True
 | l :: ls,x :: xs=>x∈l/\UU ls xs
 | _,_=>False
theorem JT:∀(ls made:List (List T)) (xs:List T),xs∈Zb made ls↔∃a∈made,∃b,UU ls b/\xs=a++b
 | [],made,xs=>by
  rw[Zb];constructor
  ·exact λh=>⟨xs,h,[],trivial,by simp⟩
  ·rintro⟨a,ha,b,hb,rfl⟩
   cases b with
   | nil=>simpa using ha
   | cons=>exact hb.elim
 | l :: ls,made,xs=>by
  rw[Zb,JT ls];constructor
  ·rintro⟨a',ha',b,hb,rfl⟩
   obtain⟨a,ha,hx⟩:=cO.mp ha';obtain⟨x,hl,e⟩:=aO.mp hx;exact⟨a,ha,x :: b,⟨hl,hb⟩,by rw[← e];simp⟩
  ·rintro⟨a,ha,b,hb,rfl⟩
   cases b with
   | nil=>exact hb.elim
   | cons x b=>exact⟨a++[x],cO.mpr ⟨a,ha,aO.mpr ⟨x,hb.1,rfl⟩⟩,b,hb.2,by simp⟩
theorem W3 (ls:List (List T))(t:T):t∈WG ls↔∃xs,UU ls xs/\t= .tup xs:=by
 unfold WG;rw[aO];constructor
 ·rintro⟨xs,h,rfl⟩
  obtain⟨a,ha,b,hb,rfl⟩:=(JT ls [[]] xs).mp h;rw[aY.mp ha];exact⟨b,hb,rfl⟩
 ·rintro⟨xs,h,rfl⟩
  exact⟨xs,(JT ls [[]] xs).mpr ⟨[],aY.mpr rfl,xs,h,rfl⟩,rfl⟩
theorem W4 (l:List T):∀(m:Nat) (xs:List T),UU (ad m l) xs↔xs.length=m/\∀x∈xs,x∈l
 | 0,[]=>by simp[UU]
 | 0,x :: xs=>by simp[UU]
 | m+1,[]=>by simp[UU,aU]
 | m+1,x :: xs=>by
  rw[aU];show x∈l/\UU _ xs↔_;rw[W4 l m xs];simp;constructor
  ·rintro⟨a,b,c⟩;exact⟨b,a,c⟩
  ·rintro⟨a,b,c⟩;exact⟨b,a,c⟩
theorem WM:∀(ks:List Kd),(∀k∈ks,∀x,x∈k.all↔k.has x=true)->∀xs,UU (ks.map Kd.all) xs↔(xs.length == ks.length && Kd.hass ks xs)=true
 | [],_,[]=>by simp[UU,Kd.hass]
 | [],_,x :: xs=>by simp[UU]
 | k :: ks,h,[]=>by simp[UU]
 | k :: ks,h,x :: xs=>by
  show x∈k.all/\UU (ks.map Kd.all) xs↔_;rw[WM ks (λk' hk' =>h k' (af _ hk')) xs,h k aw x];simp[Kd.hass];constructor
  ·rintro⟨a,b,c⟩;exact⟨b,a,c⟩
  ·rintro⟨a,b,c⟩;exact⟨b,a,c⟩
mutual
theorem JU:∀(k:Kd) (x:T),x∈k.all↔k.has x=true
 | .whole lo hi,x=>by
  rw[Kd.all,Kd.has,aO];constructor
  ·rintro⟨i,hi',rfl⟩
   rw[bu]at hi';simp[inR];omega
  ·intro h;obtain⟨i,rfl⟩:=YG h;simp[inR]at h;exact⟨(i - lo).toNat,by rw[bu];omega,by congr 1;omega⟩
 | .pick cs,x=>by
  rw[Kd.all,Kd.has,aO];constructor
  ·rintro⟨c,hc,rfl⟩
   simp only[ig];exact⟨c,hc,by simp⟩
  ·intro h;dsimp only at h;split at h
   ·rw[ig]at h;obtain⟨c,hc,e⟩:=h;exact⟨c,hc,by rw[eq_of_beq e]⟩
   ·cases h
 | .row ks,x=>by
  rw[Kd.all,Kd.has,W3,Kd.alls_map];have:=WM ks (U8 ks);constructor
  ·rintro⟨xs,h,rfl⟩
   exact(this xs).mp h
  ·intro h;dsimp only at h;split at h
   ·rename_i xs;exact⟨xs,(this xs).mpr h,rfl⟩
   ·cases h
 | .many k lo hi,x=>by
  rw[Kd.all,Kd.has,cO];constructor
  ·rintro⟨i,hi',h⟩
   rw[W3]at h;obtain⟨xs,h,rfl⟩:=h;rw[W4]at h;rw[bu]at hi';simp only[ak,decide_eq_true_eq,aT];exact⟨⟨by omega,by omega⟩,λy hy=>(JU k y).mp (h.2 y hy)⟩
  ·intro h;dsimp only at h;split at h
   ·rename_i xs;simp only[ak,decide_eq_true_eq,aT]at h;refine⟨xs.length - lo,by rw[bu];omega, ?_⟩
    rw[W3];exact⟨xs,(W4 _ _ _).mpr ⟨by omega,λy hy=>(JU k y).mpr (h.2 y hy)⟩,rfl⟩
   ·cases h
theorem U8:∀(ks:List Kd),∀k∈ks,∀x,x∈k.all↔k.has x=true
 | [],_,h=>nomatch h
 | k :: ks,k',h=>by
  rcases aG.mp h with e | h
  ·intro x;rw[e];exact JU k x
  ·exact U8 ks k' h
end
theorem wv {c:List T->R T}:∀(qs:List (Kd×T)) (x y:Sl),(∀q∈qs,c [q.1.t,q.2]= .ok (.bl (q.1.has q.2)))->zH (Zr 0 1) Ze (zc 2 c (za (vE 0) (za (vE 1) (zf)))) (qs.map λq=>T.tup [q.1.t,q.2]) [x,y]= .ok (qs.map λq=>T.bl (q.1.has q.2))
 | [],_,_,_=>rfl
 | q :: qs,x,y,h=>by
  have e:zc 2 c (za (vE 0) (za (vE 1) (zf))) [.vl q.1.t,.vl q.2]= .ok (.bl (q.1.has q.2)):=by
   rw[Zl,v0,bOk,v1,bOk,h q aw]
  have ih:=wv qs (.vl q.1.t) (.vl q.2) λr hr=>h r (af _ hr);have e0:zH (Zr 0 1) Ze (zc 2 c (za (vE 0) (za (vE 1) (zf)))) ((q :: qs).map λq=>T.tup [q.1.t,q.2]) [x,y]=
   (zc 2 c (za (vE 0) (za (vE 1) (zf))) [.vl q.1.t,.vl q.2]).bind λv=>(zH (Zr 0 1) Ze (zc 2 c (za (vE 0) (za (vE 1) (zf)))) (qs.map λq=>T.tup [q.1.t,q.2]) [.vl q.1.t,.vl q.2]).bind λvs=> .ok (v :: vs):=rfl
  rw[e0,e,bOk,ih,bOk,aI]
theorem U9 {α:Type}(p:α->Bool):∀qs:List α,WU (qs.map λq=>T.bl (p q))=some (qs.all p)
 | []=>rfl
 | q :: qs=>by
  have e:WU ((q :: qs).map λq=>T.bl (p q))=match WU (qs.map λq=>T.bl (p q)) with | some j=>some (p q && j) | none=>none:=rfl
  rw[e,U9 p qs];rfl
theorem gm (ks:List Kd)(xs:List T):qH (ks.map Kd.t) xs=(ks.zip xs).map λq=>T.tup [q.1.t,q.2]:=by
 unfold qH;rw[List.zip_map_left,br];rfl
theorem Ua {c:List T->R T}{s:T}(ks:List Kd)(xs:List T)(hs:J6 s= .ok (ks.map Kd.t))(hl:ks.length<=3)(H:∀q∈ks.zip xs,c [q.1.t,q.2]= .ok (.bl (q.1.has q.2))):
  zj (KK c (en0 2 [s,.tup xs]))= .ok (.bl ((ks.zip xs).all λq=>q.1.has q.2)):=by
 have e:en0 2 [s,.tup xs]=[.vl s,.vl (.tup xs)]:=rfl;have ez:Kh (vE 0) (vE 1) [.vl s,.vl (.tup xs)]= .ok ((ks.zip xs).map λq=>T.tup [q.1.t,q.2]):=by
  show (J6 s).bind _=_;rw[hs,bOk,← gm];rfl
 have hb:((ks.zip xs).map λq=>T.tup [q.1.t,q.2]).length<=bnd:=by
  rw[ae,List.length_zip];exact aF (Nat.min_le_left _ _) (aF hl (by decide))
 have ec:zI (Zr 0 1) Ze (zc 2 c (za (vE 0) (za (vE 1) (zf)))) 2 [] [.vl s,.vl (.tup xs)] ((ks.zip xs).map λq=>T.tup [q.1.t,q.2])= .ok ((ks.zip xs).map λq=>T.bl (q.1.has q.2)):=by
  unfold zI;rw[if_pos hb];show quiet (zH _ _ _ _ [.un,.un])=_;rw[wv _ _ _ H];rfl
 rw[e,KK,zy (t:= .bl ((ks.zip xs).all λq=>q.1.has q.2))]
 ·rfl
 ·show ap1 _ _ [.vl s,.vl (.tup xs)]=_;rw[Zz,zT,ez,bOk,ec,bOk,bOk];show (match WU ((ks.zip xs).map λq=>T.bl (q.1.has q.2)) with | some k=>_ | none=>_)=_
  rw[U9]
theorem W5 (cs:List (Str×Int))(h:cs.length<=4):f_m [(Kd.pick cs).t]= .ok (.lst (cs.map λc=>T.str c.1)):=by
 have e:f_m [(Kd.pick cs).t]=zj (b_m [.vl (.tup [.str "pick",.tup (cs.map Jc)])]):=by rw[Kd.t];rfl
 have hb:(cs.map Jc).length<=bnd:=by rw[ae];exact aF h (by decide)
 have ec:zI (zr 0) Ze (zd ixT (vE 0) (cE (.int 0))) 1 [] [.vl (.tup [.str "pick",.tup (cs.map Jc)])] (cs.map Jc)= .ok ((cs.map Jc).map λc=>match c with | .tup (w :: _)=>w | _=>c):=
  Z9 _ hb λt ht=>by
   obtain⟨c,_,rfl⟩:=aO.mp ht;rfl
 rw[e,b_m,zy (t:= .lst (cs.map λc=>T.str c.1))]
 ·rfl
 ·show zZ _ _ _ _ _ _ [.vl (.tup [.str "pick",.tup (cs.map Jc)])]=_;rw[zT,ZX,WX,bOk];show ((zI _ _ _ _ _ _ (cs.map Jc)).bind _)=_;rw[ec,bOk,br];rfl
theorem Ub (t:T):∀cs:List (Str×Int),uI (λy=>eqF 30 y t) (cs.map λc=>T.str c.1)=some ((Kd.pick cs).has t)
 | []=>by rw[Kd.has];cases t <;> rfl
 | c :: cs=>by
  have ih:=Ub t cs;rw[Kd.has]at ih ⊢;have e:uI (λy=>eqF 30 y t) ((c :: cs).map λc=>T.str c.1)=match eqF 30 (.str c.1) t with
   | none=>none
   | some b=>match uI (λy=>eqF 30 y t) (cs.map λc=>T.str c.1) with
    | none=>none
    | some d=>some (b || d):=rfl
  rw[e,ih];cases t <;> rfl
abbrev en2 (a b:T):En:=[.vl a,.vl b]
theorem yb {x w:Str}{r:List T}{b:T}(h:(x == w)=false){f:En->RS}:ifS (zx eqC (zd ixT (vE 0) (cE (.int 0))) (cE (.str w))) f nxS (en2 (.tup (.str x :: r)) b)= .nx (en2 (.tup (.str x :: r)) b):=
 ZW (by rw[cs0,h])
theorem Xy {x:Str}{r:List T}{b:T}{f:En->RS}:ifS (zx eqC (zd ixT (vE 0) (cE (.int 0))) (cE (.str x))) f nxS (en2 (.tup (.str x :: r)) b)=f (en2 (.tup (.str x :: r)) b):=
 Wc (by rw[cs0,beq_self_eq_true])
theorem qi {cp:List T->R T}(lo hi:Int)(x:T):zj (b_i f_p f_f f_m cp (en0 2 [(Kd.whole lo hi).t,x]))= .ok (.bl ((Kd.whole lo hi).has x)):=by
 have e:en0 2 [(Kd.whole lo hi).t,x]=en2 (.tup [.str "whole",.int lo,.int hi]) x:=by rw[Kd.t];rfl
 rw[e,b_i,Zt (t:= .bl (inR lo hi x))]
 ·rw[Kd.has];rfl
 ·rw[Xy,zy];show jI _ _ (en2 _ x)=_;rw[jS,Z5,v1,bOk,uY,Zj];cases x with
  | int i=>
   rw[show isW (T.int i)=true from rfl,if_pos rfl,QA,WX,bOk,w1,bOk,wU,bOk,xU,bOk,wU,bOk];show _=R.ok (T.bl (decide (lo<=i) && decide (i<=hi)));cases decide (lo<=i) <;> rfl
  | _=>rfl
theorem QW {cp:List T->R T}(cs:List (Str×Int))(h4:cs.length<=4)(x:T):zj (b_i f_p f_f f_m cp (en0 2 [(Kd.pick cs).t,x]))= .ok (.bl ((Kd.pick cs).has x)):=by
 have e:en0 2 [(Kd.pick cs).t,x]=en2 (.tup [.str "pick",.tup (cs.map Jc)]) x:=by rw[Kd.t];rfl
 have hw:=W5 cs h4;rw[Kd.t]at hw;rw[e,b_i,zg (yb (by decide)),Zt (t:= .bl ((Kd.pick cs).has x))]
 ·rfl
 ·rw[Xy,zy];show jB _ _ _ (en2 _ x)=_;rw[ZJ,w1,bOk,Z5,v0,bOk,hw,bOk];show ((match uI (λy=>eqF 30 y x) (cs.map λ(c:Str×Int)=>T.str c.1) with | some b=>R.ok b | none=> .bad).bind _)=_
  rw[Ub];rfl
theorem X0 {cp:List T->R T}(ks:List Kd)(h3:ks.length<=3)(x:T)(H:∀xs,x= .tup xs->cp [.tup (ks.map Kd.t),x]= .ok (.bl ((ks.zip xs).all λq=>q.1.has q.2))):zj (b_i f_p f_f f_m cp (en0 2 [(Kd.row ks).t,x]))= .ok (.bl ((Kd.row ks).has x)):=by
 have e:en0 2 [(Kd.row ks).t,x]=en2 (.tup [.str "row",.tup (ks.map Kd.t)]) x:=by rw[Kd.t,Kd.ts_map];rfl
 rw[e,b_i,zg (yb (by decide)),zg (yb (by decide)),Zt (t:= .bl ((Kd.row ks).has x))]
 ·rfl
 ·rw[Xy,zy];show jI _ _ (en2 _ x)=_;have el:ap1 Z2 (zd ixT (vE 0) (cE (.int 1))) (en2 (.tup [.str "row",.tup (ks.map Kd.t)]) x)= .ok (.int (ks.length:Nat)):=by
   rw[Zz,WX,bOk,j3,ae]
  rw[jS,Za,v1,bOk,el,bOk,bOk,ZH,Zj,Zl,WX,bOk,v1,bOk,Kd.has];cases x with
  | tup xs=>
   rw[H xs rfl];show (if (decide (ks.length<=xs.length) && decide (xs.length<=ks.length))=true then _ else _)=R.ok (T.bl (xs.length == ks.length && Kd.hass ks xs))
   rw[U7]
   by_cases h:xs.length=ks.length
   ·rw[if_pos (by simp[h])]
    simp[h]
   ·rw[if_neg (by simp;omega)]
    simp[h]
  | _=>rfl
theorem qj (k:Kd):∀xs:List T,((ad xs.length k).zip xs).all (λq=>q.1.has q.2)=xs.all k.has
 | []=>rfl
 | x :: xs=>by
  rw[ah,aU,List.zip_cons_cons,bW,bW,qj k xs]
theorem QX {cp:List T->R T}(k:Kd)(lo hi:Nat)(h3:hi<=3)(x:T)(H:∀xs,x= .tup xs->xs.length<=3->cp [.lst ((ad xs.length k).map Kd.t),x]= .ok (.bl (((ad xs.length k).zip xs).all λq=>q.1.has q.2))):zj (b_i f_p f_f f_m cp (en0 2 [(Kd.many k lo hi).t,x]))= .ok (.bl ((Kd.many k lo hi).has x)):=by
 have e:en0 2 [(Kd.many k lo hi).t,x]=en2 (.tup [.str "many",k.t,.int (lo:Int),.int (hi:Int)]) x:=by rw[Kd.t];rfl
 rw[e,b_i,zg (yb (by decide)),zg (yb (by decide)),zg (yb (by decide)),zy (t:= .bl ((Kd.many k lo hi).has x))]
 ·rfl
 ·show jI _ _ (en2 _ x)=_;rw[jS,Za,v1,bOk,xU,bOk,Xx,bOk,ZH,Zj,Kd.has];cases x with
  | tup xs=>
   show (if (decide (lo<=xs.length) && decide (xs.length<=hi))=true then _ else _)=R.ok (T.bl (decide (lo<=xs.length) && decide (xs.length<=hi) && xs.all k.has))
   cases hh:(decide (lo<=xs.length) && decide (xs.length<=hi)) with
   | false=>rfl
   | true=>
    rw[ak,decide_eq_true_eq,decide_eq_true_eq]at hh;have hx:xs.length<=3:=by omega
    have em:zd zO (ZE (za (zd ixT (vE 0) (cE (.int 1))) (zf))) (ap1 Z2 (vB 1)) (en2 (.tup [.str "many",k.t,.int (lo:Int),.int (hi:Int)]) (.tup xs))= .ok (.lst ((ad xs.length k).map Kd.t)):=by
     rw[zh,gc WX,bOk,Zz,w1,bOk,j3,bOk,WJ hx,jq,aS]
    rw[if_pos rfl,Zl,em,bOk,v1,bOk,H xs rfl hx,qj];rfl
  | _=>rfl
theorem vU:∀(d n:Nat),2*d<=n->∀(k:Kd) (x:T),k.Ok d->S_i n 0 [k.t,x]= .ok (.bl (k.has x))
 | 0,_,_,_,_,h=>h.elim
 | d+1,n+2,hn,k,x,h=>by
  have ih:=vU d n (by omega)
  have e:S_i (n+2) 0 [k.t,x]=zj (b_i f_p f_f f_m (S_i (n+1) 1) (en0 2 [k.t,x])):=by rw[S_i]
  have e1:∀s y,S_i (n+1) 1 [s,y]=zj (KK (S_i n 0) (en0 2 [s,y])):=λs y=>by rw[S_i];intro h;cases h
  rw[e];cases k with
  | whole lo hi=>exact qi lo hi x
  | pick cs=>exact QW cs h.2.1 x
  | row ks=>
   refine X0 ks h.2.1 x λxs hx=> ?_;rw[e1,hx,Ua ks xs rfl h.2.1 λq hq=>ih q.1 q.2 (h.2.2 q.1 (dm hq).1)]
  | many k lo hi=>
   refine QX k lo hi h.2.1 x λxs hx h3=> ?_;rw[e1,hx,Ua (ad xs.length k) xs rfl (by rw[aN];exact h3) λq hq=>ih q.1 q.2 (by
    rw[bL (dm hq).1];exact h.2.2)]
theorem WN:∀(d:Nat) (k:Kd),k.Ok d->isK d k.t=true
 | 0,_,h=>h.elim
 | d+1,.whole lo hi,h=>by
  have e:isK (d+1) (Kd.whole lo hi).t=(decide (-20<=lo) && decide (lo<=hi) && decide (hi<=20)):=by rw[Kd.t];rfl
  obtain⟨h1,h2,h3⟩:=h;rw[e];simp;omega
 | d+1,.pick cs,h=>by
  have e:isK (d+1) (Kd.pick cs).t=(decide (1<=(cs.map Jc).length) && decide ((cs.map Jc).length<=4) && (cs.map Jc).all zm && decide ((dd [] ((cs.map Jc).map zJ)).length=(cs.map Jc).length)):=by rw[Kd.t];rfl
  obtain⟨h1,h2,h3,h4⟩:=h;have e1:(cs.map Jc).map zJ=cs.map (·.1):=by rw[br];rfl
  have e2:=(JM (cs.map (·.1)) []).mpr λk w hw=>by simpa using h4 k w hw
  rw[e,e1,e2,ae,ae];simp only[ak,decide_eq_true_eq,aT];refine⟨⟨⟨h1,h2⟩,λc hc=> ?_⟩,by simp⟩
  obtain⟨p,hp,rfl⟩:=aO.mp hc;obtain⟨a,b,c⟩:=h3 p hp;show (Z1 (.str p.1) && decide (1<=p.2) && decide (p.2<=20))=true;rw[a];simp;omega
 | d+1,.row ks,h=>by
  have e:isK (d+1) (Kd.row ks).t=(decide (1<=(ks.map Kd.t).length) && decide ((ks.map Kd.t).length<=3) && (ks.map Kd.t).all (isK d)):=by rw[Kd.t,Kd.ts_map];rfl
  obtain⟨h1,h2,h3⟩:=h;rw[e,ae];simp only[ak,decide_eq_true_eq,aT];refine⟨⟨h1,h2⟩,λc hc=> ?_⟩;obtain⟨k,hk,rfl⟩:=aO.mp hc;exact WN d k (h3 k hk)
 | d+1,.many k lo hi,h=>by
  have e:isK (d+1) (Kd.many k lo hi).t=((decide ((0:Int)<=(lo:Int)) && decide ((lo:Int)<=(hi:Int)) && decide ((hi:Int)<=3)) && isK d k.t):=by rw[Kd.t];rfl
  obtain⟨h1,h2,h3⟩:=h;rw[e,WN d k h3];simp;omega
theorem Uc:∀(ks:List Kd) (xs:List T),xs.length=ks.length->Kd.hass ks xs=true->∀x∈xs,∃k∈ks,k.has x=true
 | [],[],_,_,_,h=>nomatch h
 | k :: ks,[],h,_,_,_=>by cases h
 | [],x :: xs,h,_,_,_=>by cases h
 | k :: ks,x :: xs,hl,h,y,hy=>by
  rw[Kd.hass]at h;have h:(k.has x && Kd.hass ks xs)=true:=h;rw[ak]at h;rcases aG.mp hy with rfl | hy
  ·exact⟨k,aw,h.1⟩
  ·obtain⟨k',hk,hh⟩:=Uc ks xs (by simpa using hl) h.2 y hy
   exact⟨k',af _ hk,hh⟩
theorem jh (t:T)(ht:sOk t):f_n [t]=if isK 3 t=true then .ok .non else .ex 0:=by
 have e:f_n [t]=zj (b_n f_1 [.vl t]):=rfl;have ec:j8 (Zp (zc 1 f_1 (za (vE 0) (zf)))) [.vl t]= .ok (!isK 3 t):=by
  rw[JJ,jz,Z5,v0,bOk,UL t ht,bOk,Zo,bOk]
 rw[e,b_n,Zm,ec,zS];cases isK 3 t <;> rfl
theorem uv (k:Kd)(hk:k.Ok 3)(x:T):Xt [k.t,x]= .ok (.bl (k.has x)):=by
 have hi:=WN 3 k hk;have e:Xt [k.t,x]=zj (Gj f_n (f_i 20) (en2 k.t x)):=rfl;have e1:JE (zc 1 f_n (za (vE 0) (zf))) (en2 k.t x)= .nx (en2 k.t x):=by
  show (zc 1 _ _ _).s _=_;rw[Z5,v0,bOk,jh _ (jT 3 _ hi).so,hi,if_pos rfl,zS]
 have hh:f_i 20 [k.t,x]= .ok (.bl (k.has x)):=vU 3 20 (by omega) k x hk
 rw[e,Gj,zg e1,zy (t:= .bl (k.has x))]
 ·rfl
 ·show zc 2 _ _ (en2 k.t x)=_;rw[Zl,v0,bOk,v1,bOk,hh]
theorem qk {f g:En->RS}{ρ:En}{c:Nat}(h:f ρ= .ex c):zo f g ρ= .ex c:=by rw[zu,h]
theorem Ud {α β:Type}(f:α->List β)(m:Nat):∀(as:List α) (i j:Nat),(∀a∈as,(f a).length=m)->j < m->(as.flatMap f)[i*m+j]? =(as[i]?).bind λa=>(f a)[j]?
 | [],i,j,_,_=>by simp
 | a :: as,0,j,h,hj=>by
  have ha:=h a aw;rw[c9,Nat.zero_mul,f8,aD (by omega)]
  rfl
 | a :: as,i+1,j,h,hj=>by
  have ha:=h a aw;have e:(i+1)*m=i*m+m:=by rw[io,b_]
  rw[c9,ay (by omega),ha,e,show i*m+m+j - m=i*m+j by omega,Ud f m as i j (λb hb=>h b (af _ hb)) hj]
  rfl
theorem WO {α β:Type}(f:α->List β):∀(as:List α) (q j:Nat) (a:α),as[q]? =some a->j < (f a).length->(as.flatMap f)[((as.take q).map λb=>(f b).length).sum+j]? =(f a)[j]?
 | [],q,j,a,h,_=>by simp at h
 | b :: as,0,j,a,h,hj=>by
  have e:b=a:=by simpa using h
  subst e;rw[c9,List.take_zero,cQ,List.sum_nil,f8,aD hj]
 | b :: as,q+1,j,a,h,hj=>by
  rw[c9,List.take_succ_cons,aI,cY,Nat.add_assoc,ay (by omega),eR]
  exact WO f as q j a (by simpa using h) hj
theorem ww:∀(ls made:List (List T)) (l:List T),Zb made (ls++[l])=(Zb made ls).flatMap λa=>l.map λx=>a++[x]
 | [],made,l=>rfl
 | _ :: ls,made,l=>by
  rw[bV,Zb,Zb,ww ls]
theorem Ue {ls:List (List T)}{l:List T}{i j:Nat}{xs:List T}{x:T}(h:(Zb [[]] ls)[i]? =some xs)(hx:l[j]? =some x):(Zb [[]] (ls++[l]))[i*l.length+j]? =some (xs++[x]):=by
 have hj:j < l.length:=(aq.mp hx).1;rw[ww,Ud _ l.length _ i j (λa _=>ae ..) hj,h];show (l.map λx=>xs++[x])[j]? =_;rw[au,hx];rfl
theorem W6:∀(ns:List Nat) (n:Nat),prd (ns++[n])=prd ns*n
 | [],n=>by simp[prd]
 | m :: ns,n=>by rw[bV,prd,prd,W6 ns n,cI]
theorem ZZ (ls:List (List T)):(Zb [[]] ls).length=prd (ls.map (·.length)):=by rw[JS,aE,b_]
theorem wx {α:Type}{xs:List α}{i:Nat}(h:i < xs.length):∃x,xs[i]? =some x:=⟨_,aj h⟩
theorem gp {xs:List T}{j:Nat}{v:T}(h:xs[j]? =some v):atT xs (j:Int)= .ok v:=by unfold atT;rw[ZD h]
def shr (c lo q:Nat):Nat:=((aW q).map λi=>c ^ (lo+i)).sum
theorem Uf (c lo q:Nat):shr c lo (q+1)=shr c lo q+c ^ (lo+q):=by
 unfold shr;rw[iy,bE,List.sum_append];simp
theorem Ug (c lo hi:Nat):pw c lo hi=shr c lo (hi+1 - lo):=rfl
theorem ql {k:Kd}{lo hi q j:Nat}{xs:List T}(hq:q < hi+1 - lo)(h:(Zb [[]] (ad (lo+q) k.all))[j]? =some xs):(Kd.many k lo hi).all[shr k.all.length lo q+j]? =some (.tup xs):=by
 have hj:=(aq.mp h).1;have e:=WO (λi=>WG (ad (lo+i) k.all)) (aW (hi+1 - lo)) q j q (by rw[dj hq]) (by rw[ae];exact hj)
 have e2:(((aW (hi+1 - lo)).take q).map λb=>(WG (ad (lo+b) k.all)).length).sum=shr k.all.length lo q:=by
  rw[List.take_range,dn (eU hq),shr];congr 1
  refine cj λi _=> ?_;rw[Ju,aS,j4]
 rw[e2]at e;rw[Kd.all,e];show (List.map T.tup _)[j]? =_;rw[au,h];rfl
abbrev cpB (c:List T->R T):En->RS:=zt 1 (zd zO (vE 1) (zc 1 c (za (vE 2) (zf))))
theorem qm {c:List T->R T}{S:Sl}:∀(ks:List Kd) (m:Nat) (x:Sl),(∀k∈ks,c [k.t]= .ok (.int (k.all.length:Int))/\1<=k.all.length)->m*prd (ks.map λk=>k.all.length) < 2 ^ 60->
  ∃y,Zk (zr 2) (cpB c) (ks.map Kd.t) [S,.vl (.int (m:Int)),x]= .nx [S,.vl (.int ((m*prd (ks.map λk=>k.all.length):Nat):Int)),y]
 | [],m,x,_,_=>⟨x,by simp[Zk,prd]⟩
 | k :: ks,m,x,H,hb=>by
  obtain⟨hc,h1⟩:=H k aw;have hp:1<=prd (ks.map λk=>k.all.length):=JR λn hn=>by
   obtain⟨k',hk',rfl⟩:=aO.mp hn;exact(H k' (af _ hk')).2
  rw[aI,prd,← cI]at hb;have hm:m < 2 ^ 60:=by
   have h2:m<=m*k.all.length:=cN _ h1;have h3:m*k.all.length<=m*k.all.length*prd (ks.map λk=>k.all.length):=cN _ hp;omega
  have eb:cpB c [S,.vl (.int (m:Int)),.vl k.t]= .nx [S,.vl (.int ((m*k.all.length:Nat):Int)),.vl k.t]:=by
   rw[cpB,zW (t:= .int ((m*k.all.length:Nat):Int))]
   ·rfl
   ·rw[zh,v1,bOk,Z5,v2,bOk,hc,bOk,U5 hm]
  obtain⟨y,ih⟩:=qm (c:=c) (S:=S) ks (m*k.all.length) (.vl k.t) (λk' hk' =>H k' (af _ hk')) hb;refine⟨y, ?_⟩;rw[aI,jU (ρ1:=[S,.vl (.int (m:Int)),.vl k.t]) rfl eb,ih,aI,prd,cI]
theorem JV {c:List T->R T}{s:T}(ks:List Kd)(hs:jQ s= .ok (ks.map Kd.t))(H:∀k∈ks,c [k.t]= .ok (.int (k.all.length:Int))/\1<=k.all.length)(hb:prd (ks.map λk=>k.all.length) < 2 ^ 60):
  zj (b_t c (en0 3 [s]))= .ok (.int ((prd (ks.map λk=>k.all.length):Nat):Int)):=by
 obtain⟨y,e⟩:=qm (c:=c) (S:= .vl s) ks 1 .un H (by rw[b_];exact hb)
 rw[b_]at e;have e0:zt 1 (cE (.int 1)) [.vl s,.un,.un]= .nx [.vl s,.vl (.int 1),.un]:=rfl;have e1:ja (j0 (vE 0)) (zr 2) (cpB c) [.vl s,.vl (.int 1),.un]= .nx [.vl s,.vl (.int ((prd (ks.map λk=>k.all.length):Nat):Int)),y]:=by
  show ((jQ s).s λts=>Zk (zr 2) (cpB c) ts [.vl s,.vl (.int 1),.un])=_;rw[hs,zS];exact e
 show zj (b_t c [.vl s,.un,.un])=_;rw[b_t,zg e0,zg e1];rfl
theorem qo {α:Type}(g:α->Nat):∀l:List α,Jh (l.map λa=>T.int ((g a:Nat):Int))=some (l.map λa=>((g a:Nat):Int))
 | []=>rfl
 | a :: l=>by
  show (match Jh (l.map λa=>T.int ((g a:Nat):Int)) with | some l=>some (_ :: l) | none=>none)=_
  rw[qo g l];rfl
theorem Uh {α:Type}(g:α->Nat):∀l:List α,(l.map λa=>((g a:Nat):Int)).sum=(((l.map g).sum:Nat):Int)
 | []=>rfl
 | a :: l=>by rw[aI,cY,aI,cY,Uh g l];omega
theorem gq {α:Type}(g:α->Nat)(l:List α):G7 (.lst (l.map λa=>T.int ((g a:Nat):Int)))= .ok (.int (((l.map g).sum:Nat):Int)):=by
 unfold G7;dsimp only;rw[qo,← Uh]
theorem jW (k:Kd)(m:Nat):((ad m k).map λk=>k.all.length)=ad m k.all.length:=by rw[aS]
theorem qp {c:List T->R T}{t:T}{n lo hi q:Nat}(h4:lo+q<=4)(H:∀m,m<=3->c [.lst (ad m t)]= .ok (.int ((n ^ m:Nat):Int))):
  zj (b_l c (en0 2 [mt t lo hi,.int ((lo+q:Nat):Int)]))= .ok (.int ((shr n lo q:Nat):Int)):=by
 show zj (b_l c [.vl (mt t lo hi),.vl (.int ((lo+q:Nat):Int))])=_;have er:Jo (zd ixT (vE 0) (cE (.int 2))) (vE 1) [.vl (mt t lo hi),.vl (.int ((lo+q:Nat):Int))]= .ok (rng (lo:Int) q):=by
  rw[uu (i:=(lo:Int)) (j:=((lo+q:Nat):Int)) rfl rfl ⟨by omega,by omega,by omega,by omega⟩]
  congr 2;omega
 have ec:zI (zr 0) Ze (zc 1 c (za (zd zO (ZE (za (zd ixT (vE 1) (cE (.int 1))) (zf))) (vE 0)) (zf))) 1 [0] [.vl (mt t lo hi),.vl (.int ((lo+q:Nat):Int))] (rng (lo:Int) q)= .ok ((rng (lo:Int) q).map λx=>match x with | .int i=>T.int ((n ^ i.toNat:Nat):Int) | y=>y):=
  Z9 _ (by unfold rng;rw[ae,bR];have:bnd=16777216:=rfl;omega) λx hx=>by
   unfold rng at hx;obtain⟨i,hi',rfl⟩:=aO.mp hx;have hi2:=bu.mp hi';show zc 1 c _ [.vl (.int ((lo:Int)+(i:Int))),.vl (mt t lo hi)]=_;have e1:zd zO (ZE (za (zd ixT (vE 1) (cE (.int 1))) (zf))) (vE 0) [.vl (.int ((lo:Int)+(i:Int))),.vl (mt t lo hi)]= .ok (.lst (ad (lo+i) t)):=by
    have e0:zd ixT (vE 1) (cE (.int 1)) [.vl (.int ((lo:Int)+(i:Int))),.vl (mt t lo hi)]= .ok t:=rfl;rw[zh,gc e0,bOk,v0,bOk,show (lo:Int)+(i:Int)=((lo+i:Nat):Int) by omega,WJ (by omega),jq]
   rw[Z5,e1,bOk,H (lo+i) (by omega)]
   show _=R.ok (T.int ((n ^ ((lo:Int)+(i:Int)).toNat:Nat):Int));rw[show ((lo:Int)+(i:Int)).toNat=lo+i by omega]
 rw[b_l,zy (t:= .int ((shr n lo q:Nat):Int))]
 ·rfl
 ·show ap1 _ _ [.vl (mt t lo hi),.vl (.int ((lo+q:Nat):Int))]=_;rw[Zz,zT,er,bOk,ec,bOk,bOk];have e2:((rng (lo:Int) q).map λx=>match x with | .int i=>T.int ((n ^ i.toNat:Nat):Int) | y=>y)=(aW q).map λi=>T.int ((n ^ (lo+i):Nat):Int):=by
   unfold rng;rw[br];refine cj λi _=> ?_;show T.int ((n ^ ((lo:Int)+(i:Int)).toNat:Nat):Int)=_;rw[show ((lo:Int)+(i:Int)).toNat=lo+i by omega]
  rw[e2,gq (λi=>n ^ (lo+i))];rfl
theorem vV {d n m:Nat}(h:n<=mx d)(hd:d<=2)(hm:m<=3):n ^ m < 2 ^ 60:=by
 have h2:mx d<=70644:=by
  have:d=0\/d=1\/d=2:=by omega
  rcases this with rfl | rfl | rfl <;> decide
 have h3:n ^ m<=70644 ^ 3:=aF (Nat.pow_le_pow_left (aF h h2) m) (Nat.pow_le_pow_right (by omega) hm)
 have:70644 ^ 3 < 2 ^ 60:=by decide
 omega
theorem Ui:∀(d n:Nat),3*d<=n->d<=3->∀k:Kd,k.Ok d->S_2 n 0 [k.t]= .ok (.int (k.all.length:Int))
 | 0,_,_,_,_,h=>h.elim
 | d+1,n+3,hn,hd,k,h=>by
  have ih:=Ui d n (by omega) (by omega)
  have ih1:=Ui d (n+1) (by omega) (by omega)
  have e:S_2 (n+3) 0 [k.t]=zj (b_2 (S_2 (n+2) 1) (S_2 (n+2) 2) [.vl k.t]):=rfl;have e1:∀s,S_2 (n+2) 1 [s]=zj (b_t (S_2 (n+1) 0) (en0 3 [s])):=λs=>rfl;have e1' :∀s,S_2 (n+1) 1 [s]=zj (b_t (S_2 n 0) (en0 3 [s])):=λs=>rfl;have e2:∀s u,S_2 (n+2) 2 [s,u]=zj (b_l (S_2 (n+1) 1) (en0 2 [s,u])):=λs u=>rfl;rw[e,b_2];cases k with
  | whole lo hi=>
   obtain⟨h1,h2,h3⟩:=h;rw[ZY];simp only[Kd.t];rw[Zt (t:= .int ((hi+1 - lo).toNat:Int))]
   ·rfl
   ·rw[Wc (by rw[cs0,beq_self_eq_true]),zy]
    show R.ok (T.int (hi - lo+1))=_;congr 2;omega
  | pick cs=>
   rw[W2];simp only[Kd.t];rw[zg (ZW (by rw[cs0];rfl)),Zt (t:= .int (cs.length:Int))]
   ·rfl
   ·rw[Wc (by rw[cs0,beq_self_eq_true]),zy]
    show R.ok (T.int ((cs.map Jc).length:Int))=_;rw[ae]
  | row ks=>
   obtain⟨h1,h2,h3⟩:=h;rw[Jd];simp only[Kd.t];rw[Kd.ts_map,zg (ZW (by rw[cs0];rfl)),zg (ZW (by rw[cs0];rfl)),Zt (t:= .int ((prd (ks.map λk=>k.all.length):Nat):Int))]
   ·rfl
   ·rw[Wc (by rw[cs0,beq_self_eq_true]),zy]
    show zc 1 _ _ [.vl (.tup [.str "row",.tup (ks.map Kd.t)])]=_;rw[Z5,WX,bOk,e1];have hl:=jg (d+1) (.row ks) ⟨h1,h2,h3⟩;rw[Jd]at hl;exact JV ks rfl (λk hk=>⟨ih1 k (h3 k hk),Zv d k (h3 k hk)⟩) (xW hl hd)
  | many k lo hi=>
   obtain⟨h1,h2,h3⟩:=h;rw[ZP,Ug];simp only[Kd.t];rw[zg (ZW (by rw[cs0];rfl)),zg (ZW (by rw[cs0];rfl)),zg (ZW (by rw[cs0];rfl)),zy (t:= .int ((shr k.all.length lo (hi+1 - lo):Nat):Int))]
   ·rfl
   ·show zc 2 _ _ [.vl (mt k.t lo hi)]=_;rw[Zl,v0,bOk,YY Xx,bOk,e2,show (hi:Int)+1=((lo+(hi+1 - lo):Nat):Int) by omega]
    refine qp (by omega) λm hm=> ?_
    have hp:prd ((ad m k).map λk=>k.all.length)=k.all.length ^ m:=by rw[jW,j4]
    rw[e1',← hp];have hd1:1<=d:=by
     cases d with
     | zero=>exact h3.elim
     | succ d=>omega
    refine JV (ad m k) (by rw[aS];rfl) (λk' hk' => ?_) (by rw[hp];exact vV (jg d k h3) (by omega) hm)
    rw[bL hk'];exact⟨ih k h3,Zv d k h3⟩
theorem j1 {d:Nat}(hd:d<=3){k:Kd}(h:k.Ok d):f_2 20 [k.t]= .ok (.int (k.all.length:Int)):=Ui d 20 (by omega) hd k h
theorem W7 {d:Nat}(hd:d<=2){k:Kd}(h:k.Ok d){lo hi q:Nat}(h4:lo+q<=4):f_l 20 [mt k.t lo hi,.int ((lo+q:Nat):Int)]= .ok (.int ((shr k.all.length lo q:Nat):Int)):=by
 have e:f_l 20 [mt k.t lo hi,.int ((lo+q:Nat):Int)]=zj (b_l (S_2 19 1) (en0 2 [mt k.t lo hi,.int ((lo+q:Nat):Int)])):=rfl;rw[e];refine qp h4 λm hm=> ?_;have hp:prd ((ad m k).map λk=>k.all.length)=k.all.length ^ m:=by rw[jW,j4]
 have e1:∀s,S_2 19 1 [s]=zj (b_t (S_2 18 0) (en0 3 [s])):=λs=>rfl;rw[e1,← hp];refine JV (ad m k) (by rw[aS];rfl) (λk' hk' => ?_) (by rw[hp];exact vV (jg d k h) hd hm)
 rw[bL hk'];exact⟨Ui d 18 (by omega) (by omega) k h,Zv d k h⟩
abbrev paB (cc cw:List T->R T):En->RS:=zo (zt 5 (zc 1 cc (za (vE 4) (zf))))
  (zo (Q9 2 (zc 2 cw (za (vE 4) (za (zd jN (vE 3) (vE 5)) (zf)))))
  (zt 3 (zd jA (vE 3) (vE 5))))
structure AtOk (cc cw:List T->R T) (k:Kd):Prop where
 cnt:cc [k.t]= .ok (.int (k.all.length:Int))
 at_:∀(i:Nat) x,k.all[i]? =some x->cw [k.t,.int (i:Int)]= .ok x
 pos:1<=k.all.length
 le:k.all.length < 1000000
theorem v5' {t:T}{a b c d e:Sl}{ρ:En}:vE 5 (a :: b :: c :: d :: e :: .vl t :: ρ)= .ok t:=rfl
theorem gr {n c:Nat}(h:1<=c):jN (.int (n:Int)) (.int (c:Int))= .ok (.int ((n % c:Nat):Int)):=by
 unfold jN;dsimp only;rw[if_pos (by omega)];rfl
theorem uw {n c:Nat}(h:1<=c)(h' :c < 1000000):jA (.int (n:Int)) (.int (c:Int))= .ok (.int ((n / c:Nat):Int)):=by
 unfold jA;dsimp only;rw[if_pos (by omega)];rfl
theorem gs {i:Nat}{f:En->R T}{ρ:En}{ts:List T}{t:T}(hi:ρ[i]? =some (.ow ts))(hl:ts.length < bnd)(h:f ρ= .ok t):Q9 i f ρ= .nx (ρ.set i (.ow (ts++[t]))):=by
 unfold Q9;rw[hi];dsimp only;rw[h,zS,if_pos hl]
theorem qq {cc cw:List T->R T}{S N:Sl}:∀(rs:List Kd) (acc:List T) (n:Nat) (x y:Sl),(∀k∈rs,AtOk cc cw k)->n < prd (rs.map λk=>k.all.length)->acc.length+rs.length<=1000->
  ∃xs r x' y',(Zb [[]] (rs.reverse.map Kd.all))[n]? =some xs/\Zk (zr 4) (paB cc cw) (rs.map Kd.t) [S,N,.ow acc,.vl (.int (n:Int)),x,y]= .nx [S,N,.ow (acc++xs.reverse),r,x',y']
 | [],acc,n,x,y,_,hn,_=>⟨[],.vl (.int (n:Int)),x,y,by
   have:n=0:=by simp[prd]at hn;exact hn
   subst this;rfl,by simp[Zk]⟩
 | k :: rs,acc,n,x,y,H,hn,hl=>by
  obtain⟨hc,hw,h1,hle⟩:=H k aw;rw[aI,prd]at hn;rw[ah]at hl;have hb:bnd=16777216:=rfl;have hmod:n % k.all.length < k.all.length:=Nat.mod_lt _ h1;obtain⟨v,hv⟩:=wx hmod;have hdiv:n / k.all.length < prd (rs.map λk=>k.all.length):=fH hn;obtain⟨xs,r,x',y',e1,e2⟩:=qq (cc:=cc) (cw:=cw) (S:=S) (N:=N) rs (acc++[v]) (n / k.all.length) (.vl k.t) (.vl (.int (k.all.length:Int))) (λk' hk' =>H k' (af _ hk')) hdiv (by rw[aB,aE];omega)
  have b1:zt 5 (zc 1 cc (za (vE 4) (zf))) [S,N,.ow acc,.vl (.int (n:Int)),.vl k.t,y]= .nx [S,N,.ow acc,.vl (.int (n:Int)),.vl k.t,.vl (.int (k.all.length:Int))]:=by
   rw[zW (t:= .int (k.all.length:Int))]
   ·rfl
   ·rw[Z5,v4,bOk,hc]
  have b2:Q9 2 (zc 2 cw (za (vE 4) (za (zd jN (vE 3) (vE 5)) (zf)))) [S,N,.ow acc,.vl (.int (n:Int)),.vl k.t,.vl (.int (k.all.length:Int))]= .nx [S,N,.ow (acc++[v]),.vl (.int (n:Int)),.vl k.t,.vl (.int (k.all.length:Int))]:=by
   rw[gs (ts:=acc) (t:=v) rfl (by omega)]
   ·rfl
   ·rw[Zl,v4,bOk,zh,v3,bOk,v5',bOk,gr h1,bOk,hw _ v hv]
  have b3:zt 3 (zd jA (vE 3) (vE 5)) [S,N,.ow (acc++[v]),.vl (.int (n:Int)),.vl k.t,.vl (.int (k.all.length:Int))]= .nx [S,N,.ow (acc++[v]),.vl (.int ((n / k.all.length:Nat):Int)),.vl k.t,.vl (.int (k.all.length:Int))]:=by
   rw[zW (t:= .int ((n / k.all.length:Nat):Int))]
   ·rfl
   ·rw[zh,v3,bOk,v5',bOk,uw h1 hle]
  have eb:paB cc cw [S,N,.ow acc,.vl (.int (n:Int)),.vl k.t,y]= .nx [S,N,.ow (acc++[v]),.vl (.int ((n / k.all.length:Nat):Int)),.vl k.t,.vl (.int (k.all.length:Int))]:=by
   rw[paB,zg b1,zg b2,b3]
  refine⟨xs++[v],r,x',y', ?_, ?_⟩
  ·have:=Ue e1 hv;rw[bG,fu]at this;rw[bS,bE];exact this
  ·rw[aI,jU (ρ1:=[S,N,.ow acc,.vl (.int (n:Int)),.vl k.t,y]) rfl eb,e2,List.reverse_append];simp
theorem qr:∀ns:List Nat,prd ns.reverse=prd ns
 | []=>rfl
 | n :: ns=>by rw[bS,W6,qr ns,prd,bG]
theorem JW {cc cw:List T->R T}{s:T}(ks:List Kd)(hs:J6 s= .ok (ks.map Kd.t))(hl:ks.length<=3)(H:∀k∈ks,AtOk cc cw k){n:Nat}{xs:List T}(hx:(Zb [[]] (ks.map Kd.all))[n]? =some xs):
  zj (b_w cc cw (en0 6 [s,.int (n:Int)]))= .ok (.tup xs):=by
 have hn:=(aq.mp hx).1;rw[ZZ,br]at hn;have hr:(ks.reverse.map λk=>k.all.length)=(ks.map λk=>k.all.length).reverse:=by rw[ii]
 obtain⟨ys,r,x',y',e1,e2⟩:=qq (cc:=cc) (cw:=cw) (S:= .vl s) (N:= .vl (.int (n:Int))) ks.reverse [] n .un .un (λk hk=>H k (ij.mp hk)) (by rw[hr,qr];exact hn) (by rw[ck,bi];omega)
 rw[de,hx]at e1;cases e1;rw[bC]at e2;have e0:UE 2 (zf) [.vl s,.vl (.int (n:Int)),.un,.un,.un,.un]= .nx [.vl s,.vl (.int (n:Int)),.ow [],.un,.un,.un]:=rfl;have e3:zt 3 (vE 1) [.vl s,.vl (.int (n:Int)),.ow [],.un,.un,.un]= .nx [.vl s,.vl (.int (n:Int)),.ow [],.vl (.int (n:Int)),.un,.un]:=rfl;have e4:ja (z0M (vE 0)) (zr 4) (paB cc cw) [.vl s,.vl (.int (n:Int)),.ow [],.vl (.int (n:Int)),.un,.un]= .nx [.vl s,.vl (.int (n:Int)),.ow xs.reverse,r,x',y']:=by
  show (((J6 s).bind λxs=>R.ok xs.reverse).s λts=>Zk (zr 4) (paB cc cw) ts [.vl s,.vl (.int (n:Int)),.ow [],.vl (.int (n:Int)),.un,.un])=_;rw[hs,bOk,zS,← ii];exact e2
 have hlen:xs.reverse.length<=bnd:=by
  have:∀(ls made:List (List T)) (m:Nat),(∀a∈made,a.length<=m)->∀a∈Zb made ls,a.length<=m+ls.length:=by
   intro ls
   induction ls with
   | nil=>intro made m h a ha;exact h a ha
   | cons l ls ih=>
    intro made m h a ha;have:=ih (made.flatMap λa=>l.map λx=>a++[x]) (m+1) (λb hb=>by
     obtain⟨c,hc,hb⟩:=cO.mp hb;obtain⟨z,_,rfl⟩:=aO.mp hb;have:=h c hc;rw[aB,aE];omega) a ha
    rw[ah];omega
  have h1:=this (ks.map Kd.all) [[]] 0 (λa ha=>by rw[aY.mp ha];exact am _) xs (bq hx)
  rw[ae]at h1;rw[ck];have hb:bnd=16777216:=rfl;omega
 show zj (b_w cc cw [.vl s,.vl (.int (n:Int)),.un,.un,.un,.un])=_;rw[b_w,zg e0,zg e3,zg e4,zy (t:= .tup xs)]
 ·rfl
 ·show Qw (.lst xs.reverse)=_;unfold Qw;dsimp only;rw[if_pos hlen,de]
abbrev mtT:En->R Bool:=zx leC (zc 2 (f_l 20) (za (vE 0) (za (zd zp (vE 2) (cE (.int 1))) (zf)))) (vB 1)
abbrev mtB:En->RS:=zt 2 (zd zp (vE 2) (cE (.int 1)))
theorem w1n {t:T}{a:Sl}{ρ:En}:vB 1 (a :: .vl t :: ρ)= .ok t:=rfl
theorem qt {d:Nat}(hd:d<=2){k:Kd}(h:k.Ok d){lo hi n:Nat}(h1:lo<=hi)(h3:hi<=3)(hn:n < shr k.all.length lo (hi+1 - lo)):∀(f q:Nat),q<=hi - lo->hi - lo - q < f->shr k.all.length lo q<=n->
  ∃q',q' <=hi - lo/\shr k.all.length lo q' <=n/\n < shr k.all.length lo (q' +1)/\Zx mtT mtB f [.vl (mt k.t lo hi),.vl (.int (n:Int)),.vl (.int ((lo+q:Nat):Int))]= .nx [.vl (mt k.t lo hi),.vl (.int (n:Int)),.vl (.int ((lo+q' :Nat):Int))]
 | 0,q,_,hf,_=>by omega
 | f+1,q,hq,hf,hs=>by
  have et:mtT [.vl (mt k.t lo hi),.vl (.int (n:Int)),.vl (.int ((lo+q:Nat):Int))]= .ok (decide (shr k.all.length lo (q+1)<=n)):=by
   rw[mtT,zD,Zl,v0,bOk,YY v2,bOk,show ((lo+q:Nat):Int)+1=((lo+(q+1):Nat):Int) by omega,W7 hd h (by omega),bOk,w1n,bOk,wU,wu]
  have eu:Zx mtT mtB (f+1) [.vl (mt k.t lo hi),.vl (.int (n:Int)),.vl (.int ((lo+q:Nat):Int))]=(mtT [.vl (mt k.t lo hi),.vl (.int (n:Int)),.vl (.int ((lo+q:Nat):Int))]).s λk' =>if k' =true then match mtB [.vl (mt k.t lo hi),.vl (.int (n:Int)),.vl (.int ((lo+q:Nat):Int))] with
    | .nx ρ2=>Zx mtT mtB f ρ2
    | .ct ρ2=>Zx mtT mtB f ρ2
    | .bk ρ2=> .nx ρ2
    | r=>r
   else .nx [.vl (mt k.t lo hi),.vl (.int (n:Int)),.vl (.int ((lo+q:Nat):Int))]:=rfl
  rw[eu,et,zS]
  by_cases hc:shr k.all.length lo (q+1)<=n
  ·rw[if_pos (decide_eq_true hc)];have hq2:q+1<=hi - lo:=by
    rcases Nat.lt_or_ge q (hi - lo) with z | z
    ·exact z
    ·have:q=hi - lo:=by omega
     rw[this,show hi - lo+1=hi+1 - lo by omega]at hc
     omega
   have eb:mtB [.vl (mt k.t lo hi),.vl (.int (n:Int)),.vl (.int ((lo+q:Nat):Int))]= .nx [.vl (mt k.t lo hi),.vl (.int (n:Int)),.vl (.int ((lo+(q+1):Nat):Int))]:=by
    rw[mtB,zW (t:= .int ((lo+(q+1):Nat):Int))]
    ·rfl
    ·rw[YY v2,show ((lo+q:Nat):Int)+1=((lo+(q+1):Nat):Int) by omega]
   rw[eb];exact qt hd h h1 h3 hn f (q+1) hq2 (by omega) hc
  ·rw[if_neg (by simpa using hc)]
   exact⟨q,hq,hs,by omega,rfl⟩
theorem wy {i j:Nat}(h:j<=i):ZS (.int (i:Int)) (.int (j:Int))= .ok (.int ((i - j:Nat):Int)):=by
 rw[jd];congr 2;omega
theorem UV {d:Nat}(hd:d<=2){k:Kd}(h:k.Ok d){cp:List T->R T}{lo hi n:Nat}(h1:lo<=hi)(h3:hi<=3)(hn:n < shr k.all.length lo (hi+1 - lo))
  (H:∀(m:Nat),m<=3->∀(j:Nat) (xs:List T),(Zb [[]] (ad m k.all))[j]? =some xs->cp [.lst (ad m k.t),.int (j:Int)]= .ok (.tup xs)):
  ∃x,(Kd.many k lo hi).all[n]? =some x/\zj (Xs (f_l 20) cp (en0 3 [mt k.t lo hi,.int (n:Int)]))= .ok x:=by
 obtain⟨q,hq,hs,hs',e⟩:=qt hd h h1 h3 hn 8 0 (by omega) (by omega) (by unfold shr;simp)
 rw[Uf]at hs';have hj:n - shr k.all.length lo q < (Zb [[]] (ad (lo+q) k.all)).length:=by
  rw[ZZ,aS,j4];omega
 obtain⟨xs,hx⟩:=wx hj;have ha:=ql (k:=k) (lo:=lo) (hi:=hi) (by omega) hx
 rw[show shr k.all.length lo q+(n - shr k.all.length lo q)=n by omega]at ha
 refine⟨_,ha, ?_⟩;have e0:zt 2 (zd ixT (vE 0) (cE (.int 2))) [.vl (mt k.t lo hi),.vl (.int (n:Int)),.un]= .nx [.vl (mt k.t lo hi),.vl (.int (n:Int)),.vl (.int ((lo+0:Nat):Int))]:=rfl;show zj (Xs (f_l 20) cp [.vl (mt k.t lo hi),.vl (.int (n:Int)),.un])=_;rw[Xs,zg e0,zg e,zy (t:= .tup xs)]
 ·rfl
 ·show zc 2 cp _ [.vl (mt k.t lo hi),.vl (.int (n:Int)),.vl (.int ((lo+q:Nat):Int))]=_;have em:zd zO (ZE (za (zd ixT (vE 0) (cE (.int 1))) (zf))) (vE 2) [.vl (mt k.t lo hi),.vl (.int (n:Int)),.vl (.int ((lo+q:Nat):Int))]= .ok (.lst (ad (lo+q) k.t)):=by
   rw[zh,gc WX,bOk,v2,bOk,WJ (by omega),jq]
  rw[Zl,em,bOk,zh,v1,bOk,Zl,v0,bOk,v2,bOk,W7 hd h (by omega),bOk,wy hs,bOk,H (lo+q) (by omega) _ xs hx]
theorem qu {d:Nat}(hd:d<=2){k:Kd}(h:k.Ok d):k.all.length < 1000000:=by
 have h1:=jg d k h;have h2:mx d<=70644:=by
  have:d=0\/d=1\/d=2:=by omega
  rcases this with rfl | rfl | rfl <;> decide
 omega
theorem jF:∀(d n:Nat),3*d<=n->d<=3->∀k:Kd,k.Ok d->∀(i:Nat) (x:T),k.all[i]? =some x->S_h n 0 [k.t,.int (i:Int)]= .ok x
 | 0,_,_,_,_,h=>h.elim
 | d+1,n+3,hn,hd,k,h=>by
  intro i x hx;have ih:=jF d n (by omega) (by omega)
  have ih1:=jF d (n+1) (by omega) (by omega)
  have e:S_h (n+3) 0 [k.t,.int (i:Int)]=zj (b_h f_m (S_h (n+2) 1) (S_h (n+2) 2) (en2 k.t (.int (i:Int)))):=rfl;have e2:∀s u,S_h (n+2) 2 [s,u]=zj (b_w (f_2 20) (S_h (n+1) 0) (en0 6 [s,u])):=λs u=>rfl;have e2' :∀s u,S_h (n+1) 2 [s,u]=zj (b_w (f_2 20) (S_h n 0) (en0 6 [s,u])):=λs u=>rfl;have e1:∀s u,S_h (n+2) 1 [s,u]=zj (Xs (f_l 20) (S_h (n+1) 2) (en0 3 [s,u])):=λs u=>rfl;have hi' :=(aq.mp hx).1;rw[e,b_h];cases k with
  | whole lo hi=>
   rw[Kd.all,au]at hx;rw[ZY]at hi';rw[dj hi']at hx;cases hx;simp only[Kd.t];rw[Zt (t:= .int (lo+(i:Int)))]
   ·rfl
   ·rw[Xy,zy];rfl
  | pick cs=>
   have hw:=W5 cs h.2.1;rw[Kd.all]at hx;simp only[Kd.t]at hw ⊢;rw[zg (yb (by decide)),Zt (t:=x)]
   ·rfl
   ·rw[Xy,zy];show zd ixT _ _ (en2 _ _)=_;rw[zh,Z5,v0,bOk,hw,bOk,v1,bOk];exact gp hx
  | row ks=>
   obtain⟨h1,h2,h3⟩:=h;rw[Kd.all,Kd.alls_map,au]at hx;cases hr:(Zb [[]] (ks.map Kd.all))[i]? with
   | none=>rw[hr]at hx;cases hx
   | some xs=>
    rw[hr]at hx;cases hx;simp only[Kd.t];rw[Kd.ts_map,zg (yb (by decide)),zg (yb (by decide)),Zt (t:= .tup xs)]
    ·rfl
    ·rw[Xy,zy];show zc 2 _ _ (en2 _ _)=_;rw[Zl,WX,bOk,v1,bOk,e2];refine JW ks rfl h2 (λk hk=>⟨j1 (by omega) (h3 k hk),ih1 k (h3 k hk),Zv d k (h3 k hk),qu (by omega) (h3 k hk)⟩) hr
  | many k lo hi=>
   obtain⟨h1,h2,h3⟩:=h;rw[ZP,Ug]at hi';obtain⟨x',hx',hv⟩:=UV (cp:=S_h (n+1) 2) (by omega:d<=2) h3 h1 h2 hi' (λm hm j xs hr=>by
    rw[e2'];refine JW (ad m k) (by rw[aS];rfl) (by rw[aN];exact hm) (λk' hk' => ?_) (by rw[aS];exact hr)
    rw[bL hk'];exact⟨j1 (by omega) h3,ih k h3,Zv d k h3,qu (by omega) h3⟩)
   rw[hx]at hx';cases hx';simp only[Kd.t];rw[zg (yb (by decide)),zg (yb (by decide)),zg (yb (by decide)),zy (t:=x)]
   ·rfl
   ·show zc 2 _ _ (en2 _ _)=_;rw[Zl,v0,bOk,v1,bOk,e1];exact hv
theorem gu {k:Kd}(h:k.Ok 3){i:Nat}{x:T}(hx:k.all[i]? =some x):f_h 20 [k.t,.int (i:Int)]= .ok x:=jF 3 20 (by omega) (by omega) k h i x hx
theorem wz:∀(ls made:List (List T)) (m:Nat),(∀a∈made,a.length=m)->∀a∈Zb made ls,a.length=m+ls.length
 | [],made,m,h,a,ha=>h a ha
 | l :: ls,made,m,h,a,ha=>by
  have:=wz ls (made.flatMap λa=>l.map λx=>a++[x]) (m+1) (λb hb=>by
   obtain⟨c,hc,hb⟩:=cO.mp hb;obtain⟨z,_,rfl⟩:=aO.mp hb;rw[aB,aE,h c hc]) a ha
  rw[ah];omega
theorem WP {ls:List (List T)}{n:Nat}{xs:List T}(h:(Zb [[]] ls)[n]? =some xs):xs.length=ls.length:=by
 have:=wz ls [[]] 0 (λa ha=>by rw[aY.mp ha];rfl) xs (bq h)
 omega
theorem UW {ls:List (List T)}{l:List T}{n:Nat}{xs:List T}(hl:1<=l.length)(h:(Zb [[]] (ls++[l]))[n]? =some xs):∃ys y,(Zb [[]] ls)[n / l.length]? =some ys/\l[n % l.length]? =some y/\xs=ys++[y]:=by
 have hn:=(aq.mp h).1;rw[ZZ,bE,fQ,W6,← ZZ]at hn;obtain⟨ys,hy⟩:=wx (xs:=Zb [[]] ls) (i:=n / l.length) (fH (by rw[bG];exact hn))
 obtain⟨y,hy'⟩:=wx (Nat.mod_lt n hl);refine⟨ys,y,hy,hy', ?_⟩;have:=Ue hy hy';rw[bG,fu,h]at this;exact aH this
theorem ux {g:T->En->R En}{fb:En->RS}(hb:∀ρ ρ',fb ρ ≠ .bk ρ'):∀(as bs:List T) (ρ ρ' :En),Zk g fb as ρ= .nx ρ' ->Zk g fb (as++bs) ρ=Zk g fb bs ρ'
 | [],bs,ρ,ρ',h=>by cases h;rfl
 | a :: as,bs,ρ,ρ',h=>by
  have e:∀cs,Zk g fb (a :: cs) ρ=match g a ρ with
   | .ok ρ1=>match fb ρ1 with
    | .nx ρ2=>Zk g fb cs ρ2
    | .ct ρ2=>Zk g fb cs ρ2
    | .bk ρ2=> .nx ρ2
    | r=>r
   | .ex c=> .bad
   | .bad=> .bad:=λcs=>rfl
  rw[bV,e];rw[e]at h;cases hg:g a ρ with
  | bad=>rw[hg]at h;cases h
  | ex c=>rw[hg]at h;cases h
  | ok ρ1=>
   rw[hg]at h;dsimp only at h ⊢;cases hf:fb ρ1 with
   | nx ρ2=>rw[hf]at h;exact ux hb as bs ρ2 ρ' h
   | ct ρ2=>rw[hf]at h;exact ux hb as bs ρ2 ρ' h
   | bk ρ2=>exact absurd hf (hb _ _)
   | rt t=>rw[hf]at h;cases h
   | ex c=>rw[hf]at h;cases h
   | bad=>rw[hf]at h;cases h
   | rf t=>rw[hf]at h;cases h
theorem X1 {i:Nat}{f:En->R T}(ρ ρ' :En):zt i f ρ ≠ .bk ρ' :=by
 rw[Zs];cases f ρ <;> exact λh=>nomatch h
abbrev ppB (cc cl:List T->R T):En->RS:=zt 2 (zd zp (zd zO (vE 2) (zc 1 cc (za (vE 3) (zf)))) (zc 2 cl (za (vE 3) (za (vE 4) (zf)))))
structure PlOk (cc cl:List T->R T) (k:Kd):Prop where
 cnt:cc [k.t]= .ok (.int (k.all.length:Int))
 pl:∀(i:Nat) x,k.all[i]? =some x->cl [k.t,x]= .ok (.int (i:Int))
 pos:1<=k.all.length
abbrev zpT (q:Kd×T):T:=T.tup [q.1.t,q.2]
theorem qv {cc cl:List T->R T}{S P:Sl}:∀(rs:List Kd) (n:Nat) (xs:List T) (a b:Sl),(∀k∈rs,PlOk cc cl k)->n < 2 ^ 60->(Zb [[]] (rs.reverse.map Kd.all))[n]? =some xs->
  ∃x y,Zk (Zr 3 4) (ppB cc cl) ((rs.reverse.zip xs).map zpT) [S,P,.vl (.int 0),a,b]= .nx [S,P,.vl (.int (n:Int)),x,y]
 | [],n,xs,a,b,_,_,h=>by
  have hn:=(aq.mp h).1;have:n=0:=by
   have e:(Zb [[]] (([]:List Kd).reverse.map Kd.all)).length=1:=rfl;omega
  subst this;exact⟨a,b,by simp[Zk]⟩
 | k :: rs,n,xs,a,b,H,hb,h=>by
  obtain⟨hc,hp,h1⟩:=H k aw;rw[bS,bE,fQ]at h;obtain⟨ys,y,hy,hy',rfl⟩:=UW h1 h;have hdiv:n / k.all.length<=n:=Nat.div_le_self ..;obtain⟨x',y',e⟩:=qv (cc:=cc) (cl:=cl) (S:=S) (P:=P) rs (n / k.all.length) ys a b (λk' hk' =>H k' (af _ hk')) (by omega) hy
  have hl:rs.reverse.length=ys.length:=by rw[WP hy,ae]
  refine⟨.vl k.t,.vl y, ?_⟩;rw[bS,List.zip_append hl,bE,ux X1 _ _ _ _ e];have eb:ppB cc cl [S,P,.vl (.int ((n / k.all.length:Nat):Int)),.vl k.t,.vl y]= .nx [S,P,.vl (.int (n:Int)),.vl k.t,.vl y]:=by
   rw[ppB,zW (t:= .int (n:Int))]
   ·rfl
   ·rw[zh,zh,v2,bOk,Z5,v3,bOk,hc,bOk,U5 (by omega),bOk,Zl,v3,bOk,v4,bOk,hp _ y hy',bOk,zP]
    congr 2
    have:=fu n k.all.length;rw[bG]at this;omega
  show Zk (Zr 3 4) (ppB cc cl) [T.tup [k.t,y]] [S,P,.vl (.int ((n / k.all.length:Nat):Int)),x',y']=_;rw[jU (ρ1:=[S,P,.vl (.int ((n / k.all.length:Nat):Int)),.vl k.t,.vl y]) rfl eb];rfl
theorem WQ {cc cl:List T->R T}{s:T}(ks:List Kd)(hs:J6 s= .ok (ks.map Kd.t))(H:∀k∈ks,PlOk cc cl k){n:Nat}{xs:List T}(hn:n < 2 ^ 60)(hx:(Zb [[]] (ks.map Kd.all))[n]? =some xs):
  zj (Xu cc cl (en0 5 [s,.tup xs]))= .ok (.int (n:Int)):=by
 obtain⟨x,y,e⟩:=qv (cc:=cc) (cl:=cl) (S:= .vl s) (P:= .vl (.tup xs)) ks.reverse n xs .un .un (λk hk=>H k (ij.mp hk)) hn (by rw[de];exact hx)
 rw[de]at e;have e0:zt 2 (cE (.int 0)) [.vl s,.vl (.tup xs),.un,.un,.un]= .nx [.vl s,.vl (.tup xs),.vl (.int 0),.un,.un]:=rfl;have e1:ja (Kh (vE 0) (vE 1)) (Zr 3 4) (ppB cc cl) [.vl s,.vl (.tup xs),.vl (.int 0),.un,.un]= .nx [.vl s,.vl (.tup xs),.vl (.int (n:Int)),x,y]:=by
  show (((J6 s).bind λxs' =>R.ok (qH xs' xs)).s λts=>Zk (Zr 3 4) (ppB cc cl) ts [.vl s,.vl (.tup xs),.vl (.int 0),.un,.un])=_;rw[hs,bOk,zS,gm];exact e
 show zj (Xu cc cl [.vl s,.vl (.tup xs),.un,.un,.un])=_;rw[Xu,zg e0,zg e1];rfl
theorem Uj (c lo:Nat):∀(m n:Nat),n < shr c lo m->∃q,q < m/\shr c lo q<=n/\n < shr c lo (q+1)
 | 0,n,h=>by simp[shr]at h
 | m+1,n,h=>by
  by_cases hc:shr c lo m<=n
  ·exact⟨m,by omega,hc,h⟩
  ·obtain⟨q,h1,h2,h3⟩:=Uj c lo m n (by omega)
   exact⟨q,by omega,h2,h3⟩
theorem qw (x:Str):∀cs:List (Str×Int),eqs (.str x) (cs.map λc=>T.str c.1)=some (cs.map λc=>c.1 == x)
 | []=>rfl
 | c :: cs=>by
  show (match eqF 30 (.str c.1) (.str x) with
   | none=>none
   | some b=>match eqs (.str x) (cs.map λ(c:Str×Int)=>T.str c.1) with
    | none=>none
    | some bs=>some (b :: bs))=_
  rw[qw x cs];rfl
theorem WR:∀(bs:List Bool) (i:Nat),bs[i]? =some true->(∀j,j < i->bs[j]? =some false)->bs.idxOf true=i
 | [],i,h,_=>by simp at h
 | b :: bs,0,h,_=>by
  have:b=true:=by simpa using h
  subst this;rfl
 | b :: bs,i+1,h,hj=>by
  have h0:b=false:=by simpa using hj 0 (by omega)
  subst h0;have:=WR bs i (by simpa using h) λj h' =>by simpa using hj (j+1) (by omega)
  rw[List.idxOf_cons,this];rfl
theorem QY {cs:List (Str×Int)}(hd:Dst (cs.map (·.1))){i:Nat}{c:Str×Int}(h:cs[i]? =some c):xl (.str c.1) (cs.map λc=>T.str c.1)= .ok (.int (i:Int)):=by
 unfold xl;rw[qw];dsimp only;have hi:=(aq.mp h).1;have h1:(cs.map λd=>d.1 == c.1)[i]? =some true:=by rw[au,h];simp
 rw[if_pos (bq h1),WR _ i h1 λj hj=> ?_];rw[au];cases hc:cs[j]? with
 | none=>rw[List.getElem?_eq_none_iff]at hc;omega
 | some d=>
  have hw:=hd i c.1 (by rw[au,h];rfl)
  have:d.1 ≠ c.1:=λe=>hw (by
   rw[← e];refine bq (i:=j) ?_;rw[eH hj,au,hc];rfl)
  show some (d.1 == c.1)=some false;rw[beq_eq_false_iff_ne.mpr this]
abbrev en3 (a b:T)(c:Sl):En:=[.vl a,.vl b,c]
theorem Xz {x w:Str}{r:List T}{b:T}{c:Sl}(h:(x == w)=false){f:En->RS}:ifS (zx eqC (zd ixT (vE 0) (cE (.int 0))) (cE (.str w))) f nxS (en3 (.tup (.str x :: r)) b c)= .nx (en3 (.tup (.str x :: r)) b c):=
 ZW (by rw[cs0,h])
theorem z1d {x:Str}{r:List T}{b:T}{c:Sl}{f:En->RS}:ifS (zx eqC (zd ixT (vE 0) (cE (.int 0))) (cE (.str x))) f nxS (en3 (.tup (.str x :: r)) b c)=f (en3 (.tup (.str x :: r)) b c):=
 Wc (by rw[cs0,beq_self_eq_true])
theorem gv {d:Nat}(hd:d<=3){k:Kd}(h:k.Ok d):k.all.length < 2 ^ 60:=xW (jg d k h) hd
theorem Uk:∀(d n:Nat),2*d<=n->d<=3->∀k:Kd,k.Ok d->∀(i:Nat) (x:T),k.all[i]? =some x->S_7 n 0 [k.t,x]= .ok (.int (i:Int))
 | 0,_,_,_,_,h=>h.elim
 | d+1,n+2,hn,hd,k,h=>by
  intro i x hx;have ih:=Uk d n (by omega) (by omega)
  have e:S_7 (n+2) 0 [k.t,x]=zj (b_7 f_m (f_l 20) (S_7 (n+1) 1) (en3 k.t x .un)):=rfl;have e1:∀s u,S_7 (n+1) 1 [s,u]=zj (Xu (f_2 20) (S_7 n 0) (en0 5 [s,u])):=λs u=>rfl;have hi' :=(aq.mp hx).1;have h60:=gv hd h;rw[e,b_7];cases k with
  | whole lo hi=>
   rw[Kd.all,au]at hx;rw[ZY]at hi';rw[dj hi']at hx;cases hx;simp only[Kd.t];rw[Zt (t:= .int (i:Int))]
   ·rfl
   ·rw[z1d,zy];show R.ok (T.int (lo+(i:Int) - lo))=_;congr 2;omega
  | pick cs=>
   have hw:=W5 cs h.2.1;rw[Kd.all,au]at hx;cases hc:cs[i]? with
   | none=>rw[hc]at hx;cases hx
   | some c=>
    rw[hc]at hx;cases hx;simp only[Kd.t]at hw ⊢;rw[zg (Xz (by decide)),Zt (t:= .int (i:Int))]
    ·rfl
    ·rw[z1d,zy];show ((zc 1 f_m (za (vE 0) (zf)) (en3 _ _ _)).bind _)=_;rw[Z5,v0,bOk,hw,bOk];show xl (.str c.1) (cs.map λ(c:Str×Int)=>T.str c.1)=_;exact QY h.2.2.2 hc
  | row ks=>
   obtain⟨h1,h2,h3⟩:=h;rw[Kd.all,Kd.alls_map,au]at hx;cases hr:(Zb [[]] (ks.map Kd.all))[i]? with
   | none=>rw[hr]at hx;cases hx
   | some xs=>
    rw[hr]at hx;cases hx;simp only[Kd.t];rw[Kd.ts_map,zg (Xz (by decide)),zg (Xz (by decide)),Zt (t:= .int (i:Int))]
    ·rfl
    ·rw[z1d,zy];show zc 2 _ _ (en3 _ _ _)=_;rw[Zl,WX,bOk,v1,bOk,e1];exact WQ ks rfl (λk hk=>⟨j1 (by omega) (h3 k hk),ih k (h3 k hk),Zv d k (h3 k hk)⟩) (by omega) hr
  | many k lo hi=>
   obtain⟨h1,h2,h3⟩:=h;rw[ZP,Ug]at hi';obtain⟨q,hq,hs,hs'⟩:=Uj _ _ _ _ hi';rw[Uf]at hs';have hj:i - shr k.all.length lo q < (Zb [[]] (ad (lo+q) k.all)).length:=by
    rw[ZZ,aS,j4];omega
   obtain⟨xs,hr⟩:=wx hj;have ha:=ql (k:=k) (lo:=lo) (hi:=hi) hq hr;rw[show shr k.all.length lo q+(i - shr k.all.length lo q)=i by omega,hx]at ha
   cases ha;have hl:=WP hr;rw[aN]at hl;simp only[Kd.t];have e3:zt 2 (ap1 Z2 (vB 1)) (en3 (mt k.t lo hi) (.tup xs) .un)= .nx (en3 (mt k.t lo hi) (.tup xs) (.vl (.int ((lo+q:Nat):Int)))):=by
    rw[← hl];rfl
   rw[zg (Xz (by decide)),zg (Xz (by decide)),zg (Xz (by decide)),zg e3,zy (t:= .int (i:Int))]
   ·rfl
   ·show zd zp _ _ (en3 (mt k.t lo hi) (.tup xs) (.vl (.int ((lo+q:Nat):Int))))=_;have em:zd zO (ZE (za (zd ixT (vE 0) (cE (.int 1))) (zf))) (vE 2) (en3 (mt k.t lo hi) (.tup xs) (.vl (.int ((lo+q:Nat):Int))))= .ok (.lst (ad (lo+q) k.t)):=by
     rw[zh,gc WX,bOk,v2,bOk,WJ (by omega),jq]
    have ep:S_7 (n+1) 1 [.lst (ad (lo+q) k.t),.tup xs]= .ok (.int ((i - shr k.all.length lo q:Nat):Int)):=by
     rw[e1];refine WQ (ad (lo+q) k) (by rw[aS];rfl) (λk' hk' => ?_) (by
      rw[ZP,Ug]at h60;omega) (by rw[aS];exact hr)
     rw[bL hk'];exact⟨j1 (by omega) h3,ih k h3,Zv d k h3⟩
    rw[zh,Zl,v0,bOk,v2,bOk,W7 (by omega) h3 (by omega),bOk,Zl,em,bOk,v1,bOk,ep,bOk,zP]
    have hz:((shr k.all.length lo q:Nat):Int)+((i - shr k.all.length lo q:Nat):Int)=(i:Int):=by clear h60;omega
    rw[hz]
theorem z1e {k:Kd}(h:k.Ok 3){i:Nat}{x:T}(hx:k.all[i]? =some x):f_7 20 [k.t,x]= .ok (.int (i:Int)):=Uk 3 20 (by omega) (by omega) k h i x hx
def Pl:Nat->T->Prop
 | 0,_=>False
 | n+1,.tup xs=>∀x∈xs,Pl n x
 | n+1,.lst xs=>∀x∈xs,Pl n x
 | _+1,.fz _=>False
 | _+1,_=>True
theorem Zw {f:T->T->Option Bool}:∀(xs:List T),(∀x∈xs,f x x=some true)->eqL f xs xs=some true
 | [],_=>rfl
 | x :: xs,h=>by
  unfold eqL;rw[h x aw,Zw xs λz hz=>h z (af _ hz)];rfl
theorem Zh:∀(n:Nat) (y:T),Pl n y->eqF n y y=some true
 | 0,_,h=>h.elim
 | n+1,y,h=>by
  cases y with
  | tup xs=>rw[eqF];exact Zw xs λz hz=>Zh n z ((show ∀x∈xs,Pl n x from h) z hz)
  | lst xs=>rw[eqF];exact Zw xs λz hz=>Zh n z ((show ∀x∈xs,Pl n x from h) z hz)
  | fz xs=>exact h.elim
  | non=>rfl
  | bl b=>show some (b == b)=_;simp
  | int i=>show some (i == i)=_;simp
  | str i=>show some (i == i)=_;simp
theorem Pl.up:∀(n:Nat) (y:T),Pl n y->Pl (n+1) y
 | 0,_,h=>h.elim
 | n+1,y,h=>by
  cases y with
  | tup xs=>exact λz hz=>Pl.up n z ((show ∀x∈xs,Pl n x from h) z hz)
  | lst xs=>exact λz hz=>Pl.up n z ((show ∀x∈xs,Pl n x from h) z hz)
  | fz xs=>exact h.elim
  | _=>exact trivial
theorem Pl.le {n m:Nat}{y:T}(hm:n<=m)(h:Pl n y):Pl m y:=by
 obtain⟨j,rfl⟩:∃j,m=n+j:=⟨m - n,by omega⟩
 clear hm
 induction j with
 | zero=>exact h
 | succ j ih=>exact Pl.up _ _ ih
theorem X2:∀(d:Nat) (k:Kd) (x:T),k.Ok d->k.has x=true->Pl d x
 | 0,_,_,h,_=>h.elim
 | d+1,.whole lo hi,x,h,hx=>by
  rw[Kd.has]at hx;obtain⟨i,rfl⟩:=YG hx;trivial
 | d+1,.pick cs,x,h,hx=>by
  rw[Kd.has]at hx;dsimp only at hx;split at hx
  ·trivial
  ·cases hx
 | d+1,.row ks,x,h,hx=>by
  rw[Kd.has]at hx;dsimp only at hx;split at hx
  ·rename_i xs;rw[ak,beq_iff_eq]at hx;intro y hy;obtain⟨k,hk,hh⟩:=Uc ks xs hx.1 hx.2 y hy;exact X2 d k y (h.2.2 k hk) hh
  ·cases hx
 | d+1,.many k lo hi,x,h,hx=>by
  rw[Kd.has]at hx;dsimp only at hx;split at hx
  ·rename_i xs;rw[ak,aT]at hx;exact λy hy=>X2 d k y h.2.2 (hx.2 y hy)
  ·cases hx
theorem X3 {t:T}(h:Pl 30 t):neC t t= .ok false:=by unfold neC;rw[Zh 30 t h];rfl
theorem qx {k:Kd}(hk:k.Ok 3):f_n [k.t]= .ok .non:=by
 have hi:=WN 3 k hk;rw[jh _ (jT 3 _ hi).so,if_pos hi]
theorem uy {f:En->R T}{ρ:En}{t:T}(h:f ρ= .ok t):JE f ρ= .nx ρ:=by unfold JE;rw[h,zS]
theorem qy {f:En->R T}{ρ:En}{c:Nat}(h:f ρ= .ex c):JE f ρ= .ex c:=by unfold JE;rw[h];rfl
theorem gw {k:Kd}(hk:k.Ok 3):f_y [k.t]= .ok (.int (k.all.length:Int)):=by
 show zj (b_y f_n (f_2 20) [.vl k.t])=_;rw[b_y,zg (uy (t:= .non) (by rw[Z5,v0,bOk,qx hk])),zy (t:= .int (k.all.length:Int))]
 ·rfl
 ·show zc 1 _ _ [.vl k.t]=_;rw[Z5,v0,bOk,j1 (by omega) hk]
theorem qz {t:T}(ht:sOk t)(hi:isK 3 t=false):f_n [t]= .ex 0:=by
 rw[jh _ ht,hi];rfl
theorem gy {t:T}(ht:sOk t)(hi:isK 3 t=false):f_y [t]= .ex 0:=by
 show zj (b_y f_n (f_2 20) [.vl t])=_;rw[b_y,qk (qy (c:=0) (by rw[Z5,v0,bOk,qz ht hi]))]
 rfl
theorem W8 {k:Kd}(hk:k.Ok 3)(x:T):Gm [k.t,x]=if k.has x=true then .ok .non else .ex 1:=by
 show zj (Gk Xt (en2 k.t x))=_;have ec:j8 (Zp (zc 2 Xt (za (vE 0) (za (vE 1) (zf))))) (en2 k.t x)= .ok (!k.has x):=by
  rw[JJ,jz,Zl,v0,bOk,v1,bOk,uv k hk x,bOk,Zo,bOk]
 rw[Gk,Zm,ec,zS];cases k.has x <;> rfl
theorem qA {k:Kd}(hk:k.Ok 3){i:Nat}{x:T}(hx:k.all[i]? =some x):Go [k.t,x]= .ok (.int (i:Int)):=by
 have hh:=(JU k x).mp (bq hx);show zj (Gn Gm (f_7 20) (en2 k.t x))=_;rw[Gn,zg (uy (t:= .non) (by rw[Zl,v0,bOk,v1,bOk,W8 hk,if_pos hh])),zy (t:= .int (i:Int))]
 ·rfl
 ·show zc 2 _ _ (en2 _ _)=_;rw[Zl,v0,bOk,v1,bOk,z1e hk hx]
theorem X4 {f:En->R T}{ρ:En}{j:Int}(hf:f ρ= .ok (.int j))(h: -1000000 < j/\j < 1000000):Zf f ρ= .ok (rng 0 j.toNat):=by
 unfold Zf;rw[hf,bOk];exact if_pos h
theorem X5 {i j:Int}:gtC (.int i) (.int j)= .ok (decide (j < i)):=rfl
theorem z1f:f_6 0= .ok (.str "no kind"):=by rfl
theorem Ul {i:Nat}{f:En->R T}{ρ:En}{c:Nat}(h:f ρ= .ex c):zt i f ρ= .ex c:=by rw[Zs,h];rfl
theorem X6 {g:En->R Bool}{f f' :En->R T}{ρ:En}(h:g ρ= .ok true):ifE g f f' ρ=f ρ:=by unfold ifE;rw[h];rfl
theorem gz {g:En->R Bool}{f f' :En->R T}{ρ:En}(h:g ρ= .ok false):ifE g f f' ρ=f' ρ:=by unfold ifE;rw[h];rfl
theorem X7 {i:Int}:neC (.int i) (.int i)= .ok false:=by show R.ok (!(i == i))=_;simp
theorem qB (f g:En->R Bool)(ρ:En):JD f g ρ=(f ρ).bind λx=>if x=true then g ρ else .ok false:=rfl
def fF (t:T)(a b c:Nat):List (Str×Fd):=[("kind",.tv t),("first",.tv (.int (a:Int))),("last",.tv (.int (b:Int))),("answered",.tv (.int (c:Int)))]
theorem qL {α:Type}{x y:Str}{v:α}{r:List (Str×α)}(h:(x == y)=false):((y,v) :: r).lookup x=r.lookup x:=by rw[aM,h]
theorem Gw {α:Type}{x:Str}{v:α}{r:List (Str×α)}:((x,v) :: r).lookup x=some v:=by rw[aM,beq_self_eq_true]
theorem fk {t:T}{a b c:Nat}:(fF t a b c).lookup ("kind":Str)=some (.tv t):=Gw
theorem ff {t:T}{a b c:Nat}:(fF t a b c).lookup ("first":Str)=some (.tv (.int (a:Int))):=by unfold fF;rw[qL (by decide+kernel),Gw]
theorem fl {t:T}{a b c:Nat}:(fF t a b c).lookup ("last":Str)=some (.tv (.int (b:Int))):=by unfold fF;rw[qL (by decide+kernel),qL (by decide+kernel),Gw]
theorem fa {t:T}{a b c:Nat}:(fF t a b c).lookup ("answered":Str)=some (.tv (.int (c:Int))):=by unfold fF;rw[qL (by decide+kernel),qL (by decide+kernel),qL (by decide+kernel),Gw]
theorem uz {k i j:Nat}{f:Str}{ρ:En}{fs:List (Str×Fd)}{t:T}(h:obL k i j ρ=some fs)(l:fs.lookup f=some (.tv t)):ug k i j f ρ= .ok t:=by
 unfold ug;rw[h];dsimp only;rw[l]
theorem X8 {k i j nn:Nat}{g:List (Str×Fd)->List T->R T}{ga:En->R (List T)}{ρ:En}{fs:List (Str×Fd)}{ts:List T}(h:obL k i j ρ=some fs)(e:ga ρ= .ok ts)(hn:ts.length=nn):jy k i j nn g ga ρ=g fs ts:=by
 unfold jy;rw[h];dsimp only;rw[e];exact if_pos hn
theorem ju {k i j:Nat}{g:List (Str×Fd)->List T->R T}{ρ:En}{fs:List (Str×Fd)}(h:obL k i j ρ=some fs):jy k i j 0 g zf ρ=g fs []:=X8 (ts:=[]) h rfl rfl
theorem gA {k i j nn:Nat}{g:List (Str×Fd)->List T->R T}{fe:En->R T}{ga:En->R (List T)}{ρ:En}{fs:List (Str×Fd)}{t:T}{ts:List T}(e1:fe ρ= .ok t)(h:obL k i j ρ=some fs)(e:ga ρ= .ok ts)(hn:ts.length+1=nn):Jp k i j nn g fe ga ρ=g fs (t :: ts):=by
 unfold Jp;rw[e1,bOk,h];dsimp only;rw[e];exact if_pos hn
abbrev ocE (t:T)(a b c:Nat):En:=[.oc 102 (fF t a b c),.un]
theorem jG {t:T}{a b c:Nat}(h:a<=b):f_g (fF t a b c) []= .ok (.int ((b - a+1:Nat):Int)):=by
 show zj (zv (zd zp (zd ZS (ug 102 0 1 "last") (ug 102 0 1 "first")) (cE (.int 1))) (ocE t a b c))=_;rw[zy (t:= .int ((b - a+1:Nat):Int))]
 ·rfl
 ·show zd zp _ _ (ocE t a b c)=_;rw[zh,zh,uz (fs:=fF t a b c) rfl fl,bOk,uz (fs:=fF t a b c) rfl ff,bOk,jd,bOk,zM,bOk,zP];congr 2;omega
theorem uA {t:T}{a b c:Nat}:f_r (fF t a b c) []= .ok (.int (c:Int)):=by
 show zj (zv (ug 102 0 1 "answered") (ocE t a b c))=_;rw[zy (t:= .int (c:Int))]
 ·rfl
 ·exact uz (fs:=fF t a b c) rfl fa
theorem QZ {i j:Int}:eqC (.int i) (.int j)= .ok (i == j):=rfl
theorem qC {t:T}{a c:Nat}:f_4 (fF t a a c) []= .ex 4:=by
 show zj (b_4 f_g (ocE t a a c))=_;unfold b_4;rw[qk (c:=4)]
 ·rfl
 ·rw[Wc]
  ·rfl
  ·rw[zD,ju (fs:=fF t a a c) rfl,jG (am _),bOk,zM,bOk,QZ];congr 1;simp
theorem vW {t:T}{a b c:Nat}(h:a < b):f_4 (fF t a b c) []= .ok (.int ((a+(b - a+1) / 2:Nat):Int)):=by
 show zj (b_4 f_g (ocE t a b c))=_;unfold b_4;rw[zg (ZW (by
  rw[zD,ju (fs:=fF t a b c) rfl,jG (by omega),bOk,zM,bOk,QZ]
  congr 1;simp;omega)),zy (t:= .int ((a+(b - a+1) / 2:Nat):Int))]
 ·rfl
 ·show zd zp _ _ (ocE t a b c)=_;rw[zh,uz (fs:=fF t a b c) rfl ff,bOk,zh,ju (fs:=fF t a b c) rfl,jG (by omega),bOk,zM,bOk,show (T.int 2)=T.int ((2:Nat):Int) from rfl,uw (by omega) (by omega),bOk,zP]
  congr 2
theorem v6 {t:T}{a b c:Nat}(h:a < b):f_s (fF t a b c) []= .ok .non:=by
 show zj (b_s (f_h 20) f_g (ocE t a b c))=_;unfold b_s;rw[Zt (t:= .non)]
 ·rfl
 ·rw[Wc]
  ·rfl
  ·rw[zD,ju (fs:=fF t a b c) rfl,jG (by omega),bOk,zM,bOk,X5]
   congr 1;simp;omega
theorem v7 {k:Kd}(hk:k.Ok 3){a c:Nat}{x:T}(hx:k.all[a]? =some x):f_s (fF k.t a a c) []= .ok x:=by
 show zj (b_s (f_h 20) f_g (ocE k.t a a c))=_;unfold b_s;rw[zg (ZW (by
  rw[zD,ju (fs:=fF k.t a a c) rfl,jG (by omega),bOk,zM,bOk,X5]
  congr 1;simp)),zy (t:=x)]
 ·rfl
 ·show zc 2 _ _ (ocE k.t a a c)=_;rw[Zl,uz (fs:=fF k.t a a c) rfl fk,bOk,uz (fs:=fF k.t a a c) rfl ff,bOk,gu hk hx]
abbrev fL1 (t:T):List (Str×Fd):=[("kind",.tv t)]
abbrev fL2 (t:T):List (Str×Fd):=[("kind",.tv t),("first",.tv (.int 0))]
abbrev fL3 (t v:T):List (Str×Fd):=[("kind",.tv t),("first",.tv (.int 0)),("last",.tv v)]
abbrev fL4 (t v:T):List (Str×Fd):=[("kind",.tv t),("first",.tv (.int 0)),("last",.tv v),("answered",.tv (.int 0))]
theorem X9 {k:Kd}(hk:k.Ok 3)(hp:1<=k.all.length):f_q [] [k.t]= .ok (.non,fF k.t 0 (k.all.length - 1) 0):=by
 show WV 102 2 (b_q f_n (f_2 20) [.ob 102 0,.vl k.t,.st [(102,[])]])=_;have e1:JE (zc 1 f_n (za (vE 1) (zf))) [.ob 102 0,.vl k.t,.st [(102,[])]]= .nx [.ob 102 0,.vl k.t,.st [(102,[])]]:=uy (t:= .non) (by rw[Z5,v1,bOk,qx hk])
 have e2:stF 102 0 2 "kind" (vE 1) [.ob 102 0,.vl k.t,.st [(102,[])]]= .nx [.ob 102 0,.vl k.t,.st [(102,fL1 k.t)]]:=rfl;have p1:jl "first" (.tv (.int 0)) (fL1 k.t)=fL2 k.t:=by unfold jl;rw[if_neg (by decide+kernel)];rfl
 have p2:∀v,jl "last" (.tv v) (fL2 k.t)=fL3 k.t v:=λv=>by unfold jl;rw[if_neg (by decide+kernel)];unfold jl;rw[if_neg (by decide+kernel)];rfl
 have p3:∀v,jl "answered" (.tv (.int 0)) (fL3 k.t v)=fL4 k.t v:=λv=>by unfold jl;rw[if_neg (by decide+kernel)];unfold jl;rw[if_neg (by decide+kernel)];unfold jl;rw[if_neg (by decide+kernel)];rfl
 have st_ok:∀{f:Str} {fe:En->R T} {t:T} {fs fs' :List (Str×Fd)},fe [.ob 102 0,.vl k.t,.st [(102,fs)]]= .ok t->fs.length < 1000->jl f (.tv t) fs=fs' ->stF 102 0 2 f fe [.ob 102 0,.vl k.t,.st [(102,fs)]]= .nx [.ob 102 0,.vl k.t,.st [(102,fs')]]:=λ{f fe t fs fs'} e hl hq=>by
  unfold stF;rw[e,zS];show (if fs.length < 1000 then RS.nx _ else RS.bad)=_
  rw[if_pos hl,hq];rfl
 have e3:=st_ok (f:="first") (fe:=cE (.int 0)) (fs:=fL1 k.t) rfl (show 1 < 1000 by decide) p1
 have e4:stF 102 0 2 "last" (zd ZS (zc 1 (f_2 20) (za (vE 1) (zf))) (cE (.int 1))) [.ob 102 0,.vl k.t,.st [(102,fL2 k.t)]]= .nx _:=st_ok (fs:=fL2 k.t) (t:= .int ((k.all.length - 1:Nat):Int)) (by
  rw[zh,Z5,v1,bOk,j1 (by omega) hk,bOk,zM,bOk,show (T.int 1)=T.int ((1:Nat):Int) from rfl,wy hp]) (show 2 < 1000 by decide) (p2 _)
 have e5:=st_ok (f:="answered") (fe:=cE (.int 0)) (fs:=fL3 k.t (.int ((k.all.length - 1:Nat):Int))) rfl (show 3 < 1000 by decide) (p3 (.int ((k.all.length - 1:Nat):Int)))
 unfold b_q;have cn:∀{f:En->RS} {g:En->R (T×En)} {ρ ρ' :En},f ρ= .nx ρ' ->j6 f g ρ=g ρ' :=λh=>by unfold j6;rw[h]
 rw[cn e1,cn e2,cn e3,cn e4,cn e5];rfl
theorem pl_ {t:T}{a b c m:Nat}:jl "last" (.tv (.int (m:Int))) (fF t a b c)=fF t a m c:=by
 unfold fF jl;rw[if_neg (by decide+kernel)];unfold jl;rw[if_neg (by decide+kernel)];unfold jl;rw[if_pos rfl]
theorem pf_ {t:T}{a b c m:Nat}:jl "first" (.tv (.int (m:Int))) (fF t a b c)=fF t m b c:=by
 unfold fF jl;rw[if_neg (by decide+kernel)];unfold jl;rw[if_pos rfl]
theorem pa_ {t:T}{a b c m:Nat}:jl "answered" (.tv (.int (m:Int))) (fF t a b c)=fF t a b m:=by
 unfold fF jl;rw[if_neg (by decide+kernel)];unfold jl;rw[if_neg (by decide+kernel)];unfold jl;rw[if_neg (by decide+kernel)];unfold jl;rw[if_pos rfl]
theorem z1g {k i j n:Nat}{f:Str}{fe:En->R T}{ρ:En}{t:T}{fs fs' :List (Str×Fd)}{os:List Ob}(h:obD k i j ρ=some (n,fs,os))(e:fe ρ= .ok t)(hl:fs.length < 1000)(hq:jl f (.tv t) fs=fs'):stF k i j f fe ρ= .nx (ρ.set j (.st (os.set n (k,fs')))):=by
 unfold stF;rw[e,zS,h];show (if fs.length < 1000 then RS.nx _ else RS.bad)=_
 rw[if_pos hl,hq]
theorem vX {f:En->RS}{g:En->R (T×En)}{ρ ρ' :En}(h:f ρ= .nx ρ'):j6 f g ρ=g ρ' :=by unfold j6;rw[h]
abbrev mid (a b:Nat):Nat:=a+(b - a+1) / 2
abbrev nxt (t:T)(a b c:Nat)(x:Bool):List (Str×Fd):=if x=true then fF t a (mid a b - 1) (c+1) else fF t (mid a b) b (c+1)
theorem gB {t:T}{a b c:Nat}(h:a < b)(x:Bool):f_e (fF t a b c) [.bl x]= .ok (.non,nxt t a b c x):=by
 show WV 102 3 (b_e f_4 [.ob 102 0,.vl (.bl x),.un,.st [(102,fF t a b c)]])=_;have e1:zt 2 (jy 102 0 3 0 f_4 zf) [.ob 102 0,.vl (.bl x),.un,.st [(102,fF t a b c)]]= .nx [.ob 102 0,.vl (.bl x),.vl (.int (mid a b:Int)),.st [(102,fF t a b c)]]:=by
  rw[zW (t:= .int (mid a b:Int))]
  ·rfl
  ·rw[ju (fs:=fF t a b c) rfl,vW h]
 have e3:∀a' b',stF 102 0 3 "answered" (zd zp (ug 102 0 3 "answered") (cE (.int 1))) [.ob 102 0,.vl (.bl x),.vl (.int (mid a b:Int)),.st [(102,fF t a' b' c)]]= .nx [.ob 102 0,.vl (.bl x),.vl (.int (mid a b:Int)),.st [(102,fF t a' b' (c+1))]]:=λa' b' =>by
  rw[z1g (n:=0) (fs:=fF t a' b' c) (fs' :=fF t a' b' (c+1)) (os:=[(102,fF t a' b' c)]) (t:= .int ((c+1:Nat):Int)) rfl (by rw[zh,uz (fs:=fF t a' b' c) rfl fa,bOk,zM,bOk,zP];congr 2) (show 4 < 1000 by decide) pa_]
  rfl
 unfold b_e;rw[vX e1];cases x with
 | true=>
  have e2:ifS (Zp (vB 1)) (stF 102 0 3 "last" (zd ZS (vE 2) (cE (.int 1)))) (stF 102 0 3 "first" (vE 2)) [.ob 102 0,.vl (.bl true),.vl (.int (mid a b:Int)),.st [(102,fF t a b c)]]= .nx [.ob 102 0,.vl (.bl true),.vl (.int (mid a b:Int)),.st [(102,fF t a (mid a b - 1) c)]]:=by
   rw[Wc rfl,z1g (n:=0) (fs:=fF t a b c) (fs' :=fF t a (mid a b - 1) c) (os:=[(102,fF t a b c)]) (t:= .int ((mid a b - 1:Nat):Int)) rfl (by
    show ZS (.int (mid a b:Int)) (.int ((1:Nat):Int))=_;exact wy (by unfold mid;omega)) (show 4 < 1000 by decide) pl_]
   rfl
  rw[vX e2,vX (e3 _ _)];rfl
 | false=>
  have e2:ifS (Zp (vB 1)) (stF 102 0 3 "last" (zd ZS (vE 2) (cE (.int 1)))) (stF 102 0 3 "first" (vE 2)) [.ob 102 0,.vl (.bl false),.vl (.int (mid a b:Int)),.st [(102,fF t a b c)]]= .nx [.ob 102 0,.vl (.bl false),.vl (.int (mid a b:Int)),.st [(102,fF t (mid a b) b c)]]:=by
   rw[qK rfl,z1g (n:=0) (fs:=fF t a b c) (fs' :=fF t (mid a b) b c) (os:=[(102,fF t a b c)]) (t:= .int (mid a b:Int)) rfl rfl (show 4 < 1000 by decide) pf_]
   rfl
  rw[vX e2,vX (e3 _ _)];rfl
theorem v8 {t:T}{a c:Nat}(x:T):KJ (fF t a a c) [x]= .ex 4:=by
 show zj (Gg f_4 [.oc 102 (fF t a a c),.vl x,.un,.un])=_;unfold Gg;rw[qk (c:=4)]
 ·rfl
 ·exact Ul (by rw[ju (fs:=fF t a a c) rfl,qC])
theorem z1h:f_6 4= .ok (.str "ended"):=by rfl
theorem vY {k:Nat}{ok:Nat->Bool}{f:En->RS}{ρ:En}{c:Nat}(h:f ρ= .ex c)(hc:ok c=true):Qg k ok f ρ= .nx ((ad ρ.length Sl.un).set k (.xc c)):=by unfold Qg;rw[h];exact if_pos hc
theorem qD {k:Nat}{ok:Nat->Bool}{f:En->RS}{ρ ρ' :En}(h:f ρ= .nx ρ'):Qg k ok f ρ= .nx ρ' :=by unfold Qg;rw[h]
abbrev trO (t:T)(a b c:Nat)(w x:T):En:=[.vl w,.oc 102 (fF t a b c),.vl x,.vl .non,.vl .non,.un,.un]
theorem z1i {t:T}{a b c:Nat}(h:a < b)(x:T):UI (fF t a b c) [.int 0,x]= .ok (.int (mid a b:Int)):=by
 show zj (Xr f_6 f_4 KJ [.vl (.int 0),.oc 102 (fF t a b c),.vl x,.un,.un,.un,.un])=_;unfold Xr;have e1:zt 3 (cE .non) [.vl (.int 0),.oc 102 (fF t a b c),.vl x,.un,.un,.un,.un]= .nx [.vl (.int 0),.oc 102 (fF t a b c),.vl x,.vl .non,.un,.un,.un]:=rfl;have e2:zt 4 (cE .non) [.vl (.int 0),.oc 102 (fF t a b c),.vl x,.vl .non,.un,.un,.un]= .nx (trO t a b c (.int 0) x):=rfl;rw[zg e1,zg e2,
  zg (ρ' :=[.vl (.int 0),.oc 102 (fF t a b c),.vl x,.vl .non,.vl (.int (mid a b:Int)),.un,.un]) (qD (by
   rw[Wc rfl,zW (t:= .int (mid a b:Int))]
   ·rfl
   ·rw[ju (fs:=fF t a b c) rfl,vW h])),Zt (t:= .int (mid a b:Int))]
 ·rfl
 ·rw[Wc rfl,zy (t:= .int (mid a b:Int))];rfl
theorem Xa {t:T}{a c:Nat}{w:Int}(hw:w=0\/w=1)(x:T):UI (fF t a a c) [.int w,x]= .ok (.str "ended"):=by
 show zj (Xr f_6 f_4 KJ [.vl (.int w),.oc 102 (fF t a a c),.vl x,.un,.un,.un,.un])=_;unfold Xr;have e1:zt 3 (cE .non) [.vl (.int w),.oc 102 (fF t a a c),.vl x,.un,.un,.un,.un]= .nx [.vl (.int w),.oc 102 (fF t a a c),.vl x,.vl .non,.un,.un,.un]:=rfl;have e2:zt 4 (cE .non) [.vl (.int w),.oc 102 (fF t a a c),.vl x,.vl .non,.un,.un,.un]= .nx (trO t a a c (.int w) x):=rfl;rw[zg e1,zg e2,
  zg (ρ' :=[.un,.un,.un,.xc 4,.un,.un,.un]) (by
   rw[vY (c:=4)]
   ·rfl
   ·rcases hw with rfl | rfl
    ·rw[Wc rfl];exact Ul (by rw[ju (fs:=fF t a a c) rfl,qC])
    ·rw[qK rfl,Wc rfl];exact Ul ((X8 (fs:=fF t a a c) (ts:=[x]) rfl rfl rfl).trans (v8 _))
   ·decide),zg (ρ' :=[.un,.un,.un,.xc 4,.un,.un,.un]) (by rw[qK rfl];rfl),zy (t:= .str "ended")]
 ·rfl
 ·exact z1h
theorem gC {t:T}{a b c:Nat}(h:a < b)(x:Bool):Gi (fF t a b c) [.int 1,.bl x]= .ok (.non,nxt t a b c x):=by
 show WV 102 6 (Gh f_6 f_e [.vl (.int 1),.ob 102 0,.vl (.bl x),.un,.un,.un,.st [(102,fF t a b c)]])=_;unfold Gh;have nk:((fF t a b c).lookup ("answer":Str)).isNone=true:=by unfold fF;rw[qL (by decide+kernel),qL (by decide+kernel),qL (by decide+kernel),qL (by decide+kernel)];rfl
 have em:Ky 102 1 6 "answer" 1 f_e (za (vE 2) (zf)) [.vl (.int 1),.ob 102 0,.vl (.bl x),.vl .non,.vl .non,.un,.st [(102,fF t a b c)]]= .ok (.non,[.vl (.int 1),.ob 102 0,.vl (.bl x),.vl .non,.vl .non,.un,.st [(102,nxt t a b c x)]]):=by
  unfold Ky;rw[show obD 102 1 6 [.vl (.int 1),.ob 102 0,.vl (.bl x),.vl .non,.vl .non,.un,.st [(102,fF t a b c)]]=some (0,fF t a b c,[(102,fF t a b c)]) from rfl];dsimp only;rw[if_pos nk];show (f_e (fF t a b c) [.bl x]).bind _=_;rw[gB h x];rfl
 have e1:zt 3 (cE .non) [.vl (.int 1),.ob 102 0,.vl (.bl x),.un,.un,.un,.st [(102,fF t a b c)]]= .nx [.vl (.int 1),.ob 102 0,.vl (.bl x),.vl .non,.un,.un,.st [(102,fF t a b c)]]:=rfl;have e2:zt 4 (cE .non) [.vl (.int 1),.ob 102 0,.vl (.bl x),.vl .non,.un,.un,.st [(102,fF t a b c)]]= .nx [.vl (.int 1),.ob 102 0,.vl (.bl x),.vl .non,.vl .non,.un,.st [(102,fF t a b c)]]:=rfl;rw[vX e1,vX e2,
  vX (ρ' :=[.vl (.int 1),.ob 102 0,.vl (.bl x),.vl .non,.vl .non,.un,.st [(102,nxt t a b c x)]]) (qD (by
   rw[qK rfl,Wc rfl];unfold seM;rw[em];rfl))]
 rfl
theorem Xb {t:T}{a c m:Nat}(h:c<=m):KL (fF t a a c) [.int (m:Int)]= .ok (.bl true):=by
 show zj (Gp f_g f_r UI [.oc 102 (fF t a a c),.vl (.int (m:Int)),.un])=_;unfold Gp;have ow:∀{fa fb:En->R Bool} {ρ:En},fa ρ= .ok false->orT fa fb ρ=fb ρ:=λh=>by unfold orT;rw[h];rfl
 rw[zg (ZW (by
  rw[ow (by rw[zD,ju (fs:=fF t a a c) rfl,uA,bOk];show gtC (.int (c:Int)) (.int (m:Int))=_;rw[X5];congr 1;simp;omega),zD,ju (fs:=fF t a a c) rfl,jG (am _),bOk,zM,bOk]
  show R.ok _=_;congr 1;simp)),zy (t:= .bl true)]
 ·rfl
 ·show jB eqC _ _ [.oc 102 (fF t a a c),.vl (.int (m:Int)),.un]=_;rw[ZJ,show zZ (Zf (cE (.int 2))) (zr 0) Ze (Jp 102 1 2 2 UI (vE 0) (za (cE (.bl true)) zf)) 1 [0] [.oc 102 (fF t a a c),.vl (.int (m:Int)),.un]= .ok (.lst [.str "ended",.str "ended"]) from ?_]
  ·rfl
  ·show (if (2:Nat)<=16777216 then quiet (zH (zr 0) Ze (Jp 102 1 2 2 UI (vE 0) (za (cE (.bl true)) zf)) [.int 0,.int 1] [.un,.oc 102 (fF t a a c)]) else R.bad).bind (λvs=>R.ok (T.lst vs))=_
   rw[if_pos (by decide)]
   have e:∀w:Int,w=0\/w=1->Jp 102 1 2 2 UI (vE 0) (za (cE (.bl true)) zf) [.vl (.int w),.oc 102 (fF t a a c)]= .ok (.str "ended"):=λw hw=>
    (gA (fs:=fF t a a c) (t:= .int w) (ts:=[.bl true]) rfl rfl rfl rfl).trans (Xa hw _)
   have c2:∀ρ,zH (zr 0) Ze (Jp 102 1 2 2 UI (vE 0) (za (cE (.bl true)) zf)) [] ρ= .ok []:=λ_=>rfl;unfold zH;show (quiet ((Jp 102 1 2 2 UI (vE 0) (za (cE (.bl true)) zf) [.vl (.int 0),.oc 102 (fF t a a c)]).bind _)).bind _=_;rw[e 0 (.inl rfl),bOk];unfold zH;show (quiet (((Jp 102 1 2 2 UI (vE 0) (za (cE (.bl true)) zf) [.vl (.int 1),.oc 102 (fF t a a c)]).bind _).bind _)).bind _=_;rw[e 1 (.inr rfl)];rfl
def bN (n:Nat):Nat:=if n=0 then 0 else n.log2+1
theorem gD:∀n:Nat,n < 120->n < 2 ^ bN n/\(bN n=0\/2 ^ (bN n - 1)<=n)/\bN n<=7:=by decide+kernel
theorem Xc {n:Nat}:Wx (.int (n:Int))= .ok (.int (bN n:Int)):=by
 unfold Wx bN
 by_cases h:n=0
 ·subst h;rfl
 ·show R.ok (T.int ((if ((n:Int) == 0)=true then 0 else (n:Int).natAbs.log2+1:Nat):Int))=_
  rw[if_neg h,if_neg (by simpa using h)];rfl
theorem Xd {k:Kd}(hk:k.Ok 3)(hp:1<=k.all.length):xD [k.t]= .ok (.int (bN (k.all.length - 1):Int)):=by
 show zj (zv (ap1 Wx (zd ZS (zc 1 f_y (za (vE 0) (zf))) (cE (.int 1)))) [.vl k.t])=_;rw[zy (t:= .int (bN (k.all.length - 1):Int))]
 ·rfl
 ·show ap1 Wx _ [.vl k.t]=_;rw[Zz,zh,Z5,v0,bOk,gw hk,bOk,zM,bOk,show (T.int 1)=T.int ((1:Nat):Int) from rfl,wy hp,bOk,Xc]
theorem Xe {t:T}(ht:sOk t)(hi:isK 3 t=false):xD [t]= .ex 0:=by
 show zj ((ap1 Wx (zd ZS (zc 1 f_y (za (vE 0) (zf))) (cE (.int 1))) (frz [.vl t])).s λt=> .rt t)=_;show zj ((ap1 Wx (zd ZS (zc 1 f_y (za (vE 0) (zf))) (cE (.int 1))) [.vl t]).s λt=> .rt t)=_;rw[Zz,zh,Z5,v0,bOk,gy ht hi];rfl
theorem Xf {t:T}(ht:sOk t)(hi:isK 3 t=false):f_q [] [t]= .ex 0:=by
 show WV 102 2 (b_q f_n (f_2 20) [.ob 102 0,.vl t,.st [(102,[])]])=_;unfold b_q j6;rw[qy (c:=0) (by rw[Z5,v1,bOk,qz ht hi])];rfl
abbrev tr7 (w:Int)(t x a:T):En:=[.vl (.int w),.vl t,.vl x,.vl .non,.vl a,.un,.un]
abbrev trE:En->R T:=ifE (zx eqC (vB 0) (cE (.int 2))) (zc 1 xD (za (vE 1) (zf))) (mkX 1 f_q (za (vE 1) (zf)))
theorem z1j {w:Int}(h0:(w == 0)=false)(h1:(w == 1)=false){t x v:T}(e:trE (tr7 w t x .non)= .ok v):f_3 [.int w,t,x]= .ok v:=by
 show zj (b_3 f_6 xD f_q [.vl (.int w),.vl t,.vl x,.un,.un,.un,.un])=_;unfold b_3;have e1:zt 3 (cE .non) [.vl (.int w),.vl t,.vl x,.un,.un,.un,.un]= .nx [.vl (.int w),.vl t,.vl x,.vl .non,.un,.un,.un]:=rfl;have e2:zt 4 (cE .non) [.vl (.int w),.vl t,.vl x,.vl .non,.un,.un,.un]= .nx (tr7 w t x .non):=rfl;rw[zg e1,zg e2,zg (ρ' :=tr7 w t x v) (qD (by
  rw[qK (by show R.ok (w == 0)=_;rw[h0]),qK (by show R.ok (w == 1)=_;rw[h1]),zW e];rfl)),Zt (t:=v)]
 ·rfl
 ·rw[Wc rfl,zy (t:=v)];rfl
theorem gE {w:Int}(h0:(w == 0)=false)(h1:(w == 1)=false){t x:T}(e:trE (tr7 w t x .non)= .ex 0):f_3 [.int w,t,x]= .ok (.str "no kind"):=by
 show zj (b_3 f_6 xD f_q [.vl (.int w),.vl t,.vl x,.un,.un,.un,.un])=_;unfold b_3;have e1:zt 3 (cE .non) [.vl (.int w),.vl t,.vl x,.un,.un,.un,.un]= .nx [.vl (.int w),.vl t,.vl x,.vl .non,.un,.un,.un]:=rfl;have e2:zt 4 (cE .non) [.vl (.int w),.vl t,.vl x,.vl .non,.un,.un,.un]= .nx (tr7 w t x .non):=rfl;rw[zg e1,zg e2,zg (ρ' :=[.un,.un,.un,.xc 0,.un,.un,.un]) (by
  rw[vY (c:=0)]
  ·rfl
  ·rw[qK (by show R.ok (w == 0)=_;rw[h0]),qK (by show R.ok (w == 1)=_;rw[h1])]
   exact Ul e
  ·decide),zg (ρ' :=[.un,.un,.un,.xc 0,.un,.un,.un]) (by rw[qK rfl];rfl),zy (t:= .str "no kind")]
 ·rfl
 ·exact z1f
theorem tr_2 {k:Kd}(hk:k.Ok 3)(hp:1<=k.all.length):f_3 [.int 2,k.t,.non]= .ok (.int (bN (k.all.length - 1):Int)):=
 z1j rfl rfl (by
  show trE (tr7 2 k.t .non .non)=_;rw[trE,X6 rfl,Z5,v1,bOk,Xd hk hp])
theorem vZ {w:Int}(hw:w=2\/w=3){t:T}(ht:sOk t)(hi:isK 3 t=false):f_3 [.int w,t,.non]= .ok (.str "no kind"):=by
 rcases hw with rfl | rfl
 ·refine gE rfl rfl ?_;rw[trE,X6 rfl,Z5,v1,bOk,Xe ht hi]
 ·refine gE rfl rfl ?_;rw[trE,gz rfl];show (match f_q [] [t] with | .ex c=>R.ex c | _=>R.bad)=_
  rw[Xf ht hi]
abbrev EL (ns:List Int)(k:Kd)(m r:Nat)(ag:Sl)(tu:Nat)(q:Nat)(go lo hi ma:Nat)(he il:Sl)(os:List Ob):En:=[.vl (scr ns),.vl k.t,.vl (.lst k.all),.vl (.int (m:Int)),.vl (.int (r:Int)),ag,.vl (.int (tu:Int)),.ob 102 q,.vl (.int (go:Int)),.vl (.int (lo:Int)),.vl (.int (hi:Int)),.vl (.int (ma:Int)),he,il,.un,.st os]
theorem gF {fa fb:En->R Bool}{ρ:En}(h:fa ρ= .ok false):orT fa fb ρ=fb ρ:=by unfold orT;rw[h];rfl
theorem Xg {k i j n nn:Nat}{g:List (Str×Fd)->List T->R (T×List (Str×Fd))}{fe:En->R T}{ga:En->R (List T)}{ρ:En}{fs fs' :List (Str×Fd)}{os:List Ob}{t u:T}{ts:List T}(e1:fe ρ= .ok t)(o:obD k i j ρ=some (n,fs,os))(e:ga ρ= .ok ts)(hn:ts.length+1=nn)(hg:g fs (t :: ts)= .ok (u,fs')):Yw k i j nn g fe ga ρ= .ok (u,ρ.set j (.st (os.set n (k,fs')))):=by
 unfold Yw;rw[e1,bOk,o];dsimp only;rw[e,bOk,if_pos hn,hg];rfl
theorem z1k {pre:List Ob}{o:Ob}:(pre++[o])[pre.length]? =some o:=by rw[ay (am _),dG];rfl
theorem z1l {pre:List Ob}{o o' :Ob}:(pre++[o]).set pre.length o' =pre++[o']:=by rw[List.set_append_right _ _ (am _),dG];rfl
section
variable {ns:List Int}{k:Kd}{m r tu go lo hi ma:Nat}{ag he il:Sl}{pre:List Ob}
abbrev EF (ns:List Int)(k:Kd)(m r:Nat)(ag:Sl)(tu go lo hi ma:Nat)(he il:Sl)(pre:List Ob)(fs:List (Str×Fd)):En:=EL ns k m r ag tu pre.length go lo hi ma he il (pre++[(102,fs)])
theorem gG {fs:List (Str×Fd)}:obD 102 7 15 (EF ns k m r ag tu go lo hi ma he il pre fs)=some (pre.length,fs,pre++[(102,fs)]):=by
 show (match (pre++[(102,fs)])[pre.length]? with | some (k2,fs')=>if 102=102/\k2=102 then some (pre.length,fs',pre++[(102,fs)]) else none | none=>none)=_
 rw[z1k];rfl
theorem uB {fs:List (Str×Fd)}:obL 102 7 15 (EF ns k m r ag tu go lo hi ma he il pre fs)=some fs:=by
 show (obD 102 7 15 (EF ns k m r ag tu go lo hi ma he il pre fs)).map _=_;rw[gG];rfl
end
abbrev wT:En->R Bool:=zx ltC (vB 9) (vB 10)
abbrev wz0:En->RS:=zt 12 (Jp 102 7 15 2 UI (cE (.int 0)) (za (cE .non) (zf)))
abbrev wz2:En->RS:=zt 13 (jB ltC (vB 8) (vB 12))
abbrev wz3:En->RS:=ifS (zx eqC (vB 6) (cE (.int 2))) (zt 13 (jB eqC (zc 3 f_5 (za (vE 0) (za (zd zp (cE (.int 4010)) (jy 102 7 15 0 f_r zf)) (za (cE (.int 2)) (zf))))) (cE (.int 0)))) (nxS)
abbrev wz5:En->RS:=G8 (ifE (Zp (vB 13)) (Zd (za (vE 9) (za (zd ZS (vE 12) (cE (.int 1))) (zf)))) (Zd (za (vE 12) (za (vE 10) (zf))))) (Zr 9 10)
abbrev wz6:En->RS:=zt 11 (zd zp (vE 11) (cE (.int 1)))
abbrev wz1:En->R Bool:=orT (j8 (Zp (ap1 (j9 "int") (vB 12)))) (orT (j8 (chT ltC leC (vB 9) (vB 12) (vB 10))) (zx JC (jy 102 7 15 0 f_s zf) (cE .non)))
abbrev wz7:En->R Bool:=orT (zx neC (jy 102 7 15 0 f_g zf) (zd zp (zd ZS (vE 10) (vE 9)) (cE (.int 1)))) (zx neC (jy 102 7 15 0 f_r zf) (vB 11))
abbrev wz4:En->R (T×En):=Yw 102 7 15 2 Gi (cE (.int 1)) (za (vE 13) (zf))
abbrev wB:En->RS:=zo wz0 (zo (ifS wz1 (zv (cE (.bl false))) nxS) (zo wz2 (zo wz3 (zo (ifM (Xo JC wz4 (cE .non)) (zv (cE (.bl false))) nxS) (zo wz5 (zo wz6 (ifS wz7 (zv (cE (.bl false))) nxS)))))))
abbrev hM (a b:Nat):Sl:= .vl (.int (mid a b:Int))
theorem z1m {ns:List Int}{k:Kd}{m r tu go lo hi ma:Nat}{ag he il:Sl}{pre:List Ob}(h:lo < hi)(hg:tu < 2->lo<=go/\go<=hi):∃lo' hi' he' il',wB (EF ns k m r ag tu go lo hi ma he il pre (fF k.t lo hi ma))= .nx (EF ns k m r ag tu go lo' hi' (ma+1) he' il' pre (fF k.t lo' hi' (ma+1)))/\lo' <=hi' /\hi' <=hi/\2*(hi' - lo' +1)<=hi - lo+1+1/\(tu < 2->lo' <=go/\go<=hi'):=by
 have e0:wz0 (EF ns k m r ag tu go lo hi ma he il pre (fF k.t lo hi ma))= .nx (EF ns k m r ag tu go lo hi ma (hM lo hi) il pre (fF k.t lo hi ma)):=by
  rw[wz0,zW (t:= .int (mid lo hi:Int))]
  ·rfl
  ·exact(gA (fs:=fF k.t lo hi ma) (t:= .int 0) (ts:=[.non]) rfl uB rfl rfl).trans (z1i h _)
 have e1:wz1 (EF ns k m r ag tu go lo hi ma (hM lo hi) il pre (fF k.t lo hi ma))= .ok false:=by
  rw[wz1,gF rfl,gF]
  ·rw[zD,ju uB,v6 h];rfl
  ·show (R.bind (R.bind (ltC (.int (lo:Int)) (.int (mid lo hi:Int))) λk=>if k=true then leC (.int (mid lo hi:Int)) (.int (hi:Int)) else .ok false) λx=> .ok (!x))=_
   rw[show ltC (.int (lo:Int)) (.int (mid lo hi:Int))= .ok true from (by show R.ok (decide ((lo:Int) < (mid lo hi:Int)))=_;congr 1;unfold mid;simp;omega),bOk,if_pos rfl,show leC (.int (mid lo hi:Int)) (.int (hi:Int))= .ok true from (by rw[wU];congr 1;unfold mid;simp;omega)];rfl
 have e2:wz2 (EF ns k m r ag tu go lo hi ma (hM lo hi) il pre (fF k.t lo hi ma))= .nx (EF ns k m r ag tu go lo hi ma (hM lo hi) (.vl (.bl (decide ((go:Int) < (mid lo hi:Int))))) pre (fF k.t lo hi ma)):=rfl;obtain⟨x,hx,e3⟩:∃x:Bool,(tu < 2->x=decide ((go:Int) < (mid lo hi:Int)))/\wz3 (EF ns k m r ag tu go lo hi ma (hM lo hi) (.vl (.bl (decide ((go:Int) < (mid lo hi:Int))))) pre (fF k.t lo hi ma))= .nx (EF ns k m r ag tu go lo hi ma (hM lo hi) (.vl (.bl x)) pre (fF k.t lo hi ma)):=by
  by_cases ht:tu=2
  ·obtain⟨p,hp,p0,p1⟩:=zR ns (4010+(ma:Int)) 2 (by omega) (by omega)
   refine⟨p == 0,λz=>by omega, ?_⟩
   rw[wz3,Wc (by show eqC (.int (tu:Int)) (.int 2)=_;rw[QZ];congr 1;simp;omega),zW (t:= .bl (p == 0))]
   ·rfl
   ·rw[ZJ,Za,show ∀ρ',vE 0 (Sl.vl (scr ns) :: ρ')= .ok (scr ns) from λ_=>rfl,bOk,zh,zM,bOk,ju uB,uA,bOk,zP,bOk,zM,bOk,hp];rfl
  ·exact⟨_,λ_=>rfl,ZW (by show eqC (.int (tu:Int)) (.int 2)=_;rw[QZ];congr 1;simp;omega)⟩
 obtain⟨l2,hl2⟩:∃l2,l2=if x=true then lo else mid lo hi:=⟨_,rfl⟩
 obtain⟨h2,hh2⟩:∃h2,h2=if x=true then mid lo hi - 1 else hi:=⟨_,rfl⟩
 have en:nxt k.t lo hi ma x=fF k.t l2 h2 (ma+1):=by unfold nxt;rw[hl2,hh2];cases x <;> rfl
 have e4:ifM (Xo JC wz4 (cE .non)) (zv (cE (.bl false))) nxS (EF ns k m r ag tu go lo hi ma (hM lo hi) (.vl (.bl x)) pre (fF k.t lo hi ma))= .nx (EF ns k m r ag tu go lo hi ma (hM lo hi) (.vl (.bl x)) pre (fF k.t l2 h2 (ma+1))):=by
  have ec:wz4 (EF ns k m r ag tu go lo hi ma (hM lo hi) (.vl (.bl x)) pre (fF k.t lo hi ma))=_:=Xg (t:= .int 1) (ts:=[.bl x]) rfl gG rfl rfl (gC h x);unfold ifM Xo;rw[ec,bOk,en];show RS.nx (EL ns k m r ag tu pre.length go lo hi ma _ _ ((pre++[(102,fF k.t lo hi ma)]).set pre.length (102,fF k.t l2 h2 (ma+1))))=_;rw[z1l]
 have e5:wz5 (EF ns k m r ag tu go lo hi ma (hM lo hi) (.vl (.bl x)) pre (fF k.t l2 h2 (ma+1)))= .nx (EF ns k m r ag tu go l2 h2 ma (hM lo hi) (.vl (.bl x)) pre (fF k.t l2 h2 (ma+1))):=by
  unfold wz5 G8;cases x with
  | true=>
   rw[X6 rfl,QF (x:= .int (lo:Int)) (y:= .int ((mid lo hi - 1:Nat):Int)) rfl (by show ZS (.int (mid lo hi:Int)) (.int ((1:Nat):Int))=_;exact wy (by unfold mid;omega)),hl2,hh2];rfl
  | false=>rw[gz rfl,QF (x:= .int (mid lo hi:Int)) (y:= .int (hi:Int)) rfl rfl,hl2,hh2];rfl
 have hlt:l2<=h2:=by rw[hl2,hh2];cases x <;> simp[mid] <;> omega
 have e6:wz6 (EF ns k m r ag tu go l2 h2 ma (hM lo hi) (.vl (.bl x)) pre (fF k.t l2 h2 (ma+1)))= .nx (EF ns k m r ag tu go l2 h2 (ma+1) (hM lo hi) (.vl (.bl x)) pre (fF k.t l2 h2 (ma+1))):=rfl;have e7:wz7 (EF ns k m r ag tu go l2 h2 (ma+1) (hM lo hi) (.vl (.bl x)) pre (fF k.t l2 h2 (ma+1)))= .ok false:=by
  rw[wz7,gF,zD,ju uB,uA,bOk]
  ·exact X7
  ·rw[zD,ju uB,jG hlt,bOk,show zd zp (zd ZS (vE 10) (vE 9)) (cE (.int 1)) _= .ok (.int ((h2 - l2+1:Nat):Int)) from (by
    show R.ok (T.int ((h2:Int) - (l2:Int)+1))=_;congr 2;omega),bOk]
   exact X7
 refine⟨l2,h2,hM lo hi,.vl (.bl x), ?_,hlt, ?_, ?_,λht=> ?_⟩
 ·rw[wB,zg e0,zg (ZW e1),zg e2,zg e3,zg e4,zg e5,zg e6,ZW e7]
 ·rw[hh2];cases x <;> simp[mid] <;> omega
 ·rw[hl2,hh2];cases x <;> simp[mid] <;> omega
 ·have h4:=hx ht;have h3:=hg ht;rw[hl2,hh2];cases x <;> simp[mid]at h4 ⊢ <;> omega
theorem z1n {i j k nn:Nat}{g:List (Str×Fd)->List T->R (T×List (Str×Fd))}{ga:En->R (List T)}{ρ:En}{ts:List T}{os:List Ob}{fs:List (Str×Fd)}(e:ga ρ= .ok ts)(hn:ts.length=nn/\i ≠ j/\i < ρ.length)(hj:ρ[j]? =some (.st os))(hg:g [] ts= .ok (.non,fs)):mkS i j k nn g ga ρ= .nx ((ρ.set j (.st (os++[(k,fs)]))).set i (.ob k os.length)):=by
 unfold mkS;rw[e];show (if ts.length=nn/\i ≠ j/\i < ρ.length then _ else RS.bad)=_
 rw[if_pos hn,hj];dsimp only;rw[hg]
theorem gH {ns:List Int}{k:Kd}{m r tu go:Nat}{ag:Sl}{pre:List Ob}:∀(e f:Nat),e < f->∀(lo hi ma:Nat) (he il:Sl),lo<=hi->hi - lo+1<=2 ^ e->(tu < 2->lo<=go/\go<=hi)->∃lo' ma' he' il',Zx wT wB f (EF ns k m r ag tu go lo hi ma he il pre (fF k.t lo hi ma))= .nx (EF ns k m r ag tu go lo' lo' ma' he' il' pre (fF k.t lo' lo' ma'))/\ma' <=ma+e/\lo' <=hi/\(tu < 2->lo' =go)
 | e,0,h,_,_,_,_,_,_,_,_=>by omega
 | e,f+1,h,lo,hi,ma,he,il,hl,hs,hg=>by
  unfold Zx;have et:wT (EF ns k m r ag tu go lo hi ma he il pre (fF k.t lo hi ma))= .ok (decide ((lo:Int) < (hi:Int))):=rfl;rw[et,zS]
  by_cases hlt:lo < hi
  ·rw[if_pos (by simpa using hlt)]
   obtain⟨lo',hi',he',il',ew,h1,h2,h3,h4⟩:=z1m (ns:=ns) (k:=k) (m:=m) (r:=r) (ma:=ma) (ag:=ag) (he:=he) (il:=il) (pre:=pre) hlt hg;rw[ew];dsimp only;cases e with
   | zero=>simp at hs;omega
   | succ e=>
    have hp:2 ^ (e+1)=2*2 ^ e:=by rw[cU,bG]
    rw[hp]at hs;obtain⟨lo2,ma2,he2,il2,g1,g2,g3,g4⟩:=gH e f (by omega) lo' hi' (ma+1) he' il' h1 (by omega) h4
    exact⟨lo2,ma2,he2,il2,g1,by omega,by omega,g4⟩
  ·rw[if_neg (by simpa using hlt)]
   have:lo=hi:=by omega
   subst this;exact⟨lo,ma,he,il,rfl,by omega,am _,λz=>by have:=hg z;omega⟩
abbrev ET (ns:List Int)(k:Kd)(m r:Nat)(ag:Sl)(tu:Nat)(a7 a8 a9 a10 a11 a12 a13:Sl)(os:List Ob):En:=[.vl (scr ns),.vl k.t,.vl (.lst k.all),.vl (.int (m:Int)),.vl (.int (r:Int)),ag,.vl (.int (tu:Int)),a7,a8,a9,a10,a11,a12,a13,.un,.st os]
abbrev tz0:En->RS:=mkS 7 15 102 1 f_q (za (vE 1) (zf))
abbrev tz1:En->RS:=zt 8 (zc 3 f_5 (za (vE 0) (za (zd zp (cE (.int 4000)) (vE 6)) (za (ap1 Z2 (vB 2)) (zf)))))
abbrev tz2:En->RS:=VQ 9 10 (za (cE (.int 0)) (za (zd ZS (ap1 Z2 (vB 2)) (cE (.int 1))) (zf)))
abbrev tz3:En->RS:=zt 11 (cE (.int 0))
abbrev tz5:En->R Bool:=orT (zx neC (jy 102 7 15 0 f_s zf) (zd ixT (vE 2) (vE 9))) (JD (zx ltC (vB 6) (cE (.int 2))) (zx neC (zc 2 Go (za (vE 1) (za (jy 102 7 15 0 f_s zf) (zf)))) (vB 8)))
abbrev tz6:En->R Bool:=j8 (Zp (KD 102 7 15 1 KL (za (vE 3) (zf))))
abbrev tB:En->RS:=zo tz0 (zo tz1 (zo tz2 (zo tz3 (zo (Zx wT wB 20) (zo (ifS tz5 (zv (cE (.bl false))) nxS) (ifS tz6 (zv (cE (.bl false))) nxS))))))
theorem Xh {ns:List Int}{k:Kd}(hk:k.Ok 3)(hp:1<=k.all.length){m r:Nat}(hm:k.all.length<=2 ^ m)(hm7:m<=7){ag:Sl}{tu:Nat}(a7 a8 a9 a10 a11 a12 a13:Sl)(os:List Ob):∃b7 b8 b9 b10 b11 b12 b13 os',tB (ET ns k m r ag tu a7 a8 a9 a10 a11 a12 a13 os)= .nx (ET ns k m r ag tu b7 b8 b9 b10 b11 b12 b13 os'):=by
 obtain⟨p,hpk,p0,p1⟩:=zR ns (4000+(tu:Int)) (k.all.length:Int) (by omega) (by omega)
 obtain⟨go,rfl⟩:∃go:Nat,p=(go:Int):=⟨p.toNat,by omega⟩
 obtain⟨o,ho⟩:∃o,o=os++[(102,fF k.t 0 (k.all.length - 1) 0)]:=⟨_,rfl⟩;have e0:tz0 (ET ns k m r ag tu a7 a8 a9 a10 a11 a12 a13 os)= .nx (ET ns k m r ag tu (.ob 102 os.length) a8 a9 a10 a11 a12 a13 o):=by
  rw[tz0,z1n (os:=os) (fs:=fF k.t 0 (k.all.length - 1) 0) (ts:=[k.t]) rfl (show 1=1/\7 ≠ 15/\7 < 16 by decide) rfl (X9 hk hp),ho];rfl
 have e1:tz1 (ET ns k m r ag tu (.ob 102 os.length) a8 a9 a10 a11 a12 a13 o)= .nx (ET ns k m r ag tu (.ob 102 os.length) (.vl (.int (go:Int))) a9 a10 a11 a12 a13 o):=by
  rw[tz1,zW (t:= .int (go:Int))]
  ·rfl
  ·rw[Za,show ∀ρ',vE 0 (Sl.vl (scr ns) :: ρ')= .ok (scr ns) from λ_=>rfl,bOk,zh,zM,bOk];exact hpk
 have e2:tz2 (ET ns k m r ag tu (.ob 102 os.length) (.vl (.int (go:Int))) a9 a10 a11 a12 a13 o)= .nx (ET ns k m r ag tu (.ob 102 os.length) (.vl (.int (go:Int))) (.vl (.int ((0:Nat):Int))) (.vl (.int ((k.all.length - 1:Nat):Int))) a11 a12 a13 o):=by
  unfold tz2 VQ za;rw[zM,bOk,show zd ZS (ap1 Z2 (vB 2)) (cE (.int 1)) (ET ns k m r ag tu (.ob 102 os.length) (.vl (.int (go:Int))) a9 a10 a11 a12 a13 o)= .ok (.int ((k.all.length - 1:Nat):Int)) from wy (j:=1) hp];rfl
 have e3:tz3 (ET ns k m r ag tu (.ob 102 os.length) (.vl (.int (go:Int))) (.vl (.int ((0:Nat):Int))) (.vl (.int ((k.all.length - 1:Nat):Int))) a11 a12 a13 o)= .nx (EF ns k m r ag tu go 0 (k.all.length - 1) 0 a12 a13 os (fF k.t 0 (k.all.length - 1) 0)):=by rw[ho];rfl
 obtain⟨lo,ma,he,il,ew,h1,h2,h3⟩:=gH (ns:=ns) (k:=k) (m:=m) (r:=r) (tu:=tu) (go:=go) (ag:=ag) (pre:=os) m 20 (by omega) 0 (k.all.length - 1) 0 a12 a13 (by omega) (by omega) (λ_=>by omega)
 obtain⟨x,hx⟩:=wx (show lo < k.all.length by omega)
 have hpl:Pl 30 x:=Pl.le (by omega) (X2 3 k x hk ((JU k x).mp (bq hx)))
 have ef:jy 102 7 15 0 f_s zf (EF ns k m r ag tu go lo lo ma he il os (fF k.t lo lo ma))= .ok x:=(ju uB).trans (v7 hk hx);have g1:tz5 (EF ns k m r ag tu go lo lo ma he il os (fF k.t lo lo ma))= .ok false:=by
  rw[tz5,gF,qB]
  ·by_cases ht:tu < 2
   ·rw[show zx ltC (vB 6) (cE (.int 2)) (EF ns k m r ag tu go lo lo ma he il os (fF k.t lo lo ma))= .ok true from (by show R.ok (decide ((tu:Int) < 2))=_;congr 1;simp;omega),bOk,if_pos rfl,zD,Zl]
    rw[show vE 1 (EF ns k m r ag tu go lo lo ma he il os (fF k.t lo lo ma))= .ok k.t from rfl,bOk,ef,bOk,qA hk hx,bOk,show vB 8 (EF ns k m r ag tu go lo lo ma he il os (fF k.t lo lo ma))= .ok (.int (go:Int)) from rfl,bOk,h3 ht];exact X7
   ·rw[show zx ltC (vB 6) (cE (.int 2)) (EF ns k m r ag tu go lo lo ma he il os (fF k.t lo lo ma))= .ok false from (by show R.ok (decide ((tu:Int) < 2))=_;congr 1;simp;omega),bOk,if_neg av]
  ·rw[zD,ef,bOk,show zd ixT (vE 2) (vE 9) (EF ns k m r ag tu go lo lo ma he il os (fF k.t lo lo ma))= .ok x from YR hx,bOk];exact X3 hpl
 have g2:tz6 (EF ns k m r ag tu go lo lo ma he il os (fF k.t lo lo ma))= .ok false:=by
  unfold tz6 j8 Zp;rw[show KD 102 7 15 1 KL (za (vE 3) zf) (EF ns k m r ag tu go lo lo ma he il os (fF k.t lo lo ma))= .ok (.bl true) from (X8 (ts:=[.int (m:Int)]) uB rfl rfl).trans (Xb (by omega))]
  rfl
 refine⟨.ob 102 os.length,.vl (.int (go:Int)),.vl (.int (lo:Int)),.vl (.int (lo:Int)),.vl (.int (ma:Int)),he,il,os++[(102,fF k.t lo lo ma)], ?_⟩;rw[tB,zg e0,zg e1,zg e2,zg e3,zg ew,zg (ZW g1),ZW g2]
abbrev rB:En->RS:=zt 4 (zd zO (cE (.int 2)) (vE 4))
abbrev ER (ns:List Int)(k:Kd)(m r:Nat)(ag:Sl):En:=[.vl (scr ns),.vl k.t,.vl (.lst k.all),.vl (.int (m:Int)),.vl (.int (r:Int)),ag,.un,.un,.un,.un,.un,.un,.un,.un,.un,.st []]
theorem qE {ns:List Int}{k:Kd}{m:Nat}:∀(ts:List T) (r:Nat) (ag:Sl),∃ag',Zk (zr 5) rB ts (ER ns k m r ag)= .nx (ER ns k m (r*2 ^ ts.length) ag')
 | [],r,ag=>⟨ag,by rw[bi,Nat.pow_zero,Nat.mul_one];rfl⟩
 | t :: ts,r,ag=>by
  obtain⟨ag',e⟩:=qE (ns:=ns) (k:=k) (m:=m) ts (2*r) (.vl t);refine⟨ag', ?_⟩;have eb:rB (ER ns k m r (.vl t))= .nx (ER ns k m (2*r) (.vl t)):=by
   rw[rB,zW (t:= .int ((2*r:Nat):Int))]
   ·rfl
   ·show zO (.int 2) (.int (r:Int))=_;rw[UN _ _ (.inl ⟨by decide,by decide⟩)];congr 2
  rw[jU (ρ1:=ER ns k m r (.vl t)) rfl eb,e,ah,cU,show 2*r*2 ^ ts.length=r*(2 ^ ts.length*2) by rw[bG 2 r,cI,bG 2]]
abbrev EB (ns:List Int)(k:Kd)(m r:Nat)(b:T)(a c d:Sl)(l:En):En:=[.vl (scr ns),.vl k.t,.vl (.lst k.all),.vl (.int (m:Int)),.vl (.int (r:Int)),a,c,l.getD 0 .un,l.getD 1 .un,l.getD 2 .un,l.getD 3 .un,l.getD 4 .un,l.getD 5 .un,l.getD 6 .un,.vl b,d]
theorem Xi {ns:List Int}{k:Kd}{m r:Nat}{b:T}(hb:sOk b){a c d:Sl}{l:En}:(orE (zc 2 (f_a 12) (za (vE 14) (za (cE (.int 3)) (zf)))) (jB eqC (zZ (j0 (Zd (za (cE (.int 2)) (za (cE (.int 3)) (zf))))) (zr 0) (Ze) (zc 3 f_3 (za (vE 0) (za (vE 1) (za (cE .non) (zf))))) 1 [14]) (zd zO (ZE (za (cE (.str "no kind")) (zf))) (cE (.int 2))))) (EB ns k m r b a c d l)= .ok (.bl true):=by
 have ek:zc 2 (f_a 12) (za (vE 14) (za (cE (.int 3)) (zf))) (EB ns k m r b a c d l)= .ok (.bl (isK 3 b)):=by
  rw[Zl,show vE 14 (EB ns k m r b a c d l)= .ok b from rfl,bOk,zM,bOk,wa b hb]
 unfold orE;rw[ek,bOk];cases hkr:isK 3 b with
 | true=>rfl
 | false=>
  dsimp only;have ei:j0 (Zd (za (cE (.int 2)) (za (cE (.int 3)) (zf)))) (EB ns k m r b a c d l)= .ok [.int 2,.int 3]:=rfl;have ec:zI (zr 0) Ze (zc 3 f_3 (za (vE 0) (za (vE 1) (za (cE .non) (zf))))) 1 [14] (EB ns k m r b a c d l) [.int 2,.int 3]= .ok ([T.int 2,T.int 3].map λ_=>T.str "no kind"):=
   Z9 _ (by show 2<=bnd;decide) λt ht=>by
    show zc 3 _ _ (en2 t b)=_;rw[Za,v0,bOk,v1,bOk,zM,bOk];simp only[aG,bP,or_false]at ht;rcases ht with rfl | rfl
    ·exact vZ (.inl rfl) hb hkr
    ·exact vZ (.inr rfl) hb hkr
  rw[ZJ,zT,ei,bOk,ec,bOk,bOk];rfl
theorem z1o {ns:List Int}{k:Kd}{m r:Nat}{ag:Sl}(h1:k.all.length<=r)(hq:m ≠ 0->r / 2 < k.all.length):(orT (zx ltC (vB 4) (ap1 Z2 (vB 2))) (JD (zx gtC (vB 3) (cE (.int 0))) (zx geC (zd jA (vE 4) (cE (.int 2))) (ap1 Z2 (vB 2))))) (ER ns k m r ag)= .ok false:=by
  rw[gF,qB]
  ·by_cases h0:m=0
   ·rw[show zx gtC (vB 3) (cE (.int 0)) (ER ns k m r ag)= .ok false from (by show R.ok (decide ((0:Int) < (m:Int)))=_;congr 1;simp;omega),bOk,if_neg av]
   ·rw[show zx gtC (vB 3) (cE (.int 0)) (ER ns k m r ag)= .ok true from (by show R.ok (decide ((0:Int) < (m:Int)))=_;congr 1;simp;omega),bOk,if_pos rfl,zD,show zd jA (vE 4) (cE (.int 2)) (ER ns k m r ag)= .ok (.int ((r / 2:Nat):Int)) from uw (c:=2) (by omega) (by omega),bOk]
    show R.ok (decide ((k.all.length:Int)<=((r / 2:Nat):Int)))=_;have:=hq h0;congr 1
    rw[decide_eq_false_iff_not];omega
  ·show R.ok (decide ((r:Int) < (k.all.length:Int)))=_;congr 1
   rw[decide_eq_false_iff_not];omega
abbrev EU (ns:List Int)(a b c:Sl):En:=[.vl (scr ns),a,b,c,.un,.un,.un,.un,.un,.un,.un,.un,.un,.un,.un,.st []]
theorem law_ok (ns:List Int)(h:ns.length<=63):f_0 [.fz (ns.map T.int)]= .ok (.bl true):=by
 obtain⟨k,hk,h120,hs⟩:=QV ns 0 (by omega) 120 (by omega)
 have hs:Xq [scr ns,.int 0,.int 120]= .ok k.t:=hs;have hi:=WN 3 k hk;have hpos:=Zv 3 k hk;have ha:f_8 8 [k.t]= .ok (.lst k.all):=qb 3 8 (by omega) (by omega) k hk (by omega)
 obtain⟨b,hb,hF⟩:=YU ns 4200 (by omega) (by omega) (by decide) (jT 3 k.t hi)
 obtain⟨m,hm⟩:∃m,m=bN (k.all.length - 1):=⟨_,rfl⟩;obtain⟨b1,b2,b3⟩:=gD (k.all.length - 1) (by omega)
 rw[← hm]at b1 b2 b3;have t2:f_3 [.int 2,k.t,.non]= .ok (.int (m:Int)):=by rw[hm];exact tr_2 hk hpos
 have e0:zt 1 (zc 3 Xq (za (vE 0) (za (cE (.int 0)) (za (cE (.int 120)) (zf))))) (EU ns (.un) (.un) (.un))= .nx (EU ns (.vl k.t) (.un) (.un)):=by
  rw[zW (t:=k.t)]
  ·rfl
  ·rw[Za,v0,bOk,zM,bOk,zM,bOk,hs]
 have e1:zt 2 (zc 1 (f_8 8) (za (vE 1) (zf))) (EU ns (.vl k.t) (.un) (.un))= .nx (EU ns (.vl k.t) (.vl (.lst k.all)) (.un)):=by
  rw[zW (t:= .lst k.all)]
  ·rfl
  ·rw[Z5,v1,bOk,ha]
 have e2:zt 3 (zc 3 f_3 (za (cE (.int 2)) (za (vE 1) (za (cE .non) (zf))))) (EU ns (.vl k.t) (.vl (.lst k.all)) (.un))= .nx (EU ns (.vl k.t) (.vl (.lst k.all)) (.vl (.int (m:Int)))):=by
  rw[zW (t:= .int (m:Int))]
  ·rfl
  ·rw[Za,zM,bOk,v1,bOk,zM,bOk,t2]
 have e3:zt 4 (cE (.int 1)) (EU ns (.vl k.t) (.vl (.lst k.all)) (.vl (.int (m:Int))))= .nx (ER ns k m 1 .un):=rfl;obtain⟨ag,el⟩:=qE (ns:=ns) (k:=k) (m:=m) (rng 0 m) 1 .un;have hl:(rng 0 m).length=m:=by unfold rng;simp
 rw[hl,b_]at el;obtain⟨r,hr⟩:∃r,r=2 ^ m:=⟨_,rfl⟩;rw[← hr]at el b1;have hq:m ≠ 0->r / 2 < k.all.length:=λh0=>by
  have hb2:=b2.resolve_left h0;have hq:2 ^ m=2 ^ (m - 1)*2:=by rw[← cU];congr 1;omega
  rw[hr,hq,Nat.mul_div_cancel _ (by decide)]
  omega
 have e4:ja (Zf (vE 3)) (zr 5) (zt 4 (zd zO (cE (.int 2)) (vE 4))) (ER ns k m 1 .un)= .nx (ER ns k m r ag):=by
  unfold ja;rw[X4 (j:=(m:Int)) rfl (by omega),zS]
  exact el
 have e5:=z1o (ns:=ns) (ag:=ag) (show k.all.length<=r by omega) hq
 obtain⟨x7,x8,x9,x10,x11,x12,x13,o1,t0⟩:=Xh (ns:=ns) hk hpos (m:=m) (r:=r) (by rw[← hr];omega) b3 (ag:=ag) (tu:=0) .un .un .un .un .un .un .un []
 obtain⟨y7,y8,y9,y10,y11,y12,y13,o2,t1⟩:=Xh (ns:=ns) hk hpos (m:=m) (r:=r) (by rw[← hr];omega) b3 (ag:=ag) (tu:=1) x7 x8 x9 x10 x11 x12 x13 o1
 obtain⟨z7,z8,z9,z10,z11,z12,z13,o3,t2'⟩:=Xh (ns:=ns) hk hpos (m:=m) (r:=r) (by rw[← hr];omega) b3 (ag:=ag) (tu:=2) y7 y8 y9 y10 y11 y12 y13 o2
 have e6:ja (Zf (cE (.int 3))) (zr 6) tB (ER ns k m r ag)= .nx (ET ns k m r ag 2 z7 z8 z9 z10 z11 z12 z13 o3):=by
  show Zk (zr 6) tB [.int ((0:Nat):Int),.int ((1:Nat):Int),.int ((2:Nat):Int)] _=_;rw[jU (ρ1:=ET ns k m r ag 0 .un .un .un .un .un .un .un []) rfl t0,jU (ρ1:=ET ns k m r ag 1 x7 x8 x9 x10 x11 x12 x13 o1) rfl t1,jU (ρ1:=ET ns k m r ag 2 y7 y8 y9 y10 y11 y12 y13 o2) rfl t2'];rfl
 have e7:zt 14 (zc 3 KM (za (vE 0) (za (cE (.int 4200)) (za (vE 1) (zf))))) (ET ns k m r ag 2 z7 z8 z9 z10 z11 z12 z13 o3)= .nx [.vl (scr ns),.vl k.t,.vl (.lst k.all),.vl (.int (m:Int)),.vl (.int (r:Int)),ag,.vl (.int ((2:Nat):Int)),z7,z8,z9,z10,z11,z12,z13,.vl b,.st o3]:=by
  rw[zW (t:=b)]
  ·rfl
  ·rw[Za,v0,bOk,zM,bOk,v1,bOk,hb]
 show zj (b_0 _ _ _ _ _ _ _ _ _ _ _ _ _ _ (EU ns (.un) (.un) (.un)))=_;rw[b_0,zg e0,zg e1,zg e2,zg e3,zg e4,zg (ZW e5),zg e6,zg e7,zy (t:= .bl true)]
 ·rfl
 ·exact Xi (r:=r) (l:=frz [z7,z8,z9,z10,z11,z12,z13]) hF.so
end G
namespace G
open PySem PySem.Spec PyProof.Rows L2 PV
def top (i:Nat):Stmt:=PySem.Challenge.pw_worthkinds_k60_whole_finder.main.body.getD i (.Pass ⟨0,0,0,0⟩)
def UX (s:Stmt)(j:Nat):Stmt:=match s with
 | .ClassDef _ _ _ b _ _ _ _ _ _ _=>b.getD j (.Pass ⟨0,0,0,0⟩)
 | s=>s
abbrev s_1d:Stmt:=top 40
abbrev N_1d:List Str:=["_law_script","_law_k"]
theorem gI:zi N_1d ["_law_script","_law_k"] (zb s_1d):=by refine⟨rfl,rfl,rfl, ?_,rfl, ?_, ?_⟩ <;> decide+kernel
abbrev s_5:Stmt:=top 41
abbrev N_5:List Str:=["_law_script","_law_k","_law_many","_law_drawn"]
theorem sc_5:zi N_5 ["_law_script","_law_k","_law_many"] (zb s_5):=by refine⟨rfl,rfl,rfl, ?_,rfl, ?_, ?_⟩ <;> decide+kernel
abbrev s_z:Stmt:=top 42
abbrev N_z:List Str:=["_law_script","_law_at_here","_law_letters"]
theorem sc_z:zi N_z ["_law_script","_law_at_here"] (zb s_z):=by refine⟨rfl,rfl,rfl, ?_,rfl, ?_, ?_⟩ <;> decide+kernel
abbrev z1p:Stmt:=top 43
abbrev N_10:List Str:=["_law_script","_law_at_here","_law_low","_law_words","_law_k","_law_word_here"]
theorem gJ:zi N_10 ["_law_script","_law_at_here"] (zb z1p):=by refine⟨rfl,rfl,rfl, ?_,rfl, ?_, ?_⟩ <;> decide+kernel
abbrev s_k:Stmt:=top 44
abbrev N_k:List Str:=["_law_script","_law_at_here","_law_deep","_law_way","_law_some","_law_low"]
theorem z1q:zi N_k ["_law_script","_law_at_here","_law_deep"] (zb s_k):=by refine⟨rfl,rfl,rfl, ?_,rfl, ?_, ?_⟩ <;> decide+kernel
abbrev s_j:Stmt:=top 46
abbrev N_j:List Str:=["_law_lists","_law_made","_law_some","_law_longer","_law_ahead"]
theorem sc_j:zi N_j ["_law_lists"] (zb s_j):=by refine⟨rfl,rfl,rfl, ?_,rfl, ?_, ?_⟩ <;> decide+kernel
abbrev s_8:Stmt:=top 45
abbrev N_8:List Str:=["_law_kind_here","_law_made","_law_size_here"]
theorem sc_8:zi N_8 ["_law_kind_here"] (zb s_8):=by refine⟨rfl,rfl,rfl, ?_,rfl, ?_, ?_⟩ <;> decide+kernel
abbrev s_d:Stmt:=top 47
abbrev N_d:List Str:=["_law_kind_here","_law_sizes","_law_made","_law_size_here","_law_inner"]
theorem sc_d:zi N_d ["_law_kind_here"] (zb s_d):=by refine⟨rfl,rfl,rfl, ?_,rfl, ?_, ?_⟩ <;> decide+kernel
abbrev s_13:Stmt:=top 48
abbrev N_13:List Str:=["_law_script","_law_at_here","_law_most","_law_kind_here","_law_k"]
theorem gK:zi N_13 ["_law_script","_law_at_here","_law_most"] (zb s_13):=by refine⟨rfl,rfl,rfl, ?_,rfl, ?_, ?_⟩ <;> decide+kernel
abbrev s_p:Stmt:=top 14
abbrev N_p:List Str:=["thing"]
theorem sc_p:zi N_p ["thing"] (zb s_p):=by refine⟨rfl,rfl,rfl, ?_,rfl, ?_, ?_⟩ <;> decide+kernel
abbrev s_1e:Stmt:=top 17
abbrev N_1e:List Str:=["low","high","least","most"]
theorem gL:zi N_1e ["low","high","least","most"] (zb s_1e):=by refine⟨rfl,rfl,rfl, ?_,rfl, ?_, ?_⟩ <;> decide+kernel
abbrev s_f:Stmt:=top 15
abbrev N_f:List Str:=["thing","least","most"]
theorem sc_f:zi N_f ["thing","least","most"] (zb s_f):=by refine⟨rfl,rfl,rfl, ?_,rfl, ?_, ?_⟩ <;> decide+kernel
abbrev s_9:Stmt:=top 16
abbrev N_9:List Str:=["thing"]
theorem sc_9:zi N_9 ["thing"] (zb s_9):=by refine⟨rfl,rfl,rfl, ?_,rfl, ?_, ?_⟩ <;> decide+kernel
abbrev s_11:Stmt:=top 20
abbrev N_11:List Str:=["thing"]
theorem gM:zi N_11 ["thing"] (zb s_11):=by refine⟨rfl,rfl,rfl, ?_,rfl, ?_, ?_⟩ <;> decide+kernel
abbrev s_x:Stmt:=top 19
abbrev N_x:List Str:=["thing","words"]
theorem z1r:zi N_x ["thing"] (zb s_x):=by refine⟨rfl,rfl,rfl, ?_,rfl, ?_, ?_⟩ <;> decide+kernel
abbrev s_b:Stmt:=top 18
abbrev N_b:List Str:=["thing","levels"]
theorem sc_b:zi N_b ["thing","levels"] (zb s_b):=by refine⟨rfl,rfl,rfl, ?_,rfl, ?_, ?_⟩ <;> decide+kernel
abbrev z1s:Stmt:=top 21
abbrev N_1c:List Str:=["thing","levels"]
theorem gN:zi N_1c ["thing","levels"] (zb z1s):=by refine⟨rfl,rfl,rfl, ?_,rfl, ?_, ?_⟩ <;> decide+kernel
abbrev s_1:Stmt:=top 10
abbrev N_1:List Str:=["thing"]
theorem sc_1:zi N_1 ["thing"] (zb s_1):=by refine⟨rfl,rfl,rfl, ?_,rfl, ?_, ?_⟩ <;> decide+kernel
abbrev s_n:Stmt:=top 12
abbrev N_n:List Str:=["kind"]
theorem sc_n:zi N_n ["kind"] (zb s_n):=by refine⟨rfl,rfl,rfl, ?_,rfl, ?_, ?_⟩ <;> decide+kernel
abbrev s_2:Stmt:=top 28
abbrev N_2:List Str:=["kind"]
theorem sc_2:zi N_2 ["kind"] (zb s_2):=by refine⟨rfl,rfl,rfl, ?_,rfl, ?_, ?_⟩ <;> decide+kernel
abbrev s_t:Stmt:=top 29
abbrev N_t:List Str:=["kinds","count","kind"]
theorem sc_t:zi N_t ["kinds"] (zb s_t):=by refine⟨rfl,rfl,rfl, ?_,rfl, ?_, ?_⟩ <;> decide+kernel
abbrev s_l:Stmt:=top 30
abbrev N_l:List Str:=["kind","length"]
theorem sc_l:zi N_l ["kind","length"] (zb s_l):=by refine⟨rfl,rfl,rfl, ?_,rfl, ?_, ?_⟩ <;> decide+kernel
abbrev s_y:Stmt:=top 26
abbrev N_y:List Str:=["kind"]
theorem sc_y:zi N_y ["kind"] (zb s_y):=by refine⟨rfl,rfl,rfl, ?_,rfl, ?_, ?_⟩ <;> decide+kernel
abbrev s_18:Stmt:=top 37
abbrev N_18:List Str:=["kind"]
theorem gO:zi N_18 ["kind"] (zb s_18):=by refine⟨rfl,rfl,rfl, ?_,rfl, ?_, ?_⟩ <;> decide+kernel
abbrev s_q:Stmt:=UX (top 38) 0
abbrev N_q:List Str:=["self","kind","?"]
theorem sc_q:zi N_q ["self","kind"] (zb s_q):=by refine⟨rfl,rfl,rfl, ?_,rfl, ?_, ?_⟩ <;> decide+kernel
abbrev s_6:Stmt:=top 56
abbrev N_6:List Str:=["_law_kept","_law_kinds"]
theorem sc_6:zi N_6 ["_law_kept"] (zb s_6):=by refine⟨rfl,rfl,rfl, ?_,rfl, ?_, ?_⟩ <;> decide+kernel
abbrev s_3:Stmt:=top 57
abbrev N_3:List Str:=["_law_what","_law_one","_law_is_less","_law_kept","_law_answer","e","?"]
theorem v9:zi N_3 ["_law_what","_law_one","_law_is_less"] (zb s_3):=by refine⟨rfl,rfl,rfl, ?_,rfl, ?_, ?_⟩ <;> decide+kernel
abbrev s_g:Stmt:=UX (top 38) 1
abbrev N_g:List Str:=["self","?"]
theorem sc_g:zi N_g ["self"] (zb s_g):=by refine⟨rfl,rfl,rfl, ?_,rfl, ?_, ?_⟩ <;> decide+kernel
abbrev s_4:Stmt:=UX (top 38) 2
abbrev N_4:List Str:=["self","?"]
theorem sc_4:zi N_4 ["self"] (zb s_4):=by refine⟨rfl,rfl,rfl, ?_,rfl, ?_, ?_⟩ <;> decide+kernel
abbrev s_e:Stmt:=UX (top 38) 3
abbrev N_e:List Str:=["self","is_less","asked","?"]
theorem Gx:zi N_e ["self","is_less"] (zb s_e):=by refine⟨rfl,rfl,rfl, ?_,rfl, ?_, ?_⟩ <;> decide+kernel
abbrev s_m:Stmt:=top 22
abbrev N_m:List Str:=["kind"]
theorem sc_m:zi N_m ["kind"] (zb s_m):=by refine⟨rfl,rfl,rfl, ?_,rfl, ?_, ?_⟩ <;> decide+kernel
abbrev s_h:Stmt:=top 31
abbrev N_h:List Str:=["kind","number"]
theorem sc_h:zi N_h ["kind","number"] (zb s_h):=by refine⟨rfl,rfl,rfl, ?_,rfl, ?_, ?_⟩ <;> decide+kernel
abbrev s_1f:Stmt:=top 32
abbrev N_1f:List Str:=["kind","number","length"]
theorem gP:zi N_1f ["kind","number"] (zb s_1f):=by refine⟨rfl,rfl,rfl, ?_,rfl, ?_, ?_⟩ <;> decide+kernel
abbrev s_w:Stmt:=top 33
abbrev N_w:List Str:=["kinds","number","parts","rest","kind","count"]
theorem sc_w:zi N_w ["kinds","number"] (zb s_w):=by refine⟨rfl,rfl,rfl, ?_,rfl, ?_, ?_⟩ <;> decide+kernel
abbrev s_s:Stmt:=UX (top 38) 4
abbrev N_s:List Str:=["self","?"]
theorem sc_s:zi N_s ["self"] (zb s_s):=by refine⟨rfl,rfl,rfl, ?_,rfl, ?_, ?_⟩ <;> decide+kernel
abbrev s_r:Stmt:=UX (top 38) 5
abbrev N_r:List Str:=["self","?"]
theorem sc_r:zi N_r ["self"] (zb s_r):=by refine⟨rfl,rfl,rfl, ?_,rfl, ?_, ?_⟩ <;> decide+kernel
abbrev s_i:Stmt:=top 23
abbrev N_i:List Str:=["kind","thing"]
theorem sc_i:zi N_i ["kind","thing"] (zb s_i):=by refine⟨rfl,rfl,rfl, ?_,rfl, ?_, ?_⟩ <;> decide+kernel
abbrev z1t:Stmt:=top 24
abbrev N_17:List Str:=["kinds","parts"]
theorem gQ:zi N_17 ["kinds","parts"] (zb z1t):=by refine⟨rfl,rfl,rfl, ?_,rfl, ?_, ?_⟩ <;> decide+kernel
abbrev s_14:Stmt:=top 11
abbrev N_14:List Str:=["kind","thing"]
theorem gR:zi N_14 ["kind","thing"] (zb s_14):=by refine⟨rfl,rfl,rfl, ?_,rfl, ?_, ?_⟩ <;> decide+kernel
abbrev s_1a:Stmt:=top 13
abbrev N_1a:List Str:=["kind","worth"]
theorem gS:zi N_1a ["kind","worth"] (zb s_1a):=by refine⟨rfl,rfl,rfl, ?_,rfl, ?_, ?_⟩ <;> decide+kernel
abbrev s_7:Stmt:=top 34
abbrev N_7:List Str:=["kind","worth","length"]
theorem sc_7:zi N_7 ["kind","worth"] (zb s_7):=by refine⟨rfl,rfl,rfl, ?_,rfl, ?_, ?_⟩ <;> decide+kernel
abbrev s_19:Stmt:=top 35
abbrev N_19:List Str:=["kinds","parts","place","kind","part"]
theorem gT:zi N_19 ["kinds","parts"] (zb s_19):=by refine⟨rfl,rfl,rfl, ?_,rfl, ?_, ?_⟩ <;> decide+kernel
abbrev s_1b:Stmt:=top 27
abbrev N_1b:List Str:=["kind","worth"]
theorem gU:zi N_1b ["kind","worth"] (zb s_1b):=by refine⟨rfl,rfl,rfl, ?_,rfl, ?_, ?_⟩ <;> decide+kernel
abbrev jH:Stmt:=top 58
abbrev JX:List Str:=["_law_finder","_law_most","?"]
theorem Jm:zi JX ["_law_finder","_law_most"] (zb jH):=by refine⟨rfl,rfl,rfl, ?_,rfl, ?_, ?_⟩ <;> decide+kernel
abbrev s_o:Stmt:=top 52
abbrev N_o:List Str:=["_law_thing","_law_made","_law_k"]
theorem sc_o:zi N_o ["_law_thing"] (zb s_o):=by refine⟨rfl,rfl,rfl, ?_,rfl, ?_, ?_⟩ <;> decide+kernel
abbrev s_15:Stmt:=top 53
abbrev N_15:List Str:=["_law_thing","_law_place","_law_k"]
theorem gW:zi N_15 ["_law_thing","_law_place"] (zb s_15):=by refine⟨rfl,rfl,rfl, ?_,rfl, ?_, ?_⟩ <;> decide+kernel
abbrev s_c:Stmt:=top 54
abbrev N_c:List Str:=["_law_thing","_law_place","_law_new","_law_k"]
theorem sc_c:zi N_c ["_law_thing","_law_place","_law_new"] (zb s_c):=by refine⟨rfl,rfl,rfl, ?_,rfl, ?_, ?_⟩ <;> decide+kernel
abbrev s_16:Stmt:=top 55
abbrev N_16:List Str:=["_law_script","_law_at_here","_law_thing","_law_places_here","_law_place","_law_here","_law_some","_law_way","_law_k"]
theorem gX:zi N_16 ["_law_script","_law_at_here","_law_thing"] (zb s_16):=by refine⟨rfl,rfl,rfl, ?_,rfl, ?_, ?_⟩ <;> decide+kernel
abbrev s_u:Stmt:=top 49
abbrev N_u:List Str:=["_law_thing","_law_low","_law_high"]
theorem sc_u:zi N_u ["_law_thing","_law_low","_law_high"] (zb s_u):=by refine⟨rfl,rfl,rfl, ?_,rfl, ?_, ?_⟩ <;> decide+kernel
abbrev s_v:Stmt:=top 50
abbrev N_v:List Str:=["_law_thing"]
theorem sc_v:zi N_v ["_law_thing"] (zb s_v):=by refine⟨rfl,rfl,rfl, ?_,rfl, ?_, ?_⟩ <;> decide+kernel
abbrev s_a:Stmt:=top 51
abbrev N_a:List Str:=["_law_thing","_law_deep","_law_word_here","_law_rest","_law_some","_law_words"]
theorem z1u:zi N_a ["_law_thing","_law_deep"] (zb s_a):=by refine⟨rfl,rfl,rfl, ?_,rfl, ?_, ?_⟩ <;> decide+kernel
abbrev s_0:Stmt:=top 59
abbrev N_0:List Str:=["_law_script","_law_kind_here","_law_every","_law_most","_law_room","_law_again","_law_turn","_law_finder","_law_goal","_law_low","_law_high","_law_many","_law_here","_law_is_less","_law_bad","?"]
theorem sc_0:zi N_0 ["_law_script"] (zb s_0):=by refine⟨rfl,rfl,rfl, ?_,rfl, ?_, ?_⟩ <;> decide+kernel
structure Fn (K:ac) (mg:Str->Option Value) (x:Str) (st:Stmt) (ps:List Str) (f:Addr) (fd:FuncData):Prop where
 F:Fun K x x st f fd
 b:L2.Binds K fd ps []
 m:mg x=some (.ref f)
abbrev XA:List Value:=[.type "ValueError",.type "Exception",.type "BaseException",.type "object"]
structure FnO (K:ac) (x qual:Str) (st:Stmt) (ps:List Str) (f:Addr) (fd:FuncData) (C:Addr):Prop where
 F:Fun K x qual st f fd
 b:L2.Binds K fd ps []
 m:L2.Meth K C x f
structure WS (K:ac) (mg:Str->Option Value) (C:Addr) (a_q:Addr) (d_q:FuncData) (a_g:Addr) (d_g:FuncData) (a_4:Addr) (d_4:FuncData) (a_e:Addr) (d_e:FuncData) (a_s:Addr) (d_s:FuncData) (a_r:Addr) (d_r:FuncData):Prop where
 l:bX K mainGlobals "Finder"=some (some (.ref C))
 g:mg "Finder"=some (.ref C)
 c:L2.Cls K C
 M:L2.Mk K C a_q
 n_kind:L2.NoAttr K C "kind"
 n_first:L2.NoAttr K C "first"
 n_last:L2.NoAttr K C "last"
 n_answered:L2.NoAttr K C "answered"
 C_init:FnO K "__init__" "Finder.__init__" s_q ["self","kind"] a_q d_q C
 C_left:FnO K "left" "Finder.left" s_g ["self"] a_g d_g C
 C_ask:FnO K "ask" "Finder.ask" s_4 ["self"] a_4 d_4 C
 C_answer:FnO K "answer" "Finder.answer" s_e ["self","is_less"] a_e d_e C
 C_found:FnO K "found" "Finder.found" s_s ["self"] a_s d_s C
 C_asks:FnO K "asks" "Finder.asks" s_r ["self"] a_r d_r C
set_option genInjectivity false in
set_option genSizeOf false in
structure Tx (K:ac) (mg:Str->Option Value) where
 B_Finder:Addr
 a_q:Addr
 d_q:FuncData
 a_g:Addr
 d_g:FuncData
 a_4:Addr
 d_4:FuncData
 a_e:Addr
 d_e:FuncData
 a_s:Addr
 d_s:FuncData
 a_r:Addr
 d_r:FuncData
 S_Finder:WS K mg B_Finder a_q d_q a_g d_g a_4 d_4 a_e d_e a_s d_s a_r d_r
 a_1d:Addr
 d_1d:FuncData
 C_1d:Fn K mg "_law_cell" s_1d ["_law_script","_law_k"] a_1d d_1d
 a_5:Addr
 d_5:FuncData
 C_5:Fn K mg "_law_pick" s_5 ["_law_script","_law_k","_law_many"] a_5 d_5
 a_z:Addr
 d_z:FuncData
 C_z:Fn K mg "_law_word_of" s_z ["_law_script","_law_at_here"] a_z d_z
 a_10:Addr
 d_10:FuncData
 C_10:Fn K mg "_law_leaf_kind" z1p ["_law_script","_law_at_here"] a_10 d_10
 a_k:Addr
 d_k:FuncData
 C_k:Fn K mg "_law_kind" s_k ["_law_script","_law_at_here","_law_deep"] a_k d_k
 a_j:Addr
 d_j:FuncData
 C_j:Fn K mg "_law_rows_of" s_j ["_law_lists"] a_j d_j
 a_8:Addr
 d_8:FuncData
 C_8:Fn K mg "_law_all" s_8 ["_law_kind_here"] a_8 d_8
 a_d:Addr
 d_d:FuncData
 C_d:Fn K mg "_law_size" s_d ["_law_kind_here"] a_d d_d
 a_13:Addr
 d_13:FuncData
 C_13:Fn K mg "_law_small" s_13 ["_law_script","_law_at_here","_law_most"] a_13 d_13
 a_p:Addr
 d_p:FuncData
 C_p:Fn K mg "is_whole" s_p ["thing"] a_p d_p
 a_1e:Addr
 d_1e:FuncData
 C_1e:Fn K mg "is_span" s_1e ["low","high","least","most"] a_1e d_1e
 a_f:Addr
 d_f:FuncData
 C_f:Fn K mg "is_tuple_of" s_f ["thing","least","most"] a_f d_f
 a_9:Addr
 d_9:FuncData
 C_9:Fn K mg "is_word" s_9 ["thing"] a_9 d_9
 a_11:Addr
 d_11:FuncData
 C_11:Fn K mg "is_choice" s_11 ["thing"] a_11 d_11
 a_x:Addr
 d_x:FuncData
 C_x:Fn K mg "are_choices" s_x ["thing"] a_x d_x
 a_b:Addr
 d_b:FuncData
 C_b:Fn K mg "is_kind_within" s_b ["thing","levels"] a_b d_b
 a_1c:Addr
 d_1c:FuncData
 C_1c:Fn K mg "are_kinds_within" z1s ["thing","levels"] a_1c d_1c
 a_1:Addr
 d_1:FuncData
 C_1:Fn K mg "is_kind" s_1 ["thing"] a_1 d_1
 a_n:Addr
 d_n:FuncData
 C_n:Fn K mg "need_kind" s_n ["kind"] a_n d_n
 a_2:Addr
 d_2:FuncData
 C_2:Fn K mg "count_of" s_2 ["kind"] a_2 d_2
 a_t:Addr
 d_t:FuncData
 C_t:Fn K mg "count_of_parts" s_t ["kinds"] a_t d_t
 a_l:Addr
 d_l:FuncData
 C_l:Fn K mg "count_shorter" s_l ["kind","length"] a_l d_l
 a_y:Addr
 d_y:FuncData
 C_y:Fn K mg "how_many" s_y ["kind"] a_y d_y
 a_18:Addr
 d_18:FuncData
 C_18:Fn K mg "most_asks" s_18 ["kind"] a_18 d_18
 a_6:Addr
 d_6:FuncData
 C_6:Fn K mg "_law_word" s_6 ["_law_kept"] a_6 d_6
 a_3:Addr
 d_3:FuncData
 C_3:Fn K mg "_law_tried" s_3 ["_law_what","_law_one","_law_is_less"] a_3 d_3
 a_m:Addr
 d_m:FuncData
 C_m:Fn K mg "words_of_pick" s_m ["kind"] a_m d_m
 a_h:Addr
 d_h:FuncData
 C_h:Fn K mg "worth_at" s_h ["kind","number"] a_h d_h
 a_1f:Addr
 d_1f:FuncData
 C_1f:Fn K mg "many_at" s_1f ["kind","number"] a_1f d_1f
 a_w:Addr
 d_w:FuncData
 C_w:Fn K mg "parts_at" s_w ["kinds","number"] a_w d_w
 a_i:Addr
 d_i:FuncData
 C_i:Fn K mg "has_worth" s_i ["kind","thing"] a_i d_i
 a_17:Addr
 d_17:FuncData
 C_17:Fn K mg "have_parts" z1t ["kinds","parts"] a_17 d_17
 a_14:Addr
 d_14:FuncData
 C_14:Fn K mg "is_worth" s_14 ["kind","thing"] a_14 d_14
 a_1a:Addr
 d_1a:FuncData
 C_1a:Fn K mg "need_worth" s_1a ["kind","worth"] a_1a d_1a
 a_7:Addr
 d_7:FuncData
 C_7:Fn K mg "place_of" s_7 ["kind","worth"] a_7 d_7
 a_19:Addr
 d_19:FuncData
 C_19:Fn K mg "place_of_parts" s_19 ["kinds","parts"] a_19 d_19
 a_1b:Addr
 d_1b:FuncData
 C_1b:Fn K mg "number_of" s_1b ["kind","worth"] a_1b d_1b
 a__law_ends:Addr
 d__law_ends:FuncData
 C__law_ends:Fn K mg "_law_ends" jH ["_law_finder","_law_most"] a__law_ends d__law_ends
 a_o:Addr
 d_o:FuncData
 C_o:Fn K mg "_law_places" s_o ["_law_thing"] a_o d_o
 a_15:Addr
 d_15:FuncData
 C_15:Fn K mg "_law_at" s_15 ["_law_thing","_law_place"] a_15 d_15
 a_c:Addr
 d_c:FuncData
 C_c:Fn K mg "_law_put" s_c ["_law_thing","_law_place","_law_new"] a_c d_c
 a_16:Addr
 d_16:FuncData
 C_16:Fn K mg "_law_spoilt_thing" s_16 ["_law_script","_law_at_here","_law_thing"] a_16 d_16
 a_u:Addr
 d_u:FuncData
 C_u:Fn K mg "_law_whole" s_u ["_law_thing","_law_low","_law_high"] a_u d_u
 a_v:Addr
 d_v:FuncData
 C_v:Fn K mg "_law_is_word" s_v ["_law_thing"] a_v d_v
 a_a:Addr
 d_a:FuncData
 C_a:Fn K mg "_law_is_kind" s_a ["_law_thing","_law_deep"] a_a d_a
 a_0:Addr
 d_0:FuncData
 C_0:Fn K mg "law" s_0 ["_law_script"] a_0 d_0
 z_ValueError:mg "ValueError"=none
 z_all:mg "all"=none
 z_bool:mg "bool"=none
 z_enumerate:mg "enumerate"=none
 z_int:mg "int"=none
 z_isinstance:mg "isinstance"=none
 z_len:mg "len"=none
 z_list:mg "list"=none
 z_min:mg "min"=none
 z_range:mg "range"=none
 z_reversed:mg "reversed"=none
 z_set:mg "set"=none
 z_str:mg "str"=none
 z_sum:mg "sum"=none
 z_tuple:mg "tuple"=none
 z_zip:mg "zip"=none
 c_DEEPEST:∃u,mg "DEEPEST"=some u/\∃t,u=Value.int 3 t
set_option genInjectivity false in
set_option genSizeOf false in
structure Tq (K:ac) (mg:Str->Option Value) (base:Heap) (cl:Nat->Value) where
 q_Ended:Addr
 q_NoKind:Addr
 q_NoRule:Addr
 q_NoText:Addr
 q_NoWorth:Addr
 q_TooMany:Addr
 q_WorthError:Addr
 X_k:XK1 K cl okX
 e_WorthError:∀c,okX c=true->PySem.W.exmOne K (cl c) (.ref q_WorthError)=some true
 l_Ended:cl 4= .ref q_Ended
 l_NoKind:cl 0= .ref q_NoKind
 l_NoWorth:cl 1= .ref q_NoWorth
 m_Ended:mg "Ended"=some (.ref q_Ended)
 m_NoKind:mg "NoKind"=some (.ref q_NoKind)
 m_NoRule:mg "NoRule"=some (.ref q_NoRule)
 m_NoText:mg "NoText"=some (.ref q_NoText)
 m_NoWorth:mg "NoWorth"=some (.ref q_NoWorth)
 m_TooMany:mg "TooMany"=some (.ref q_TooMany)
 m_WorthError:mg "WorthError"=some (.ref q_WorthError)
 o_Ended:OwnCls "Ended" q_Ended XA "ValueError.__new__" mg base
 o_NoKind:OwnCls "NoKind" q_NoKind XA "ValueError.__new__" mg base
 o_NoWorth:OwnCls "NoWorth" q_NoWorth XA "ValueError.__new__" mg base
 t_Ended:∀c,okX c=true->aQ K (cl c) (.ref q_Ended)=some (JI c)
 t_NoKind:∀c,okX c=true->aQ K (cl c) (.ref q_NoKind)=some (J7 c)
 t_NoRule:∀c,okX c=true->aQ K (cl c) (.ref q_NoRule)=some (J8 c)
 t_NoText:∀c,okX c=true->aQ K (cl c) (.ref q_NoText)=some (J9 c)
 t_NoWorth:∀c,okX c=true->aQ K (cl c) (.ref q_NoWorth)=some (jC c)
 t_TooMany:∀c,okX c=true->aQ K (cl c) (.ref q_TooMany)=some (jD c)
 t_ValueError:∀c,okX c=true->aQ K (cl c) (.type "ValueError")=some (ZU c)
section
variable (P:Program)(w:World){K:ac}{mg:Str->Option Value}(base:Heap)(cl:Nat->Value)(tx:Tx K mg)(k:Nat)(c:List T->R T)
abbrev z1v:Prop:=zK P w K mg base CX0 k tx.a_1d tx.d_1d ["_law_script","_law_k"] (spP cl 2 c)
abbrev Q_5:Prop:=zK P w K mg base CX0 k tx.a_5 tx.d_5 ["_law_script","_law_k","_law_many"] (spP cl 3 c)
abbrev Q_z:Prop:=zK P w K mg base CX0 k tx.a_z tx.d_z ["_law_script","_law_at_here"] (spP cl 2 c)
abbrev z1w:Prop:=zK P w K mg base CX0 k tx.a_10 tx.d_10 ["_law_script","_law_at_here"] (spP cl 2 c)
abbrev Q_k:Prop:=zK P w K mg base CX0 k tx.a_k tx.d_k ["_law_script","_law_at_here","_law_deep"] (spP cl 3 c)
abbrev Q_j:Prop:=zK P w K mg base CX0 k tx.a_j tx.d_j ["_law_lists"] (spP cl 1 c)
abbrev Q_8:Prop:=zK P w K mg base CX0 k tx.a_8 tx.d_8 ["_law_kind_here"] (spP cl 1 c)
abbrev Q_d:Prop:=zK P w K mg base CX0 k tx.a_d tx.d_d ["_law_kind_here"] (spP cl 1 c)
abbrev z1x:Prop:=zK P w K mg base CX0 k tx.a_13 tx.d_13 ["_law_script","_law_at_here","_law_most"] (spP cl 3 c)
abbrev Q_p:Prop:=zK P w K mg base CX0 k tx.a_p tx.d_p ["thing"] (spP cl 1 c)
abbrev z1y:Prop:=zK P w K mg base CX0 k tx.a_1e tx.d_1e ["low","high","least","most"] (spP cl 4 c)
abbrev Q_f:Prop:=zK P w K mg base CX0 k tx.a_f tx.d_f ["thing","least","most"] (spP cl 3 c)
abbrev Q_9:Prop:=zK P w K mg base CX0 k tx.a_9 tx.d_9 ["thing"] (spP cl 1 c)
abbrev z1z:Prop:=zK P w K mg base CX0 k tx.a_11 tx.d_11 ["thing"] (spP cl 1 c)
abbrev Q_x:Prop:=zK P w K mg base CX0 k tx.a_x tx.d_x ["thing"] (spP cl 1 c)
abbrev Q_b:Prop:=zK P w K mg base CX0 k tx.a_b tx.d_b ["thing","levels"] (spP cl 2 c)
abbrev Gy:Prop:=zK P w K mg base CX0 k tx.a_1c tx.d_1c ["thing","levels"] (spP cl 2 c)
abbrev Q_1:Prop:=zK P w K mg base CX0 k tx.a_1 tx.d_1 ["thing"] (spP cl 1 c)
abbrev Q_n:Prop:=zK P w K mg base (CX1 P w) k tx.a_n tx.d_n ["kind"] (spP cl 1 c)
abbrev Q_2:Prop:=zK P w K mg base CX0 k tx.a_2 tx.d_2 ["kind"] (spP cl 1 c)
abbrev Q_t:Prop:=zK P w K mg base CX0 k tx.a_t tx.d_t ["kinds"] (spP cl 1 c)
abbrev Q_l:Prop:=zK P w K mg base CX0 k tx.a_l tx.d_l ["kind","length"] (spP cl 2 c)
abbrev Q_y:Prop:=zK P w K mg base (CX1 P w) k tx.a_y tx.d_y ["kind"] (spP cl 1 c)
abbrev z1A:Prop:=zK P w K mg base (CX1 P w) k tx.a_18 tx.d_18 ["kind"] (spP cl 1 c)
abbrev Q_q (c:List (Str×Fd)->List T->R (T×List (Str×Fd))):Prop:=zK P w K mg base (CX1 P w) k tx.a_q tx.d_q ["self","kind"] (spM cl 102 1 c)
abbrev Q_6 (c:Nat->R T):Prop:=zK P w K mg base CX0 k tx.a_6 tx.d_6 ["_law_kept"] (spC cl c)
abbrev Q_3:Prop:=zK P w K mg base CX0 k tx.a_3 tx.d_3 ["_law_what","_law_one","_law_is_less"] (spP cl 3 c)
abbrev Q_g (c:List (Str×Fd)->List T->R T):Prop:=zK P w K mg base (CX1 P w) k tx.a_g tx.d_g ["self"] (spO cl 102 0 0 c)
abbrev Q_4 (c:List (Str×Fd)->List T->R T):Prop:=zK P w K mg base (CX1 P w) k tx.a_4 tx.d_4 ["self"] (spO cl 102 0 0 c)
abbrev z1B (c:List (Str×Fd)->List T->R T):Prop:=zK P w K mg base (CX1 P w) k tx.a_e tx.d_e ["self","is_less"] (spO cl 102 0 1 c)
abbrev Gz (c:List (Str×Fd)->List T->R T):Prop:=zK P w K mg base (CX1 P w) k tx.a_3 tx.d_3 ["_law_what","_law_one","_law_is_less"] (spO cl 102 1 2 c)
abbrev Q_m:Prop:=zK P w K mg base CX0 k tx.a_m tx.d_m ["kind"] (spP cl 1 c)
abbrev Q_h:Prop:=zK P w K mg base CX0 k tx.a_h tx.d_h ["kind","number"] (spP cl 2 c)
abbrev GA:Prop:=zK P w K mg base CX0 k tx.a_1f tx.d_1f ["kind","number"] (spP cl 2 c)
abbrev Q_w:Prop:=zK P w K mg base CX0 k tx.a_w tx.d_w ["kinds","number"] (spP cl 2 c)
abbrev Q_s (c:List (Str×Fd)->List T->R T):Prop:=zK P w K mg base (CX1 P w) k tx.a_s tx.d_s ["self"] (spO cl 102 0 0 c)
abbrev Q_r (c:List (Str×Fd)->List T->R T):Prop:=zK P w K mg base (CX1 P w) k tx.a_r tx.d_r ["self"] (spO cl 102 0 0 c)
abbrev Q_e (c:List (Str×Fd)->List T->R (T×List (Str×Fd))):Prop:=zK P w K mg base (CX1 P w) k tx.a_e tx.d_e ["self","is_less"] (spM cl 102 1 c)
abbrev z1C (c:List (Str×Fd)->List T->R (T×List (Str×Fd))):Prop:=zK P w K mg base (CX1 P w) k tx.a_3 tx.d_3 ["_law_what","_law_one","_law_is_less"] (z0U cl 102 2 c)
abbrev Q_i:Prop:=zK P w K mg base CX0 k tx.a_i tx.d_i ["kind","thing"] (spP cl 2 c)
abbrev GB:Prop:=zK P w K mg base CX0 k tx.a_17 tx.d_17 ["kinds","parts"] (spP cl 2 c)
abbrev z1D:Prop:=zK P w K mg base (CX1 P w) k tx.a_14 tx.d_14 ["kind","thing"] (spP cl 2 c)
abbrev z1E:Prop:=zK P w K mg base (CX1 P w) k tx.a_1a tx.d_1a ["kind","worth"] (spP cl 2 c)
abbrev Q_7:Prop:=zK P w K mg base CX0 k tx.a_7 tx.d_7 ["kind","worth"] (spP cl 2 c)
abbrev GC:Prop:=zK P w K mg base CX0 k tx.a_19 tx.d_19 ["kinds","parts"] (spP cl 2 c)
abbrev z1F:Prop:=zK P w K mg base (CX1 P w) k tx.a_1b tx.d_1b ["kind","worth"] (spP cl 2 c)
abbrev z1G (c:List (Str×Fd)->List T->R T):Prop:=zK P w K mg base (CX1 P w) k tx.a__law_ends tx.d__law_ends ["_law_finder","_law_most"] (spO cl 102 0 1 c)
abbrev Q_o:Prop:=zK P w K mg base CX0 k tx.a_o tx.d_o ["_law_thing"] (spP cl 1 c)
abbrev z1H:Prop:=zK P w K mg base CX0 k tx.a_15 tx.d_15 ["_law_thing","_law_place"] (spP cl 2 c)
abbrev Q_c:Prop:=zK P w K mg base CX0 k tx.a_c tx.d_c ["_law_thing","_law_place","_law_new"] (spP cl 3 c)
abbrev z1I:Prop:=zK P w K mg base CX0 k tx.a_16 tx.d_16 ["_law_script","_law_at_here","_law_thing"] (spP cl 3 c)
abbrev Q_u:Prop:=zK P w K mg base CX0 k tx.a_u tx.d_u ["_law_thing","_law_low","_law_high"] (spP cl 3 c)
abbrev Q_v:Prop:=zK P w K mg base CX0 k tx.a_v tx.d_v ["_law_thing"] (spP cl 1 c)
abbrev Q_a:Prop:=zK P w K mg base CX0 k tx.a_a tx.d_a ["_law_thing","_law_deep"] (spP cl 2 c)
abbrev Q_0:Prop:=zK P w K mg base (CX1 P w) k tx.a_0 tx.d_0 ["_law_script"] (spP cl 1 c)
end
theorem cZ {X:Cx}{Y:Fx}{cl:Nat->Value}{k j n:Nat}{f:Addr}{fd:FuncData}{ps:List Str}{g:List T->R T}{x:Str}{st:Stmt}{a:Expr}{es:List Expr}{ga:En->R (List T)}{p pos:Pos}(hy:Y.cl=cl)(F:zK X.prog X.w X.K X.mg X.base CX0 j f fd ps (spP cl n g))(hr:ZL k X.A)(C:Fn X.K X.mg x st ps f fd)(ha:JB X Y (a :: es) ga)(hj:j<=k:=by omega)(gl:Gl X x:=by rfl)(hd:(x == ("__debug__":Str))=false:=by decide)
  (hs:starEach (a :: es) X.env=(false,eval a X.env) :: starEach es X.env:=by exact zw rfl) (hz:((backTo pos (starEach es X.env)).any λx=>x.fst)=false:=by exact zQ rfl):Snd X Y (.Call (.Name x p) (a :: es) [] pos) (zc n g ga):=VR hy F hr hj gl C.m C.F.kp C.b ha hd hs hz
theorem cX {X:Cx}{Y:Fx}{cl:Nat->Value}{k j n:Nat}{f:Addr}{fd:FuncData}{ps:List Str}{g:List T->R T}{x:Str}{st:Stmt}{a:Expr}{es:List Expr}{ga:En->R (List T)}{p pos:Pos}(hy:Y.cl=cl)(hp:Z4 (CX1 X.prog X.w) X Y.E)(F:zK X.prog X.w X.K X.mg X.base (CX1 X.prog X.w) j f fd ps (spP cl n g))(hr:ZL k X.A)(C:Fn X.K X.mg x st ps f fd)(ha:JB X Y (a :: es) ga)(hj:j<=k:=by omega)(gl:Gl X x:=by rfl)(hd:(x == ("__debug__":Str))=false:=by decide)
  (hs:starEach (a :: es) X.env=(false,eval a X.env) :: starEach es X.env:=by exact zw rfl) (hz:((backTo pos (starEach es X.env)).any λx=>x.fst)=false:=by exact zQ rfl):Snd X Y (.Call (.Name x p) (a :: es) [] pos) (zc n g ga):=VU hy hp F hr hj gl C.m C.F.kp C.b ha hd hs hz
section
variable {P:Program}{w:World}{K:ac}{mg:Str->Option Value}{base:Heap}{cl:Nat->Value}{tx:Tx K mg}
set_option hygiene false
local macro_rules | `(tactic| gp_on)=> `(tactic| first
  | (show JB _ _ _ _;first
   | refine vj ?_ ?_
   | exact kx)
  | (show Snd _ _ (.Name ..) _;first
   | exact z01 _ (pv _)
   | exact VS (by rfl) c_DEEPEST.1 c_DEEPEST.2)
  | (show Snd _ _ (.Constant ..) _;first
   | exact z02
   | exact kv
   | exact s_bl
   | exact z03)
  | (show wN _ _ _ _;first
   | refine kL ?_ ?_
   | exact z0s
   | refine z0t ?_)
  | (show jx _ _ _ _;first
   | exact ku _ (pv _)
   | refine Snd.b ?_)
  | (show Jg _ _ _ _;first
   | refine z0u ?_
   | refine z0v ?_ ?_ ?_
   | refine kM nd (by rfl) (.inl (by rfl)) ?_
   | refine kW iz (by rfl) ?_ ?_ ?_
   | exact z0I
   | refine kN nd (by rfl) (.inl (by rfl)) ?_
   | refine z0x (pv _) ?_
   | refine kO ?_
   | refine kM nd (by rfl) (.inr (by rfl)) ?_
   | refine z0w (pv _) ?_
   | refine Qz (pv _) (by rw[hy];exact xo_Finder) tx.S_Finder.c tx.S_Finder.n_first ?_
   | refine Qz (pv _) (by rw[hy];exact xo_Finder) tx.S_Finder.c tx.S_Finder.n_last ?_
   | refine Qz (pv _) (by rw[hy];exact xo_Finder) tx.S_Finder.c tx.S_Finder.n_answered ?_
   | refine z0C (by rfl) nd (by rfl) (by rfl) (by decide) (by rfl) (by rfl) ?_ (by rfl)
   | refine kW hU (by rfl) ?_ ?_ ?_
   | exact s_mv (pv _) nd (by rfl) (.inl (by rfl))
   | exact uc (c:=_) xq.o_NoKind bA (by decide) bA hE (by rw[hy];exact xq.l_NoKind) (by rfl)
   | refine Qz (pv _) (by rw[hy];exact xo_Finder) tx.S_Finder.c tx.S_Finder.n_kind ?_
   | exact uc (c:=_) xq.o_Ended bA (by decide) bA hE (by rw[hy];exact xq.l_Ended) (by rfl)
   | refine Y2 (n:=_) iz ?_ ?_
   | refine z0R nd (by rfl) (.inl (by rfl)) ?_
   | exact uc (c:=_) xq.o_NoWorth bA (by decide) bA hE (by rw[hy];exact xq.l_NoWorth) (by rfl)
   | refine s_mk nd (by rfl) (.inl (by rfl)) hy xo_Finder tx.S_Finder.M O_q hr (by omega) (by rfl) tx.S_Finder.g tx.S_Finder.C_init.b (hE ▸ jX) ?_
   | refine Y2 (n:=_) hU ?_ ?_
   | refine z0S ?_ ?_ ?_
   | refine Ku ?_ (vy (by rfl) nd (by rfl) (by rfl) (.inl (by rfl)) (.inl (by rfl))))
  | (show Snd _ _ (.Call ..) _;first
   | refine z0o (by rfl) tx.z_len ?_
   | refine Q8 (n:="tuple") (yW _) (by rfl) tx.z_isinstance (by rfl) tx.z_tuple PyProof.Rows.Boot.«tuple» ?_
   | exact jR (pv _) hy xo_Finder tx.S_Finder.c tx.S_Finder.C_left.m O_g hr (by omega) tx.S_Finder.C_left.b (hE ▸ jX)
   | refine Ki (by rfl) tx.z_int ?_
   | refine Q8 (n:="int") (VC _) (by rfl) tx.z_isinstance (by rfl) tx.z_int PyProof.Rows.Boot.«int» ?_
   | refine z0r hr.hd (by rfl) tx.z_all ?_
   | refine Q8 (n:="str") (VD _) (by rfl) tx.z_isinstance (by rfl) tx.z_str PyProof.Rows.Boot.«str» ?_
   | exact VZ hy O_6 hr (by omega) (by rfl) tx.C_6.m tx.C_6.F.kp tx.C_6.b (pv _)
   | exact jR (pv _) hy xo_Finder tx.S_Finder.c tx.S_Finder.C_asks.m O_r hr (by omega) tx.S_Finder.C_asks.b (hE ▸ jX)
   | exact jR (pv _) hy xo_Finder tx.S_Finder.c tx.S_Finder.C_found.m O_s hr (by omega) tx.S_Finder.C_found.b (hE ▸ jX)
   | refine kJ (by rfl) (by rfl) tx.z_min ?_ ?_
   | refine VB (by rfl) tx.z_tuple ?_
   | refine Q8 (n:="bool") (Q7 _) (by rfl) tx.z_isinstance (by rfl) tx.z_bool PyProof.Rows.Boot.«bool» ?_
   | refine xn hr.units ?_ ?_
   | exact jR (pv _) hy xo_Finder tx.S_Finder.c tx.S_Finder.C_ask.m O_4 hr (by omega) tx.S_Finder.C_ask.b (hE ▸ jX)
   | refine K3 ?_
   | refine xk hr.hd (by rfl) tx.z_list (by rfl) tx.z_range ?_ ?_
   | refine K4 hr.hd (by rfl) tx.z_len (by rfl) tx.z_set ?_
   | refine z0J hr.hd (by rfl) tx.z_sum ?_
   | refine KG ?_
   | exact J4 (hy ▸ xq.X_k) (hy ▸ xq.t_Ended) (by rfl) tx.z_isinstance (pv _) (by rfl) xq.m_Ended
   | exact J4 (hy ▸ xq.X_k) (hy ▸ xq.t_NoKind) (by rfl) tx.z_isinstance (pv _) (by rfl) xq.m_NoKind
   | exact J4 (hy ▸ xq.X_k) (hy ▸ xq.t_NoRule) (by rfl) tx.z_isinstance (pv _) (by rfl) xq.m_NoRule
   | exact J4 (hy ▸ xq.X_k) (hy ▸ xq.t_NoText) (by rfl) tx.z_isinstance (pv _) (by rfl) xq.m_NoText
   | exact J4 (hy ▸ xq.X_k) (hy ▸ xq.t_NoWorth) (by rfl) tx.z_isinstance (pv _) (by rfl) xq.m_NoWorth
   | exact J4 (hy ▸ xq.X_k) (hy ▸ xq.t_TooMany) (by rfl) tx.z_isinstance (pv _) (by rfl) xq.m_TooMany
   | refine xm hr.units ?_ ?_
   | exact VY (n:="ValueError") (hy ▸ xq.X_k) (hy ▸ xq.t_ValueError) (by rfl) tx.z_isinstance (pv _) (by rfl) tx.z_ValueError PyProof.Rows.Boot.«ValueError»
   | refine z0T hy xo_Finder tx.S_Finder.M O_q hr (by omega) (by rfl) tx.S_Finder.g tx.S_Finder.C_init.b hp ?_
   | exact jR (pv _) hy xo_Finder tx.S_Finder.c tx.S_Finder.C_ask.m O_4 hr (by omega) tx.S_Finder.C_ask.b hp
   | refine xx (pv _) hy xo_Finder tx.S_Finder.c tx.S_Finder.C_answer.m O_1g hr (by omega) tx.S_Finder.C_answer.b hp ?_
   | refine Kt hr.hd (by rfl) tx.z_tuple (by rfl) tx.z_reversed ?_
   | refine uX ?_ (pv _) (hy'.trans hy) O_12 hr (by omega) (by rfl) tx.C_3.m tx.C_3.F.kp tx.C_3.b hp' ?_
   | refine uX ?_ (pv _) hy O_12 hr (by omega) (by rfl) tx.C_3.m tx.C_3.F.kp tx.C_3.b (hE ▸ jX) ?_
   | refine xy (pv _) hy O_1h hr (by omega) (by rfl) tx.C__law_ends.m tx.C__law_ends.F.kp tx.C__law_ends.b (hE ▸ jX) ?_
   | refine cZ hy O_5 hr tx.C_5 ?_
   | refine cZ hy O_f hr tx.C_f ?_
   | refine cZ hy O_2 hr tx.C_2 ?_
   | refine cZ hy O_c hr tx.C_c ?_
   | refine cZ hy O_p hr tx.C_p ?_
   | refine cZ hy O_l hr tx.C_l ?_
   | refine cZ hy O_u hr tx.C_u ?_
   | refine cZ hy O_k hr tx.C_k ?_
   | refine cZ hy O_8 hr tx.C_8 ?_
   | refine cZ hy O_d hr tx.C_d ?_
   | refine cX hy (hE ▸ jX) O_n hr tx.C_n ?_
   | refine cZ hy O_m hr tx.C_m ?_
   | refine cZ (hy'.trans hy) O_5 hr tx.C_5 ?_
   | refine cZ hy O_j hr tx.C_j ?_
   | refine cZ hy O_1e hr tx.C_1e ?_
   | refine cZ hy O_b hr tx.C_b ?_
   | refine cZ hy O_w hr tx.C_w ?_
   | refine cZ hy O_h hr tx.C_h ?_
   | refine cZ hy O_17 hr tx.C_17 ?_
   | refine cZ hy O_19 hr tx.C_19 ?_
   | refine cZ hy O_7 hr tx.C_7 ?_
   | refine cZ hy O_o hr tx.C_o ?_
   | refine cZ hy O_a hr tx.C_a ?_
   | refine cZ hy O_1d hr tx.C_1d ?_
   | refine cZ hy O_z hr tx.C_z ?_
   | refine cZ hy O_10 hr tx.C_10 ?_
   | refine cZ (hy'.trans hy) O_k hr tx.C_k ?_
   | refine cZ (hy'.trans hy) O_8 hr tx.C_8 ?_
   | refine cZ (hy'.trans hy) O_d hr tx.C_d ?_
   | refine cZ hy O_9 hr tx.C_9 ?_
   | refine cZ (hy'.trans hy) O_11 hr tx.C_11 ?_
   | refine cZ hy O_x hr tx.C_x ?_
   | refine cZ hy O_1c hr tx.C_1c ?_
   | refine cZ (hy'.trans hy) O_b hr tx.C_b ?_
   | refine cZ hy O_1 hr tx.C_1 ?_
   | refine cZ hy O_t hr tx.C_t ?_
   | refine cZ (hy'.trans hy) O_t hr tx.C_t ?_
   | refine cX hy (hE ▸ jX) O_y hr tx.C_y ?_
   | refine cX hy hp O_18 hr tx.C_18 ?_
   | refine cZ hy O_1f hr tx.C_1f ?_
   | refine cZ (hy'.trans hy) O_i hr tx.C_i ?_
   | refine cZ hy O_i hr tx.C_i ?_
   | refine cX hy (hE ▸ jX) O_14 hr tx.C_14 ?_
   | refine cX hy (hE ▸ jX) O_1a hr tx.C_1a ?_
   | refine cZ hy O_15 hr tx.C_15 ?_
   | refine cZ (hy'.trans hy) O_v hr tx.C_v ?_
   | refine cZ (hy'.trans hy) O_u hr tx.C_u ?_
   | refine cZ (hy'.trans hy) O_a hr tx.C_a ?_
   | refine cZ hy O_13 hr tx.C_13 ?_
   | refine cZ hy O_3 hr tx.C_3 ?_
   | refine cX hy (hE ▸ jX) O_1b hr tx.C_1b ?_
   | refine cZ hy O_16 hr tx.C_16 ?_
   | refine cZ (hy'.trans hy) O_3 hr tx.C_3 ?_)
  | (show wJ _ _ _ _;first
   | refine wL kA (vk hr.units) ?_ ?_ (jw _)
   | refine z0l ?_
   | refine wL z0c (kB hr.units) ?_ ?_ (jw _)
   | refine wL Vw yN ?_ ?_ (jw _)
   | refine wL z0d kC ?_ ?_ (jw _)
   | refine yT wM wM jO jO ?_ ?_ ?_
   | refine wL wM jO ?_ ?_ (jw _)
   | exact K9 (pv _)
   | refine wL Q4 (vm hr.units) ?_ ?_ (by rfl)
   | refine wL kE (Vx hr.units) ?_ ?_ (by rfl)
   | refine wL z0e kD ?_ ?_ (jw _)
   | refine yT Vw wM yN jO ?_ ?_ ?_
   | refine wL vn yS ?_ ?_ (jw _)
   | refine z0m ?_
   | refine UY.t ?_)
  | (show Snd _ _ (.BinOp ..) _;first
   | refine z07 ?_ ?_
   | refine z0a ?_ ?_
   | refine z08 ?_ ?_
   | refine z09 ?_ ?_
   | refine kz ?_ ?_)
  | (show Snd _ _ (.Subscript ..) _;first
   | refine s_ix ?_ ?_
   | refine VG ?_ ?_ ?_)
  | (show UY _ _ _ _;first
   | refine w_or ?_ ?_
   | refine z0k ?_ ?_
   | refine z0j ?_
   | refine kG ?_)
  | (show Snd _ _ (.BoolOp ..) _;first
   | refine z0h ?_ ?_
   | refine s_or ?_ ?_
   | refine z0g ?_)
  | (show UZ _ _ _ _ _;first
   | refine kS (by rfl) tx.z_range ?_
   | refine kT (by rfl) tx.z_range ?_ ?_
   | refine z0F (by rfl) tx.z_zip ?_ ?_
   | refine K1 (by rfl) tx.z_enumerate ?_
   | refine z0N (by rfl) tx.z_reversed ?_
   | refine z0B ?_)
  | (show Snd _ _ (.Compare ..) _;first
   | refine Vv kA (vk hr.units) ?_ ?_ (jw _)
   | refine Vz wM wM jO jO ?_ ?_ ?_
   | refine Q5 wM wM wM jO jO jO ?_ ?_ ?_ ?_
   | refine Vv Q4 (vm hr.units) ?_ ?_ (by rfl)
   | refine Vv Vw yN ?_ ?_ (jw _))
  | (show ub _ _ _ _;first
   | exact kY
   | refine kZ ?_)
  | (show Snd _ _ (.Tuple ..) _;first
   | refine z04 ?_)
  | (show Snd _ _ (.List ..) _;first
   | refine z05 ?_)
  | (show VE _ _ _ _;first
   | refine kI ?_
   | exact kH)
  | (show Qx _ _ _ _;first
   | refine Kx ?_ ?_
   | exact z0Q
   | refine z0V ?_ ?_ ?_
   | refine z0O ?_)
  | (show kU _ _ _ _;first
   | exact vx nd (by rfl) (.inl (by rfl))
   | exact vx nd (by rfl) (.inr (by rfl))
   | exact vy (by rfl) nd (by rfl) (by rfl) (.inl (by rfl)) (.inl (by rfl)))
  | (show Snd _ _ (.UnaryOp ..) _;first
   | refine z0b ?_
   | refine z0i ?_)
  | (show Snd _ _ (.Attribute ..) _;first
   | exact uW (pv _) (by rw[hy];exact xo_Finder) tx.S_Finder.c tx.S_Finder.n_first
   | exact uW (pv _) (by rw[hy];exact xo_Finder) tx.S_Finder.c tx.S_Finder.n_answered
   | exact uW (pv _) (by rw[hy];exact xo_Finder) tx.S_Finder.c tx.S_Finder.n_last
   | exact uW (pv _) (by rw[hy];exact xo_Finder) tx.S_Finder.c tx.S_Finder.n_kind)
  | (show Snd _ _ (.IfExp ..) _;first
   | refine s_if ?_ ?_ ?_)
  | (show Qy _ _ (.Call ..) _;first
   | refine Kz (pv _) hy xo_Finder tx.S_Finder.c tx.S_Finder.C_answer.m O_e hr (by omega) tx.S_Finder.C_answer.b hp ?_
   | refine xA ?_ (pv _) hy O_1i hr (by omega) (by rfl) tx.C_3.m tx.C_3.F.kp tx.C_3.b (hE ▸ jX) ?_)
  | (show Qy _ _ _ _;first
   | refine Kw ?_)
  | (show xv _ _ _ _;first
   | refine KC vn yS ?_ ?_ (jw _))
  )
theorem z1J:z1v P w base cl tx 1 (λts=>zj (b_1d  (en0 2 ts))):=by
 refine Z3 tx.C_1d.F gI rfl (λcdv A outer s H E Y hy hr=> ?_) (λts h=>rfl);have nd:=gI.nd
 repeat' gp_on
theorem ok_5 {c_1d:List T->R T}(O_1d:z1v P w base cl tx 1 c_1d):Q_5 P w base cl tx 2 (λts=>zj (b_5 c_1d (en0 4 ts))):=by
 refine Z3 tx.C_5.F sc_5 rfl (λcdv A outer s H E Y hy hr=> ?_) (λts h=>rfl);have nd:=sc_5.nd
 repeat' gp_on
theorem ok_z {c_5:List T->R T}(O_5:Q_5 P w base cl tx 2 c_5):Q_z P w base cl tx 3 (λts=>zj (b_z c_5 (en0 3 ts))):=by
 refine Z3 tx.C_z.F sc_z rfl (λcdv A outer s H E Y hy hr=> ?_) (λts h=>rfl);have nd:=sc_z.nd
 repeat' gp_on
 refine Zn (Zc ["_law_k","_law_script","_law_at_here","_law_letters"] N_z (zb s_z) (by rfl) (by rfl) (by decide+kernel) (by rfl) ?_ (λ_ _ _ _ _ _=>zA (show a_ (["_law_k","_law_script","_law_at_here","_law_letters"]:List Str) by decide+kernel) (by rfl) (.inl (by rfl)) (.inr (by rfl))) (zF 0) (zG 0) (λY' hy' _ _ _ _ _ _=> ?_) (λY' hy' _ _ _ _ _ _ _ hp' => ?_))
 repeat' gp_on
theorem z1K {c_5 c_z:List T->R T}(O_5:Q_5 P w base cl tx 2 c_5)(O_z:Q_z P w base cl tx 3 c_z):z1w P w base cl tx 4 (λts=>zj (Ga c_5 c_z (en0 6 ts))):=by
 refine Z3 tx.C_10.F gJ rfl (λcdv A outer s H E Y hy hr=> ?_) (λts h=>rfl);have nd:=gJ.nd
 repeat' gp_on
 refine Zn (Zc ["_law_k","_law_word_here","_law_script","_law_at_here"] N_10 (zb z1p) (by rfl) (by rfl) (by decide+kernel) (by rfl) ?_ (λ_ _ _ _ _ _=>uD (by rfl) (ZM (zA (show a_ (["_law_k","_law_word_here","_law_script","_law_at_here"]:List Str) by decide+kernel) (by rfl) (.inl (by rfl)) (.inr (by rfl))) (ZM (zA (show a_ (["_law_k","_law_word_here","_law_script","_law_at_here"]:List Str) by decide+kernel) (by rfl) (.inl (by rfl)) (.inr (by rfl))) wF))) (wO _ 0 1) (wQ 0 1) (λY' hy' _ _ _ _ _ _=> ?_) (λY' hy' _ _ _ _ _ _ _ hp' => ?_))
 repeat' gp_on
theorem ok_k {j:Nat}(hj:4<=j){c_5 c_10 c_k:List T->R T}(O_5:Q_5 P w base cl tx 2 c_5)(O_10:z1w P w base cl tx 4 c_10)(O_k:Q_k P w base cl tx j c_k):Q_k P w base cl tx (j+1) (λts=>zj (b_k c_5 c_10 c_k (en0 6 ts))):=by
 refine Z3 tx.C_k.F z1q rfl (λcdv A outer s H E Y hy hr=> ?_) (λts h=>rfl);have nd:=z1q.nd
 repeat' gp_on
 refine Y7 (i:=4) (Zc ["_law_k","_law_script","_law_at_here","_law_deep"] N_k (zb s_k) (by rfl) (by rfl) (by decide+kernel) (by rfl) ?_ (λ_ _ _ _ _ _=>zA (show a_ (["_law_k","_law_script","_law_at_here","_law_deep"]:List Str) by decide+kernel) (by rfl) (.inl (by rfl)) (.inr (by rfl))) (zF 0) (zG 0) (λY' hy' _ _ _ _ _ _=> ?_) (λY' hy' _ _ _ _ _ _ _ hp' => ?_)) z1q.nd (by rfl) (.inl (by rfl)) (by rfl)
 repeat' gp_on
theorem ok_j:Q_j P w base cl tx 1 (λts=>zj (b_j  (en0 5 ts))):=by
 refine Z3 tx.C_j.F sc_j rfl (λcdv A outer s H E Y hy hr=> ?_) (λts h=>rfl);have nd:=sc_j.nd
 repeat' gp_on
 refine Zn (Zc ["_law_one","_law_ahead"] N_j (zb s_j) (by rfl) (by rfl) (by decide+kernel) (by rfl) ?_ (λ_ _ _ _ _ _=>zA (show a_ (["_law_one","_law_ahead"]:List Str) by decide+kernel) (by rfl) (.inl (by rfl)) (.inr (by rfl))) (zF 0) (zG 0) (λY' hy' _ _ _ _ _ _=> ?_) (λY' hy' _ _ _ _ _ _ _ hp' => ?_))
 repeat' gp_on
theorem ok_8 {j:Nat}(hj:1<=j){c_8 c_j:List T->R T}(O_8:Q_8 P w base cl tx j c_8)(O_j:Q_j P w base cl tx 1 c_j):Q_8 P w base cl tx (j+1) (λts=>zj (b_8 c_8 c_j (en0 3 ts))):=by
 refine Z3 tx.C_8.F sc_8 rfl (λcdv A outer s H E Y hy hr=> ?_) (λts h=>rfl);have nd:=sc_8.nd
 repeat' gp_on
 refine Zn (Zc ["_law_word_here","_law_heavy"] N_8 (zb s_8) (by rfl) (by rfl) (by decide+kernel) (by rfl) ?_ (λ_ _ _ _ _ _=>uD (by rfl) (ZM (zA (show a_ (["_law_word_here","_law_heavy"]:List Str) by decide+kernel) (by rfl) (.inl (by rfl)) (.inr (by rfl))) (ZM (zA (show a_ (["_law_word_here","_law_heavy"]:List Str) by decide+kernel) (by rfl) (.inl (by rfl)) (.inr (by rfl))) wF))) (wO _ 0 1) (wQ 0 1) (λY' hy' _ _ _ _ _ _=> ?_) (λY' hy' _ _ _ _ _ _ _ hp' => ?_))
 repeat' gp_on
 refine Zn (Zc ["_law_one"] N_8 (zb s_8) (by rfl) (by rfl) (by decide+kernel) (by rfl) ?_ (λ_ _ _ _ _ _=>zA (show a_ (["_law_one"]:List Str) by decide+kernel) (by rfl) (.inl (by rfl)) (.inr (by rfl))) (zF 0) (zG 0) (λY' hy' _ _ _ _ _ _=> ?_) (λY' hy' _ _ _ _ _ _ _ hp' => ?_))
 repeat' gp_on
theorem ok_d {j:Nat}(hj:9<=j){c_8 c_d:List T->R T}(O_8:Q_8 P w base cl tx 9 c_8)(O_d:Q_d P w base cl tx j c_d):Q_d P w base cl tx (j+1) (λts=>zj (b_d c_8 c_d (en0 5 ts))):=by
 refine Z3 tx.C_d.F sc_d rfl (λcdv A outer s H E Y hy hr=> ?_) (λts h=>rfl);have nd:=sc_d.nd
 repeat' gp_on
 refine Zn (Zc ["_law_one"] N_d (zb s_d) (by rfl) (by rfl) (by decide+kernel) (by rfl) ?_ (λ_ _ _ _ _ _=>zA (show a_ (["_law_one"]:List Str) by decide+kernel) (by rfl) (.inl (by rfl)) (.inr (by rfl))) (zF 0) (zG 0) (λY' hy' _ _ _ _ _ _=> ?_) (λY' hy' _ _ _ _ _ _ _ hp' => ?_))
 repeat' gp_on
theorem z1L {c_k c_d:List T->R T}(O_k:Q_k P w base cl tx 12 c_k)(O_d:Q_d P w base cl tx 17 c_d):z1x P w base cl tx 18 (λts=>zj (Gb c_k c_d (en0 5 ts))):=by
 refine Z3 tx.C_13.F gK rfl (λcdv A outer s H E Y hy hr=> ?_) (λts h=>rfl);have nd:=gK.nd
 repeat' gp_on
theorem ok_p:Q_p P w base cl tx 1 (λts=>zj (b_p  (en0 1 ts))):=by
 refine Z3 tx.C_p.F sc_p rfl (λcdv A outer s H E Y hy hr=> ?_) (λts h=>rfl);have nd:=sc_p.nd
 repeat' gp_on
theorem z1M {c_p:List T->R T}(O_p:Q_p P w base cl tx 1 c_p):z1y P w base cl tx 2 (λts=>zj (b_1e c_p (en0 4 ts))):=by
 refine Z3 tx.C_1e.F gL rfl (λcdv A outer s H E Y hy hr=> ?_) (λts h=>rfl);have nd:=gL.nd
 repeat' gp_on
theorem ok_f:Q_f P w base cl tx 1 (λts=>zj (b_f  (en0 3 ts))):=by
 refine Z3 tx.C_f.F sc_f rfl (λcdv A outer s H E Y hy hr=> ?_) (λts h=>rfl);have nd:=sc_f.nd
 repeat' gp_on
theorem ok_9:Q_9 P w base cl tx 1 (λts=>zj (b_9  (en0 1 ts))):=by
 refine Z3 tx.C_9.F sc_9 rfl (λcdv A outer s H E Y hy hr=> ?_) (λts h=>rfl);have nd:=sc_9.nd
 repeat' gp_on
 refine Zn (Zc ["sign"] N_9 (zb s_9) (by rfl) (by rfl) (by decide+kernel) (by rfl) ?_ (λ_ _ _ _ _ _=>zA (show a_ (["sign"]:List Str) by decide+kernel) (by rfl) (.inl (by rfl)) (.inr (by rfl))) (zF 0) (zG 0) (λY' hy' _ _ _ _ _ _=> ?_) (λY' hy' _ _ _ _ _ _ _ hp' => ?_))
 repeat' gp_on
theorem z1N {c_p c_f c_9:List T->R T}(O_p:Q_p P w base cl tx 1 c_p)(O_f:Q_f P w base cl tx 1 c_f)(O_9:Q_9 P w base cl tx 1 c_9):z1z P w base cl tx 2 (λts=>zj (Ge c_p c_f c_9 (en0 1 ts))):=by
 refine Z3 tx.C_11.F gM rfl (λcdv A outer s H E Y hy hr=> ?_) (λts h=>rfl);have nd:=gM.nd
 repeat' gp_on
theorem ok_x {c_f c_11:List T->R T}(O_f:Q_f P w base cl tx 1 c_f)(O_11:z1z P w base cl tx 2 c_11):Q_x P w base cl tx 3 (λts=>zj (b_x c_f c_11 (en0 2 ts))):=by
 refine Z3 tx.C_x.F z1r rfl (λcdv A outer s H E Y hy hr=> ?_) (λts h=>rfl);have nd:=z1r.nd
 repeat' gp_on
 refine Zn (Zc ["part"] N_x (zb s_x) (by rfl) (by rfl) (by decide+kernel) (by rfl) ?_ (λ_ _ _ _ _ _=>zA (show a_ (["part"]:List Str) by decide+kernel) (by rfl) (.inl (by rfl)) (.inr (by rfl))) (zF 0) (zG 0) (λY' hy' _ _ _ _ _ _=> ?_) (λY' hy' _ _ _ _ _ _ _ hp' => ?_))
 repeat' gp_on
 refine Y7 (i:=1) (Zc ["choice"] N_x (zb s_x) (by rfl) (by rfl) (by decide+kernel) (by rfl) ?_ (λ_ _ _ _ _ _=>zA (show a_ (["choice"]:List Str) by decide+kernel) (by rfl) (.inl (by rfl)) (.inr (by rfl))) (zF 0) (zG 0) (λY' hy' _ _ _ _ _ _=> ?_) (λY' hy' _ _ _ _ _ _ _ hp' => ?_)) z1r.nd (by rfl) (.inl (by rfl)) (by rfl)
 repeat' gp_on
theorem ok_b {j:Nat}(hj:3<=j){c_1e c_b c_x c_1c:List T->R T}(O_1e:z1y P w base cl tx 2 c_1e)(O_b:Q_b P w base cl tx j c_b)(O_x:Q_x P w base cl tx 3 c_x)(O_1c:Gy P w base cl tx j c_1c):Q_b P w base cl tx (j+1) (λts=>zj (b_b c_1e c_b c_x c_1c (en0 2 ts))):=by
 refine Z3 tx.C_b.F sc_b rfl (λcdv A outer s H E Y hy hr=> ?_) (λts h=>rfl);have nd:=sc_b.nd
 repeat' gp_on
theorem z1O {j:Nat}(hj:3<=j){c_f c_b:List T->R T}(O_f:Q_f P w base cl tx 1 c_f)(O_b:Q_b P w base cl tx j c_b):Gy P w base cl tx (j+1) (λts=>zj (Gf c_f c_b (en0 2 ts))):=by
 refine Z3 tx.C_1c.F gN rfl (λcdv A outer s H E Y hy hr=> ?_) (λts h=>rfl);have nd:=gN.nd
 repeat' gp_on
 refine Zn (Zc ["part","levels"] N_1c (zb z1s) (by rfl) (by rfl) (by decide+kernel) (by rfl) ?_ (λ_ _ _ _ _ _=>zA (show a_ (["part","levels"]:List Str) by decide+kernel) (by rfl) (.inl (by rfl)) (.inr (by rfl))) (zF 0) (zG 0) (λY' hy' _ _ _ _ _ _=> ?_) (λY' hy' _ _ _ _ _ _ _ hp' => ?_))
 repeat' gp_on
theorem ok_1 {c_b:List T->R T}(O_b:Q_b P w base cl tx 23 c_b):Q_1 P w base cl tx 24 (λts=>zj (b_1 c_b (en0 1 ts))):=by
 obtain⟨u_DEEPEST,c_DEEPEST⟩:=tx.c_DEEPEST;refine Z3 tx.C_1.F sc_1 rfl (λcdv A outer s H E Y hy hr=> ?_) (λts h=>rfl);have nd:=sc_1.nd
 repeat' gp_on
theorem ok_n {c_1:List T->R T}(xq:Tq K mg base cl)(O_1:Q_1 P w base cl tx 24 c_1):Q_n P w base cl tx 25 (λts=>zj (b_n c_1 (en0 1 ts))):=by
 refine wm tx.C_n.F sc_n rfl (λcdv A outer s H E Y hy hE hr=> ?_) (λts h=>rfl);have nd:=sc_n.nd
 repeat' gp_on
theorem ok_2 {j:Nat}(hj:0<=j){c_t c_l:List T->R T}(O_t:Q_t P w base cl tx j c_t)(O_l:Q_l P w base cl tx j c_l):Q_2 P w base cl tx (j+1) (λts=>zj (b_2 c_t c_l (en0 1 ts))):=by
 refine Z3 tx.C_2.F sc_2 rfl (λcdv A outer s H E Y hy hr=> ?_) (λts h=>rfl);have nd:=sc_2.nd
 repeat' gp_on
theorem ok_t {j:Nat}(hj:0<=j){c_2:List T->R T}(O_2:Q_2 P w base cl tx j c_2):Q_t P w base cl tx (j+1) (λts=>zj (b_t c_2 (en0 3 ts))):=by
 refine Z3 tx.C_t.F sc_t rfl (λcdv A outer s H E Y hy hr=> ?_) (λts h=>rfl);have nd:=sc_t.nd
 repeat' gp_on
theorem ok_l {j:Nat}(hj:0<=j){c_t:List T->R T}(O_t:Q_t P w base cl tx j c_t):Q_l P w base cl tx (j+1) (λts=>zj (b_l c_t (en0 2 ts))):=by
 refine Z3 tx.C_l.F sc_l rfl (λcdv A outer s H E Y hy hr=> ?_) (λts h=>rfl);have nd:=sc_l.nd
 repeat' gp_on
 refine Zn (Zc ["each","kind"] N_l (zb s_l) (by rfl) (by rfl) (by decide+kernel) (by rfl) ?_ (λ_ _ _ _ _ _=>zA (show a_ (["each","kind"]:List Str) by decide+kernel) (by rfl) (.inl (by rfl)) (.inr (by rfl))) (zF 0) (zG 0) (λY' hy' _ _ _ _ _ _=> ?_) (λY' hy' _ _ _ _ _ _ _ hp' => ?_))
 repeat' gp_on
theorem ok_y {c_n c_2:List T->R T}(O_n:Q_n P w base cl tx 25 c_n)(O_2:Q_2 P w base cl tx 20 c_2):Q_y P w base cl tx 26 (λts=>zj (b_y c_n c_2 (en0 1 ts))):=by
 refine wm tx.C_y.F sc_y rfl (λcdv A outer s H E Y hy hE hr=> ?_) (λts h=>rfl);have nd:=sc_y.nd
 repeat' gp_on
theorem z1P {c_y:List T->R T}(O_y:Q_y P w base cl tx 26 c_y):z1A P w base cl tx 27 (λts=>zj (b_18 c_y (en0 1 ts))):=by
 refine wm tx.C_18.F gO rfl (λcdv A outer s H E Y hy hE hr=> ?_) (λts h=>rfl);have nd:=gO.nd
 repeat' gp_on
theorem ok_q {c_n c_2:List T->R T}(xo_Finder:cl 102= .ref tx.B_Finder)(O_n:Q_n P w base cl tx 25 c_n)(O_2:Q_2 P w base cl tx 20 c_2):Q_q P w base cl tx 26 (λfs ts=>WV 102 2 (b_q c_n c_2 (enM 102 2 fs ts))):=by
 refine vG (k:=102) (n:=1) (j:=2) tx.S_Finder.C_init.F sc_q rfl rfl (by decide) (λcdv A outer s H E Y hy hE hr=> ?_)
 have nd:=sc_q.nd
 repeat' gp_on
theorem ok_6 (xq:Tq K mg base cl):Q_6 P w base cl tx 1 (λc=>zj (b_6  (enC 2 c))):=by
 refine Ka tx.C_6.F sc_6 (by decide) (λcdv A outer s H E Y hy hr=> ?_) (λc=>rfl)
 have nd:=sc_6.nd
 repeat' gp_on
theorem ok_3 {c_18:List T->R T}{c_6:Nat->R T}{c_q:List (Str×Fd)->List T->R (T×List (Str×Fd))}(xq:Tq K mg base cl)(xo_Finder:cl 102= .ref tx.B_Finder)(O_6:Q_6 P w base cl tx 1 c_6)(O_18:z1A P w base cl tx 27 c_18)(O_q:Q_q P w base cl tx 26 c_q):Q_3 P w base cl tx 28 (λts=>zj (b_3 c_6 c_18 c_q (en0 7 ts))):=by
 refine Z3 tx.C_3.F v9 rfl (λcdv A outer s H E Y hy hr=> ?_) (λts h=>rfl);have nd:=v9.nd
 repeat' gp_on
 refine VV (i:=5) (k:=3) (ok:=okX) (by rfl) (by rfl) v9.nd (by rfl) (by rfl) (by rfl) (by rfl) (by decide) (by rfl) xq.m_WorthError (hy ▸ xq.e_WorthError) (λE' pn xe hp=> ?_)
 repeat' gp_on
theorem ok_g (xo_Finder:cl 102= .ref tx.B_Finder):Q_g P w base cl tx 1 (λfs ts=>zj (b_g  (enO 102 1 fs (ts.take 0) (ts.drop 0)))):=by
 refine JH (k:=102) (p:=0) (n:=0) (m:=1) tx.S_Finder.C_left.F sc_g rfl rfl (λcdv A outer s H E Y hy hE hr=> ?_);have nd:=sc_g.nd
 repeat' gp_on
theorem ok_4 {c_g:List (Str×Fd)->List T->R T}(xq:Tq K mg base cl)(xo_Finder:cl 102= .ref tx.B_Finder)(O_g:Q_g P w base cl tx 1 c_g):Q_4 P w base cl tx 2 (λfs ts=>zj (b_4 c_g (enO 102 1 fs (ts.take 0) (ts.drop 0)))):=by
 refine JH (k:=102) (p:=0) (n:=0) (m:=1) tx.S_Finder.C_ask.F sc_4 rfl rfl (λcdv A outer s H E Y hy hE hr=> ?_);have nd:=sc_4.nd
 repeat' gp_on
theorem z1Q {c_4:List (Str×Fd)->List T->R T}(xo_Finder:cl 102= .ref tx.B_Finder)(O_4:Q_4 P w base cl tx 2 c_4):z1B P w base cl tx 3 (λfs ts=>zj (Gg c_4 (enO 102 2 fs (ts.take 0) (ts.drop 0)))):=by
 refine JH (k:=102) (p:=0) (n:=1) (m:=2) tx.S_Finder.C_answer.F Gx rfl rfl (λcdv A outer s H E Y hy hE hr=> ?_);have nd:=Gx.nd
 repeat' gp_on
theorem z1R {c_6:Nat->R T}{c_4 c_1g:List (Str×Fd)->List T->R T}(xq:Tq K mg base cl)(xo_Finder:cl 102= .ref tx.B_Finder)(O_6:Q_6 P w base cl tx 1 c_6)(O_4:Q_4 P w base cl tx 2 c_4)(O_1g:z1B P w base cl tx 3 c_1g):Gz P w base cl tx 4 (λfs ts=>zj (Xr c_6 c_4 c_1g (enO 102 4 fs (ts.take 1) (ts.drop 1)))):=by
 refine JH (k:=102) (p:=1) (n:=2) (m:=4) tx.C_3.F v9 rfl rfl (λcdv A outer s H E Y hy hE hr=> ?_);have nd:=v9.nd
 repeat' gp_on
 refine VV (i:=5) (k:=3) (ok:=okX) (by rfl) (by rfl) v9.nd (by rfl) (by rfl) (by rfl) (by rfl) (by decide) (by rfl) xq.m_WorthError (hy ▸ xq.e_WorthError) (λE' pn xe hp=> ?_)
 repeat' gp_on
theorem ok_m:Q_m P w base cl tx 1 (λts=>zj (b_m  (en0 1 ts))):=by
 refine Z3 tx.C_m.F sc_m rfl (λcdv A outer s H E Y hy hr=> ?_) (λts h=>rfl);have nd:=sc_m.nd
 repeat' gp_on
 refine Zn (Zc ["choice"] N_m (zb s_m) (by rfl) (by rfl) (by decide+kernel) (by rfl) ?_ (λ_ _ _ _ _ _=>zA (show a_ (["choice"]:List Str) by decide+kernel) (by rfl) (.inl (by rfl)) (.inr (by rfl))) (zF 0) (zG 0) (λY' hy' _ _ _ _ _ _=> ?_) (λY' hy' _ _ _ _ _ _ _ hp' => ?_))
 repeat' gp_on
theorem ok_h {j:Nat}(hj:20<=j){c_m c_1f c_w:List T->R T}(O_m:Q_m P w base cl tx 1 c_m)(O_1f:GA P w base cl tx j c_1f)(O_w:Q_w P w base cl tx j c_w):Q_h P w base cl tx (j+1) (λts=>zj (b_h c_m c_1f c_w (en0 2 ts))):=by
 refine Z3 tx.C_h.F sc_h rfl (λcdv A outer s H E Y hy hr=> ?_) (λts h=>rfl);have nd:=sc_h.nd
 repeat' gp_on
theorem z1S {j:Nat}(hj:20<=j){c_l c_w:List T->R T}(O_l:Q_l P w base cl tx 20 c_l)(O_w:Q_w P w base cl tx j c_w):GA P w base cl tx (j+1) (λts=>zj (Xs c_l c_w (en0 3 ts))):=by
 refine Z3 tx.C_1f.F gP rfl (λcdv A outer s H E Y hy hr=> ?_) (λts h=>rfl);have nd:=gP.nd
 repeat' gp_on
theorem ok_w {j:Nat}(hj:20<=j){c_2 c_h:List T->R T}(O_2:Q_2 P w base cl tx 20 c_2)(O_h:Q_h P w base cl tx j c_h):Q_w P w base cl tx (j+1) (λts=>zj (b_w c_2 c_h (en0 6 ts))):=by
 refine Z3 tx.C_w.F sc_w rfl (λcdv A outer s H E Y hy hr=> ?_) (λts h=>rfl);have nd:=sc_w.nd
 repeat' gp_on
theorem ok_s {c_h:List T->R T}{c_g:List (Str×Fd)->List T->R T}(xo_Finder:cl 102= .ref tx.B_Finder)(O_h:Q_h P w base cl tx 40 c_h)(O_g:Q_g P w base cl tx 1 c_g):Q_s P w base cl tx 41 (λfs ts=>zj (b_s c_h c_g (enO 102 1 fs (ts.take 0) (ts.drop 0)))):=by
 refine JH (k:=102) (p:=0) (n:=0) (m:=1) tx.S_Finder.C_found.F sc_s rfl rfl (λcdv A outer s H E Y hy hE hr=> ?_);have nd:=sc_s.nd
 repeat' gp_on
theorem ok_r (xo_Finder:cl 102= .ref tx.B_Finder):Q_r P w base cl tx 1 (λfs ts=>zj (b_r  (enO 102 1 fs (ts.take 0) (ts.drop 0)))):=by
 refine JH (k:=102) (p:=0) (n:=0) (m:=1) tx.S_Finder.C_asks.F sc_r rfl rfl (λcdv A outer s H E Y hy hE hr=> ?_);have nd:=sc_r.nd
 repeat' gp_on
theorem ok_e {c_4:List (Str×Fd)->List T->R T}(xo_Finder:cl 102= .ref tx.B_Finder)(O_4:Q_4 P w base cl tx 2 c_4):Q_e P w base cl tx 3 (λfs ts=>WV 102 3 (b_e c_4 (enM 102 3 fs ts))):=by
 refine vG (k:=102) (n:=1) (j:=3) tx.S_Finder.C_answer.F Gx rfl rfl (by decide) (λcdv A outer s H E Y hy hE hr=> ?_)
 have nd:=Gx.nd
 repeat' gp_on
theorem z1T {c_6:Nat->R T}{c_e:List (Str×Fd)->List T->R (T×List (Str×Fd))}(xq:Tq K mg base cl)(xo_Finder:cl 102= .ref tx.B_Finder)(O_6:Q_6 P w base cl tx 1 c_6)(O_e:Q_e P w base cl tx 3 c_e):z1C P w base cl tx 4 (λfs ts=>WV 102 6 (Gh c_6 c_e (Xp 102 6 fs ts))):=by
 refine xz (k:=102) (n:=2) (j:=6) tx.C_3.F v9 rfl rfl (by decide) (λcdv A outer s H E Y hy hE hr=> ?_)
 have nd:=v9.nd
 repeat' gp_on
 refine VV (i:=5) (k:=3) (ok:=okX) (by rfl) (by rfl) v9.nd (by rfl) (by rfl) (by rfl) (by rfl) (by decide) (by rfl) xq.m_WorthError (hy ▸ xq.e_WorthError) (λE' pn xe hp=> ?_)
 repeat' gp_on
theorem ok_i {j:Nat}(hj:1<=j){c_p c_f c_m c_17:List T->R T}(O_p:Q_p P w base cl tx 1 c_p)(O_f:Q_f P w base cl tx 1 c_f)(O_m:Q_m P w base cl tx 1 c_m)(O_17:GB P w base cl tx j c_17):Q_i P w base cl tx (j+1) (λts=>zj (b_i c_p c_f c_m c_17 (en0 2 ts))):=by
 refine Z3 tx.C_i.F sc_i rfl (λcdv A outer s H E Y hy hr=> ?_) (λts h=>rfl);have nd:=sc_i.nd
 repeat' gp_on
theorem z1U {j:Nat}(hj:1<=j){c_i:List T->R T}(O_i:Q_i P w base cl tx j c_i):GB P w base cl tx (j+1) (λts=>zj (KK c_i (en0 2 ts))):=by
 refine Z3 tx.C_17.F gQ rfl (λcdv A outer s H E Y hy hr=> ?_) (λts h=>rfl);have nd:=gQ.nd
 repeat' gp_on
 refine Zn (Zc ["kind","part"] N_17 (zb z1t) (by rfl) (by rfl) (by decide+kernel) (by rfl) ?_ (λ_ _ _ _ _ _=>uD (by rfl) (ZM (zA (show a_ (["kind","part"]:List Str) by decide+kernel) (by rfl) (.inl (by rfl)) (.inr (by rfl))) (ZM (zA (show a_ (["kind","part"]:List Str) by decide+kernel) (by rfl) (.inl (by rfl)) (.inr (by rfl))) wF))) (wO _ 0 1) (wQ 0 1) (λY' hy' _ _ _ _ _ _=> ?_) (λY' hy' _ _ _ _ _ _ _ hp' => ?_))
 repeat' gp_on
theorem z1V {c_n c_i:List T->R T}(O_n:Q_n P w base cl tx 25 c_n)(O_i:Q_i P w base cl tx 21 c_i):z1D P w base cl tx 26 (λts=>zj (Gj c_n c_i (en0 2 ts))):=by
 refine wm tx.C_14.F gR rfl (λcdv A outer s H E Y hy hE hr=> ?_) (λts h=>rfl);have nd:=gR.nd
 repeat' gp_on
theorem z1W {c_14:List T->R T}(xq:Tq K mg base cl)(O_14:z1D P w base cl tx 26 c_14):z1E P w base cl tx 27 (λts=>zj (Gk c_14 (en0 2 ts))):=by
 refine wm tx.C_1a.F gS rfl (λcdv A outer s H E Y hy hE hr=> ?_) (λts h=>rfl);have nd:=gS.nd
 repeat' gp_on
theorem ok_7 {j:Nat}(hj:20<=j){c_m c_l c_19:List T->R T}(O_m:Q_m P w base cl tx 1 c_m)(O_l:Q_l P w base cl tx 20 c_l)(O_19:GC P w base cl tx j c_19):Q_7 P w base cl tx (j+1) (λts=>zj (b_7 c_m c_l c_19 (en0 3 ts))):=by
 refine Z3 tx.C_7.F sc_7 rfl (λcdv A outer s H E Y hy hr=> ?_) (λts h=>rfl);have nd:=sc_7.nd
 repeat' gp_on
theorem z1X {j:Nat}(hj:20<=j){c_2 c_7:List T->R T}(O_2:Q_2 P w base cl tx 20 c_2)(O_7:Q_7 P w base cl tx j c_7):GC P w base cl tx (j+1) (λts=>zj (Xu c_2 c_7 (en0 5 ts))):=by
 refine Z3 tx.C_19.F gT rfl (λcdv A outer s H E Y hy hr=> ?_) (λts h=>rfl);have nd:=gT.nd
 repeat' gp_on
theorem z1Y {c_1a c_7:List T->R T}(O_1a:z1E P w base cl tx 27 c_1a)(O_7:Q_7 P w base cl tx 40 c_7):z1F P w base cl tx 41 (λts=>zj (Gn c_1a c_7 (en0 2 ts))):=by
 refine wm tx.C_1b.F gU rfl (λcdv A outer s H E Y hy hE hr=> ?_) (λts h=>rfl);have nd:=gU.nd
 repeat' gp_on
theorem z1Z {c_g c_r c_12:List (Str×Fd)->List T->R T}(xo_Finder:cl 102= .ref tx.B_Finder)(O_g:Q_g P w base cl tx 1 c_g)(O_r:Q_r P w base cl tx 1 c_r)(O_12:Gz P w base cl tx 4 c_12):z1G P w base cl tx 5 (λfs ts=>zj (Gp c_g c_r c_12 (enO 102 1 fs (ts.take 0) (ts.drop 0)))):=by
 refine JH (k:=102) (p:=0) (n:=1) (m:=1) tx.C__law_ends.F Jm rfl rfl (λcdv A outer s H E Y hy hE hr=> ?_);have nd:=Jm.nd
 repeat' gp_on
 refine Zn (Zc ["_law_what","_law_finder"] JX (zb jH) (by rfl) (by rfl) (by decide+kernel) (by rfl) ?_ (λ_ _ _ _ _ _=>zA (show a_ (["_law_what","_law_finder"]:List Str) by decide+kernel) (by rfl) (.inl (by rfl)) (.inr (by rfl))) (zF 0) (zG 0) (λY' hy' _ _ _ _ _ _=> ?_) (λY' hy' _ _ _ _ _ _ _ hp' => ?_))
 repeat' gp_on
theorem ok_o {j:Nat}(hj:0<=j){c_o:List T->R T}(O_o:Q_o P w base cl tx j c_o):Q_o P w base cl tx (j+1) (λts=>zj (b_o c_o (en0 3 ts))):=by
 refine Z3 tx.C_o.F sc_o rfl (λcdv A outer s H E Y hy hr=> ?_) (λts h=>rfl);have nd:=sc_o.nd
 repeat' gp_on
 refine Zn (Zc ["_law_place","_law_k"] N_o (zb s_o) (by rfl) (by rfl) (by decide+kernel) (by rfl) ?_ (λ_ _ _ _ _ _=>zA (show a_ (["_law_place","_law_k"]:List Str) by decide+kernel) (by rfl) (.inl (by rfl)) (.inr (by rfl))) (zF 0) (zG 0) (λY' hy' _ _ _ _ _ _=> ?_) (λY' hy' _ _ _ _ _ _ _ hp' => ?_))
 repeat' gp_on
theorem z20:z1H P w base cl tx 1 (λts=>zj (Gq  (en0 3 ts))):=by
 refine Z3 tx.C_15.F gW rfl (λcdv A outer s H E Y hy hr=> ?_) (λts h=>rfl);have nd:=gW.nd
 repeat' gp_on
theorem ok_c {j:Nat}(hj:0<=j){c_c:List T->R T}(O_c:Q_c P w base cl tx j c_c):Q_c P w base cl tx (j+1) (λts=>zj (b_c c_c (en0 4 ts))):=by
 refine Z3 tx.C_c.F sc_c rfl (λcdv A outer s H E Y hy hr=> ?_) (λts h=>rfl);have nd:=sc_c.nd
 repeat' gp_on
theorem z21 {c_5 c_o c_15 c_c:List T->R T}(O_5:Q_5 P w base cl tx 2 c_5)(O_o:Q_o P w base cl tx 40 c_o)(O_15:z1H P w base cl tx 1 c_15)(O_c:Q_c P w base cl tx 40 c_c):z1I P w base cl tx 41 (λts=>zj (Gr c_5 c_o c_15 c_c (en0 9 ts))):=by
 refine Z3 tx.C_16.F gX rfl (λcdv A outer s H E Y hy hr=> ?_) (λts h=>rfl);have nd:=gX.nd
 repeat' gp_on
theorem ok_u:Q_u P w base cl tx 1 (λts=>zj (b_u  (en0 3 ts))):=by
 refine Z3 tx.C_u.F sc_u rfl (λcdv A outer s H E Y hy hr=> ?_) (λts h=>rfl);have nd:=sc_u.nd
 repeat' gp_on
theorem ok_v:Q_v P w base cl tx 1 (λts=>zj (b_v  (en0 1 ts))):=by
 refine Z3 tx.C_v.F sc_v rfl (λcdv A outer s H E Y hy hr=> ?_) (λts h=>rfl);have nd:=sc_v.nd
 repeat' gp_on
 refine Zn (Zc ["_law_sign"] N_v (zb s_v) (by rfl) (by rfl) (by decide+kernel) (by rfl) ?_ (λ_ _ _ _ _ _=>zA (show a_ (["_law_sign"]:List Str) by decide+kernel) (by rfl) (.inl (by rfl)) (.inr (by rfl))) (zF 0) (zG 0) (λY' hy' _ _ _ _ _ _=> ?_) (λY' hy' _ _ _ _ _ _ _ hp' => ?_))
 repeat' gp_on
theorem ok_a {j:Nat}(hj:1<=j){c_u c_v c_a:List T->R T}(O_u:Q_u P w base cl tx 1 c_u)(O_v:Q_v P w base cl tx 1 c_v)(O_a:Q_a P w base cl tx j c_a):Q_a P w base cl tx (j+1) (λts=>zj (b_a c_u c_v c_a (en0 6 ts))):=by
 refine Z3 tx.C_a.F z1u rfl (λcdv A outer s H E Y hy hr=> ?_) (λts h=>rfl);have nd:=z1u.nd
 repeat' gp_on
 refine Y7 (i:=4) (Zc ["_law_one"] N_a (zb s_a) (by rfl) (by rfl) (by decide+kernel) (by rfl) ?_ (λ_ _ _ _ _ _=>zA (show a_ (["_law_one"]:List Str) by decide+kernel) (by rfl) (.inl (by rfl)) (.inr (by rfl))) (zF 0) (zG 0) (λY' hy' _ _ _ _ _ _=> ?_) (λY' hy' _ _ _ _ _ _ _ hp' => ?_)) z1u.nd (by rfl) (.inl (by rfl)) (by rfl)
 repeat' gp_on
 refine Zn (Zc ["_law_one"] N_a (zb s_a) (by rfl) (by rfl) (by decide+kernel) (by rfl) ?_ (λ_ _ _ _ _ _=>zA (show a_ (["_law_one"]:List Str) by decide+kernel) (by rfl) (.inl (by rfl)) (.inr (by rfl))) (zF 0) (zG 0) (λY' hy' _ _ _ _ _ _=> ?_) (λY' hy' _ _ _ _ _ _ _ hp' => ?_))
 repeat' gp_on
 refine Zn (Zc ["_law_k","_law_words"] N_a (zb s_a) (by rfl) (by rfl) (by decide+kernel) (by rfl) ?_ (λ_ _ _ _ _ _=>zA (show a_ (["_law_k","_law_words"]:List Str) by decide+kernel) (by rfl) (.inl (by rfl)) (.inr (by rfl))) (zF 0) (zG 0) (λY' hy' _ _ _ _ _ _=> ?_) (λY' hy' _ _ _ _ _ _ _ hp' => ?_))
 repeat' gp_on
 refine Zn (Zc ["_law_one","_law_deep"] N_a (zb s_a) (by rfl) (by rfl) (by decide+kernel) (by rfl) ?_ (λ_ _ _ _ _ _=>zA (show a_ (["_law_one","_law_deep"]:List Str) by decide+kernel) (by rfl) (.inl (by rfl)) (.inr (by rfl))) (zF 0) (zG 0) (λY' hy' _ _ _ _ _ _=> ?_) (λY' hy' _ _ _ _ _ _ _ hp' => ?_))
 repeat' gp_on
theorem ok_0 {c_1b c_5 c_8 c_13 c_a c_16 c_3:List T->R T}{c_q c_1i:List (Str×Fd)->List T->R (T×List (Str×Fd))}{c_g c_s c_r c_12 c_1h:List (Str×Fd)->List T->R T}(xo_Finder:cl 102= .ref tx.B_Finder)(O_1b:z1F P w base cl tx 41 c_1b)(O_5:Q_5 P w base cl tx 2 c_5)(O_8:Q_8 P w base cl tx 9 c_8)(O_13:z1x P w base cl tx 18 c_13)(O_a:Q_a P w base cl tx 13 c_a)(O_16:z1I P w base cl tx 41 c_16)(O_3:Q_3 P w base cl tx 28 c_3)(O_q:Q_q P w base cl tx 26 c_q)(O_g:Q_g P w base cl tx 1 c_g)(O_s:Q_s P w base cl tx 41 c_s)(O_r:Q_r P w base cl tx 1 c_r)(O_12:Gz P w base cl tx 4 c_12)(O_1i:z1C P w base cl tx 4 c_1i)(O_1h:z1G P w base cl tx 5 c_1h):Q_0 P w base cl tx 42 (λts=>zj (b_0 c_1b c_5 c_8 c_13 c_a c_16 c_3 c_q c_g c_s c_r c_12 c_1i c_1h (enS 16 ts))):=by
 refine xw tx.C_0.F sc_0 rfl (λcdv A outer s H E Y hy hE hr=> ?_) (λts h=>rfl);have nd:=sc_0.nd
 repeat' gp_on
 refine Zn (Zc ["_law_what","_law_bad"] N_0 (zb s_0) (by rfl) (by rfl) (by decide+kernel) (by rfl) ?_ (λ_ _ _ _ _ _=>zA (show a_ (["_law_what","_law_bad"]:List Str) by decide+kernel) (by rfl) (.inl (by rfl)) (.inr (by rfl))) (zF 0) (zG 0) (λY' hy' _ _ _ _ _ _=> ?_) (λY' hy' _ _ _ _ _ _ _ hp' => ?_))
 repeat' gp_on
end
theorem Zu {P:Program}{w:World}{K:ac}{mg:Str->Option Value}{base:Heap}{CX:CXT}{cl:Nat->Value}{k n:Nat}{f:Addr}{fd:FuncData}{ps:List Str}(hn:n=ps.length):zK P w K mg base CX k f fd ps (spP cl n (λ_=> .bad)):=
 ⟨λvs H Q E h=>by rw[← hn];exact spP.len vs H Q E h,λA outer s H args us vs Q E _ _ _ _ ⟨B,ts,_,_,_,q⟩=>q.elim⟩
section
variable {P:Program}{w:World}{K:ac}{mg:Str->Option Value}{base:Heap}{cl:Nat->Value}{tx:Tx K mg}
theorem gY (xq:Tq K mg base cl)(xo_Finder:cl 102= .ref tx.B_Finder):Q_0 P w base cl tx 42 f_0:=by
 have O_1d:z1v P w base cl tx 1 KH:=z1J;have O_5:Q_5 P w base cl tx 2 f_5:=ok_5 O_1d;have O_z:Q_z P w base cl tx 3 f_z:=ok_z O_5;have O_10:z1w P w base cl tx 4 KI:=z1K O_5 O_z;have R_k:∀n:Nat,Q_k P w base cl tx (4+n) (S_k n 0):=by
  intro n
  induction n with
  | zero=>exact Zu rfl
  | succ n ih=>
   exact ok_k (j:=4+n) (by omega) O_5 O_10 ih
 have O_k:Q_k P w base cl tx 12 (f_k 8):=(R_k 8);have O_j:Q_j P w base cl tx 1 f_j:=ok_j;have R_8:∀n:Nat,Q_8 P w base cl tx (1+n) (S_8 n 0):=by
  intro n
  induction n with
  | zero=>exact Zu rfl
  | succ n ih=>
   exact ok_8 (j:=1+n) (by omega) ih O_j
 have O_8:Q_8 P w base cl tx 9 (f_8 8):=(R_8 8);have R_d:∀n:Nat,Q_d P w base cl tx (9+n) (S_d n 0):=by
  intro n
  induction n with
  | zero=>exact Zu rfl
  | succ n ih=>
   exact ok_d (j:=9+n) (by omega) O_8 ih
 have O_d:Q_d P w base cl tx 17 (f_d 8):=(R_d 8);have O_13:z1x P w base cl tx 18 Xq:=z1L O_k O_d;have O_p:Q_p P w base cl tx 1 f_p:=ok_p;have O_1e:z1y P w base cl tx 2 Gc:=z1M O_p;have O_f:Q_f P w base cl tx 1 f_f:=ok_f;have O_9:Q_9 P w base cl tx 1 f_9:=ok_9;have O_11:z1z P w base cl tx 2 xC:=z1N O_p O_f O_9;have O_x:Q_x P w base cl tx 3 f_x:=ok_x O_f O_11;have R_b:∀n:Nat,Q_b P w base cl tx (3+n) (S_b n 0)/\Gy P w base cl tx (3+n) (S_b n 1):=by
  intro n
  induction n with
  | zero=>exact⟨Zu rfl,Zu rfl⟩
  | succ n ih=>
   exact⟨ok_b (j:=3+n) (by omega) O_1e ih.1 O_x ih.2,z1O (j:=3+n) (by omega) O_f ih.1⟩
 have O_b:Q_b P w base cl tx 23 (f_b 20):=(R_b 20).1;have O_1c:Gy P w base cl tx 23 (f_1c 20):=(R_b 20).2;have O_1:Q_1 P w base cl tx 24 f_1:=ok_1 O_b;have O_n:Q_n P w base cl tx 25 f_n:=ok_n xq O_1;have R_2:∀n:Nat,Q_2 P w base cl tx (0+n) (S_2 n 0)/\Q_t P w base cl tx (0+n) (S_2 n 1)/\Q_l P w base cl tx (0+n) (S_2 n 2):=by
  intro n
  induction n with
  | zero=>exact⟨Zu rfl,Zu rfl,Zu rfl⟩
  | succ n ih=>
   exact⟨ok_2 (j:=0+n) (by omega) ih.2.1 ih.2.2,ok_t (j:=0+n) (by omega) ih.1,ok_l (j:=0+n) (by omega) ih.2.1⟩
 have O_2:Q_2 P w base cl tx 20 (f_2 20):=(R_2 20).1;have O_t:Q_t P w base cl tx 20 (f_t 20):=(R_2 20).2.1;have O_l:Q_l P w base cl tx 20 (f_l 20):=(R_2 20).2.2;have O_y:Q_y P w base cl tx 26 f_y:=ok_y O_n O_2;have O_18:z1A P w base cl tx 27 xD:=z1P O_y;have O_q:Q_q P w base cl tx 26 f_q:=ok_q xo_Finder O_n O_2;have O_6:Q_6 P w base cl tx 1 f_6:=ok_6 xq;have O_3:Q_3 P w base cl tx 28 f_3:=ok_3 xq xo_Finder O_6 O_18 O_q;have O_g:Q_g P w base cl tx 1 f_g:=ok_g xo_Finder;have O_4:Q_4 P w base cl tx 2 f_4:=ok_4 xq xo_Finder O_g;have O_1g:z1B P w base cl tx 3 KJ:=z1Q xo_Finder O_4;have O_12:Gz P w base cl tx 4 UI:=z1R xq xo_Finder O_6 O_4 O_1g;have O_m:Q_m P w base cl tx 1 f_m:=ok_m;have R_h:∀n:Nat,Q_h P w base cl tx (20+n) (S_h n 0)/\GA P w base cl tx (20+n) (S_h n 1)/\Q_w P w base cl tx (20+n) (S_h n 2):=by
  intro n
  induction n with
  | zero=>exact⟨Zu rfl,Zu rfl,Zu rfl⟩
  | succ n ih=>
   exact⟨ok_h (j:=20+n) (by omega) O_m ih.2.1 ih.2.2,z1S (j:=20+n) (by omega) O_l ih.2.2,ok_w (j:=20+n) (by omega) O_2 ih.1⟩
 have O_h:Q_h P w base cl tx 40 (f_h 20):=(R_h 20).1;have O_1f:GA P w base cl tx 40 (f_1f 20):=(R_h 20).2.1;have O_w:Q_w P w base cl tx 40 (f_w 20):=(R_h 20).2.2;have O_s:Q_s P w base cl tx 41 f_s:=ok_s xo_Finder O_h O_g;have O_r:Q_r P w base cl tx 1 f_r:=ok_r xo_Finder;have O_e:Q_e P w base cl tx 3 f_e:=ok_e xo_Finder O_4;have O_1i:z1C P w base cl tx 4 Gi:=z1T xq xo_Finder O_6 O_e;have R_i:∀n:Nat,Q_i P w base cl tx (1+n) (S_i n 0)/\GB P w base cl tx (1+n) (S_i n 1):=by
  intro n
  induction n with
  | zero=>exact⟨Zu rfl,Zu rfl⟩
  | succ n ih=>
   exact⟨ok_i (j:=1+n) (by omega) O_p O_f O_m ih.2,z1U (j:=1+n) (by omega) ih.1⟩
 have O_i:Q_i P w base cl tx 21 (f_i 20):=(R_i 20).1;have O_17:GB P w base cl tx 21 (f_17 20):=(R_i 20).2;have O_14:z1D P w base cl tx 26 Xt:=z1V O_n O_i;have O_1a:z1E P w base cl tx 27 Gm:=z1W xq O_14;have R_7:∀n:Nat,Q_7 P w base cl tx (20+n) (S_7 n 0)/\GC P w base cl tx (20+n) (S_7 n 1):=by
  intro n
  induction n with
  | zero=>exact⟨Zu rfl,Zu rfl⟩
  | succ n ih=>
   exact⟨ok_7 (j:=20+n) (by omega) O_m O_l ih.2,z1X (j:=20+n) (by omega) O_2 ih.1⟩
 have O_7:Q_7 P w base cl tx 40 (f_7 20):=(R_7 20).1;have O_19:GC P w base cl tx 40 (f_19 20):=(R_7 20).2;have O_1b:z1F P w base cl tx 41 Go:=z1Y O_1a O_7;have O_1h:z1G P w base cl tx 5 KL:=z1Z xo_Finder O_g O_r O_12;have R_o:∀n:Nat,Q_o P w base cl tx (0+n) (S_o n 0):=by
  intro n
  induction n with
  | zero=>exact Zu rfl
  | succ n ih=>
   exact ok_o (j:=0+n) (by omega) ih
 have O_o:Q_o P w base cl tx 40 (f_o 40):=(R_o 40);have O_15:z1H P w base cl tx 1 Xv:=z20;have R_c:∀n:Nat,Q_c P w base cl tx (0+n) (S_c n 0):=by
  intro n
  induction n with
  | zero=>exact Zu rfl
  | succ n ih=>
   exact ok_c (j:=0+n) (by omega) ih
 have O_c:Q_c P w base cl tx 40 (f_c 40):=(R_c 40);have O_16:z1I P w base cl tx 41 KM:=z21 O_5 O_o O_15 O_c;have O_u:Q_u P w base cl tx 1 f_u:=ok_u;have O_v:Q_v P w base cl tx 1 f_v:=ok_v;have R_a:∀n:Nat,Q_a P w base cl tx (1+n) (S_a n 0):=by
  intro n
  induction n with
  | zero=>exact Zu rfl
  | succ n ih=>
   exact ok_a (j:=1+n) (by omega) O_u O_v ih
 have O_a:Q_a P w base cl tx 13 (f_a 12):=(R_a 12);have O_0:Q_0 P w base cl tx 42 f_0:=ok_0 xo_Finder O_1b O_5 O_8 O_13 O_a O_16 O_3 O_q O_g O_s O_r O_12 O_1i O_1h;exact O_0
end
def V0:List Str:=["NoKind","NoWorth","NoRule","TooMany","Ended","NoText","NoBack"]
def clK (K:ac)(c:Nat):Value:=match bX K mainGlobals (if c=101 then ("Sieve":Str) else if c=102 then "Finder" else V0.getD c "") with
 | some (some v)=>v
 | _=> .none
theorem Um {K:ac}{c:Nat}{x:Str}{q:Addr}(hx:(if c=101 then ("Sieve":Str) else if c=102 then "Finder" else V0.getD c "")=x)(h:bX K mainGlobals x=some (some (.ref q))):clK K c= .ref q:=by unfold clK;rw[hx,h]
def z22:List Nat:=[0,1,2,3,4,5]
def qM (p:Nat->Bool):Bool:=z22.all p
theorem gZ {c:Nat}(h:okX c=true):c∈z22:=by
 have h:c < 6:=of_decide_eq_true h;unfold z22;simp;omega
theorem j5 {p:Nat->Bool}(h:qM p=true){c:Nat}(hc:okX c=true):p c=true:=aT.mp h c (gZ hc)
def Xj (K:ac)(v:Value):Bool:=match v with
 | .ref C=>bj K (.ref C) "__getattribute__" == some (some (.builtin "BaseException.__getattribute__")) && (bj K (.ref C) "__getattr__" == some none && (bj K (.ref C) "__class__" == some (some (.builtin "object.__class__")) && (fS K (.builtin "object.__class__") "__get__" == some (some (.builtin "getset_descriptor.__get__")) && (iq K (.builtin "object.__class__") == some true && (fL K C (.type "object") == some true && (fL K C (.type "BaseException") == some true && (PySem.W.clsIn K C).isSome))))))
 | _=>false
theorem va {K:ac}{v:Value}(h:Xj K v=true):∃C,v= .ref C/\PySem.W.XCls K C:=by
 unfold Xj at h;split at h
 ·rename_i C;simp only[ak,beq_iff_eq]at h;obtain⟨h1,h2,h3,h4,h5,h6,h7,h8⟩:=h;exact⟨C,rfl,h1,h2,h3,h4,h5,h6,h7,h8⟩
 ·cases h
theorem qF {K:ac}{base:Heap}{mg:Str->Option Value}{x:Str}{C:Addr}{bmB:List Value}{newId:String}(KB:K.In base)(hb:mg x=some (.ref C))(h:dM K C bmB newId=true):OwnCls x C bmB newId mg base:=by
 unfold dM at h;split at h
 ·rename_i dd cd sl hC;split at h
  ·rename_i C1 bm a0 a1 a2 a3 m a5 hm hs;simp only[ak,beq_iff_eq,Bool.not_eq_true']at h;obtain⟨⟨⟨⟨⟨h1,h2⟩,h3⟩,h4⟩,h5⟩,h6⟩:=h;subst h1 h2;cases cd with
   | mk nm bs mro ns qn hd sn sub ab col del=>
    dsimp only at hm h3 h5 h6;subst hm h3;obtain rfl:sl= #[a0,a1,a2,a3,some (.builtin m),a5]:=by
     cases sl;simp only at hs;rw[hs]
    exact⟨hb,bm,ns,nm,qn,bs,hd,sn,sub,ab,col,dd,a0,a1,a2,a3,a5,_,KB _ _ hC,.of_isNs (PySem.W.isNs_of_in KB h5),PySem.W.nsMap_none_of_in KB h5 h6,PySem.W.tail_of_in KB h4⟩
  ·cases h
 ·cases h
theorem lz1 {fd:FuncData}{p0:Str}(us:List Value)(hl:us.length=1)(h:∀a0,bindArgs fd ⟨[a0],[]⟩=pure ([p0].zip [a0])):bindArgs fd ⟨us,[]⟩=pure ([p0].zip us):=match us,hl with | [a0],_=>h a0
theorem lz2 {fd:FuncData}{p0 p1:Str}(us:List Value)(hl:us.length=2)(h:∀a0 a1,bindArgs fd ⟨[a0,a1],[]⟩=pure ([p0,p1].zip [a0,a1])):bindArgs fd ⟨us,[]⟩=pure ([p0,p1].zip us):=match us,hl with | [a0,a1],_=>h a0 a1
theorem lz3 {fd:FuncData}{p0 p1 p2:Str}(us:List Value)(hl:us.length=3)(h:∀a0 a1 a2,bindArgs fd ⟨[a0,a1,a2],[]⟩=pure ([p0,p1,p2].zip [a0,a1,a2])):bindArgs fd ⟨us,[]⟩=pure ([p0,p1,p2].zip us):=match us,hl with | [a0,a1,a2],_=>h a0 a1 a2
theorem lz4 {fd:FuncData}{p0 p1 p2 p3:Str}(us:List Value)(hl:us.length=4)(h:∀a0 a1 a2 a3,bindArgs fd ⟨[a0,a1,a2,a3],[]⟩=pure ([p0,p1,p2,p3].zip [a0,a1,a2,a3])):bindArgs fd ⟨us,[]⟩=pure ([p0,p1,p2,p3].zip us):=match us,hl with | [a0,a1,a2,a3],_=>h a0 a1 a2 a3
theorem fn1 {K:ac}{h:Heap}{mg:Str->Option Value}{f:Addr}{od an:Option Addr}{sl:Array (Option Value)}{oc kV dc pm cd ct:Value}{x:Str}{st:Stmt}{ps:List Str}(X:K.In h)(G:h.Ns mainGlobals mg)(e:bX K mainGlobals x=some (some (.ref f)))(l:K.lookup f=some ⟨oc,od,.func (bF x x (ZA st) (zN st) (zb st) .none kV dc pm an cd ct),sl⟩)(g:dA K cd x=true)(k:bn K (.ref f)=true)
  (hb:∀F:Fun K x x st f (bF x x (ZA st) (zN st) (zb st) .none kV dc pm an cd ct),L2.Binds K (bF x x (ZA st) (zN st) (zb st) .none kV dc pm an cd ct) ps []):Fn K mg x st ps f (bF x x (ZA st) (zN st) (zb st) .none kV dc pm an cd ct):=
 have F:=vi (st:=st) l g k
 ⟨F,hb F,bQ X G e⟩
theorem fo1 {K:ac}{f C:Addr}{od an:Option Addr}{sl:Array (Option Value)}{oc kV dc pm cd ct:Value}{x qual:Str}{st:Stmt}{ps:List Str}(i:bj K (.ref C) x=some (some (.ref f)))(l:K.lookup f=some ⟨oc,od,.func (bF x qual (ZA st) (zN st) (zb st) .none kV dc pm an cd ct),sl⟩)(g:dA K cd qual=true)(k:bn K (.ref f)=true)(fn:eW K (.ref f)=true)
  (hb:∀F:Fun K x qual st f (bF x qual (ZA st) (zN st) (zb st) .none kV dc pm an cd ct),L2.Binds K (bF x qual (ZA st) (zN st) (zb st) .none kV dc pm an cd ct) ps []):FnO K x qual st ps f (bF x qual (ZA st) (zN st) (zb st) .none kV dc pm an cd ct) C:=
 have F:=vi (st:=st) l g k
 ⟨F,hb F,⟨i,fn,k⟩⟩
abbrev XB {K:ac}{h:Heap}(_:K.In h)(mg:Str->Option Value)(C:Addr)(a_q:Addr)(d_q:FuncData)(a_g:Addr)(d_g:FuncData)(a_4:Addr)(d_4:FuncData)(a_e:Addr)(d_e:FuncData)(a_s:Addr)(d_s:FuncData)(a_r:Addr)(d_r:FuncData):Prop:=WS K mg C a_q d_q a_g d_g a_4 d_4 a_e d_e a_s d_s a_r d_r
theorem fin_ {l:PySem.W.OpenLaw}{w:World}{K:ac}{h:Heap}{mg:Str->Option Value}{fa:Addr}(X:K.In h)(G:h.Ns mainGlobals mg)(hfa:mg "law"=some (.ref fa))(tx:Tx K mg)(hB:∀(s:Shared) (v:Value),BindsTo s tx.d_0 ⟨[v],[]⟩ [("_law_script",v)]){q_Ended q_NoKind q_NoRule q_NoText q_NoWorth q_TooMany q_WorthError:Addr}(n_Ended:bX K mainGlobals "Ended"=some (some (.ref q_Ended)))(n_NoKind:bX K mainGlobals "NoKind"=some (some (.ref q_NoKind)))(n_NoRule:bX K mainGlobals "NoRule"=some (some (.ref q_NoRule)))(n_NoText:bX K mainGlobals "NoText"=some (some (.ref q_NoText)))(n_NoWorth:bX K mainGlobals "NoWorth"=some (some (.ref q_NoWorth)))(n_TooMany:bX K mainGlobals "TooMany"=some (some (.ref q_TooMany)))(n_WorthError:bX K mainGlobals "WorthError"=some (some (.ref q_WorthError)))(b_K:qM (λc=>Xj K (clK K c))=true)(b_e_WorthError:qM (λc=>PySem.W.exmOne K (clK K c) (.ref q_WorthError) == some true)=true)(b_o_Ended:dM K q_Ended XA "ValueError.__new__"=true)(b_o_NoKind:dM K q_NoKind XA "ValueError.__new__"=true)(b_o_NoWorth:dM K q_NoWorth XA "ValueError.__new__"=true)(b_t_Ended:qM (λc=>aQ K (clK K c) (.ref q_Ended) == some (JI c))=true)(b_t_NoKind:qM (λc=>aQ K (clK K c) (.ref q_NoKind) == some (J7 c))=true)(b_t_NoRule:qM (λc=>aQ K (clK K c) (.ref q_NoRule) == some (J8 c))=true)(b_t_NoText:qM (λc=>aQ K (clK K c) (.ref q_NoText) == some (J9 c))=true)(b_t_NoWorth:qM (λc=>aQ K (clK K c) (.ref q_NoWorth) == some (jC c))=true)(b_t_TooMany:qM (λc=>aQ K (clK K c) (.ref q_TooMany) == some (jD c))=true)(b_t_ValueError:qM (λc=>aQ K (clK K c) (.type "ValueError") == some (ZU c))=true):∃fd:FuncData,(∀(s:Shared) (v:Value),BindsTo s fd ⟨[v],[]⟩ [("_law_script",v)])/\∀base:Heap,K.In base->base.Ns mainGlobals mg->zK l.prog w K mg base (CX1 l.prog w) 42 fa fd ["_law_script"] (spP (clK K) 1 f_0):=by
 have e:=hfa.symm.trans tx.C_0.m;cases e;exact⟨tx.d_0,hB,λbase KB _=>gY ⟨q_Ended,q_NoKind,q_NoRule,q_NoText,q_NoWorth,q_TooMany,q_WorthError,⟨λc hc=>va (j5 b_K hc)⟩,(λc hc=>beq_iff_eq.mp (j5 b_e_WorthError hc)),(Um (x:="Ended") rfl n_Ended),(Um (x:="NoKind") rfl n_NoKind),(Um (x:="NoWorth") rfl n_NoWorth),(bQ X G n_Ended),(bQ X G n_NoKind),(bQ X G n_NoRule),(bQ X G n_NoText),(bQ X G n_NoWorth),(bQ X G n_TooMany),(bQ X G n_WorthError),(qF KB (bQ X G n_Ended) b_o_Ended),(qF KB (bQ X G n_NoKind) b_o_NoKind),(qF KB (bQ X G n_NoWorth) b_o_NoWorth),(λc hc=>beq_iff_eq.mp (j5 b_t_Ended hc)),(λc hc=>beq_iff_eq.mp (j5 b_t_NoKind hc)),(λc hc=>beq_iff_eq.mp (j5 b_t_NoRule hc)),(λc hc=>beq_iff_eq.mp (j5 b_t_NoText hc)),(λc hc=>beq_iff_eq.mp (j5 b_t_NoWorth hc)),(λc hc=>beq_iff_eq.mp (j5 b_t_TooMany hc)),(λc hc=>beq_iff_eq.mp (j5 b_t_ValueError hc))⟩ (Um (x:="Finder") rfl tx.S_Finder.l)⟩
def uC (K:ac):Bool:=K.all λp=> !(p.2.cls == Value.type "list")
theorem Xk {K:ac}(h:uC K=true){a:Addr}{o:Obj}(e:K.lookup a=some o)(c:o.cls=Value.type "list"):False:=by
 have hm:(a,o)∈K:=by
  clear h
  induction K with
  | nil=>cases e
  | cons p r ih=>
   obtain⟨b,u⟩:=p
   by_cases hb:a=b
   ·subst hb;have e' :some u=some o:=by simpa[aM] using e
    cases e';exact aw
   ·have e' :r.lookup a=some o:=by rw[aM,(beq_eq_false_iff_ne.mpr hb)]at e;exact e
    exact af _ (ih e')
 have:=aT.mp h _ hm;rw[c]at this;simp at this
theorem G1 {cl:Nat->Value}{K:ac}{H:Hp}{a:Addr}{ns:List Int}(hL:f_0 [.fz (ns.map T.int)]= .ok (.bl true))(hK:uC K=true)(hO:G4 H)(hS:SqL K H a (ns.map V.int)):spP cl 1 f_0 [.ref a] H (λv _=>v= .bl true) λ_ _ _=>False:=by
 have scrR:∀ns:List Int,zz H (ns.map V.int) (ns.map T.int):=λns=>by
  induction ns with
  | nil=>exact .nil
  | cons n r ih=>exact .cons (.int n) ih
 rcases hS with (h | ⟨o,h⟩) | ⟨o,its,n,e,c,_⟩
 ·rcases hO a with z | ⟨ob,xs,z⟩ <;> (rw[h]at z;cases z)
 ·refine⟨H,[.fz (ns.map T.int)],rfl,zl.refl H,.cons (.fz h (scrR ns)) .nil, ?_⟩;rw[hL];intro v H' _ r;cases r;rfl
 ·exact(Xk hK e c).elim
theorem walk {l:PySem.W.OpenLaw}{q:Program}{loose:List Str}{XP:(Str->Option Value)->Heap->Prop}{YP:World->Heap->Prop}{d:DefRec}{K:Params->ac}(hn:l.most=some 63)(hdf:d.params.defaults=[])
  (hL:∀ns:List Int,ns.length<=63->f_0 [.fz (ns.map T.int)]= .ok (.bl true)) (hK:∀p,uC (K p)=true)
  (hY:∀(w:World) (h:Heap),YP w h->(K w.params).In h)
  (F:∀(w:World) (mg:Str->Option Value) (fa:Addr) (h:Heap),(K w.params).In h->h.Ns mainGlobals mg->mg d.name=some (.ref fa)->
   ∃fd:FuncData,(∀(s:Shared) (u:Value),BindsTo s fd ⟨[u],[]⟩ [("_law_script",u)])/\∀base:Heap,(K w.params).In base->base.Ns mainGlobals mg->zK l.prog w (K w.params) mg base (CX1 l.prog w) 42 fa fd ["_law_script"] (spP (clK (K w.params)) 1 f_0)):
  PySem.W.WalkO q loose XP YP l.row.toRowW d [] (λf vs=>iA f vs):=
 L2.walk_of (n:=63) (k:=42) (x:="_law_script") (CX:=λw=>(CX1 l.prog w)) (sp:=λw=>spP (clK (K w.params)) 1 f_0) hn (by decide) hdf ⟨rfl,by decide,by decide,rfl⟩ hY F (λw H a ns hl hO hS=>G1 (hL ns hl) (hK w.params) hO hS) λ_ _ _ _ _ ⟨_,_,_,_,_,_,_,z⟩=>z
end G
namespace PySem.W.Fast
def tw12625434987664094412:=0
def tw6634348602270574716:=0
def tw13599245098621788173:=0
def tw2353952393365440286:=0
def tw11379418749252594433:=0
def tw10672936038383686270:=0
def tw10769821393049389523:=0
def tw9566313926822049044:=0
def tw5618442628158827890:=0
def tw17944549045856983415:=0
def tw5784147280908780468:=0
def tw17158308031730885622:=0
def tw13412120737965968256:=0
def tw4998516090452164091:=0
def tw15937188606451920493:=0
def tw15302204819955983417:=0
def tw5034615421197053697:=0
def tw12070794372858131330:=0
def tw14530411742374379640:=0
def tw19336412780196838:=0
def tw3657631924039172953:=0
def tw4595949346480349168:=0
def tw16366635935359822845:=0
def tw14603294490230283030:=0
def tw13891106998710309484:=0
def tw7062679167399400799:=0
def tw2453849840118381319:=0
def tw3330626945987162276:=0
def tw16587986204178165458:=0
def tw14024746458675499985:=0
def tw2531163348561978455:=0
def tw14790855179728536350:=0
def tw1131047474189928401:=0
def tw12197121585878539193:=0
def tw7205577398979307027:=0
def tw15242716174254222224:=0
def tw8212362918280783249:=0
def tw7474229633194020119:=0
def tw3613233642364943332:=0
def tw10830473004696947667:=0
def tw15290559944036755104:=0
def tw16774899627382337638:=0
def tw12863037714585517981:=0
def tw18426419266673828921:=0
def tw13522487848254573341:=0
def tw5703900677483776199:=0
def tw16377079625142798046:=0
def tw16404860830687560384:=0
def tw12730448852414951534:=0
def tw5011738728128970000:=0
def tw14531897673656228115:=0
def tw10012782631770322741:=0
def tw7689860855306473231:=0
def tw7247457274870545060:=0
def tw17969100144409778379:=0
def tw502063840133261846:=0
def tw5263422299276827389:=0
def tw8619803952750283041:=0
def tw11442079679472030922:=0
def tw16237494143635549543:=0
def tw9712889193543533909:=0
def tw11950454055083711834:=0
def tw123021682716093536:=0
def tw15678138464774689809:=0
def tw12130146022286836257:=0
def tw11856550000184038329:=0
def tw16728665124626538185:=0
def tw11223267624272476058:=0
def tw16666818809535336719:=0
def tw15930025861030094625:=0
def tw16263069431800482845:=0
def tw1906641422009221598:=0
def tw13559206965871738595:=0
def tw12842386624299389201:=0
def tw11465393018387560264:=0
def tw7235799325040064587:=0
def tw637220901183796759:=0
def tw3593419720499755970:=0
def tw15029464101117471209:=0
def tw16299929017359323016:=0
def tw13857953135884146930:=0
def tw3630837445062437175:=0
def tw15928614551299946546:=0
def tw1567335610662363370:=0
def tw11554665292369194036:=0
def tw8927494974783139042:=0
def tw12989656569636744055:=0
def tw10458284850218895516:=0
def tw13504612606501320846:=0
def tw17986064051222507120:=0
def tw1143876697687090679:=0
def tw5418458926386428312:=0
def tw1883048723993695376:=0
def tw16029706808558687291:=0
def tw2030455978386351524:=0
def tw14688831473329166543:=0
def tw6462626800489180686:=0
def tw4550324058272069633:=0
def tw1454214630761374638:=0
def tw13497316109819710341:=0
def tw1095788642040616952:=0
def tw3694684000944869018:=0
def tw10585624123582503360:=0
def tw7586167337197180664:=0
def tw7501966540541033922:=0
def tw17570196923536044459:=0
def tw7507025852155166715:=0
def tw8473329831907107576:=0
def tw911576304896924563:=0
def tw4432920319553054834:=0
def tw9732735204099872472:=0
def tw17743914126553826608:=0
def tw17811902635057113193:=0
def tw15001065709410476313:=0
def tw10558248621909147171:=0
def tw575673111806711935:=0
def tw3126602977837942811:=0
def tw14027885952901946717:=0
def tw15623459982784823605:=0
def tw11634209149153813024:=0
def tw11581651499176892416:=0
def tw13973230590551620780:=0
def tw4249935833198839883:=0
def tw757071636766766589:=0
def tw5188389025061904742:=0
def tw251234607747603345:=0
def tw14517268780450885338:=0
def tw3350639714699891094:=0
def tw14130906535507902989:=0
def tw18013306657099339690:=0
def tw3749434835671794670:=0
def tw3208471428451984210:=0
def tw14380506627501058143:=0
def tw13547920855149419574:=0
def tw15169512787553264931:=0
def tw8756464692036696598:=0
def tw2180126323679000052:=0
def tw7461836312056868701:=0
def tw1125153270151918321:=0
def tw16014721561458029147:=0
def tw10007995416780649543:=0
def tw13101607984682146079:=0
def tw13518220463853976241:=0
def tw1387720319466033447:=0
def tw13976790889991772849:=0
def tw2627443328993718017:=0
def tw8529048334133804608:=0
def tw18030207286013144652:=0
def tw4454254088577410338:=0
def tw4500358178727483416:=0
def tw16487318380698638740:=0
def tw14425360014127351081:=0
def tw12810061011714561580:=0
def tw15068725509784502876:=0
def tw4664845164180203459:=0
def tw4659528883205797906:=0
def tw9720964444631494202:=0
def tw1686220686731707984:=0
end PySem.W.Fast
open PySem PySem.W PyProof.Rows
set_option maxRecDepth 100000 in
set_option maxHeartbeats 0 in
theorem PySem.Challenge.cw_worthkinds_k60_whole_finder_holds : PySem.Challenge.rw_worthkinds_k60_whole_finder.Holds := by
 w_on; o_law; k_head; (case hw=>w_witness2)
 k_fill
 refine G.walk (l:=PySem.Challenge.rw_worthkinds_k60_whole_finder) rfl rfl G.law_ok ?nl (fun w h Y=>PySem.W.kIn_of Y) ?F
 case nl=>intro p; kernel_rfl
 case F=>
  intro w mg fa h KX G0 hmg
  obtain ⟨eFinder,aFinder_init,dFinder_init,aFinder_left,dFinder_left,aFinder_ask,dFinder_ask,aFinder_answer,dFinder_answer,aFinder_found,dFinder_found,aFinder_asks,dFinder_asks,CFinder⟩:∃ eFinder aFinder_init dFinder_init aFinder_left dFinder_left aFinder_ask dFinder_ask aFinder_answer dFinder_answer aFinder_found dFinder_found aFinder_asks dFinder_asks,G.XB KX mg eFinder aFinder_init dFinder_init aFinder_left dFinder_left aFinder_ask dFinder_ask aFinder_answer dFinder_answer aFinder_found dFinder_found aFinder_asks dFinder_asks:=by
   refine' ⟨_,_,_,_,_,_,_,_,_,_,_,_,_,⟨?ze,PySem.W.mg_of KX G0 ?ze2,⟨?zpg, ?zhd, ?zpo, ?zsa⟩,⟨?zma, ?zi0m, ?zf0m, ?zkc⟩, ?zn0, ?zn1, ?zn2, ?zn3,G.fo1 ?zi0 ?zl0 ?zg0 ?zk0 ?zf0 (fun F=>F.binds fun _ _ _ _ _ _ us hl=>G.lz2 us hl fun _ _=>rfl),G.fo1 ?zi1 ?zl1 ?zg1 ?zk1 ?zf1 (fun F=>F.binds fun _ _ _ _ _ _ us hl=>G.lz1 us hl fun _=>rfl),G.fo1 ?zi2 ?zl2 ?zg2 ?zk2 ?zf2 (fun F=>F.binds fun _ _ _ _ _ _ us hl=>G.lz1 us hl fun _=>rfl),G.fo1 ?zi3 ?zl3 ?zg3 ?zk3 ?zf3 (fun F=>F.binds fun _ _ _ _ _ _ us hl=>G.lz2 us hl fun _ _=>rfl),G.fo1 ?zi4 ?zl4 ?zg4 ?zk4 ?zf4 (fun F=>F.binds fun _ _ _ _ _ _ us hl=>G.lz1 us hl fun _=>rfl),G.fo1 ?zi5 ?zl5 ?zg5 ?zk5 ?zf5 (fun F=>F.binds fun _ _ _ _ _ _ us hl=>G.lz1 us hl fun _=>rfl)⟩⟩
   (case ze|ze2|zi0|zl0|zg0|zk0=>k_is)
   (case zf0=>kernel_rfl)
   (case zi1|zl1|zg1|zk1=>k_is)
   (case zf1=>kernel_rfl)
   (case zi2|zl2|zg2|zk2=>k_is)
   (case zf2=>kernel_rfl)
   (case zi3|zl3|zg3|zk3=>k_is)
   (case zf3=>kernel_rfl)
   (case zi4|zl4|zg4|zk4=>k_is)
   (case zf4=>kernel_rfl)
   (case zi5|zl5|zg5|zk5=>k_is)
   (case zf5=>kernel_rfl)
   (case zi0m=>k_is)
   (case zf0m=>kernel_rfl)
   (case zkc=>k_is)
   (case zpg|zhd|zpo|zsa|zma=>kernel_rfl)
   (case zn0|zn1|zn2|zn3=>unfold L2.NoAttr; kernel_rfl)
  obtain ⟨a0,d0,C0⟩:∃ a d,G.Fn _ mg "_law_cell" G.s_1d ["_law_script","_law_k"] a d:=by
   refine' ⟨_,_,G.fn1 KX G0 ?e ?l ?g ?k (fun F=>F.binds fun _ _ _ _ _ _ us hl=>G.lz2 us hl fun _ _=>rfl)⟩
   (case e|l|g|k=>k_is)
  obtain ⟨a1,d1,C1⟩:∃ a d,G.Fn _ mg "_law_pick" G.s_5 ["_law_script","_law_k","_law_many"] a d:=by
   refine' ⟨_,_,G.fn1 KX G0 ?e ?l ?g ?k (fun F=>F.binds fun _ _ _ _ _ _ us hl=>G.lz3 us hl fun _ _ _=>rfl)⟩
   (case e|l|g|k=>k_is)
  obtain ⟨a2,d2,C2⟩:∃ a d,G.Fn _ mg "_law_word_of" G.s_z ["_law_script","_law_at_here"] a d:=by
   refine' ⟨_,_,G.fn1 KX G0 ?e ?l ?g ?k (fun F=>F.binds fun _ _ _ _ _ _ us hl=>G.lz2 us hl fun _ _=>rfl)⟩
   (case e|l|g|k=>k_is)
  obtain ⟨a3,d3,C3⟩:∃ a d,G.Fn _ mg "_law_leaf_kind" G.z1p ["_law_script","_law_at_here"] a d:=by
   refine' ⟨_,_,G.fn1 KX G0 ?e ?l ?g ?k (fun F=>F.binds fun _ _ _ _ _ _ us hl=>G.lz2 us hl fun _ _=>rfl)⟩
   (case e|l|g|k=>k_is)
  obtain ⟨a4,d4,C4⟩:∃ a d,G.Fn _ mg "_law_kind" G.s_k ["_law_script","_law_at_here","_law_deep"] a d:=by
   refine' ⟨_,_,G.fn1 KX G0 ?e ?l ?g ?k (fun F=>F.binds fun _ _ _ _ _ _ us hl=>G.lz3 us hl fun _ _ _=>rfl)⟩
   (case e|l|g|k=>k_is)
  obtain ⟨a5,d5,C5⟩:∃ a d,G.Fn _ mg "_law_rows_of" G.s_j ["_law_lists"] a d:=by
   refine' ⟨_,_,G.fn1 KX G0 ?e ?l ?g ?k (fun F=>F.binds fun _ _ _ _ _ _ us hl=>G.lz1 us hl fun _=>rfl)⟩
   (case e|l|g|k=>k_is)
  obtain ⟨a6,d6,C6⟩:∃ a d,G.Fn _ mg "_law_all" G.s_8 ["_law_kind_here"] a d:=by
   refine' ⟨_,_,G.fn1 KX G0 ?e ?l ?g ?k (fun F=>F.binds fun _ _ _ _ _ _ us hl=>G.lz1 us hl fun _=>rfl)⟩
   (case e|l|g|k=>k_is)
  obtain ⟨a7,d7,C7⟩:∃ a d,G.Fn _ mg "_law_size" G.s_d ["_law_kind_here"] a d:=by
   refine' ⟨_,_,G.fn1 KX G0 ?e ?l ?g ?k (fun F=>F.binds fun _ _ _ _ _ _ us hl=>G.lz1 us hl fun _=>rfl)⟩
   (case e|l|g|k=>k_is)
  obtain ⟨a8,d8,C8⟩:∃ a d,G.Fn _ mg "_law_small" G.s_13 ["_law_script","_law_at_here","_law_most"] a d:=by
   refine' ⟨_,_,G.fn1 KX G0 ?e ?l ?g ?k (fun F=>F.binds fun _ _ _ _ _ _ us hl=>G.lz3 us hl fun _ _ _=>rfl)⟩
   (case e|l|g|k=>k_is)
  obtain ⟨a9,d9,C9⟩:∃ a d,G.Fn _ mg "is_whole" G.s_p ["thing"] a d:=by
   refine' ⟨_,_,G.fn1 KX G0 ?e ?l ?g ?k (fun F=>F.binds fun _ _ _ _ _ _ us hl=>G.lz1 us hl fun _=>rfl)⟩
   (case e|l|g|k=>k_is)
  obtain ⟨a10,d10,C10⟩:∃ a d,G.Fn _ mg "is_span" G.s_1e ["low","high","least","most"] a d:=by
   refine' ⟨_,_,G.fn1 KX G0 ?e ?l ?g ?k (fun F=>F.binds fun _ _ _ _ _ _ us hl=>G.lz4 us hl fun _ _ _ _=>rfl)⟩
   (case e|l|g|k=>k_is)
  obtain ⟨a11,d11,C11⟩:∃ a d,G.Fn _ mg "is_tuple_of" G.s_f ["thing","least","most"] a d:=by
   refine' ⟨_,_,G.fn1 KX G0 ?e ?l ?g ?k (fun F=>F.binds fun _ _ _ _ _ _ us hl=>G.lz3 us hl fun _ _ _=>rfl)⟩
   (case e|l|g|k=>k_is)
  obtain ⟨a12,d12,C12⟩:∃ a d,G.Fn _ mg "is_word" G.s_9 ["thing"] a d:=by
   refine' ⟨_,_,G.fn1 KX G0 ?e ?l ?g ?k (fun F=>F.binds fun _ _ _ _ _ _ us hl=>G.lz1 us hl fun _=>rfl)⟩
   (case e|l|g|k=>k_is)
  obtain ⟨a13,d13,C13⟩:∃ a d,G.Fn _ mg "is_choice" G.s_11 ["thing"] a d:=by
   refine' ⟨_,_,G.fn1 KX G0 ?e ?l ?g ?k (fun F=>F.binds fun _ _ _ _ _ _ us hl=>G.lz1 us hl fun _=>rfl)⟩
   (case e|l|g|k=>k_is)
  obtain ⟨a14,d14,C14⟩:∃ a d,G.Fn _ mg "are_choices" G.s_x ["thing"] a d:=by
   refine' ⟨_,_,G.fn1 KX G0 ?e ?l ?g ?k (fun F=>F.binds fun _ _ _ _ _ _ us hl=>G.lz1 us hl fun _=>rfl)⟩
   (case e|l|g|k=>k_is)
  obtain ⟨a15,d15,C15⟩:∃ a d,G.Fn _ mg "is_kind_within" G.s_b ["thing","levels"] a d:=by
   refine' ⟨_,_,G.fn1 KX G0 ?e ?l ?g ?k (fun F=>F.binds fun _ _ _ _ _ _ us hl=>G.lz2 us hl fun _ _=>rfl)⟩
   (case e|l|g|k=>k_is)
  obtain ⟨a16,d16,C16⟩:∃ a d,G.Fn _ mg "are_kinds_within" G.z1s ["thing","levels"] a d:=by
   refine' ⟨_,_,G.fn1 KX G0 ?e ?l ?g ?k (fun F=>F.binds fun _ _ _ _ _ _ us hl=>G.lz2 us hl fun _ _=>rfl)⟩
   (case e|l|g|k=>k_is)
  obtain ⟨a17,d17,C17⟩:∃ a d,G.Fn _ mg "is_kind" G.s_1 ["thing"] a d:=by
   refine' ⟨_,_,G.fn1 KX G0 ?e ?l ?g ?k (fun F=>F.binds fun _ _ _ _ _ _ us hl=>G.lz1 us hl fun _=>rfl)⟩
   (case e|l|g|k=>k_is)
  obtain ⟨a18,d18,C18⟩:∃ a d,G.Fn _ mg "need_kind" G.s_n ["kind"] a d:=by
   refine' ⟨_,_,G.fn1 KX G0 ?e ?l ?g ?k (fun F=>F.binds fun _ _ _ _ _ _ us hl=>G.lz1 us hl fun _=>rfl)⟩
   (case e|l|g|k=>k_is)
  obtain ⟨a19,d19,C19⟩:∃ a d,G.Fn _ mg "count_of" G.s_2 ["kind"] a d:=by
   refine' ⟨_,_,G.fn1 KX G0 ?e ?l ?g ?k (fun F=>F.binds fun _ _ _ _ _ _ us hl=>G.lz1 us hl fun _=>rfl)⟩
   (case e|l|g|k=>k_is)
  obtain ⟨a20,d20,C20⟩:∃ a d,G.Fn _ mg "count_of_parts" G.s_t ["kinds"] a d:=by
   refine' ⟨_,_,G.fn1 KX G0 ?e ?l ?g ?k (fun F=>F.binds fun _ _ _ _ _ _ us hl=>G.lz1 us hl fun _=>rfl)⟩
   (case e|l|g|k=>k_is)
  obtain ⟨a21,d21,C21⟩:∃ a d,G.Fn _ mg "count_shorter" G.s_l ["kind","length"] a d:=by
   refine' ⟨_,_,G.fn1 KX G0 ?e ?l ?g ?k (fun F=>F.binds fun _ _ _ _ _ _ us hl=>G.lz2 us hl fun _ _=>rfl)⟩
   (case e|l|g|k=>k_is)
  obtain ⟨a22,d22,C22⟩:∃ a d,G.Fn _ mg "how_many" G.s_y ["kind"] a d:=by
   refine' ⟨_,_,G.fn1 KX G0 ?e ?l ?g ?k (fun F=>F.binds fun _ _ _ _ _ _ us hl=>G.lz1 us hl fun _=>rfl)⟩
   (case e|l|g|k=>k_is)
  obtain ⟨a23,d23,C23⟩:∃ a d,G.Fn _ mg "most_asks" G.s_18 ["kind"] a d:=by
   refine' ⟨_,_,G.fn1 KX G0 ?e ?l ?g ?k (fun F=>F.binds fun _ _ _ _ _ _ us hl=>G.lz1 us hl fun _=>rfl)⟩
   (case e|l|g|k=>k_is)
  obtain ⟨a24,d24,C24⟩:∃ a d,G.Fn _ mg "_law_word" G.s_6 ["_law_kept"] a d:=by
   refine' ⟨_,_,G.fn1 KX G0 ?e ?l ?g ?k (fun F=>F.binds fun _ _ _ _ _ _ us hl=>G.lz1 us hl fun _=>rfl)⟩
   (case e|l|g|k=>k_is)
  obtain ⟨a25,d25,C25⟩:∃ a d,G.Fn _ mg "_law_tried" G.s_3 ["_law_what","_law_one","_law_is_less"] a d:=by
   refine' ⟨_,_,G.fn1 KX G0 ?e ?l ?g ?k (fun F=>F.binds fun _ _ _ _ _ _ us hl=>G.lz3 us hl fun _ _ _=>rfl)⟩
   (case e|l|g|k=>k_is)
  obtain ⟨a26,d26,C26⟩:∃ a d,G.Fn _ mg "words_of_pick" G.s_m ["kind"] a d:=by
   refine' ⟨_,_,G.fn1 KX G0 ?e ?l ?g ?k (fun F=>F.binds fun _ _ _ _ _ _ us hl=>G.lz1 us hl fun _=>rfl)⟩
   (case e|l|g|k=>k_is)
  obtain ⟨a27,d27,C27⟩:∃ a d,G.Fn _ mg "worth_at" G.s_h ["kind","number"] a d:=by
   refine' ⟨_,_,G.fn1 KX G0 ?e ?l ?g ?k (fun F=>F.binds fun _ _ _ _ _ _ us hl=>G.lz2 us hl fun _ _=>rfl)⟩
   (case e|l|g|k=>k_is)
  obtain ⟨a28,d28,C28⟩:∃ a d,G.Fn _ mg "many_at" G.s_1f ["kind","number"] a d:=by
   refine' ⟨_,_,G.fn1 KX G0 ?e ?l ?g ?k (fun F=>F.binds fun _ _ _ _ _ _ us hl=>G.lz2 us hl fun _ _=>rfl)⟩
   (case e|l|g|k=>k_is)
  obtain ⟨a29,d29,C29⟩:∃ a d,G.Fn _ mg "parts_at" G.s_w ["kinds","number"] a d:=by
   refine' ⟨_,_,G.fn1 KX G0 ?e ?l ?g ?k (fun F=>F.binds fun _ _ _ _ _ _ us hl=>G.lz2 us hl fun _ _=>rfl)⟩
   (case e|l|g|k=>k_is)
  obtain ⟨a30,d30,C30⟩:∃ a d,G.Fn _ mg "has_worth" G.s_i ["kind","thing"] a d:=by
   refine' ⟨_,_,G.fn1 KX G0 ?e ?l ?g ?k (fun F=>F.binds fun _ _ _ _ _ _ us hl=>G.lz2 us hl fun _ _=>rfl)⟩
   (case e|l|g|k=>k_is)
  obtain ⟨a31,d31,C31⟩:∃ a d,G.Fn _ mg "have_parts" G.z1t ["kinds","parts"] a d:=by
   refine' ⟨_,_,G.fn1 KX G0 ?e ?l ?g ?k (fun F=>F.binds fun _ _ _ _ _ _ us hl=>G.lz2 us hl fun _ _=>rfl)⟩
   (case e|l|g|k=>k_is)
  obtain ⟨a32,d32,C32⟩:∃ a d,G.Fn _ mg "is_worth" G.s_14 ["kind","thing"] a d:=by
   refine' ⟨_,_,G.fn1 KX G0 ?e ?l ?g ?k (fun F=>F.binds fun _ _ _ _ _ _ us hl=>G.lz2 us hl fun _ _=>rfl)⟩
   (case e|l|g|k=>k_is)
  obtain ⟨a33,d33,C33⟩:∃ a d,G.Fn _ mg "need_worth" G.s_1a ["kind","worth"] a d:=by
   refine' ⟨_,_,G.fn1 KX G0 ?e ?l ?g ?k (fun F=>F.binds fun _ _ _ _ _ _ us hl=>G.lz2 us hl fun _ _=>rfl)⟩
   (case e|l|g|k=>k_is)
  obtain ⟨a34,d34,C34⟩:∃ a d,G.Fn _ mg "place_of" G.s_7 ["kind","worth"] a d:=by
   refine' ⟨_,_,G.fn1 KX G0 ?e ?l ?g ?k (fun F=>F.binds fun _ _ _ _ _ _ us hl=>G.lz2 us hl fun _ _=>rfl)⟩
   (case e|l|g|k=>k_is)
  obtain ⟨a35,d35,C35⟩:∃ a d,G.Fn _ mg "place_of_parts" G.s_19 ["kinds","parts"] a d:=by
   refine' ⟨_,_,G.fn1 KX G0 ?e ?l ?g ?k (fun F=>F.binds fun _ _ _ _ _ _ us hl=>G.lz2 us hl fun _ _=>rfl)⟩
   (case e|l|g|k=>k_is)
  obtain ⟨a36,d36,C36⟩:∃ a d,G.Fn _ mg "number_of" G.s_1b ["kind","worth"] a d:=by
   refine' ⟨_,_,G.fn1 KX G0 ?e ?l ?g ?k (fun F=>F.binds fun _ _ _ _ _ _ us hl=>G.lz2 us hl fun _ _=>rfl)⟩
   (case e|l|g|k=>k_is)
  obtain ⟨a37,d37,C37⟩:∃ a d,G.Fn _ mg "_law_ends" G.jH ["_law_finder","_law_most"] a d:=by
   refine' ⟨_,_,G.fn1 KX G0 ?e ?l ?g ?k (fun F=>F.binds fun _ _ _ _ _ _ us hl=>G.lz2 us hl fun _ _=>rfl)⟩
   (case e|l|g|k=>k_is)
  obtain ⟨a38,d38,C38⟩:∃ a d,G.Fn _ mg "_law_places" G.s_o ["_law_thing"] a d:=by
   refine' ⟨_,_,G.fn1 KX G0 ?e ?l ?g ?k (fun F=>F.binds fun _ _ _ _ _ _ us hl=>G.lz1 us hl fun _=>rfl)⟩
   (case e|l|g|k=>k_is)
  obtain ⟨a39,d39,C39⟩:∃ a d,G.Fn _ mg "_law_at" G.s_15 ["_law_thing","_law_place"] a d:=by
   refine' ⟨_,_,G.fn1 KX G0 ?e ?l ?g ?k (fun F=>F.binds fun _ _ _ _ _ _ us hl=>G.lz2 us hl fun _ _=>rfl)⟩
   (case e|l|g|k=>k_is)
  obtain ⟨a40,d40,C40⟩:∃ a d,G.Fn _ mg "_law_put" G.s_c ["_law_thing","_law_place","_law_new"] a d:=by
   refine' ⟨_,_,G.fn1 KX G0 ?e ?l ?g ?k (fun F=>F.binds fun _ _ _ _ _ _ us hl=>G.lz3 us hl fun _ _ _=>rfl)⟩
   (case e|l|g|k=>k_is)
  obtain ⟨a41,d41,C41⟩:∃ a d,G.Fn _ mg "_law_spoilt_thing" G.s_16 ["_law_script","_law_at_here","_law_thing"] a d:=by
   refine' ⟨_,_,G.fn1 KX G0 ?e ?l ?g ?k (fun F=>F.binds fun _ _ _ _ _ _ us hl=>G.lz3 us hl fun _ _ _=>rfl)⟩
   (case e|l|g|k=>k_is)
  obtain ⟨a42,d42,C42⟩:∃ a d,G.Fn _ mg "_law_whole" G.s_u ["_law_thing","_law_low","_law_high"] a d:=by
   refine' ⟨_,_,G.fn1 KX G0 ?e ?l ?g ?k (fun F=>F.binds fun _ _ _ _ _ _ us hl=>G.lz3 us hl fun _ _ _=>rfl)⟩
   (case e|l|g|k=>k_is)
  obtain ⟨a43,d43,C43⟩:∃ a d,G.Fn _ mg "_law_is_word" G.s_v ["_law_thing"] a d:=by
   refine' ⟨_,_,G.fn1 KX G0 ?e ?l ?g ?k (fun F=>F.binds fun _ _ _ _ _ _ us hl=>G.lz1 us hl fun _=>rfl)⟩
   (case e|l|g|k=>k_is)
  obtain ⟨a44,d44,C44⟩:∃ a d,G.Fn _ mg "_law_is_kind" G.s_a ["_law_thing","_law_deep"] a d:=by
   refine' ⟨_,_,G.fn1 KX G0 ?e ?l ?g ?k (fun F=>F.binds fun _ _ _ _ _ _ us hl=>G.lz2 us hl fun _ _=>rfl)⟩
   (case e|l|g|k=>k_is)
  obtain ⟨a45,d45,C45,hB⟩:∃ a d,G.Fn _ mg "law" G.s_0 ["_law_script"] a d/\∀ (s:PySem.Shared) (v:PySem.Value),BindsTo s d ⟨[v],[]⟩ [("_law_script",v)]:=by
   refine' ⟨_,_,G.fn1 KX G0 ?e ?l ?g ?k (fun F=>F.binds fun _ _ _ _ _ _ us hl=>G.lz1 us hl fun _=>rfl),fun s v=> .of_eq rfl⟩
   (case e|l|g|k=>k_is)
  refine' G.fin_ KX G0 hmg ⟨eFinder,aFinder_init,dFinder_init,aFinder_left,dFinder_left,aFinder_ask,dFinder_ask,aFinder_answer,dFinder_answer,aFinder_found,dFinder_found,aFinder_asks,dFinder_asks,CFinder,a0,d0,C0,a1,d1,C1,a2,d2,C2,a3,d3,C3,a4,d4,C4,a5,d5,C5,a6,d6,C6,a7,d7,C7,a8,d8,C8,a9,d9,C9,a10,d10,C10,a11,d11,C11,a12,d12,C12,a13,d13,C13,a14,d14,C14,a15,d15,C15,a16,d16,C16,a17,d17,C17,a18,d18,C18,a19,d19,C19,a20,d20,C20,a21,d21,C21,a22,d22,C22,a23,d23,C23,a24,d24,C24,a25,d25,C25,a26,d26,C26,a27,d27,C27,a28,d28,C28,a29,d29,C29,a30,d30,C30,a31,d31,C31,a32,d32,C32,a33,d33,C33,a34,d34,C34,a35,d35,C35,a36,d36,C36,a37,d37,C37,a38,d38,C38,a39,d39,C39,a40,d40,C40,a41,d41,C41,a42,d42,C42,a43,d43,C43,a44,d44,C44,a45,d45,C45,PySem.W.mg_none_of KX G0 (by k_is),PySem.W.mg_none_of KX G0 (by k_is),PySem.W.mg_none_of KX G0 (by k_is),PySem.W.mg_none_of KX G0 (by k_is),PySem.W.mg_none_of KX G0 (by k_is),PySem.W.mg_none_of KX G0 (by k_is),PySem.W.mg_none_of KX G0 (by k_is),PySem.W.mg_none_of KX G0 (by k_is),PySem.W.mg_none_of KX G0 (by k_is),PySem.W.mg_none_of KX G0 (by k_is),PySem.W.mg_none_of KX G0 (by k_is),PySem.W.mg_none_of KX G0 (by k_is),PySem.W.mg_none_of KX G0 (by k_is),PySem.W.mg_none_of KX G0 (by k_is),PySem.W.mg_none_of KX G0 (by k_is),PySem.W.mg_none_of KX G0 (by k_is),⟨_,PySem.W.mg_of KX G0 (by k_is),_,rfl⟩⟩ hB ?n0 ?n1 ?n2 ?n3 ?n4 ?n5 ?n6 ?b0 ?b1 ?b2 ?b3 ?b4 ?b5 ?b6 ?b7 ?b8 ?b9 ?b10 ?b11
  (case n0|n1|n2|n3|n4|n5|n6=>k_is)
  (case b0|b1|b2|b3|b4|b5|b6|b7|b8|b9|b10|b11=>kernel_rfl)
