import PyProof.Rows.All
import Wide.All
import OpenK.AllK
import Wide.FinOn
import Lean
import PyProof.EqAt
import PyProof.EqKinds
import PyProof.TupleCall
import PyProof.NeKinds
import PyProof.WalksEnum
import PyProof.StrWalks
import PyProof.ExcAttrAll.ValueError
import PyProof.ZipIter
import KE.KRevIter
import PyProof.ListNew
import PyProof.WalksMore
import PyProof.ReprLoop
import PyProof.FactsAll.list
import PyProof.CollectIter
import PyProof.TupleOfGen
import PyProof.Draws
import PyProof.EnumMake
import PyProof.SeqI3
import KE.KMinBuiltin
import PyProof.SetRoads
import PyProof.CollectWalk
import KE.KDictSum
import PyProof.AttrMiss
import PyProof.IsiH_tuple
import KE.KDictOf
import PyProof.FitsBits
import PyProof.SliceList
import PyProof.InstFacts
import PyProof.Rows.StrNews2
import PyProof.StrBlockH
import PyProof.CallStr
import KE.KIntText
import PyProof.Rows.RuleB_pow
import KE.KSortTup
import PyProof.ReprRoads
import KE.KLam
import PyProof.MaxThree
import PyProof.DictRoadsH
import PyProof.FactsAll.dict
import PyProof.DictItems
import PyProof.DictValues
import PyProof.StrLawsRepr
import PyProof.StrLawsTight
import PyProof.StrLawsLast
import PyProof.StrLawsNeg
import PyProof.Rows.StrItems
import PySem.Challenge.RW_worthkinds_k74_whole_rule_texts_spoilt
open PySem renaming wpAny_bind->a4,wpAny_pure->aq,wpAny_mono->aB,wpAny_standAt->aJ,mem_of_lookup->aM,wpAny_holding->aV,wpAny_truthy_bool->aZ,wpAny_field->bo,wpAny_passesOwn->bx,wpAny_execs_nil->bG,call_meets->bJ,wpAny_newObj_type->bQ,typeIs_str->c8,sizeLine_eq->cz,wpAny_point->cV,intText?->dk,seqSlot_of->f8
open PySem.W renaming Frag->a6,kitOne->aC,kia_one->bf,mg_of->bj,fnOf->bu,nsIn->bw,keepIn->bB,codeHdIn->cf,findIn->cD,cellsFrom_some->cF,codeIn->cG,tabObj->cL,excIn->dq,instObj->dH,lookIn->dO,mroIn->dZ,codeRec_of->eA,specialIn->eJ,kitx_list->eK,kitx_dict->eL,plainGet->eY,takesIn->fg
open PySem.Heap renaming get?_push_of_some->a7,lt_size->a9,get?_push_size->ao,get?_update_other->aH,get?_update_self->bz,FlyingW->b_,SameBut->cC,size_push->dS
open List renaming mem_cons_of_mem->a8,length_append->aa,mem_cons_self->ac,length_cons->ae,lookup_cons->ai,mem_cons->aj,mem_append_right->am,replicate->au,getElem?_map->av,getElem?_replicate->aw,size_toArray->ax,getElem?_set_ne->az,length_map->aD,getElem?_eq_getElem->aF,getElem?_append_right->aG,length_nil->aI,append_nil->aK,getElem?_append_left->aL,mem_singleton->aQ,length_replicate->aR,getElem?_eq_some_iff->aT,getElem?_set_self->aU,all_eq_true->aY,append_assoc->a_,mem_append->bc,map_cons->bg,drop_eq_getElem_cons->bi,mem_append_left->bn,length_eq_zero_iff->bp,range->bF,mem_filterMap->bI,length_set->bN,nil_append->bO,map_map->bS,getElem?_cons_succ->bW,filterMap_cons->ci,mem_filter->cr,nodup_cons->cu,of_mem_zip->cw,mem_map->cJ,take_of_length_le->cK,length_singleton->cM,getElem?_eq_none->cN,take_append_drop->cP,drop_length->cR,cons_append->cS,forIn_cons->c_,replicate_succ->d6,map_nil->d7,foldl->de,drop_zero->dg,length_take->dr,length_drop->dt,prefix_refl->du,range_succ_eq_map->dD,append_inj_right'->dG,eq_nil_or_concat->dL,concat_eq_append->dM,mem_range->dN,mem_of_getElem?->dP,getElem?_zipIdx->dQ,getElem_toArray->dR,replicate_zero->dX,map_eq_nil_iff->dY,all_cons->d_,flatten_cons->eN,all_map->eQ,isEmpty_cons->eV,length->f9,foldl_cons->fj,map_append->fy
open Nat renaming le_refl->ag,lt_of_lt_of_le->ar,le_trans->ay,ne_of_lt->aA,lt_irrefl->aN,le_add_right->aO,zero_le->bR,le_of_succ_le->c7,ne_of_gt->ce,mul_comm->dB,not_lt->dC,lt_of_le_of_lt->eD,le_of_lt->eI,le_of_eq->eT,lt_succ_of_lt->eU,strongRecOn->fu
open Bool renaming and_eq_true->ah,false_ne_true->aE,false_eq_true->bK,and_eq_false_iff->cO,and_eq_true_iff->cW,or_eq_true->d0,eq_iff_iff->fx
open Option.some renaming inj->ak
open False renaming elim->aP
open PySem.Str renaming ofString->aS,length->fA,join->fD
open PySem.Obj renaming mapFields->aW,data_mapFields->cx,isFreed_of_fields->dI
open PyProof.Rows renaming slot_tuple_getitem->aX,callWith_type1->c6
open PySem.Sem renaming wp_mono->ba,wp_cmd_standAt->bM,wp_bind'->bT,wp_holding->dj,wp_operate->dU,wp_runValue->fq,wp->fB
open PySem.F renaming excBase_ValueError->bb,plainAttrs_str->bv,plainAttrs_list->bV,args_tuple_add_2->ck,entry_tuple_add->cA,slot_tuple_add->cH,slot_bool_hash->cQ,slot_int_rmul->cY,slot_str_startswith->d8,type_str_startswith->d9,args_str_split_2->dh,entry_str_split->dn,slot_tuple_mul->dv,attr_ValueError->dw,slot_list_count->dy,slot_list_index->dz,slot_str_split->dA,args_int_rmul_2->eO,slot_tuple_rmul->eR,slot_int_index->e_,entry_int_rmul->f7,fills_int_mul->fk
open PySem.Txt renaming partition->bh,endswith->bH,startswith->bL,startswith3->bP,slice->bX,split->cB
open Ne renaming symm->bq
open PySem.Builtin.Str renaming strSliceIndices->br,occurrences->bE,strSub->cy,strKind->dW
open PySem.Challenge renaming rw_worthkinds_k74_whole_rule_texts_spoilt->bA
open Option renaming isSome_iff_exists->bU,getD_none->eZ
open PySem.StrLaws renaming subAt_eq->bY,occ_length_le->dJ,found_one->eW,At->fE
open PySem.SeqAt renaming EqAt->bZ,RcNeAt->cI,RcAt->dE
open Array renaming getElem?_eq_some_iff->c9,length_toList->cj,append_assoc->di,all_eq_true'->eG
open PySem.Builtin.Slice renaming slicePlaces->cg,sliceAdjust->dm
open PySem.Builtin.List renaming listTooLong->cq
open PySem.Around renaming frames_deeper->cT
open PySem.Calls renaming evalArgs_plain->cU,Name_function_global->da,Constant_str->e9,spliced_cons->ei,spliced_nil->eM
open PySem.Builtin.Tuple renaming tupleItemsOf->db,tupleTooMany->df
open PySem.NumText renaming step->dF
open PySem.SeqAt.EqAt renaming of_refs->eB,same->fo
open PySem.Code renaming quiet_builtin->eF
open Int renaming emod_lt_of_pos->eH,emod_nonneg->fv
open PySem.PassesOwn renaming leaving->eX
noncomputable section
set_option maxHeartbeats 4000000
set_option Elab.async false
set_option linter.all false
set_option compiler.extract_closed false
set_option maxRecDepth 100000
namespace L2
open PySem PySem.Spec PyProof.Rows
noncomputable abbrev Key:=Sum Bool Str
def v5:Key->Value->Bool
 | .inl k,.bool b=>b == k
 | .inl _,_=>false
 | .inr x,v=>Value.isStrOf x v
def Kv (w:World):Key->Int
 | .inl k=>hashInt (if k then 1 else 0)
 | .inr x=>hashStr w x
theorem zF:∀{k:Key} {v:Value},v5 k v=true->(∃(i:Bool) (t:Tok),k=Sum.inl i/\v=Value.bool i)\/(∃x t,k=Sum.inr x/\v=Value.str x t)
 | .inl i,v,h=>by
  cases v <;> first | exact .inl ⟨i,0,rfl,congrArg _ (eq_of_beq h)⟩ | cases h
 | .inr x,v,h=>by
  obtain⟨t,e⟩:=Value.isStrOf_shape h;exact .inr ⟨x,t,rfl,e⟩
theorem v6 (a b:Bool):decide ((Sum.inl a:Key)=Sum.inl b)=(a == b):=by
 by_cases e:a=b
 ·subst e;simp
 ·have h:¬ (Sum.inl a:Key)=Sum.inl b:=λq=>e (Sum.inl.inj q);rw[decide_eq_false h];exact(beq_eq_false_iff_ne.mpr e).symm
theorem v7 (a b:Str):decide ((Sum.inr a:Key)=Sum.inr b)=decide (a=b):=by
 by_cases e:a=b
 ·simp
 ·have h:¬ (Sum.inr a:Key)=Sum.inr b:=λq=>e (Sum.inr.inj q);rw[decide_eq_false h,decide_eq_false e]
theorem v8 (a:Bool)(b:Str):decide ((Sum.inl a:Key)=Sum.inr b)=false:=decide_eq_false (λq=>nomatch q)
theorem v9 (a:Str)(b:Bool):decide ((Sum.inr a:Key)=Sum.inl b)=false:=decide_eq_false (λq=>nomatch q)
theorem ul {prog:Program}{w:World}{A:Around}{E:Value->Shared->Prop}{s:Shared}{b:Bool}{Q:Int->Shared->Prop}(h:Q (hashInt (if b then 1 else 0)) { s with toks:=s.toks+1 }):wpAny (model prog w) A (pyHash (.bool b)) Q E s:=by
 have hT:s.TypeIs (.bool b) "bool":=rfl;unfold pyHash;have hv:[Value.bool b].any Value.onHeap=false:=rfl;refine a4 ?_;rw[cRoomFor,if_neg (by rw[hv];exact aE)];refine aq ?_
 refine a4 (wpAny_specialOf hT cQ.lookup ?_);show wpAny _ _ (if (some (Value.builtin "int.__hash__") == some Value.none)=true then _ else _) Q E s
 rw[if_neg (by rw[beq_builtin_none];exact aE)]
 refine a4 (wpAny_specialOf hT cQ.lookup ?_);show wpAny _ _ (callSpecialIfBoundUnlessNone? (.bool b) "__hash__" _ >>= _) Q E s;refine a4 (wpAny_callSpecialIfBoundUnlessNone?_slot hT cQ
  (wpAny_call_entry cQ hT F.entry_int_hash
   (show wpAny _ _ (do ret (← mkInt (rawHash (if b then 1 else 0)))) _ _ s from by cases b <;> refine wpAny_ret_mkInt ?_ <;> exact aq h) (F.args_int_hash_1 _)))
def um (prog:Program)(w:World):PySem.KeyKind prog w Key where
 is:=v5
 hash:=Kv w
 inj:=λv a b ha hb=>by
  rcases zF ha with ⟨i,t,rfl,rfl⟩ | ⟨x,t,rfl,rfl⟩
  ·rcases zF hb with ⟨j,u,rfl,e⟩ | ⟨y,u,rfl,e⟩
   ·injection e with e1;rw[e1]
   ·exact nomatch e
  ·rcases zF hb with ⟨j,u,rfl,e⟩ | ⟨y,u,rfl,e⟩
   ·exact nomatch e
   ·injection e with e1 _;rw[e1]
 byValue:=λk v h=>by
  rcases zF h with ⟨i,t,rfl,rfl⟩ | ⟨x,t,rfl,rfl⟩ <;> rfl
 pyHash:=λhv h=>by
  rcases zF hv with ⟨i,t,rfl,rfl⟩ | ⟨x,t,rfl,rfl⟩
  ·exact ul h
  ·exact wpAny_pyHash_str h
 eqBool:=λhu hv h=>by
  rcases zF hu with ⟨i,t,rfl,rfl⟩ | ⟨x,t,rfl,rfl⟩
  ·rcases zF hv with ⟨j,u,rfl,rfl⟩ | ⟨y,u,rfl,rfl⟩
   ·rw[v6]at h;exact bZ.bool_bool i j _ _ _ _ h
   ·rw[v8]at h;exact bZ.bool_str i y u _ _ _ _ h
  ·rcases zF hv with ⟨j,u,rfl,rfl⟩ | ⟨y,u,rfl,rfl⟩
   ·rw[v9]at h;exact bZ.str_bool x t j _ _ _ _ h
   ·rw[v7]at h;exact wpAny_eqBool_str h
 «strs»:=λk x t v h=>by
  rcases zF h with ⟨i,u,rfl,e⟩ | ⟨y,u,rfl,e⟩
  ·exact nomatch e
  ·injection e with e1 _;subst e1;cases v <;> rfl
end L2
namespace L2
open PySem PySem.Spec PyProof.Rows
inductive V where
 | non | bl (b:Bool) | int (i:Int) | str (x:Str) | byt (b:Array UInt8) | flt (b:UInt64) | ref (a:Addr) | ty (n:String)
 deriving DecidableEq
noncomputable def zR:V->Value->Prop
 | .non,u=>u=Value.none
 | .bl b,u=>u=Value.bool b
 | .int i,u=>∃t,u=Value.int i t
 | .str x,u=>∃t,u=Value.str x t
 | .byt b,u=>∃t,u=Value.bytes b t
 | .flt b,u=>∃t,u=Value.float b t
 | .ref a,u=>u=Value.ref a
 | .ty n,u=>u=Value.type n
abbrev zM:List V->List Value->Prop:=Paired zR
theorem zM.length {xs:List V}{us:List Value}(r:zM xs us):xs.length=us.length:=Paired.length r
theorem zM.get:∀{xs:List V} {us:List Value} {i:Nat} {x:V},zM xs us->xs[i]? =some x->∃u,us[i]? =some u/\zR x u
 | _,_,_,_,.nil,e=>by simp at e
 | _,_,0,_,.cons r _,e=>by simp at e;subst e;exact⟨_,rfl,r⟩
 | _,_,i+1,x,.cons _ t,e=>by
  obtain⟨u,h1,h2⟩:=zM.get t (by simpa using e)
  exact⟨u,by simpa using h1,h2⟩
theorem zM.append:∀{xs ys:List V} {us ws:List Value},zM xs us->zM ys ws->zM (xs++ys) (us++ws)
 | _,_,_,_,.nil,s=>s
 | _,_,_,_,.cons r t,s=> .cons r (zM.append t s)
theorem zM.take:∀{xs:List V} {us:List Value} (n:Nat),zM xs us->zM (xs.take n) (us.take n)
 | _,_,0,_=> .nil
 | _,_,_+1,.nil=> .nil
 | _,_,n+1,.cons r t=> .cons r (zM.take n t)
theorem zM.drop:∀{xs:List V} {us:List Value} (n:Nat),zM xs us->zM (xs.drop n) (us.drop n)
 | _,_,0,r=>r
 | _,_,_+1,.nil=> .nil
 | _,_,n+1,.cons _ t=>zM.drop n t
def xQ:Option V->Option Value->Prop
 | some v,some u=>zR v u
 | none,none=>True
 | _,_=>False
def KV {κ:Type}:List (κ×V)->List (κ×Value)->Prop:=Paired λ(p:κ×V) (q:κ×Value)=>p.1=q.1/\zR p.2 q.2
def kV:Key->V
 | .inl i=> .bl i
 | .inr x=> .str x
inductive HO where
 | lst (xs:List V)
 | tup (xs:List V)
 | dK (kvs:List (Key×V)) | dT (kvs:List (List Key×Addr×V))
 | set (S:Int->Bool) (n:Nat)
 | ins (C dx:Addr) (fs:List (Str×V))
 | own (x:Addr)
 | xd (fs:List (Str×V))
 | met (f x:Addr)
 | rng (lo hi:Int)
 | frz (o:Obj) (u:HO)
 | tbl (ps:Array Value) (q:Str)
 | ext (φ:Heap->Prop)
noncomputable abbrev Hp:=Addr->Option HO
def upd (H:Hp)(a:Addr)(o:HO):Hp:=λb=>if b=a then some o else H b
theorem zj {H:Hp}{a:Addr}{o:HO}:upd H a o a=some o:=by unfold upd;rw[if_pos rfl]
theorem za {H:Hp}{a b:Addr}{o:HO}(h:b ≠ a):upd H a o b=H b:=by unfold upd;rw[if_neg h]
theorem zk {H:Hp}{a b:Addr}{o:HO}(h:H a=some o)(h' :H b=none):a ≠ b:=by
 intro e;subst e;rw[h]at h';cases h'
noncomputable def ITN (h:Heap)(a:Addr)(its:Array Value):Prop:=IsTup h a its/\((∃i t,its[0]? =some (Value.int i t))\/∃o,h.get? a=some o/\o.dict=none)
theorem ITN.new (h:Heap)(its:Array Value):ITN (h.push { cls:= .type "tuple",data:= .seq its }) h.objs.size its:=⟨IsTup.new h its,.inr ⟨_,ao _ rfl,rfl⟩⟩
section
variable (P:Program)(w:World)
def zW (H:Hp)(h:Heap)(a:Addr):HO->Prop
 | .lst xs=>xs.length<=sizeLine/\∃(its:List Value) (n:Nat),zM xs its/\h.get? a=some { cls:= .type "list",data:= .seq its.toArray n }
 | .tup xs=>xs.length<=sizeLine/\∃its:List Value,zM xs its/\ITN h a its.toArray
 | .dK kvs=>kvs.length<=sizeLine/\(a == sysModules)=false/\∃vs,KV kvs vs/\h.DictOf (um P w) a vs
 | .dT kvs=>kvs.length<=sizeLine/\(a == sysModules)=false/\∃xs:List (List Key×Addr×Value),
   Paired (λ(p:List Key×Addr×V) (q:List Key×Addr×Value)=>p.1=q.1/\H q.2.1=some (.tup (p.1.map kV))/\zR p.2.2 q.2.2/\p.2.1=q.2.1) kvs xs/\
   ∃o es ep,h.get? a=some o/\o.ExactDict/\o.data= .dict es ep/\es.toList=xs.map (entryOfKey (tupleKind (um P w)))/\(xs.map (·.1)).Nodup
 | .set S n=>h.SetOf (intKind P w) a S n
 | .ins C dx fs=>H dx=some (.own a)/\fs.length<=1000/\dx ≠ a/\h.get? a=some (dH C dx)/\
   ∃mA,h.Ns1 dx mA/\(∀f,xQ (fs.lookup f) (mA f))/\PySem.Within mA (fs.map (·.1))
 | .own _=>∃o,h.get? a=some o
 | .xd fs=>∃mA,h.Ns1 a mA/\∀f,xQ (fs.lookup f) (mA f)
 | .rng lo hi=>∃t u v,h.get? a=some { cls:= .type "range",data:= .fields #[.int lo t,.int hi u,.int 1 v] }
 | .frz o u=>h.get? a=some o/\zW H h a u
 | .tbl ps q=>∃more:Array Value,h.get? a=some { cls:= .none,data:= .fields (ps++more) }/\TriplesOk (ps++more).toList/\∀p cv,codeAmong p (ps++more).toList=some cv->∃c oc vs t,cv= .ref c/\H c=some (.frz oc (.own c))/\oc.data= .fields vs/\vs[1]? =some (.str q t)
 | .met f x=>h.get? a=some (PySem.W.methodObj (.ref f) (.ref x))
 | .ext φ=>φ h/\(∃o,h.get? a=some o)/\∀h1 h2:Heap,φ h1->(∀o,h1.get? a=some o->h2.get? a=some o)->φ h2
def HOk (H:Hp)(h:Heap):Prop:=∀a o,H a=some o->zW P w H h a o
end
section
variable {P:Program}{w:World}{H H' :Hp}{h h' :Heap}{a:Addr}{o:HO}
theorem zW.lt (x:zW P w H h a o):a < h.objs.size:=by
 cases o with
 | lst xs=>obtain⟨_,_,_,_,e⟩:=x;exact a9 e
 | tup xs=>obtain⟨_,_,_,p,_⟩:=x;exact p.lt
 | dK kvs=>obtain⟨_,_,_,_,o,_,_,e,_⟩:=x;exact a9 e
 | dT kvs=>obtain⟨_,_,_,_,o,_,_,e,_⟩:=x;exact a9 e
 | set S n=>obtain⟨o,_,_,_,e,_⟩:=x;exact a9 e
 | ins C dx fs=>obtain⟨_,_,_,e,_⟩:=x;exact a9 e
 | own y=>obtain⟨_,e⟩:=x;exact a9 e
 | xd fs=>obtain⟨_,⟨_,_,_,e,_⟩,_⟩:=x;exact a9 e
 | rng lo hi=>obtain⟨_,_,_,e⟩:=x;exact a9 e
 | frz ob u=>obtain⟨e,_⟩:=x;exact a9 e
 | tbl ps q=>obtain⟨_,e,_⟩:=x;exact a9 e
 | met f y=>exact a9 (x)
 | ext φ=>obtain⟨_,⟨_,e⟩,_⟩:=x;exact a9 e
theorem Paired.mapP {α β:Type}{F G:α->β->Prop}:∀{l₁:List α} {l₂:List β},Paired F l₁ l₂->(∀a b,F a b->G a b)->Paired G l₁ l₂
 | _,_,.nil,_=> .nil
 | _,_,.cons r t,f=> .cons (f _ _ r) (Paired.mapP t f)
theorem zW.stay (x:zW P w H h a o)(k:∀b u,(b=a\/H b=some (.own a))->h.get? b=some u->h'.get? b=some u)
  (ho:∀b,H b=some (.own a)->H' b=some (.own a)) (ht:∀b xs,H b=some (.tup xs)->H' b=some (.tup xs)) (hf:∀b o u,H b=some (.frz o u)->H' b=some (.frz o u):=by exact λ_ _ _ q=>q):zW P w H' h' a o:=by
 induction o with
 | lst xs=>obtain⟨z,its,n,r,e⟩:=x;exact⟨z,its,n,r,k _ _ (.inl rfl) e⟩
 | tup xs=>obtain⟨z,its,r,⟨ob,e,c⟩,q⟩:=x;exact⟨z,its,r,⟨ob,k _ _ (.inl rfl) e,c⟩,q.imp id λ⟨o2,e2,d2⟩=>⟨o2,k _ _ (.inl rfl) e2,d2⟩⟩
 | dK kvs=>obtain⟨z,y,vs,r,ob,es,ep,e,c⟩:=x;exact⟨z,y,vs,r,ob,es,ep,k _ _ (.inl rfl) e,c⟩
 | dT kvs=>
  obtain⟨z,y,xs,r,ob,es,ep,e,c⟩:=x;exact⟨z,y,xs,Paired.mapP r λp q z=>⟨z.1,ht _ _ z.2.1,z.2.2⟩,ob,es,ep,k _ _ (.inl rfl) e,c⟩
 | set S n=>obtain⟨ob,es,ep,t,e,c⟩:=x;exact⟨ob,es,ep,t,k _ _ (.inl rfl) e,c⟩
 | ins C dx fs=>
  obtain⟨d,z,ne,e,mA,⟨od,es,ep,e2,c⟩,r⟩:=x;exact⟨ho _ d,z,ne,k _ _ (.inl rfl) e,mA,⟨od,es,ep,k _ _ (.inr d) e2,c⟩,r⟩
 | own y=>obtain⟨ob,e⟩:=x;exact⟨ob,k _ _ (.inl rfl) e⟩
 | xd fs=>obtain⟨mA,⟨od,es,ep,e,c⟩,r⟩:=x;exact⟨mA,⟨od,es,ep,k _ _ (.inl rfl) e,c⟩,r⟩
 | rng lo hi=>obtain⟨t,u,v,e⟩:=x;exact⟨t,u,v,k _ _ (.inl rfl) e⟩
 | frz ob u ih=>obtain⟨e,q⟩:=x;exact⟨k _ _ (.inl rfl) e,ih q⟩
 | tbl ps q=>
  obtain⟨m,e,tr,al⟩:=x;exact⟨m,k a _ (.inl rfl) e,tr,λp cv z=>let ⟨c,oc,vs,t,e1,e2,e3⟩:=al p cv z;⟨c,oc,vs,t,e1,hf _ _ _ e2,e3⟩⟩
 | met f y=>
  have e:=x;exact k a _ (.inl rfl) e
 | ext φ=>obtain⟨p,⟨o,e⟩,st⟩:=x;exact⟨st _ _ p λo q=>k _ _ (.inl rfl) q,⟨o,k _ _ (.inl rfl) e⟩,st⟩
theorem HOk.lt (x:HOk P w H h)(e:H a=some o):a < h.objs.size:=(x a o e).lt
theorem HOk.fresh (x:HOk P w H h)(e:h.objs.size<=a):H a=none:=by
 cases q:H a with
 | none=>rfl
 | some u=>exact absurd (ar (x.lt q) e) (aN _)
theorem HOk.kept (x:HOk P w H h)(k:∀b u,h.get? b=some u->h'.get? b=some u):HOk P w H h' :=λa o e=>
 (x a o e).stay (λb u _ q=>k b u q) (λ_ q=>q) λ_ _ q=>q
theorem HOk.laid (x:HOk P w H h)(k:∀b u,h.get? b=some u->h'.get? b=some u)(hp:h.objs.size<=a)(new:zW P w (upd H a o) h' a o):HOk P w (upd H a o) h' :=λb u e=>by
 have hn:=x.fresh hp
 by_cases hb:b=a
 ·subst hb;rw[zj]at e;cases e;exact new
 ·rw[za hb]at e;exact(x b u e).stay (λc v _ q=>k c v q) (λc q=>by rw[za (zk q hn)];exact q) (λc xs q=>by rw[za (zk q hn)];exact q) λc o u q=>by rw[za (zk q hn)];exact q
end
def Rd (H:Hp)(a:Addr)(u:HO):Prop:=H a=some u\/∃o,H a=some (.frz o u)
theorem Rd.ok {P:Program}{w:World}{H:Hp}{h:Heap}{a:Addr}{u:HO}(r:Rd H a u)(x:HOk P w H h):zW P w H h a u:=by
 rcases r with r | ⟨o,r⟩
 ·exact x a u r
 ·obtain⟨_,q⟩:=x a _ r;exact q
noncomputable def Mut:Option HO->Prop
 | some (.lst _)=>True
 | some (.dK _)=>True
 | some (.dT _)=>True
 | some (.set _ _)=>True
 | some (.ins _ _ _)=>True
 | some (.ext _)=>True
 | _=>False
section
variable {P:Program}{w:World}{H:Hp}{h h' :Heap}{x e:Addr}{o' :HO}
theorem HOk.write (ok:HOk P w H h)(mu:Mut (H x))(he:e=x\/H e=some (.own x))(k:∀b u,b ≠ e->h.get? b=some u->h'.get? b=some u)(heo:∃u,h'.get? e=some u)
  (new:zW P w (upd H x o') h' x o'):HOk P w (upd H x o') h' :=λb u q=>by
 have nown:∀c y,H c=some (.own y)->c ≠ x:=λc y r z=>by subst z;rw[r]at mu;exact mu
 have ntup:∀c xs,H c=some (.tup xs)->c ≠ x:=λc xs r z=>by subst z;rw[r]at mu;exact mu
 by_cases hb:b=x
 ·subst hb;rw[zj]at q;cases q;exact new
 ·rw[za hb]at q
  by_cases hbe:b=e
  ·have q' :H b=some (.own x):=by
    rcases he with z | z
    ·exact absurd (hbe.trans z) hb
    ·rw[hbe];exact z
   rw[q]at q';cases q';obtain⟨v,hv⟩:=heo;exact⟨v,by rw[hbe];exact hv⟩
  ·refine(ok b u q).stay (λc v hc r=>k c v ?_ r) (λc r=>by rw[za (nown c b r)];exact r) (λc xs r=>by rw[za (ntup c xs r)];exact r) λc o u r=>by rw[za (λz=>by subst z;rw[r]at mu;exact mu)];exact r
   rcases hc with rfl | hc
   ·exact hbe
   ·rintro rfl
    rcases he with z | z
    ·exact nown c b hc z
    ·rw[hc]at z;cases z;exact hb rfl
end
structure Un (fs ex:List Addr) (H H' :Hp) (h h' :Heap):Prop where
 keep:∀b o,h.get? b=some o->H b=none->b ∉ fs->b ∉ ex->h'.get? b=some o
 slot:∀b o,h.get? b=some o->H b=none->b∈fs->b ∉ ex->∃sl,h'.get? b=some { o with slots:=sl }
 free:∀b o,h.get? b=some o->H b=none->b ∉ ex->H' b=none
 there:∀b o,h.get? b=some o->b ∉ ex->∃o',h'.get? b=some o'
 tups:∀b xs,H b=some (.tup xs)->H' b=some (.tup xs)
 frzs:∀b o u,H b=some (.frz o u)->H' b=some (.frz o u)
 tbls:∀b ps q,H b=some (.tbl ps q)->H' b=some (.tbl ps q)
section
variable {fs fs' ex ex' :List Addr}{H H1 H2:Hp}{h h1 h2 h' :Heap}{a x e:Addr}{o:HO}
theorem Un.any (u:Un fs ex H H1 h h1){b:Addr}{ob:Obj}(q:h.get? b=some ob)(n:H b=none)(hx:b ∉ ex):∃sl,h1.get? b=some { ob with slots:=sl }:=by
 by_cases hb:b∈fs
 ·exact u.slot b ob q n hb hx
 ·exact⟨ob.slots,u.keep b ob q n hb hx⟩
theorem Un.kept (k:∀b u,h.get? b=some u->h'.get? b=some u):Un fs ex H H h h' :=
 ⟨λb ob q _ _ _=>k b ob q,λb ob q _ _ _=>⟨ob.slots,k b ob q⟩,λ_ _ _ n _=>n,λb ob q _=>⟨ob,k b ob q⟩,λ_ _ q=>q,λ_ _ _ q=>q,λ_ _ _ q=>q⟩
theorem Un.refl:Un fs ex H H h h:=Un.kept λ_ _ q=>q
theorem Un.laid (k:∀b u,h.get? b=some u->h'.get? b=some u)(hp:h.objs.size<=a)(hn:H a=none):Un fs ex H (upd H a o) h h' where
 keep:=λb u q _ _ _=>k b u q
 slot:=λb u q _ _ _=>⟨u.slots,k b u q⟩
 free:=λb u q n _=>by rw[za (aA (ar (a9 q) hp))];exact n
 there:=λb u q _=>⟨u,k b u q⟩
 tups:=λb xs q=>by rw[za (zk q hn)];exact q
 frzs:=λb u xs q=>by rw[za (zk q hn)];exact q
 tbls:=λb ps q e=>by rw[za (zk e hn)];exact e
theorem Un.write (mu:Mut (H x))(he:e=x\/H e=some (.own x))(k:∀b u,b ≠ e->h.get? b=some u->h'.get? b=some u)(heo:∃u,h'.get? e=some u):Un fs ex H (upd H x o) h h' :=by
 have hx:∀b,H b=none->b ≠ x:=λb n z=>by subst z;rw[n]at mu;exact mu
 have hb:∀b,H b=none->b ≠ e:=λb n z=>by
  subst z;rcases he with r | r
  ·exact hx b n r
  ·rw[n]at r;cases r
 have hm:∀b u,H b=some u->¬ Mut (some u)->b ≠ x:=λb u q nm z=>by subst z;rw[q]at mu;exact nm mu
 refine⟨λb u q n _ _=>k b u (hb b n) q,λb u q n _ _=>⟨u.slots,k b u (hb b n) q⟩,λb u q n _=>by rw[za (hx b n)];exact n,λb u q _=> ?_,
  λb xs q=>by rw[za (hm b _ q λz=>z)];exact q,λb u xs q=>by rw[za (hm b _ q λz=>z)];exact q,λb ps q e=>by rw[za (hm b _ e λz=>z)];exact e⟩
 by_cases hbe:b=e
 ·subst hbe;exact heo
 ·exact⟨u,k b u hbe q⟩
end
def trk (h:Heap)(H:Hp):List Addr:=(bF h.objs.size).filter λa=>(H a).isSome
def QS (h:Heap)(H:Hp):Heap:=PySem.W.hideAll h (trk h H)
theorem uo (h:Heap)(H:Hp):(QS h H).objs.size=h.objs.size:=PySem.W.hideAll_size _ _
theorem Js {h:Heap}{H:Hp}{b:Addr}{o:Obj}(e:h.get? b=some o)(n:H b=none):(QS h H).get? b=some o:=
 PySem.W.hideAll_get _ e λhm=>by
  have q:=(cr.mp hm).2;rw[n]at q;simp at q
theorem qc {h:Heap}{H:Hp}{b:Addr}{o:Obj}(e:(QS h H).get? b=some o):h.get? b=some o/\H b=none:=by
 have e' :=PySem.W.of_hideAll _ e;refine⟨e', ?_⟩;cases q:H b with
 | none=>rfl
 | some x=>
  have hm:b∈trk h H:=cr.mpr ⟨dN.mpr (a9 e'),by simp[q]⟩
  have z:(QS h H).get? b=none:=PySem.W.hideAll_none _ hm;rw[z]at e;cases e
end L2
namespace L2
open PySem PySem.Spec PyProof.Rows
structure Mod (K:a6) (mg:Str->Option Value) (base:Heap):Prop where
 kin:K.In base
 glob:base.Ns mainGlobals mg
 blt:∃mb,base.Ns builtinsNs mb/\∀x:Str,x ≠ "__name__"->mb x=bootBuiltins x
 nolimit:base.NoLimit
structure Cx where
 prog:Program
 w:World
 K:a6
 mg:Str->Option Value
 base:Heap
 A:Around
 N:List Str
 s₀:Shared
 H₀:Hp
 env:Env
 outer:List Env
 stack:List Env
 ex:List Addr
 fn:Str->Bool
 calm:Bool
 pn:List (Addr×Obj)
 xe:Value->Shared->Prop
noncomputable def frs (l:List Env):List Addr:=l.filterMap (·.frame)
abbrev Cx.fs (X:Cx):List Addr:=frs X.outer
noncomputable def Vis (sc:Scope)(x:Str):Prop:=sc.names.lookup x=some .local\/sc.names.lookup x=some .cell\/sc.names.lookup x=some .free
noncomputable def Loc (sc:Scope)(x:Str):Prop:=sc.names.lookup x=some .local\/sc.names.lookup x=some .cell
noncomputable def Kw (env:Env)(h:Heap)(m:Str->Option Value)(x:Str)(u:Value):Prop:=
 (env.kindOf x=some .local/\m x=some u)\/((env.kindOf x=some .cell\/env.kindOf x=some .free)/\∃c,env.cells.lookup x=some c/\h.IsCell c (some u))
structure Cx.Ok (X:Cx):Prop where
 mod:Mod X.K X.mg X.base
 kind:X.env.scope.kind= .function
 glob:X.env.globals=mainGlobals
 blt:X.env.builtins=builtinsNs
 above:X.s₀.heap.objs.size<=X.env.locals
 inj:∀x y c,X.env.cells.lookup x=some c->X.env.cells.lookup y=some c->x=y
 has:∀x,(X.env.kindOf x=some .cell\/X.env.kindOf x=some .free)->∃c,X.env.cells.lookup x=some c
 cab:∀x c,X.fn x=true->X.env.cells.lookup x=some c->X.s₀.heap.objs.size<=c
 hd:X.calm=true->X.A.handled=none
 frames:X.A.frames=some X.stack
 stk:X.stack=X.outer\/(X.stack=X.env :: X.outer/\X.env.frame=some X.env.locals)
 exf:∀b∈X.ex,b ≠ X.env.locals/\∀x c,X.env.cells.lookup x=some c->c ≠ b
 bs:∀b o,X.base.get? b=some o->X.s₀.heap.get? b=some o/\X.H₀ b=none
 bsz:X.base.objs.size<=X.s₀.heap.objs.size
 noex:∀b o,X.base.get? b=some o->b ∉ X.ex
 exfs:∀b∈X.ex,b ∉ X.fs
 funs:X.s₀.heap.FunFrames X.base X.outer
 frf:∀b∈X.fs,X.H₀ b=none
structure Inv (X:Cx) (pins:List (Addr×Obj)) (σ:List (Option V)) (H:Hp) (s:Shared):Prop where
 ok:X.Ok
 os:s.os=X.s₀.os
 bare:AllBare s.gens
 base:Un X.fs X.ex X.H₀ H X.s₀.heap s.heap
 loc:∃m,s.heap.Ns X.env.locals m/\∀(i:Nat) (x:Str) (v:V),X.N[i]? =some x->σ[i]? =some (some v)->Vis X.env.scope x->∃u,zR v u/\Kw X.env s.heap m x u
 cell:∀x c,X.env.cells.lookup x=some c->∃v,s.heap.IsCell c v
 free:H X.env.locals=none
 freeC:∀x c,X.env.cells.lookup x=some c->H c=none
 pin:∀p∈X.pn++pins,s.heap.get? p.1=some p.2/\H p.1=none/\p.1 ≠ X.env.locals/\p.1 ∉ X.fs/\∀v,p.2.data ≠ .cell v
 hok:HOk X.prog X.w H s.heap
 len:σ.length=X.N.length
section
variable {X:Cx}{pins:List (Addr×Obj)}{σ:List (Option V)}{H H' :Hp}{s:Shared}{h' :Heap}
theorem Cx.Ok.nofr (ok:X.Ok){b:Addr}{o:Obj}(e:X.base.get? b=some o):b ∉ X.fs:=λhb=>by
 have:=(ok.funs.mem hb).1;rw[e]at this;cases this
theorem Inv.bs (I:Inv X pins σ H s):∀b o,X.base.get? b=some o->s.heap.get? b=some o/\H b=none:=λb o e=>
 ⟨I.base.keep b o (I.ok.bs b o e).1 (I.ok.bs b o e).2 (I.ok.nofr e) (I.ok.noex b o e),I.base.free b o (I.ok.bs b o e).1 (I.ok.bs b o e).2 (I.ok.noex b o e)⟩
theorem Inv.bk (I:Inv X pins σ H s):∀b o,X.base.get? b=some o->s.heap.get? b=some o:=λb o e=>(I.bs b o e).1
theorem Inv.mod (I:Inv X pins σ H s):Mod X.K X.mg X.base:=I.ok.mod
theorem Inv.kIn (I:Inv X pins σ H s):X.K.In s.heap:=I.ok.mod.kin.keeps I.bk
theorem Inv.lt (I:Inv X pins σ H s):X.env.locals < s.heap.objs.size:=let ⟨_,hn,_⟩:=I.loc;hn.lt
theorem Inv.sz (I:Inv X pins σ H s):X.s₀.heap.objs.size<=s.heap.objs.size:=ay I.ok.above (eI I.lt)
theorem Inv.nofs (I:Inv X pins σ H s){a:Addr}(h:s.heap.objs.size<=a):a ∉ X.fs:=λhb=>by
 obtain⟨_,o,ho,_⟩:=I.ok.funs.mem hb;exact absurd (ar (a9 ho) (ay I.sz h)) (aN _)
theorem Inv.cne (I:Inv X pins σ H s):∀x c,X.env.cells.lookup x=some c->c ≠ X.env.locals:=λx c e z=>by
 obtain⟨v,o,ho,hd⟩:=I.cell x c e;obtain⟨m,⟨o',es,ep,ho',hd',_⟩,_⟩:=I.loc;rw[z,ho']at ho;cases ho;rw[hd']at hd;cases hd
theorem Inv.funs (I:Inv X pins σ H s):s.heap.FunFrames X.base X.outer:=by
 have all:∀(l:List Env),(∀b∈frs l,b∈X.fs)->X.s₀.heap.FunFrames X.base l->s.heap.FunFrames X.base l:=by
  intro l
  induction l with
  | nil=>intro _ _;trivial
  | cons env r ih=>
   intro hs hl;obtain⟨hk,⟨L,o,hf,hn,ho,hd⟩,hr⟩:=hl;have hL:=hs L (by unfold frs;rw[ci,hf];exact ac)
   obtain⟨sl,e⟩:=I.base.slot L o ho (I.ok.frf L hL) hL λz=>I.ok.exfs L z hL;exact⟨hk,⟨L,_,hf,hn,e,hd⟩,ih (λb hb=>hs b (by unfold frs;rw[ci,hf];exact a8 _ hb)) hr⟩
 exact all _ (λ_ hb=>hb) I.ok.funs
theorem Inv.stack (I:Inv X pins σ H s):s.heap.FunFrames X.base X.stack:=by
 rcases I.ok.stk with e | ⟨e,hf⟩
 ·rw[e];exact I.funs
 ·rw[e];obtain⟨m,hn,_⟩:=I.loc;refine .cons (by rw[I.ok.kind];decide) hf hn ?_ I.funs
  exact Heap.get?_none_of_le (ay I.ok.bsz I.ok.above)
theorem Inv.stkSub (I:Inv X pins σ H s):∀b∈frs X.stack,b∈X.env.locals :: X.fs:=λb hb=>by
 rcases I.ok.stk with e | ⟨e,hf⟩
 ·rw[e]at hb;exact a8 _ hb
 ·rw[e]at hb;unfold frs at hb;rw[ci,hf]at hb;exact hb
theorem Inv.stkFree (I:Inv X pins σ H s):∀b∈frs X.stack,H b=none:=λb hb=>by
 rcases aj.mp (I.stkSub b hb) with e | hb
 ·rw[e];exact I.free
 ·obtain⟨_,o,ho,_⟩:=I.ok.funs.mem hb;exact I.base.free b o ho (I.ok.frf b hb) λz=>I.ok.exfs b z hb
theorem Inv.step {g' :Array GenState}{t' :Nat}{d' :Drawn}{ch:List Addr}(I:Inv X pins σ H s)
  (hch:∀b∈ch,(b∈X.ex\/X.s₀.heap.objs.size<=b)/\b ≠ X.env.locals/\(∀x c,X.env.cells.lookup x=some c->c ≠ b)/\∀p∈X.pn++pins,p.1 ≠ b)
  (keep:∀b o,b ≠ X.env.locals->b ∉ X.fs->b ∉ ch->s.heap.get? b=some o->H b=none->h'.get? b=some o)
  (slot:∀b o,b ≠ X.env.locals->b∈X.fs->b ∉ ch->s.heap.get? b=some o->H b=none->∃sl,h'.get? b=some { o with slots:=sl }) (free:∀b o,b ∉ ch->s.heap.get? b=some o->H b=none->H' b=none)
  (there:∀b o,b ∉ ch->s.heap.get? b=some o->∃o',h'.get? b=some o')
  (tups:∀b xs,H b=some (.tup xs)->H' b=some (.tup xs)) (frzs:∀b o u,H b=some (.frz o u)->H' b=some (.frz o u)) (tbls:∀b ps q,H b=some (.tbl ps q)->H' b=some (.tbl ps q))
  (ns:∀m,s.heap.Ns X.env.locals m->h'.Ns X.env.locals m) (hok:HOk X.prog X.w H' h') (hg:AllBare g'):
  Inv X pins σ H' { s with heap:=h',gens:=g',drawn:=d',toks:=t' }:=by
 have neL:∀b o,X.s₀.heap.get? b=some o->b ≠ X.env.locals:=λb o e=>aA (ar (a9 e) I.ok.above);have neC:∀b o,X.s₀.heap.get? b=some o->b ∉ X.ex->b ∉ ch:=λb o e hx hb=>by
  rcases(hch b hb).1 with z | z
  ·exact hx z
  ·exact absurd (ar (a9 e) z) (aN _)
 have cellK:∀x c,X.env.cells.lookup x=some c->∀v,s.heap.IsCell c v->h'.IsCell c v:=λx c e v ⟨o,ho,hd⟩=>by
  have nch:=λz=>(hch c z).2.2.1 x c e rfl
  by_cases hc:c∈X.fs
  ·obtain⟨sl,q⟩:=slot c o (I.cne x c e) hc nch ho (I.freeC x c e);exact⟨_,q,hd⟩
  ·exact⟨o,keep c o (I.cne x c e) hc nch ho (I.freeC x c e),hd⟩
 refine⟨I.ok,I.os,hg,⟨λb o e n hb hx=> ?_,λb o e n hb hx=> ?_,λb o e n hx=> ?_,λb o e hx=> ?_,λb xs e=>tups b xs (I.base.tups b xs e),λb o xs e=>frzs b o xs (I.base.frzs b o xs e),λb ps q e=>tbls b ps q (I.base.tbls b ps q e)⟩, ?_,λx c e=> ?_, ?_,λx c e=> ?_,λp hp=> ?_,hok,I.len⟩
 ·exact keep b o (neL b o e) hb (neC b o e hx) (I.base.keep b o e n hb hx) (I.base.free b o e n hx)
 ·obtain⟨sl,e1⟩:=I.base.slot b o e n hb hx;obtain⟨sl',e2⟩:=slot b _ (neL b o e) hb (neC b o e hx) e1 (I.base.free b o e n hx);exact⟨sl',e2⟩
 ·obtain⟨o',e1⟩:=I.base.there b o e hx;exact free b o' (neC b o e hx) e1 (I.base.free b o e n hx)
 ·obtain⟨o',e1⟩:=I.base.there b o e hx;exact there b o' (neC b o e hx) e1
 ·obtain⟨m,hn,hl⟩:=I.loc;refine⟨m,ns m hn,λi x v e1 e2 e3=> ?_⟩;obtain⟨u,r,l⟩:=hl i x v e1 e2 e3;refine⟨u,r, ?_⟩;rcases l with l | ⟨k,c,e,z⟩
  ·exact .inl l
  ·exact .inr ⟨k,c,e,cellK x c e _ z⟩
 ·obtain⟨v,z⟩:=I.cell x c e;exact⟨v,cellK x c e v z⟩
 ·obtain⟨m,⟨o,_,_,ho,_⟩,_⟩:=I.loc;exact free _ o (λz=>(hch _ z).2.1 rfl) ho I.free
 ·obtain⟨v,o,ho,hd⟩:=I.cell x c e;exact free c o (λz=>(hch c z).2.2.1 x c e rfl) ho (I.freeC x c e)
 ·obtain⟨e,n,ne,nf,d⟩:=I.pin p hp;have nch:=λz=>(hch p.1 z).2.2.2 p hp rfl;exact⟨keep p.1 p.2 ne nf nch e n,free p.1 p.2 nch e n,ne,nf,d⟩
theorem Inv.un {t' :Nat}(I:Inv X pins σ H s)(u:Un X.fs [] H H' s.heap h')(hok:HOk X.prog X.w H' h'):Inv X pins σ H' { s with heap:=h',toks:=t' }:=by
 obtain⟨m,⟨o,es,ep,ho,r⟩,_⟩:=id I.loc;obtain⟨sl,hL⟩:=u.any ho I.free (by simp)
 exact I.step (ch:=[]) (λ_ z=>nomatch z) (λb o _ hb _ e n=>u.keep b o e n hb (by simp)) (λb o _ hb _ e n=>u.slot b o e n hb (by simp)) (λb o _ e n=>u.free b o e n (by simp)) (λb o _ e=>u.there b o e (by simp)) u.tups u.frzs u.tbls (λm' hm=>by
  obtain⟨o',es',ep',ho',r'⟩:=hm;rw[ho]at ho';cases ho';exact⟨_,es',ep',hL,r'⟩) hok I.bare
theorem Inv.call {g' :Array GenState}{t' :Nat}{d' :Drawn}{ch:List Addr}(I:Inv X pins σ H s)(u:Un (frs X.stack) ch H H' s.heap h')(hok:HOk X.prog X.w H' h')(hg:AllBare g')
  (hch:∀b∈ch,(b∈X.ex\/X.s₀.heap.objs.size<=b)/\b ≠ X.env.locals/\(∀x c,X.env.cells.lookup x=some c->c ≠ b)/\∀p∈X.pn++pins,p.1 ≠ b):
  Inv X pins σ H' { s with heap:=h',gens:=g',drawn:=d',toks:=t' }:=by
 obtain⟨m,⟨o,es,ep,ho,r⟩,_⟩:=id I.loc;obtain⟨sl,hL⟩:=u.any ho I.free λz=>(hch _ z).2.1 rfl;exact I.step hch (λb o hL hb hc e n=>u.keep b o e n (λz=>(aj.mp (I.stkSub b z)).elim hL hb) hc) (λb o _ _ hc e n=>u.any e n hc) (λb o hc e n=>u.free b o e n hc) (λb o hc e=>u.there b o e hc) u.tups u.frzs u.tbls (λm' hm=>by
  obtain⟨o',es',ep',ho',r'⟩:=hm;rw[ho]at ho';cases ho';exact⟨_,es',ep',hL,r'⟩) hok hg
theorem Inv.turned {t' :Nat}{it:Addr}(I:Inv X pins σ H s)(k:∀b o,b ≠ it->s.heap.get? b=some o->h'.get? b=some o)(hn:H it=none)(hL:it ≠ X.env.locals)
  (h1:it∈X.ex\/X.s₀.heap.objs.size<=it) (h2:∀x c,X.env.cells.lookup x=some c->c ≠ it) (h3:∀p∈X.pn++pins,p.1 ≠ it):Inv X pins σ H { s with heap:=h',toks:=t' }:=by
 have nit:∀b u,H b=some u->b ≠ it:=λb u e z=>by rw[z,hn]at e;cases e
 refine I.step (ch:=[it]) (λb hb=> ?_) (λb o _ _ hc e _=>k b o (λz=>hc (by simp[z])) e) (λb o _ _ hc e _=>⟨o.slots,k b o (λz=>hc (by simp[z])) e⟩) (λ_ _ _ _ n=>n)
  (λb o hc e=>⟨o,k b o (λz=>hc (by simp[z])) e⟩) (λ_ _ e=>e) (λ_ _ _ e=>e) (λ_ _ _ e=>e) (λm hm=> ?_) (λb u e=> ?_) I.bare
 ·have e:=by simpa using hb
  subst e;exact⟨h1,hL,h2,h3⟩
 ·obtain⟨o,es,ep,ho,r⟩:=hm;exact⟨o,es,ep,k _ o (bq hL) ho,r⟩
 ·refine(I.hok b u e).stay (λc v hc q=>k c v ?_ q) (λ_ q=>q) λ_ _ q=>q;rcases hc with z | z
  ·rw[z];exact nit b u e
  ·exact nit c _ z
theorem Inv.tok (I:Inv X pins σ H s)(t:Nat):Inv X pins σ H { s with toks:=t }:=I.un Un.refl I.hok
theorem Inv.kept {t' :Nat}(I:Inv X pins σ H s)(k:∀b u,s.heap.get? b=some u->h'.get? b=some u):Inv X pins σ H { s with heap:=h',toks:=t' }:=I.un (Un.kept k) (I.hok.kept k)
theorem Inv.laid {a:Addr}{o:HO}{t' :Nat}(I:Inv X pins σ H s)(k:∀b u,s.heap.get? b=some u->h'.get? b=some u)(hp:s.heap.objs.size<=a)(new:zW X.prog X.w (upd H a o) h' a o):
  Inv X pins σ (upd H a o) { s with heap:=h',toks:=t' }:=I.un (Un.laid k hp (I.hok.fresh hp)) (I.hok.laid k hp new)
theorem Inv.write {x e:Addr}{o:HO}{t' :Nat}(I:Inv X pins σ H s)(mu:Mut (H x))(he:e=x\/H e=some (.own x))(k:∀b u,b ≠ e->s.heap.get? b=some u->h'.get? b=some u)(heo:∃u,h'.get? e=some u)
  (new:zW X.prog X.w (upd H x o) h' x o):Inv X pins σ (upd H x o) { s with heap:=h',toks:=t' }:=I.un (Un.write mu he k heo) (I.hok.write mu he k heo new)
theorem Inv.pins_of {pins' :List (Addr×Obj)}(I:Inv X pins σ H s)(h:∀p∈pins',s.heap.get? p.1=some p.2/\H p.1=none/\p.1 ≠ X.env.locals/\p.1 ∉ X.fs/\∀v,p.2.data ≠ .cell v):Inv X pins' σ H s:=
 ⟨I.ok,I.os,I.bare,I.base,I.loc,I.cell,I.free,I.freeC,λp hp=>(bc.mp hp).elim (λz=>I.pin p (bn _ z)) (h p),I.hok,I.len⟩
theorem Jt {N:List Str}(hN:N.Nodup){i j:Nat}{x:Str}(a:N[i]? =some x)(b:N[j]? =some x):i=j:=by
 obtain⟨h1,e1⟩:=aT.mp a;obtain⟨h2,e2⟩:=aT.mp b;exact(List.getElem_inj hN).mp (e1.trans e2.symm)
theorem uq {M:Model}{A:Around}{E:Value->Shared->Prop}{i:Nat}{x:Str}{v:V}{u:Value}{Q:Unit->Shared->Prop}(I:Inv X pins σ H s)(hN:X.N.Nodup)(hi:X.N[i]? =some x)(hx:Loc X.env.scope x)(r:zR v u)
  (h:∀s',Inv X pins (σ.set i (some v)) H s' ->(∃a,cC a s.heap s'.heap/\(a=X.env.locals\/X.env.cells.lookup x=some a))->Q () s') (hf:X.fn x=true\/X.env.scope.names.lookup x=some .local:=by first | exact .inl rfl | exact .inr rfl | assumption):wpAny M A (storeName X.env x u) Q E s:=by
 obtain⟨m,hn,hl⟩:=id I.loc;have hcls:(X.env.scope.kind == .class || (X.env.scope.kind == .module && X.env.locals != X.env.globals))=false:=by rw[I.ok.kind];rfl
 have hiσ:i < σ.length:=by rw[I.len];exact(aT.mp hi).1
 have cne:=I.cne;have tracked:∀{a:Addr} {h' :Heap},(∃o,s.heap.get? a=some o/\H a=none)->cC a _ h' ->HOk _ X.w H h' :=λ{a h'} ha hs b ob e=>by
  obtain⟨_,_,hfree⟩:=ha;refine(I.hok b ob e).stay (λc w' hc q=>(hs.2 c ?_).trans q) (λ_ q=>q) λ_ _ q=>q
  rintro rfl
  rcases hc with rfl | hc
  ·rw[hfree]at e;cases e
  ·rw[hfree]at hc;cases hc
 rcases hx with hk | hk
 ·refine wpAny_storeName_local hk hn (λh' hn' hs=> ?_) hcls;obtain⟨oL,_,_,hoL,_⟩:=id hn;refine h _ ⟨I.ok,I.os,I.bare,⟨λb o e n hb hx=> ?_,λb o e n hb hx=> ?_,I.base.free,λb o e hx=> ?_,I.base.tups,I.base.frzs,I.base.tbls⟩,⟨_,hn',λj y v' e1 e2 e3=> ?_⟩,λy c e=> ?_,I.free,I.freeC,λp hp=> ?_,tracked ⟨oL,hoL,I.free⟩ hs,by simpa using I.len⟩ ⟨_,hs,.inl rfl⟩
  ·exact(hs.2 b (aA (ar (a9 e) I.ok.above))).trans (I.base.keep b o e n hb hx)
  ·obtain⟨sl,e1⟩:=I.base.slot b o e n hb hx;exact⟨sl,(hs.2 b (aA (ar (a9 e) I.ok.above))).trans e1⟩
  ·obtain⟨o',e1⟩:=I.base.there b o e hx;exact⟨o',(hs.2 b (aA (ar (a9 e) I.ok.above))).trans e1⟩
  ·by_cases hj:j=i
   ·subst hj;rw[hi]at e1;cases e1;rw[aU hiσ]at e2;cases e2;exact⟨u,r,.inl ⟨hk,by simp⟩⟩
   ·rw[az (bq hj)]at e2;obtain⟨u',r',q⟩:=hl j y v' e1 e2 e3;refine⟨u',r', ?_⟩;rcases q with ⟨k,e⟩ | ⟨k,c,e,z⟩
    ·refine .inl ⟨k, ?_⟩;have:y ≠ x:=λe=>hj (Jt hN e1 (e ▸ hi));simp[this,e]
    ·exact .inr ⟨k,c,e,z.sameBut hs (cne y c e)⟩
  ·obtain⟨w',z⟩:=I.cell y c e;exact⟨w',z.sameBut hs (cne y c e)⟩
  ·obtain⟨e,n,ne,nf,d⟩:=I.pin p hp;exact⟨(hs.2 p.1 ne).trans e,n,ne,nf,d⟩
 ·have hfn:X.fn x=true:=by
   rcases hf with z | z
   ·exact z
   ·rw[z]at hk;cases hk
  obtain⟨c,hc⟩:=I.ok.has x (.inl hk);obtain⟨w',z⟩:=I.cell x c hc;refine wpAny_storeName_cell I.ok.kind hk hc z (λh' hc' hs=> ?_);obtain⟨oc,hoc,hocd⟩:=id z;refine h _ ⟨I.ok,I.os,I.bare,⟨λb o e n hb hx=> ?_,λb o e n hb hx=> ?_,I.base.free,λb o e hx=> ?_,I.base.tups,I.base.frzs,I.base.tbls⟩,⟨m,hn.sameBut hs (bq (cne x c hc)),λj y v' e1 e2 e3=> ?_⟩,λy c' e=> ?_,I.free,I.freeC,λp hp=> ?_,tracked ⟨oc,hoc,I.freeC x c hc⟩ hs,by simpa using I.len⟩ ⟨c,hs,.inr hc⟩
  ·exact(hs.2 b (aA (ar (a9 e) (I.ok.cab x c hfn hc)))).trans (I.base.keep b o e n hb hx)
  ·obtain⟨sl,e1⟩:=I.base.slot b o e n hb hx;exact⟨sl,(hs.2 b (aA (ar (a9 e) (I.ok.cab x c hfn hc)))).trans e1⟩
  ·obtain⟨o',e1⟩:=I.base.there b o e hx;exact⟨o',(hs.2 b (aA (ar (a9 e) (I.ok.cab x c hfn hc)))).trans e1⟩
  ·by_cases hj:j=i
   ·subst hj;rw[hi]at e1;cases e1;rw[aU hiσ]at e2;cases e2;exact⟨u,r,.inr ⟨.inl hk,c,hc,hc'⟩⟩
   ·rw[az (bq hj)]at e2;obtain⟨u',r',q⟩:=hl j y v' e1 e2 e3;refine⟨u',r', ?_⟩;rcases q with q | ⟨k,c',e,z'⟩
    ·exact .inl q
    ·refine .inr ⟨k,c',e,z'.sameBut hs ?_⟩
     rintro rfl
     exact hj (Jt hN e1 (I.ok.inj _ _ _ e hc ▸ hi))
  ·by_cases hcc:c' =c
   ·subst hcc;exact⟨_,hc'⟩
   ·obtain⟨w2,z2⟩:=I.cell y c' e;exact⟨w2,z2.sameBut hs hcc⟩
  ·obtain⟨e,n,ne,nf,d⟩:=I.pin p hp;refine⟨(hs.2 p.1 ?_).trans e,n,ne,nf,d⟩;intro q;rw[q,hoc]at e;have q' :=ak e;exact d w' (by rw[← q'];exact hocd)
theorem ZS {M:Model}{A:Around}{E:Value->Shared->Prop}{i:Nat}{x:Str}{v:V}{u:Value}{Q:Unit->Shared->Prop}(I:Inv X pins σ H s)(hN:X.N.Nodup)(hi:X.N[i]? =some x)(hx:Loc X.env.scope x)(r:zR v u)
  (h:∀s',Inv X pins (σ.set i (some v)) H s' ->Q () s') (hf:X.fn x=true\/X.env.scope.names.lookup x=some .local:=by first | exact .inl rfl | exact .inr rfl | assumption):wpAny M A (storeName X.env x u) Q E s:=
 uq I hN hi hx r (λs' I' _=>h s' I') hf
theorem Inv.call' {s' :Shared}{ch:List Addr}(I:Inv X pins σ H s)(ho:s'.os=s.os)(u:Un (frs X.stack) ch H H' s.heap s'.heap)(hok:HOk X.prog X.w H' s'.heap)(hg:AllBare s'.gens)
  (hch:∀b∈ch,(b∈X.ex\/X.s₀.heap.objs.size<=b)/\b ≠ X.env.locals/\(∀x c,X.env.cells.lookup x=some c->c ≠ b)/\∀p∈X.pn++pins,p.1 ≠ b):Inv X pins σ H' s' :=by
 obtain⟨h',g',d',t',o'⟩:=s';have e:=ho;subst e;exact I.call u hok hg hch
end
abbrev XK:=Value->Option Addr->Hp->Prop
noncomputable abbrev St:=List (Option V)
abbrev VK:=V->Hp->Prop
abbrev TE:=St->Hp->VK->Prop
abbrev TT:=St->Hp->(Bool->Hp->Prop)->Prop
abbrev TA:=St->Hp->(List V->Hp->Prop)->Prop
structure Ends where
 nx:St->Hp->Prop
 rt:VK
 bk:St->Hp->Prop:=λ_ _=>False
 ct:St->Hp->Prop:=λ_ _=>False
abbrev TS:=Ends->St->Hp->Prop
def EP (X:Cx)(pins:List (Addr×Obj))(σ:St)(Q:VK)(u:Value)(s' :Shared):Prop:=∃v H',Inv X pins σ H' s' /\zR v u/\Q v H'
def TP (X:Cx)(pins:List (Addr×Obj))(σ:St)(Q:Bool->Hp->Prop)(b:Bool)(s' :Shared):Prop:=∃H',Inv X pins σ H' s' /\Q b H'
def AP (X:Cx)(pins:List (Addr×Obj))(σ:St)(Q:List V->Hp->Prop)(us:List Value)(s' :Shared):Prop:=∃vs H',Inv X pins σ H' s' /\zM vs us/\Q vs H'
def SP (X:Cx)(pins:List (Addr×Obj))(D:Ends)(f:Flow)(s' :Shared):Prop:=
 match f with
 | .next=>∃σ' H',Inv X pins σ' H' s' /\D.nx σ' H'
 | .brk=>∃σ' H',Inv X pins σ' H' s' /\D.bk σ' H'
 | .cont=>∃σ' H',Inv X pins σ' H' s' /\D.ct σ' H'
 | .ret u=>∃v σ' H',Inv X pins σ' H' s' /\zR v u/\D.rt v H'
def PE (X:Cx)(e:Expr)(t:TE):Prop:=
 ∀(pins:List (Addr×Obj)) (s:Shared) (σ:St) (H:Hp) (Q:VK),Inv X pins σ H s->t σ H Q->wpAny (model X.prog X.w) X.A (eval e X.env) (EP X pins σ Q) X.xe s
def PT (X:Cx)(e:Expr)(t:TT):Prop:=
 ∀(pins:List (Addr×Obj)) (s:Shared) (σ:St) (H:Hp) (Q:Bool->Hp->Prop),Inv X pins σ H s->t σ H Q->wpAny (model X.prog X.w) X.A (isTrue e X.env (eval e X.env)) (TP X pins σ Q) X.xe s
def PW (X:Cx)(e:Expr)(t:TT):Prop:=
 ∀(whole:Sem Value) (pins:List (Addr×Obj)) (s:Shared) (σ:St) (H:Hp) (Q:Bool->Hp->Prop),Inv X pins σ H s->t σ H Q->wpAny (model X.prog X.w) X.A (isTrue e X.env whole) (TP X pins σ Q) X.xe s
theorem PW.pt {X:Cx}{e:Expr}{t:TT}(h:PW X e t):PT X e t:=h _
def PA (X:Cx)(es:List Expr)(t:TA):Prop:=
 ∀(pos:Pos) (pins:List _) (s:Shared) (σ:St) (H:Hp) (Q:List V->Hp->Prop),Inv X pins σ H s->t σ H Q->wpAny (model X.prog X.w) X.A (spliced (backTo pos (starEach es X.env))) (AP X pins σ Q) X.xe s
def PS (X:Cx)(st:Stmt)(t:TS):Prop:=
 ∀(pins:List (Addr×Obj)) (s:Shared) (σ:St) (H:Hp) (D:Ends),Inv X pins σ H s->t D σ H->wpAny (model X.prog X.w) X.A (exec st X.env) (SP X pins D) X.xe s
def PSs (X:Cx)(st:List Stmt)(t:TS):Prop:=
 ∀(pins:List (Addr×Obj)) (s:Shared) (σ:St) (H:Hp) (D:Ends),Inv X pins σ H s->t D σ H->wpAny (model X.prog X.w) X.A (execs st X.env) (SP X pins D) X.xe s
theorem thn {α:Type}{t:Sem α}{Q Q' :α->Shared->Prop}{M:Model}{A:Around}{E:Value->Shared->Prop}{s:Shared}(h:wpAny M A t Q E s)(hQ:∀a s,Q a s->Q' a s):wpAny M A t Q' E s:=aB h hQ λ_ _ x=>x
end L2
namespace L2
open PySem PySem.Spec PyProof.Rows
section
variable {X:Cx}
theorem bin {a b:Expr}{ta tb:TE}(ha:PE X a ta)(hb:PE X b tb){pins:List (Addr×Obj)}{s:Shared}{σ:St}{H:Hp}{R:V->V->Hp->Prop}(I:Inv X pins σ H s)(h:ta σ H λx H1=>tb σ H1 λy H2=>R x y H2)
  {α:Type} {Q:α->Shared->Prop} {f:Value->Value->Sem α}
  (hf:∀v u s2 x y H2,Inv X pins σ H2 s2->zR x v->zR y u->R x y H2->wpAny (model X.prog X.w) X.A (f v u) Q X.xe s2):
  wpAny (model X.prog X.w) X.A (eval a X.env) (λv s₁=>wpAny (model X.prog X.w) X.A (eval b X.env) (λu s₂=>wpAny (model X.prog X.w) X.A (f v u) Q X.xe s₂) X.xe s₁) X.xe s:=by
 refine thn (ha _ s σ H _ I h) λv s1 ⟨x,H1,I1,r1,q1⟩=> ?_;refine thn (hb _ s1 σ H1 _ I1 q1) λu s2 ⟨y,H2,I2,r2,q2⟩=> ?_;exact hf v u s2 x y H2 I2 r1 r2 q2
def yd (i:Nat):TE:=λσ H Q=>∃v,σ[i]? =some (some v)/\Q v H
def tC (v:V):TE:=λ_ H Q=>Q v H
theorem W6 {i:Nat}{x:Str}{pos:Pos}(hN:X.N[i]? =some x)(hv:Vis X.env.scope x)(hd:(x == ("__debug__":Str))=false:=by decide)(hcd:(x == ("__classdict__":Str))=false:=by decide):PE X (.Name x pos) (yd i):=by
 intro pins s σ H Q I h;obtain⟨v,e,h⟩:=h;obtain⟨m,hn,hl⟩:=I.loc;obtain⟨u,r,l⟩:=hl i x v hN e hv;have fin:EP X _ σ Q u s:=⟨v,H,I,r,h⟩;rcases l with ⟨hk,hm⟩ | ⟨hk,c,hc,hcell⟩
 ·exact wpAny_Name (wpAny_loadName_local I.ok.kind hk hn hm fin) hd
 ·rcases hk with hk | hk
  ·exact wpAny_Name (wpAny_loadName_cell I.ok.kind hk hc hcell fin) hd
  ·exact wpAny_Name (wpAny_loadName_free I.ok.kind hk hc hcell fin hcd) hd
theorem va {i j pos}:PE X (.Constant (.int i) j pos) (tC (.int i)):=λ_ _ _ H _ I h=>wpAny_Constant_int ⟨.int i,H,I.tok _,⟨_,rfl⟩,h⟩
theorem xR {b j pos}:PE X (.Constant (.bool b) j pos) (tC (.bl b)):=λ_ _ _ H _ I h=>Constant_bool ⟨.bl b,H,I,rfl,h⟩
theorem vb {j pos}:PE X (.Constant .none j pos) (tC .non):=λ_ _ _ H _ I h=>Constant_none ⟨.non,H,I,rfl,h⟩
theorem Yj {x j pos}:PE X (.Constant (.str x) j pos) (tC (.str x)):=λ_ _ _ H _ I h=>e9 ⟨.str x,H,I.tok _,⟨_,rfl⟩,h⟩
noncomputable def Gl (X:Cx)(x:Str):Prop:=X.env.kindOf x=some .globalImplicit
theorem Zj {E:Value->Shared->Prop}{pins:List (Addr×Obj)}{s:Shared}{σ:St}{H:Hp}{x:Str}{u:Value}{pos:Pos}{Q:Value->Shared->Prop}(I:Inv X pins σ H s)(hg:Gl X x)(hm:X.mg x=some u)(h:Q u s)
  (hd:(x == ("__debug__":Str))=false:=by decide):wpAny (model X.prog X.w) X.A (eval (.Name x pos) X.env) Q E s:=
 da I.ok.kind hg (Calls.loadGlobal_global (by rw[I.ok.glob];exact I.mod.glob.keeps I.bk) hm h) hd
theorem jk {E:Value->Shared->Prop}{pins:List (Addr×Obj)}{s:Shared}{σ:St}{H:Hp}{x:Str}{u:Value}{pos:Pos}{Q:Value->Shared->Prop}(I:Inv X pins σ H s)(hg:Gl X x)(hm:X.mg x=none)(hv:bootBuiltins x=some u)(h:Q u s)
  (hn:x ≠ "__name__":=by decide) (hd:(x == ("__debug__":Str))=false:=by decide):wpAny (model X.prog X.w) X.A (eval (.Name x pos) X.env) Q E s:=by
 obtain⟨mb,h1,h2⟩:=I.mod.blt;exact da I.ok.kind hg (Calls.loadGlobal_builtin (by rw[I.ok.glob];exact I.mod.glob.keeps I.bk) hm (by rw[I.ok.blt];exact h1.keeps I.bk) ((h2 x hn).trans hv) h) hd
theorem ur {x:Str}{v:V}{u:Value}{pos:Pos}(hg:Gl X x)(hm:X.mg x=some u)(r:zR v u)(hd:(x == ("__debug__":Str))=false:=by decide):PE X (.Name x pos) (tC v):=
 λ_ _ _ H _ I h=>Zj I hg hm ⟨v,H,I,r,h⟩ hd
theorem ut {x:Str}{v:V}{u:Value}{pos:Pos}(hg:Gl X x)(hm:X.mg x=none)(hv:bootBuiltins x=some u)(r:zR v u)(hn:x ≠ "__name__":=by decide)(hd:(x == ("__debug__":Str))=false:=by decide):PE X (.Name x pos) (tC v):=
 λ_ _ _ H _ I h=>jk I hg hm hv ⟨v,H,I,r,h⟩ hn hd
variable {a b:Expr}{ta tb:TE}{pos:Pos}
variable {tA tB' :TT}{rest:List Expr}
def Kx (t u:TT):TT:=λσ H Q=>t σ H λc H1=>if c=true then u σ H1 Q else Q false H1
def tOr (t u:TT):TT:=λσ H Q=>t σ H λc H1=>if c=true then Q true H1 else u σ H1 Q
def Ky (t:TT):TT:=λσ H Q=>t σ H λc H1=>Q (!c) H1
theorem qd (ha:PT X a tA):PW X (.BoolOp .And [a] pos) tA:=by
 intro wh pins s σ H Q I h;refine isTrue_and (thn (ha _ s σ H Q I h) λc s1 e=> ?_);cases c with
 | true=>exact isTrue_and_nil e
 | false=>exact e
theorem vc (ha:PT X a tA):PW X (.BoolOp .Or [a] pos) tA:=by
 intro wh pins s σ H Q I h;refine isTrue_or (thn (ha _ s σ H Q I h) λc s1 e=> ?_);cases c with
 | false=>exact isTrue_or_nil e
 | true=>exact e
theorem vd (ha:PT X a tA)(hb:PW X (.BoolOp .And (b :: rest) pos) tB'):PW X (.BoolOp .And (a :: b :: rest) pos) (Kx tA tB'):=by
 intro wh pins s σ H Q I h;refine isTrue_and (thn (ha _ s σ H _ I h) λc s1 ⟨H1,I1,q1⟩=> ?_);cases c with
 | true=>exact hb wh _ s1 σ H1 Q I1 q1
 | false=>exact⟨H1,I1,q1⟩
theorem xS (ha:PT X a tA)(hb:PW X (.BoolOp .Or (b :: rest) pos) tB'):PW X (.BoolOp .Or (a :: b :: rest) pos) (tOr tA tB'):=by
 intro wh pins s σ H Q I h;refine isTrue_or (thn (ha _ s σ H _ I h) λc s1 ⟨H1,I1,q1⟩=> ?_);cases c with
 | true=>exact⟨H1,I1,q1⟩
 | false=>exact hb wh _ s1 σ H1 Q I1 q1
theorem ve (ha:PT X a tA):PT X (.UnaryOp .Not a pos) (Ky tA):=by
 intro pins s σ H Q I h;exact isTrue_not (ha _ s σ H (λc H1=>Q _ H1) I h)
def xT (ta tb:TE):TE:=λσ H Q=>ta σ H λx H1=>∃c,x= .bl c/\if c=true then tb σ H1 Q else Q (.bl false) H1
def Kz (ta tb:TE):TE:=λσ H Q=>ta σ H λx H1=>∃c,x= .bl c/\if c=true then Q (.bl true) H1 else tb σ H1 Q
def xU (ta:TE):TE:=λσ H Q=>ta σ H λx H1=>∃c,x= .bl c/\Q (.bl (!c)) H1
theorem vf {op}{t:TE}(h:PE X a t):PE X (.BoolOp op [a] pos) t:=λpins s σ H Q I hw=>BoolOp_one (h _ s σ H Q I hw)
theorem vg (ha:PE X a ta)(hb:PE X (.BoolOp .And (b :: rest) pos) tb):PE X (.BoolOp .And (a :: b :: rest) pos) (xT ta tb):=by
 intro pins s σ H Q I h;refine BoolOp_and (thn (ha _ s σ H _ I h) λv s1 ⟨x,H1,I1,r1,q1⟩=> ?_);obtain⟨c,rfl,q1⟩:=q1;cases r1;refine aZ ?_;cases c with
 | true=>exact hb _ s1 σ H1 Q I1 q1
 | false=>exact⟨.bl _,H1,I1,rfl,q1⟩
theorem xV (ha:PE X a ta)(hb:PE X (.BoolOp .Or (b :: rest) pos) tb):PE X (.BoolOp .Or (a :: b :: rest) pos) (Kz ta tb):=by
 intro pins s σ H Q I h;refine BoolOp_or (thn (ha _ s σ H _ I h) λv s1 ⟨x,H1,I1,r1,q1⟩=> ?_);obtain⟨c,rfl,q1⟩:=q1;cases r1;refine aZ ?_;cases c with
 | false=>exact hb _ s1 σ H1 Q I1 q1
 | true=>exact⟨.bl _,H1,I1,rfl,q1⟩
theorem vh (ha:PE X a ta):PE X (.UnaryOp .Not a pos) (xU ta):=by
 intro pins s σ H Q I h;refine UnaryOp_ (thn (ha _ s σ H _ I h) λv s1 ⟨x,H1,I1,r1,q1⟩=> ?_);obtain⟨c,rfl,q1⟩:=q1;cases r1;exact not_of (aZ ⟨.bl _,H1,I1,rfl,q1⟩)
def tIf (t:TT)(ta tb:TE):TE:=λσ H Q=>t σ H λc H1=>if c=true then ta σ H1 Q else tb σ H1 Q
theorem ye {c:Expr}(hc:PT X c tA)(ha:PE X a ta)(hb:PE X b tb):PE X (.IfExp c a b pos) (tIf tA ta tb):=by
 intro pins s σ H Q I h;refine wpAny_IfExp (thn (hc _ s σ H _ I h) λd s1 ⟨H1,I1,q1⟩=> ?_);cases d with
 | true=>exact ha _ s1 σ H1 Q I1 q1
 | false=>exact hb _ s1 σ H1 Q I1 q1
end
end L2
namespace L2
open PySem PySem.Spec PyProof.Rows
def SqL (K:a6)(H:Hp)(a:Addr)(xs:List V):Prop:=
 Rd H a (.lst xs)\/
  ∃(o:Obj) (its:Array Value) (n:Nat),K.lookup a=some o/\o.cls= .type "list"/\o.dict=none/\o.data= .seq its n/\its.size<=sizeLine/\zM xs its.toList
def SqT (K:a6)(H:Hp)(a:Addr)(xs:List V):Prop:=
 Rd H a (.tup xs)\/
  ∃(o:Obj) (its:Array Value) (n:Nat),K.lookup a=some o/\o.cls= .type "tuple"/\o.data= .seq its n/\its.size<=sizeLine/\zM xs its.toList
noncomputable def KA:Value->Option V
 | .none=>some .non
 | .bool b=>some (.bl b)
 | .int i _=>some (.int i)
 | .str x _=>some (.str x)
 | .bytes b _=>some (.byt b)
 | .float b _=>some (.flt b)
 | .ref a=>some (.ref a)
 | .type n=>some (.ty n)
 | _=>none
theorem zR.abs {x:V}{u:Value}(r:zR x u):KA u=some x:=by
 cases x with
 | non=>cases r;rfl
 | bl _=>cases r;rfl
 | int _=>obtain⟨t,rfl⟩:=r;rfl
 | str _=>obtain⟨t,rfl⟩:=r;rfl
 | byt _=>obtain⟨t,rfl⟩:=r;rfl
 | flt _=>obtain⟨t,rfl⟩:=r;rfl
 | ref _=>cases r;rfl
 | ty _=>cases r;rfl
theorem zR.inj {x y:V}{u:Value}(r:zR x u)(q:zR y u):x=y:=ak (r.abs.symm.trans q.abs)
theorem zM.inj:∀{xs ys:List V} {us:List Value},zM xs us->zM ys us->xs=ys
 | _,_,_,.nil,.nil=>rfl
 | _,_,_,.cons r t,.cons r' t' =>by rw[r.inj r',zM.inj t t']
section
variable {X:Cx}{pins:List (Addr×Obj)}{σ:St}{H:Hp}{s:Shared}{a:Addr}{xs ys:List V}
theorem SqL.of {K:a6}(h:H a=some (.lst xs)):SqL K H a xs:= .inl (.inl h)
theorem SqT.of {K:a6}(h:H a=some (.tup xs)):SqT K H a xs:= .inl (.inl h)
theorem Inv.list (I:Inv X pins σ H s)(h:SqL X.K H a xs):∃its:List Value,zM xs its/\PlainL s.heap a its.toArray/\xs.length<=sizeLine:=by
 rcases h with h | ⟨o,its,n,hk,hc,hd,hs,hz,r⟩
 ·obtain⟨z,its,n,r,e⟩:=h.ok I.hok;exact⟨its,r,⟨_,n,e,rfl,rfl,rfl⟩,z⟩
 ·refine⟨its.toList,r,⟨o,n,I.kIn a o hk,hc,hd,by simpa using hs⟩, ?_⟩
  have e:=r.length;simp only[cj]at e;omega
theorem Inv.tuple (I:Inv X pins σ H s)(h:SqT X.K H a xs):∃its:List Value,zM xs its/\IsTup s.heap a its.toArray/\xs.length<=sizeLine:=by
 rcases h with h | ⟨o,its,n,hk,hc,hs,hz,r⟩
 ·obtain⟨z,its,r,p,_⟩:=h.ok I.hok;exact⟨its,r,p,z⟩
 ·refine⟨its.toList,r,⟨o,I.kIn a o hk,hc,n,by simpa using hs⟩, ?_⟩
  have e:=r.length;simp only[cj]at e;omega
theorem Inv.list_inj (I:Inv X pins σ H s)(h:SqL X.K H a xs)(h' :SqL X.K H a ys):xs=ys:=by
 obtain⟨its,r,⟨o,n,e,_,_,d⟩,_⟩:=I.list h;obtain⟨its',r',⟨o',n',e',_,_,d'⟩,_⟩:=I.list h';rw[e]at e';cases e';rw[d]at d';injection d' with d1 _;have:=by simpa using congrArg Array.toList d1
 subst this;exact r.inj r'
theorem Inv.tuple_inj (I:Inv X pins σ H s)(h:SqT X.K H a xs)(h' :SqT X.K H a ys):xs=ys:=by
 obtain⟨its,r,⟨o,e,_,n,d⟩,_⟩:=I.tuple h;obtain⟨its',r',⟨o',e',_,n',d'⟩,_⟩:=I.tuple h';rw[e]at e';cases e';rw[d]at d';injection d' with d1 _;have:=by simpa using congrArg Array.toList d1
 subst this;exact r.inj r'
end
noncomputable abbrev Cx.wish (X:Cx)(E:Value->Shared->Prop):Cx:={ X with xe:=E }
abbrev Cx.nox (X:Cx):Cx:=X.wish λ_ _=>False
theorem Cx.Ok.wish {X:Cx}(ok:X.Ok)(E:Value->Shared->Prop):(X.wish E).Ok:=
 ⟨ok.mod,ok.kind,ok.glob,ok.blt,ok.above,ok.inj,ok.has,ok.cab,ok.hd,ok.frames,ok.stk,ok.exf,ok.bs,ok.bsz,ok.noex,ok.exfs,ok.funs,ok.frf⟩
theorem Cx.Ok.unwish {X:Cx}{E:Value->Shared->Prop}(ok:(X.wish E).Ok):X.Ok:=
 ⟨ok.mod,ok.kind,ok.glob,ok.blt,ok.above,ok.inj,ok.has,ok.cab,ok.hd,ok.frames,ok.stk,ok.exf,ok.bs,ok.bsz,ok.noex,ok.exfs,ok.funs,ok.frf⟩
section
variable {X:Cx}{pins:List (Addr×Obj)}{σ:St}{H:Hp}{s:Shared}{E:Value->Shared->Prop}
theorem Inv.wish (I:Inv X pins σ H s)(E:Value->Shared->Prop):Inv (X.wish E) pins σ H s:=⟨I.ok.wish E,I.os,I.bare,I.base,I.loc,I.cell,I.free,I.freeC,I.pin,I.hok,I.len⟩
theorem Inv.unwish (I:Inv (X.wish E) pins σ H s):Inv X pins σ H s:=⟨I.ok.unwish,I.os,I.bare,I.base,I.loc,I.cell,I.free,I.freeC,I.pin,I.hok,I.len⟩
theorem SP.unwish {D:Ends}{f:Flow}{s' :Shared}(h:SP (X.wish E) pins D f s'):SP X pins D f s' :=by
 cases f with
 | next=>obtain⟨σ',H',I,q⟩:=h;exact⟨σ',H',I.unwish,q⟩
 | brk=>obtain⟨σ',H',I,q⟩:=h;exact⟨σ',H',I.unwish,q⟩
 | cont=>obtain⟨σ',H',I,q⟩:=h;exact⟨σ',H',I.unwish,q⟩
 | ret u=>obtain⟨v,σ',H',I,r,q⟩:=h;exact⟨v,σ',H',I.unwish,r,q⟩
theorem PSs.nox {st:List Stmt}{t:TS}(h:PSs X.nox st t):PSs X st t:=λpins s σ H D I hw=>
 aB (h _ s σ H D (I.wish _) hw) (λ_ _ q=>q.unwish) λ_ _ z=>aP z
end
section
variable {X:Cx}{st:Stmt}{rest:List Stmt}{t u:TS}{e:Expr}{te:TE}{pos:Pos}
def xW:TS:=λD σ H=>D.nx σ H
def K0 (t u:TS):TS:=λD σ H=>t { D with nx:=u D } σ H
theorem qe:PSs X [] xW:=λ_ _ σ H _ I h=>bG ⟨σ,H,I,h⟩
theorem yf (h1:PS X st t)(h2:PSs X rest u):PSs X (st :: rest) (K0 t u):=by
 intro pins s σ H D I h;refine wpAny_execs_cons (thn (h1 _ s σ H _ I h) λf s1 q=> ?_);cases f with
 | next=>
  obtain⟨σ',H',I',q⟩:=q;exact h2 _ s1 σ' H' D I' q
 | ret v=>exact q
 | brk=>exact q
 | cont=>exact q
theorem uu (h1:PS X st t):PSs X [st] t:=by
 intro pins s σ H D I h;refine wpAny_execs_cons (thn (h1 _ s σ H D I h) λf s1 q=> ?_);cases f with
 | next=>exact bG q
 | ret v=>exact q
 | brk=>exact q
 | cont=>exact q
theorem Inv.quiet {pins:List (Addr×Obj)}{σ:St}{H:Hp}{s:Shared}(I:Inv X pins σ H s):interactive X.env=false:=by simp[interactive,I.ok.kind]
def xX (te:TE):TS:=λD σ H=>te σ H λ_ H1=>D.nx σ H1
theorem wP (he:PE X e te)(hs:swapsWith e none pos.line X.env=pure false:=by rfl):PS X (.Expr e pos) (xX te):=by
 intro pins s σ H D I h;exact wpAny_Expr_any (thn (he _ s σ H _ I h) λv s1 ⟨x,H1,I1,r1,q1⟩=>⟨σ,H1,I1,q1⟩) I.quiet hs
def xY (te:TE):TS:=λD σ H=>te σ H D.rt
theorem Yk (he:PE X e te):PS X (.Return (some e) pos) (xY te):=by
 intro pins s σ H D I h;exact wpAny_Return_some (thn (he _ s σ H _ I h) λv s1 ⟨x,H1,I1,r1,q1⟩=>⟨x,σ,H1,I1,r1,q1⟩)
def K1 (c:TT)(t u:TS):TS:=λD σ H=>c σ H λb H1=>if b=true then t D σ H1 else u D σ H1
theorem xZ {c:Expr}{a b:List Stmt}{tc:TT}(hc:PT X c tc)(ha:PSs X a t)(hb:PSs X b u):PS X (.If c a b pos) (K1 tc t u):=by
 intro pins s σ H D I h;refine wpAny_If (thn (hc _ s σ H _ I h) λd s1 ⟨H1,I1,q1⟩=> ?_);cases d with
 | true=>exact ha _ s1 σ H1 D I1 q1
 | false=>exact hb _ s1 σ H1 D I1 q1
end
abbrev TG:=V->St->Hp->(St->Hp->Prop)->Prop
abbrev TGs:=List V->St->Hp->(St->Hp->Prop)->Prop
def PG (X:Cx)(target:Expr)(t:TG):Prop:=
 ∀(pins:List (Addr×Obj)) (s:Shared) (σ:St) (H:Hp) (v:V) (u:Value) (Q:St->Hp->Prop),Inv X pins σ H s->zR v u->t v σ H Q->
  wpAny (model X.prog X.w) X.A (assign target X.env u) (λ_ s' =>∃σ' H',Inv X pins σ' H' s' /\Q σ' H') X.xe s
def PGs (X:Cx)(ts:List Expr)(t:TGs):Prop:=
 ∀(pins:List (Addr×Obj)) (s:Shared) (σ:St) (H:Hp) (vs:List V) (us:List Value) (Q:St->Hp->Prop),Inv X pins σ H s->zM vs us->t vs σ H Q->
  wpAny (model X.prog X.w) X.A (assignInOrder ((assignEach ts X.env).map (·.2)) us) (λ_ s' =>∃σ' H',Inv X pins σ' H' s' /\Q σ' H') X.xe s
section
variable {X:Cx}{pos:Pos}
def JZ (i:Nat):TG:=λv σ H Q=>Q (σ.set i (some v)) H
theorem j7 {i:Nat}{x:Str}(hN:X.N.Nodup)(hi:X.N[i]? =some x)(hx:Loc X.env.scope x)(hf:X.fn x=true\/X.env.scope.names.lookup x=some .local:=by first | exact .inl rfl | exact .inr rfl | assumption):PG X (.Name x pos) (JZ i):=by
 intro pins s σ H v u Q I r h;exact wpAny_assign_Name (ZS I hN hi hx r (λs' I' =>⟨_,H,I',h⟩) hf)
def KC:TGs:=λvs σ H Q=>vs=[]/\Q σ H
def X1 (t:TG)(u:TGs):TGs:=λvs σ H Q=>∃v r,vs=v :: r/\t v σ H λσ' H' =>u r σ' H' Q
theorem qf:PGs X [] KC:=by
 intro pins s σ H vs us Q I r h;obtain⟨e,h⟩:=h;exact assignInOrder_nil ⟨σ,H,I,h⟩
theorem W7 {e:Expr}{es:List Expr}{t:TG}{u:TGs}(h1:PG X e t)(h2:PGs X es u)
  (hs:(assignEach (e :: es) X.env).map (·.2)=assign e X.env :: (assignEach es X.env).map (·.2):=by rfl):PGs X (e :: es) (X1 t u):=by
 intro pins s σ H vs us Q I r h;obtain⟨v,vr,e1,h⟩:=h;subst e1;cases r with
 | cons r rr=>
  rw[hs];refine assignInOrder_cons (thn (h1 _ s σ H _ _ _ I r h) λ_ s1 ⟨σ1,H1,I1,q1⟩=> ?_);exact h2 _ s1 σ1 H1 _ _ Q I1 rr q1
def K2 (K:a6)(n:Nat)(t:TGs):TG:=λv σ H Q=>∃a xs,v= .ref a/\SqT K H a xs/\xs.length=n/\t xs σ H Q
theorem vi {es:List Expr}{k:Nat}{t:TGs}{n:Nat}(hc:X.calm=true)(h:PGs X es t)
  (hn:(assignEach es X.env).length=n:=by rfl) (hst:(assignEach es X.env).findIdx? (·.1)=none:=by rfl):PG X (.Tuple es k pos) (K2 X.K n t):=by
 intro pins s σ H v u Q I r hw;obtain⟨a,xs,e1,hq,hl,hw⟩:=hw;subst e1;cases r;obtain⟨its,rv,ht,hz⟩:=I.tuple hq;refine assign_Tuple_tuple (I.ok.hd hc) ht (by simp[hn,← hl,rv.length]) hst λh' hx=> ?_
 have I1:Inv X _ σ H { s with heap:=h' }:=I.kept λb o e=>hx b o (aA (a9 e)) e;exact h _ _ σ H xs _ Q I1 (by simpa using rv) hw
def K3 (te:TE)(g:TG):TS:=λD σ H=>te σ H λx H1=>g x σ H1 D.nx
theorem Yl {i:Nat}{x:Str}{e:Expr}{te:TE}{pos' :Pos}(hN:X.N.Nodup)(hi:X.N[i]? =some x)(hx:Loc X.env.scope x)(he:PE X e te)(hs:swapsWith e (some (.Name x pos')) pos.line X.env=pure false:=by rfl)(hf:X.fn x=true\/X.env.scope.names.lookup x=some .local:=by first | exact .inl rfl | exact .inr rfl | assumption):
  PS X (.Assign [.Name x pos'] e pos) (K3 te (JZ i)):=by
 intro pins s σ H D I h;refine wpAny_Assign_Name (thn (he _ s σ H _ I h) λv s1 ⟨y,H1,I1,r1,q1⟩=> ?_) hs;exact ZS I1 hN hi hx r1 (λs2 I2=>⟨_,H1,I2,q1⟩) hf
end
structure It where
 go:Nat->Hp->Prop
 yld:Nat->Hp->V->Hp->Prop
 stop:Nat->Hp->Prop
def J6 (X:Cx)(pins:List (Addr×Obj))(H:Hp)(b:Addr):Prop:=
 H b=none/\b ≠ X.env.locals/\b ∉ X.fs/\(b∈X.ex\/X.s₀.heap.objs.size<=b)/\(∀x c,X.env.cells.lookup x=some c->c ≠ b)/\∀p∈X.pn++pins,p.1 ≠ b
theorem Inv.fpOk {X:Cx}{pins:List (Addr×Obj)}{σ:St}{H H' :Hp}{s:Shared}{b:Addr}(I:Inv X pins σ H s)(hb:s.heap.objs.size<=b)(hn:H' b=none):J6 X pins H' b:=by
 refine⟨hn,ce (ar I.lt hb),I.nofs hb,.inr (ay I.sz hb),λx c e z=> ?_,λp hp z=> ?_⟩
 ·obtain⟨v,q⟩:=I.cell x c e;exact absurd (ar q.lt (by rw[z];exact hb)) (aN _)
 ·exact absurd (ar (a9 (I.pin p hp).1) (by rw[z];exact hb)) (aN _)
structure uv (P:Program) (w:World) (K:a6) (tg:Expr) (J:It) (fp:List Addr) (it:Addr) (tn:Nat->Heap->Prop):Prop where
 mem:it∈fp
 obj:∀i h,tn i h->∀b∈fp,∃o,h.get? b=some o/\∀v,o.data ≠ .cell v
 keep:∀i h h',tn i h->(∀b∈fp,∀o,h.get? b=some o->h'.get? b=some o)->tn i h'
 item:∀(X:Cx),X.prog=P->X.w=w->X.K=K->X.calm=true->∀(i:Nat) (pins:List (Addr×Obj)) (s:Shared) (σ:St) (H:Hp) (E:Value->Shared->Prop),Inv X pins σ H s->(∀b∈fp,J6 X pins H b)->tn i s.heap->J.go i H->
  wpAny (model P w) X.A (pyNext (.ref it)) (λr s1=>∃u,r=some u/\
   wpAny (model P w) X.A (letOwnedTupleGo tg (.ref it) u) (λ_ s2=>∃x H',Inv X pins σ H' s2/\zR x u/\J.yld i H x H' /\tn (i+1) s2.heap/\∀b∈fp,H' b=none) E s1) E s
 done:∀(X:Cx),X.prog=P->X.w=w->X.K=K->X.calm=true->∀(i:Nat) (pins:List (Addr×Obj)) (s:Shared) (σ:St) (H:Hp) (E:Value->Shared->Prop),Inv X pins σ H s->(∀b∈fp,J6 X pins H b)->tn i s.heap->J.stop i H->
  wpAny (model P w) X.A (pyNext (.ref it)) (λr s1=>r=none/\Inv X pins σ H s1) E s
 self:∀(A:Around) (i:Nat) (s:Shared) (Q:Value->Shared->Prop) (E:Value->Shared->Prop),tn i s.heap->Q (.ref it) s->wpAny (model P w) A (pyIter (.ref it)) Q E s
abbrev TI:=St->Hp->(It->Hp->Prop)->Prop
def PIE (X:Cx)(pins:List (Addr×Obj))(σ:St)(tg:Expr)(R:It->Hp->Prop)(itv:Value)(s2:Shared):Prop:=
 ∃(it:Addr) (fp:List Addr) (tn:Nat->Heap->Prop) (J:It) (H' :Hp),itv= .ref it/\Inv X pins σ H' s2/\uv X.prog X.w X.K tg J fp it tn/\tn 0 s2.heap/\(∀b∈fp,J6 X pins H' b)/\R J H'
def PI (X:Cx)(tg iter:Expr)(wi:TI):Prop:=
 ∀(pins:List (Addr×Obj)) (s:Shared) (σ:St) (H:Hp) (R:It->Hp->Prop),Inv X pins σ H s->wi σ H R->
  wpAny (model X.prog X.w) X.A (eval iter X.env) (λv s1=>wpAny (model X.prog X.w) X.A (pyIter v) (PIE X pins σ tg R) X.xe s1) X.xe s
theorem yg {M:Model}{A:Around}{E:Value->Shared->Prop}{s:Shared}{tg:Expr}{it:Addr}{u:Value}{o:Obj}{n:String}{vs:Array Value}{Q:Unit->Shared->Prop}(ho:s.heap.get? it=some o)(hc:o.cls= .type n)(hd:o.data= .fields vs)
  (hn:["enumerate","zip","dict_itemiterator","dict_reverseitemiterator","odict_iterator","itertools.zip_longest","itertools.pairwise"].contains n=false) (hQ:Q () s):wpAny M A (letOwnedTupleGo tg (.ref it) u) Q E s:=by
 cases tg <;> first
  | exact aq hQ
  | (cases u <;> first
    | exact aq hQ
    | (refine a4 (wpAny_load ho ?_);rw[hc,hd];show wpAny M A (if (["enumerate","zip","dict_itemiterator","dict_reverseitemiterator","odict_iterator","itertools.zip_longest","itertools.pairwise"].contains n && vs[0]? == some _)=true then _ else _) Q E s;rw[if_neg (by intro h;rw[hn]at h;cases h)];exact aq hQ))
def Itl (K:a6)(a:Addr):It:=
 ⟨λi H=>∃xs x,SqL K H a xs/\xs[i]? =some x,λi H x H' =>H' =H/\∀xs,SqL K H a xs->xs[i]? =some x,λi H=>∃xs,SqL K H a xs/\xs.length<=i⟩
def Itt (K:a6)(a:Addr):It:=
 ⟨λi H=>∃xs x,SqT K H a xs/\xs[i]? =some x,λi H x H' =>H' =H/\∀xs,SqT K H a xs->xs[i]? =some x,λi H=>∃xs,SqT K H a xs/\xs.length<=i⟩
noncomputable def Itr (lo:Int)(n:Nat):It:=⟨λi _=>i < n,λi H x H' =>H' =H/\x= .int (lo+i),λi _=>n<=i⟩
theorem uw {P:Program}{w:World}{K:a6}{tg:Expr}(a it:Addr):uv P w K tg (Itl K a) [it] it (λi h=>h.IsListIter it a i) where
 mem:=by simp
 obj:=λi h st b hb=>by
  have e:b=it:=by simpa using hb
  subst e;obtain⟨o,e,c,d⟩:=st;exact⟨o,e,λv z=>by rw[d]at z;cases z⟩
 keep:=λi h h' st k=>st.at λo e=>k it (by simp) o e
 item:=by
  intro X hP hw hK hc i pins s σ H E I hf st hg;subst hP hw hK;obtain⟨xs,x,hq,hx⟩:=hg;obtain⟨its,rv,p,hz⟩:=I.list hq;obtain⟨u,hu,ru⟩:=rv.get hx;obtain⟨f0,f1,f2,f3,f4,f5⟩:=hf it (by simp)
  refine wpAny_pyNext_list_item st p.isList (x:=u) (by simpa using hu) λh' st' sb=> ?_
  have I1:Inv X pins σ H { s with heap:=h' }:=I.turned (t' :=s.toks) (λb o hb e=>(sb.2 b hb).trans e) f0 f1 f3 f4 f5;obtain⟨o,e,c,d⟩:=id st';exact⟨u,rfl,yg (s:={ s with heap:=h' }) e c d (by decide) ⟨x,H,I1,ru,⟨rfl,λys hy=>by rw[I.list_inj hy hq];exact hx⟩,st',λb hb=>(hf b hb).1⟩⟩
 done:=by
  intro X hP hw hK hc i pins s σ H E I hf st hg;subst hP hw hK;obtain⟨xs,hq,hx⟩:=hg;obtain⟨its,rv,p,hz⟩:=I.list hq;obtain⟨f0,f1,f2,f3,f4,f5⟩:=hf it (by simp)
  have hl:=rv.length;exact wpAny_pyNext_list_end (I.ok.hd hc) st p.isList (by simp;omega) λh' eb=>⟨rfl,I.turned (t' :=s.toks) (λb o hb e=>eb b o hb e) f0 f1 f3 f4 f5⟩
 self:=λ_ _ _ _ _ st h=>wpAny_pyIter_listiter st h
theorem WH {P:Program}{w:World}{K:a6}{tg:Expr}(a it:Addr):uv P w K tg (Itt K a) [it] it (λi h=>h.IsTupleIter it a i) where
 mem:=by simp
 obj:=λi h st b hb=>by
  have e:b=it:=by simpa using hb
  subst e;obtain⟨o,e,c,d⟩:=st;exact⟨o,e,λv z=>by rw[d]at z;cases z⟩
 keep:=λi h h' st k=>st.at λo e=>k it (by simp) o e
 item:=by
  intro X hP hw hK hc i pins s σ H E I hf st hg;subst hP hw hK;obtain⟨xs,x,hq,hx⟩:=hg;obtain⟨its,rv,p,hz⟩:=I.tuple hq;obtain⟨u,hu,ru⟩:=rv.get hx;obtain⟨f0,f1,f2,f3,f4,f5⟩:=hf it (by simp)
  refine wpAny_pyNext_tuple_item st (show s.heap.IsTuple a its.toArray from p) (x:=u) (by simpa using hu) λh' st' sb=> ?_
  have I1:Inv X pins σ H { s with heap:=h' }:=I.turned (t' :=s.toks) (λb o hb e=>(sb.2 b hb).trans e) f0 f1 f3 f4 f5;obtain⟨o,e,c,d⟩:=id st';exact⟨u,rfl,yg (s:={ s with heap:=h' }) e c d (by decide) ⟨x,H,I1,ru,⟨rfl,λys hy=>by rw[I.tuple_inj hy hq];exact hx⟩,st',λb hb=>(hf b hb).1⟩⟩
 done:=by
  intro X hP hw hK hc i pins s σ H E I hf st hg;subst hP hw hK;obtain⟨xs,hq,hx⟩:=hg;obtain⟨its,rv,p,hz⟩:=I.tuple hq;obtain⟨f0,f1,f2,f3,f4,f5⟩:=hf it (by simp)
  have hl:=rv.length;exact wpAny_pyNext_tuple_end (I.ok.hd hc) st (show s.heap.IsTuple a its.toArray from p) (by simp;omega) λh' eb=>⟨rfl,I.turned (t' :=s.toks) (λb o hb e=>eb b o hb e) f0 f1 f3 f4 f5⟩
 self:=λ_ _ _ _ _ st h=>wpAny_pyIter_tupleiter st h
theorem WI {P:Program}{w:World}{K:a6}{tg:Expr}(it:Addr)(lo:Int)(n:Nat):uv P w K tg (Itr lo n) [it] it (λi h=>IsRangeIter h it (lo+(i:Nat)*1) ((n:Int) - (i:Nat)) 1) where
 mem:=by simp
 obj:=λi h st b hb=>by
  have e:b=it:=by simpa using hb
  subst e;exact⟨_,st,λv z=>by
   have z' :Data.fields _=Data.cell v:=z;cases z'⟩
 keep:=λi h h' st k=>k it (by simp) _ st
 item:=by
  intro X hP hw hK hc i pins s σ H E I hf st hg;subst hP hw hK;obtain⟨f0,f1,f2,f3,f4,f5⟩:=hf it (by simp)
  have W:=Walks.range (prog:=X.prog) (w:=X.w) (I.ok.hd hc) it lo 1 n;refine W.item i s _ _ hg st λv h' tk hv st' kk=> ?_;obtain⟨t,rfl⟩:=hv;have I1:Inv X pins σ H { s with heap:=h',toks:=tk }:=I.turned (λb o hb e=>kk b o (by simpa using hb) e) f0 f1 f3 f4 f5
  refine⟨_,rfl,yg (s:={ s with heap:=h',toks:=tk }) (n:="range_iterator") st' rfl rfl (by decide) ⟨.int (lo+i),H,I1,⟨t, ?_⟩,⟨rfl,rfl⟩,st',λb hb=>(hf b hb).1⟩⟩
  rw[Int.mul_one]
 done:=by
  intro X hP hw hK hc i pins s σ H E I hf st hg;subst hP hw hK;obtain⟨f0,f1,f2,f3,f4,f5⟩:=hf it (by simp)
  exact wpAny_pyNext_range_end (I.ok.hd hc) st (by have:n<=i:=hg;omega) λh' eb=>⟨rfl,I.turned (t' :=s.toks) (λb o hb e=>eb b o hb e) f0 f1 f3 f4 f5⟩
 self:=λ_ _ _ _ _ st h=>wpAny_pyIter_rangeiter st h
end L2
namespace L2
open PySem PySem.Spec PyProof.Rows
section
variable {X:Cx}{tg:Expr}
theorem yh {pins:List (Addr×Obj)}{σ:St}{H:Hp}{s:Shared}{R:It->Hp->Prop}{E:Value->Shared->Prop}{lo hi:Int}{t u v:Tok}{tk:Nat}(I:Inv X pins σ H s)(h1: -(2 ^ 62)<=lo)(h2:lo < 2 ^ 62)(h3: -(2 ^ 62)<=hi)(h4:hi < 2 ^ 62)
  (q:R (Itr lo (hi - lo).toNat) H):wpAny (model X.prog X.w) X.A (pyIter (.ref s.heap.objs.size)) (PIE X pins σ tg R) E { s with heap:=s.heap.push { cls:= .type "range",data:= .fields #[.int lo t,.int hi u,.int 1 v] },toks:=tk }:=by
 refine wpAny_pyIter_range (IsRange.new ..) (small_one h1 h2 h3 h4) ?_;have I1:Inv X _ σ H { s with heap:=s.heap.push { cls:= .type "range",data:= .fields #[.int lo t,.int hi u,.int 1 v] },toks:=tk }:=I.kept λb o e=>a7 _ e;refine⟨(s.heap.push _).objs.size,[(s.heap.push _).objs.size],_,_,H,rfl,
  I1.kept λb o e=>a7 _ e,WI _ lo _, ?_,λb hb=> ?_,q⟩
 ·have e1:lo+((0:Nat))*1=lo:=by simp
  have e2:(((hi - lo).toNat):Int) - ((0:Nat))=Builtin.Range.rangeSize lo hi 1:=by rw[rangeSize_one];split <;> omega
  rw[e1,e2];exact ao _ rfl
 ·have e:b=(s.heap.push { cls:= .type "range",data:= .fields #[.int lo t,.int hi u,.int 1 v] }).objs.size:=by simpa using hb
  subst e;exact I1.fpOk (ag _) (I1.hok.fresh (ag _))
def X2 (ta:TA):TI:=λσ H R=>ta σ H λvs H1=>∃j:Int,vs=[.int j]/\ -(2 ^ 62)<=j/\j < 2 ^ 62/\R (Itr 0 j.toNat) H1
theorem ux {a:Expr}{ta:TA}{p pos:Pos}(hg:Gl X "range")(hm:X.mg "range"=none)(ha:PA X [a] ta)(hs:starEach [a] X.env=[(false,eval a X.env)]:=by rfl):PI X tg (.Call (.Name "range" p) [a] [] pos) (X2 ta):=by
 intro pins s σ H R I h;refine Call_ (jk I hg hm boot_range (c6 (thn (ha pos _ s σ H _ I h) λus s1 ⟨vs,H1,I1,r1,q1⟩=> ?_) hs rfl));obtain⟨j,e,q1,q2,q⟩:=q1;subst e;cases r1 with
 | cons r rr=>
  cases rr;obtain⟨t,rfl⟩:=r;exact call_range_1 (yh I1 (by omega) (by omega) q1 q2 (by simpa using q))
def K4 (wi:TI)(g:TG)(tb:TS):TS:=λD σ H=>wi σ H λJ H1=>∃W:Nat->Nat->St->Hp->Prop,(∃m,W 0 m σ H1)/\∀i m σ H,W i m σ H->
 (J.stop i H/\D.nx σ H)\/(J.go i H/\∃N:St->Hp->Prop,(∀σ' H',N σ' H' ->∃m',m' < m/\W (i+1) m' σ' H')/\∀x H',J.yld i H x H' ->g x σ H' λσ2 H2=>tb { D with nx:=N,ct:=N,bk:=D.nx } σ2 H2)
noncomputable def w4 (fp:List Addr)(h:Heap):List (Addr×Obj):=fp.filterMap λb=>(h.get? b).map λo=>(b,o)
theorem zQ {fp:List Addr}{h:Heap}{b:Addr}{o:Obj}(hb:b∈fp)(e:h.get? b=some o):(b,o)∈w4 fp h:=bI.mpr ⟨b,hb,by rw[e];rfl⟩
theorem uy {fp:List Addr}{h:Heap}{p:Addr×Obj}(hp:p∈w4 fp h):p.1∈fp/\h.get? p.1=some p.2:=by
 obtain⟨b,hb,e⟩:=bI.mp hp;cases q:h.get? b with
 | none=>rw[q]at e;cases e
 | some o=>
  rw[q]at e;have e' :=ak e;subst e';exact⟨hb,q⟩
theorem Inv.pinned {pins:List (Addr×Obj)}{σ:St}{H:Hp}{s:Shared}{fp:List Addr}(I:Inv X pins σ H s)(hf:∀b∈fp,J6 X pins H b)(ho:∀b∈fp,∃o,s.heap.get? b=some o/\∀v,o.data ≠ .cell v):Inv X (pins++w4 fp s.heap) σ H s:=
 I.pins_of λp hp=>(bc.mp hp).elim (λz=>I.pin p (am _ z)) λz=>by
  obtain⟨hb,e⟩:=uy z;obtain⟨f0,f1,f2,_⟩:=hf p.1 hb;obtain⟨o,e',d⟩:=ho p.1 hb;rw[e]at e';cases e';exact⟨e,f0,f1,f2,d⟩
theorem Inv.unpinned {pins pl:List (Addr×Obj)}{σ:St}{H:Hp}{s:Shared}(I:Inv X (pins++pl) σ H s):Inv X pins σ H s:=I.pins_of λp hp=>I.pin p (am _ (bn _ hp))
theorem vj {iter:Expr}{body:List Stmt}{wi:TI}{g:TG}{tb:TS}{pos:Pos}(hp:PassesOwn (model X.prog X.w) X.A X.env X.xe)(hc:X.calm=true)(hi:PI X tg iter wi)(hg:PG X tg g)(hb:PSs X body tb)
  (hs:∀x,foldedSetIterable iter X.env x=pure x:=by intro _;rfl):PS X (.For tg iter body [] pos) (K4 wi g tb):=by
 intro pins s σ H D I h;refine wpAny_For (thn (hi _ s σ H _ I h) λv s1 h1=>thn h1 λitv s2 h2=> ?_) hs;obtain⟨it,fp,tn,J,H2,e,I2,T,st2,f2,W,⟨m0,w0⟩,turn⟩:=h2;subst e;have stat:∀{H' :Hp},(∀b∈fp,H' b=none)->∀b∈fp,J6 X _ H' b:=λhn b hb=>⟨hn b hb,(f2 b hb).2⟩;refine codeAny_forLoop_any (λn s' =>∃i σ' H',Inv X _ σ' H' s' /\tn i s'.heap/\(∀b∈fp,H' b=none)/\W i n σ' H') ?_ m0 ⟨0,σ,H2,I2,st2,λb hb=>(f2 b hb).1,w0⟩
 rintro n s3 ⟨i,σ3,H3,I3,st3,fr3,w3⟩
 rcases turn i n σ3 H3 w3 with ⟨stop,qn⟩ | ⟨go,N,hN,step⟩
 ·refine bx hp (thn (T.done X rfl rfl rfl hc i _ s3 σ3 H3 _ I3 (stat fr3) st3 stop) λr s4 ⟨hr,I4⟩=> ?_);subst hr;exact bG ⟨σ3,H3,I4,qn⟩
 ·refine bx hp (thn (T.item X rfl rfl rfl hc i _ s3 σ3 H3 _ I3 (stat fr3) st3 go) λr s4 ⟨u,hr,h4⟩=> ?_);subst hr;refine bx hp (thn h4 λ_ s5 ⟨x,H5,I5,r5,y5,st5,fr5⟩=> ?_);have I5' :=I5.pinned (stat fr5) (T.obj _ _ st5);refine bx hp (thn (hg _ s5 σ3 H5 x u _ I5' r5 (step x H5 y5)) λ_ s6 ⟨σ6,H6,I6,q6⟩=> ?_);refine bx hp (thn (hb _ s6 σ6 H6 _ I6 q6) λf s7 q7=> ?_);have again:∀{σ7:St} {H7:Hp},Inv X (pins++w4 fp _) σ7 H7 s7->N σ7 H7->∃m,m < n/\∃i σ' H',Inv X _ σ' H' s7/\tn i _/\(∀b∈fp,H' b=none)/\W i m σ' H' :=λ{σ7 H7} I7 n7=>by
   obtain⟨m',hm,w7⟩:=hN σ7 H7 n7;refine⟨m',hm,i+1,σ7,H7,I7.unpinned,T.keep _ _ _ st5 λb hb o e=>(I7.pin _ (am _ (am _ (zQ hb e)))).1,λb hb=> ?_,w7⟩;obtain⟨o,e,d⟩:=T.obj _ _ st5 b hb;exact(I7.pin _ (am _ (am _ (zQ hb e)))).2.1
  cases f with
  | next=>obtain⟨σ7,H7,I7,n7⟩:=q7;exact again I7 n7
  | cont=>obtain⟨σ7,H7,I7,n7⟩:=q7;exact again I7 n7
  | brk=>obtain⟨σ7,H7,I7,q7⟩:=q7;exact⟨σ7,H7,I7.unpinned,q7⟩
  | ret v=>obtain⟨x7,σ7,H7,I7,r7,q7⟩:=q7;exact⟨x7,σ7,H7,I7.unpinned,r7,q7⟩
end
end L2
namespace L2
open PySem PySem.Spec PyProof.Rows
abbrev R2:=V->V->Hp->VK->Prop
def OpR (X:Cx)(f:Value->Value->Sem Value)(r:R2):Prop:=
 ∀(pins:List (Addr×Obj)) (s:Shared) (σ:St) (H:Hp) (x y:V) (v u:Value) (Q:VK),Inv X pins σ H s->zR x v->zR y u->r x y H Q->
  wpAny (model X.prog X.w) X.A (f v u) (EP X pins σ Q) X.xe s
def UnR (X:Cx)(f:Value->Sem Value)(r:V->Hp->VK->Prop):Prop:=
 ∀(pins:List (Addr×Obj)) (s:Shared) (σ:St) (H:Hp) (x:V) (v:Value) (Q:VK),Inv X pins σ H s->zR x v->r x H Q->
  wpAny (model X.prog X.w) X.A (f v) (EP X pins σ Q) X.xe s
def Zy (X:Cx)(f:Value)(r:List V->Hp->VK->Prop):Prop:=
 ∀(pins:List (Addr×Obj)) (s:Shared) (σ:St) (H:Hp) (xs:List V) (us:List Value) (Q:VK),Inv X pins σ H s->zM xs us->r xs H Q->
  wpAny (model X.prog X.w) X.A (call f us) (EP X pins σ Q) X.xe s
def KD (X:Cx)(r:V->Hp->(Bool->Hp->Prop)->Prop):Prop:=
 ∀(pins:List _) (s:Shared) (σ:St) (H:Hp) (x:V) (v:Value) (Q:Bool->Hp->Prop),Inv X pins σ H s->zR x v->r x H Q->
  wpAny (model X.prog X.w) X.A (truthy v) (TP X pins σ Q) X.xe s
def tOp (r:R2)(ta tb:TE):TE:=λσ H Q=>ta σ H λx H1=>tb σ H1 λy H2=>r x y H2 Q
def tUn (r:V->Hp->VK->Prop)(ta:TE):TE:=λσ H Q=>ta σ H λx H1=>r x H1 Q
def rI (C:Int->Int->Prop)(g:Int->Int->V):R2:=λx y H Q=>∃i j,x= .int i/\y= .int j/\C i j/\Q (g i j) H
def rI0 (g:Int->Int->V):R2:=λx y H Q=>∃i j,x= .int i/\y= .int j/\Q (g i j) H
def rU (g:Int->V):V->Hp->VK->Prop:=λx H Q=>∃i,x= .int i/\Q (g i) H
section
variable {X:Cx}{a b c:Expr}{ta tb tc:TE}{pos:Pos}
theorem X3 (ha:PE X a ta)(hb:PE X b tb){pins:List (Addr×Obj)}{s:Shared}{σ:St}{H:Hp}{R:V->V->Hp->Prop}(I:Inv X pins σ H s)
  (h:ta σ H λx H1=>tb σ H1 λy H2=>R x y H2) {Q:Value->Shared->Prop} {f:Value->Value->Sem Value}
  (hf:∀v u s2 x y H2,Inv X pins σ H2 s2->zR x v->zR y u->R x y H2->wpAny (model X.prog X.w) X.A (f v u) Q X.xe s2):
  wpAny (model X.prog X.w) X.A (eval a X.env) (λv s₁=>wpAny (model X.prog X.w) X.A (eval b X.env) (λu s₂=>wpAny (model X.prog X.w) X.A (f v u) Q X.xe s₂) X.xe s₁) X.xe s:=by
 refine thn (ha _ s σ H _ I h) λv s1 ⟨x,H1,I1,r1,q1⟩=> ?_;refine thn (hb _ s1 σ H1 _ I1 q1) λu s2 ⟨y,H2,I2,r2,q2⟩=> ?_;exact hf v u s2 x y H2 I2 r1 r2 q2
theorem X4 {op:Operator}{r:R2}(ho:OpR X (binaryOp op) r)(ha:PE X a ta)(hb:PE X b tb):PE X (.BinOp a op b pos) (tOp r ta tb):=by
 intro pins s σ H Q I h;exact wpAny_BinOp (X3 ha hb I h λv u s2 x y H2 I2 rx ry q=>ho _ s2 σ H2 x y v u Q I2 rx ry q)
theorem X5 {op:UnaryOp}{r:V->Hp->VK->Prop}(ho:UnR X (unaryOp op) r)(ha:PE X a ta):PE X (.UnaryOp op a pos) (tUn r ta):=by
 intro pins s σ H Q I h;exact UnaryOp_ (thn (ha _ s σ H _ I h) λv s1 ⟨x,H1,I1,r1,q1⟩=>ho _ s1 σ H1 x v Q I1 r1 q1)
theorem opI {f:Value->Value->Sem Value}{C:Int->Int->Prop}{g:Int->Int->Int}
  (rule:∀(i j:Int) (t u:Tok) (s:Shared) (Q:Value->Shared->Prop) (E:Value->Shared->Prop),C i j->Q (.int (g i j) s.toks) { s with toks:=s.toks+1 }->wpAny (model X.prog X.w) X.A (f (.int i t) (.int j u)) Q E s):
  OpR X f (rI C λi j=> .int (g i j)):=by
 intro pins s σ H x y v u Q I rx ry h;obtain⟨i,j,rfl,rfl,hc,q⟩:=h;obtain⟨t,rfl⟩:=rx;obtain⟨t',rfl⟩:=ry;exact rule i j t t' s _ _ hc ⟨.int _,H,I.tok _,⟨_,rfl⟩,q⟩
theorem K5 {f:Value->Value->Sem Value}{g:Int->Int->Int}
  (rule:∀(i j:Int) (t u:Tok) (s:Shared) (Q:Value->Shared->Prop) (E:Value->Shared->Prop),Q (.int (g i j) s.toks) { s with toks:=s.toks+1 }->wpAny (model X.prog X.w) X.A (f (.int i t) (.int j u)) Q E s):
  OpR X f (rI0 λi j=> .int (g i j)):=by
 intro pins s σ H x y v u Q I rx ry h;obtain⟨i,j,rfl,rfl,q⟩:=h;obtain⟨t,rfl⟩:=rx;obtain⟨t',rfl⟩:=ry;exact rule i j t t' s _ _ ⟨.int _,H,I.tok _,⟨_,rfl⟩,q⟩
theorem X6 {f:Value->Value->Sem Value}{g:Int->Int->Bool}
  (rule:∀(i j:Int) (t u:Tok) (s:Shared) (Q:Value->Shared->Prop) (E:Value->Shared->Prop),Q (.bool (g i j)) s->wpAny (model X.prog X.w) X.A (f (.int i t) (.int j u)) Q E s):
  OpR X f (rI0 λi j=> .bl (g i j)):=by
 intro pins s σ H x y v u Q I rx ry h;obtain⟨i,j,rfl,rfl,q⟩:=h;obtain⟨t,rfl⟩:=rx;obtain⟨t',rfl⟩:=ry;exact rule i j t t' s _ _ ⟨.bl _,H,I,rfl,q⟩
noncomputable def KG (i j:Int):Prop:=0 < j/\j < 1073741824
noncomputable def wQ (i j:Int):Prop:=(-(2 ^ 64) < i/\i < 2 ^ 64)\/(-(2 ^ 64) < j/\j < 2 ^ 64)
theorem wQ.ok {i j:Int}(h:wQ i j):IntMulOk i j:=by
 rcases h with ⟨h1,h2⟩ | ⟨h1,h2⟩
 ·exact .of_left (intBits_le_64 h1 h2)
 ·exact .of_right (intBits_le_64 h1 h2)
theorem vk:OpR X (binaryOp .Add) (rI0 λi j=> .int (i+j)):=K5 λ_ _ _ _ _ _ _ q=>add_int q
theorem vm:OpR X (binaryOp .Sub) (rI0 λi j=> .int (i - j)):=K5 λ_ _ _ _ _ _ _ q=>sub_int q
theorem vn:OpR X (binaryOp .Mult) (rI wQ λi j=> .int (i*j)):=opI λ_ _ _ _ _ _ _ hc q=>mul_int q hc.ok
theorem qg:OpR X (binaryOp .FloorDiv) (rI KG λi j=> .int (i / j)):=opI λi j _ _ _ _ _ hc q=>by
 have h1:=hc.1;have h2:=hc.2;exact floordiv_int (by omega) (by rw[Int.fdiv_eq_ediv_of_nonneg i (by omega)];exact q) (.inl (PyProof.noPylong_small (by omega)))
theorem vo:OpR X (binaryOp .Mod) (rI (λ_ j=>0 < j) λi j=> .int (i % j)):=opI λi j _ _ _ _ _ hc q=>by
 exact mod_int' (by omega) (by rw[Int.fmod_eq_emod_of_nonneg i (by omega)];exact q)
theorem unI {f:Value->Sem Value}{g:Int->Int}
  (rule:∀(i:Int) (t:Tok) (s:Shared) (Q:Value->Shared->Prop) (E:Value->Shared->Prop),Q (.int (g i) s.toks) { s with toks:=s.toks+1 }->wpAny (model X.prog X.w) X.A (f (.int i t)) Q E s):
  UnR X f (rU λi=> .int (g i)):=by
 intro pins s σ H x v Q I rx h;obtain⟨i,rfl,q⟩:=h;obtain⟨t,rfl⟩:=rx;exact rule i t s _ _ ⟨.int _,H,I.tok _,⟨_,rfl⟩,q⟩
theorem vp:UnR X (unaryOp .USub) (rU λi=> .int (-i)):=unI λ_ _ _ _ _ q=>neg_int q
theorem uz:OpR X (binaryOp .Add) (λx y H Q=>∃i k,x= .int i/\y= .bl k/\Q (.int (i+b2i k)) H):=by
 intro pins s σ H x y v u Q I rx ry h;obtain⟨i,k,rfl,rfl,q⟩:=h;obtain⟨t,rfl⟩:=rx;cases ry;exact add_int_bool ⟨.int _,H,I.tok _,⟨_,rfl⟩,q⟩
end
section
variable {X:Cx}{a b c:Expr}{ta tb tc:TE}{pos:Pos}
theorem X7:OpR X (compareOp .Lt) (rI0 λi j=> .bl (decide (i < j))):=X6 λ_ _ _ _ _ _ _ q=>lt_int q
theorem X8:OpR X (compareOp .LtE) (rI0 λi j=> .bl (decide (i<=j))):=X6 λ_ _ _ _ _ _ _ q=>le_int q
theorem X9:OpR X (compareOp .Gt) (rI0 λi j=> .bl (decide (j < i))):=X6 λ_ _ _ _ _ _ _ q=>gt_int q
theorem jD (b:Expr){op:CmpOp}(h:op ≠ .In:=by decide)(h2:op ≠ .NotIn:=by decide):behindInMarks op b=false:=by
 have e1:(op == CmpOp.In)=false:=by cases op <;> first | rfl | exact absurd rfl h
 have e2:(op == CmpOp.NotIn)=false:=by cases op <;> first | rfl | exact absurd rfl h2
 cases b <;> simp[behindInMarks,e1,e2]
theorem qh {op:CmpOp}{r:R2}(ho:OpR X (compareOp op) r)(ha:PE X a ta)(hb:PE X b tb)(hm:behindInMarks op b=false):PE X (.Compare a [op] [b] pos) (tOp r ta tb):=by
 intro pins s σ H Q I h;exact wpAny_Compare1 (X3 ha hb I h λv u s2 x y H2 I2 rx ry q=>ho _ s2 σ H2 x y v u Q I2 rx ry q) hm
def qi (t:TE):TT:=λσ H Q=>t σ H λx H' =>∃k,x= .bl k/\Q k H'
theorem qj {op:CmpOp}{r:R2}(ho:OpR X (compareOp op) r)(ha:PE X a ta)(hb:PE X b tb)(hm:behindInMarks op b=false):PT X (.Compare a [op] [b] pos) (qi (tOp r ta tb)):=by
 intro pins s σ H Q I h;refine wpAny_isTrue_Compare1 (thn (ha _ s σ H _ I h) λv s1 ⟨x,H1,I1,r1,q1⟩=>thn (hb _ s1 σ H1 _ I1 q1) λu s2 ⟨y,H2,I2,r2,q2⟩=>
  thn (ho _ s2 σ H2 x y v u _ I2 r1 r2 q2) λc s3 ⟨z,H3,I3,r3,k,e,q3⟩=> ?_) hm
 subst e;cases r3;exact aZ ⟨H3,I3,q3⟩
def Ym (r r' :R2)(ta tb tc:TE):TE:=λσ H Q=>ta σ H λx H1=>tb σ H1 λy H2=>r x y H2 λz H3=>∃k,z= .bl k/\
 (if k=true then tc σ H3 λw' H4=>r' y w' H4 Q else Q (.bl false) H3)
theorem yi {op op' :CmpOp}{r r' :R2}(ho:OpR X (compareOp op) r)(ho' :OpR X (compareOp op') r')(ha:PE X a ta)(hb:PE X b tb)(hc:PE X c tc)
  (hm:lastMarks [op,op'] [b,c]=false:=by with_unfolding_all rfl):PE X (.Compare a [op,op'] [b,c] pos) (Ym r r' ta tb tc):=by
 intro pins s σ H Q I h;refine Compare_chain (thn (ha _ s σ H _ I h) λv s1 ⟨x,H1,I1,r1,q1⟩=>chain_link (thn (hb _ s1 σ H1 _ I1 q1) λu s2 ⟨y,H2,I2,r2,q2⟩=>
  thn (ho _ s2 σ H2 x y v u _ I2 r1 r2 q2) λd s3 ⟨z,H3,I3,r3,k,e,q3⟩=> ?_)) hm
 subst e;cases r3;refine aZ ?_;cases k with
 | false=>exact ite_ff ⟨.bl _,H3,I3,rfl,q3⟩
 | true=>exact ite_tt (chain_last (thn (hc _ s3 σ H3 _ I3 q3) λw' s4 ⟨z',H4,I4,r4,q4⟩=>ho' _ s4 σ H4 y z' u w' Q I4 r2 r4 q4))
theorem yj {op op' :CmpOp}{r r' :R2}(ho:OpR X (compareOp op) r)(ho' :OpR X (compareOp op') r')(ha:PE X a ta)(hb:PE X b tb)(hc:PE X c tc)
  (hm:lastMarks [op,op'] [b,c]=false:=by with_unfolding_all rfl):PT X (.Compare a [op,op'] [b,c] pos) (qi (Ym r r' ta tb tc)):=by
 intro pins s σ H Q I h;refine isTrue_chain (thn (ha _ s σ H _ I h) λv s1 ⟨x,H1,I1,r1,q1⟩=>test_link (thn (hb _ s1 σ H1 _ I1 q1) λu s2 ⟨y,H2,I2,r2,q2⟩=>
  thn (ho _ s2 σ H2 x y v u _ I2 r1 r2 q2) λd s3 ⟨z,H3,I3,r3,k,e,q3⟩=> ?_)) hm
 subst e;cases r3;refine aZ ?_;cases k with
 | false=>
  obtain⟨k',e',q'⟩:=q3;cases e';exact ite_ff ⟨H3,I3,q'⟩
 | true=>
  refine ite_tt (test_last (thn (hc _ s3 σ H3 _ I3 q3) λw' s4 ⟨z',H4,I4,r4,q4⟩=>thn (ho' _ s4 σ H4 y z' u w' _ I4 r2 r4 q4) λd' s5 ⟨z2,H5,I5,r5,k2,e2,q5⟩=> ?_));subst e2;cases r5;exact aZ ⟨H5,I5,q5⟩
def K6 (K:a6)(x:V)(H:Hp)(k:Bool):Prop:=
 match x with
 | .non=>k=false
 | .bl b=>k=b
 | .int i=>k=(i != 0)
 | .str y=>y.length<=sizeLine/\k=((y.length:Int) != 0)
 | .byt y=>y.size<=sizeLine/\k=((y.size:Int) != 0)
 | .ref p=>(∃xs,SqL K H p xs/\k= !xs.isEmpty)\/(∃xs,SqT K H p xs/\k= !xs.isEmpty)\/∃kvs,H p=some (.dK kvs)/\k= !kvs.isEmpty
 | _=>False
theorem WJ {κ:Type}{kvs:List (κ×V)}{vs:List (κ×Value)}(r:KV kvs vs):(!vs.isEmpty)= !kvs.isEmpty:=by
 cases r <;> rfl
theorem Jh {xs:List V}{its:List Value}(r:zM xs its):(!its.toArray.isEmpty)= !xs.isEmpty:=by
 cases r <;> simp
theorem w5:(sizeLine:Nat) < 2 ^ 63:=by decide
theorem vq:KD X (λx H Q=>∃k,K6 X.K x H k/\Q k H):=by
 intro pins s σ H x v Q I rx h;obtain⟨k,e,q⟩:=h;have hs:=cz;cases x with
 | non=>
  cases rx;have e' :k=false:=e;subst e';exact truthy_none ⟨H,I,q⟩
 | bl b=>
  cases rx;have e' :k=b:=e;subst e';exact aZ ⟨H,I,q⟩
 | int i=>
  obtain⟨t,rfl⟩:=rx;have e' :k=(i != 0):=e;subst e';exact PySem.P.truthy_int ⟨H,I,q⟩
 | str y=>
  obtain⟨t,rfl⟩:=rx;obtain⟨hy,e'⟩:y.length<=sizeLine/\k=((y.length:Int) != 0):=e;subst e';exact PySem.P.truthy_str (by omega) ⟨H,I.tok _,q⟩
 | byt y=>
  obtain⟨t,rfl⟩:=rx;obtain⟨hy,e'⟩:y.size<=sizeLine/\k=((y.size:Int) != 0):=e;subst e';exact PySem.W.truthy_bytes (by omega) ⟨H,I.tok _,q⟩
 | ref p=>
  cases rx;have e' :=e;rcases e' with ⟨xs,hx,e'⟩ | ⟨xs,hx,e'⟩ | ⟨kvs,hx,e'⟩
  ·subst e';obtain⟨its,r,pl,hz⟩:=I.list hx;have hlen:=r.length;exact wpAny_truthy_list pl.isList (by simp only[ax];omega) ⟨H,I.tok _,by rw[Jh r];exact q⟩
  ·subst e';obtain⟨its,r,pl,hz⟩:=I.tuple hx;have hlen:=r.length;exact truthy_tuple pl (by simp only[ax];omega) ⟨H,I.tok _,by rw[Jh r];exact q⟩
  ·subst e';obtain⟨hz,hS,vs,r,m⟩:kvs.length<=sizeLine/\(p == sysModules)=false/\∃vs,KV kvs vs/\s.heap.DictOf _ p vs:=I.hok p _ hx;have hlen:=Paired.length r;exact wpAny_truthy_dict hS m (by omega) ⟨H,I.tok _,by rw[WJ r];exact q⟩
 | _=>exact(e).elim
theorem yk (ha:PE X a ta)(he:∀whole,isTrue a X.env whole=(do let v ← whole;standAt a.pos;holding [v] (truthy v))):
  PT X a (λσ H Q=>ta σ H λx H' =>∃k,K6 X.K x H' k/\Q k H'):=by
 intro pins s σ H Q I h;exact isTrue_plain (thn (ha _ s σ H _ I h) λv s1 ⟨x,H1,I1,r1,q1⟩=>vq _ s1 σ H1 x v Q I1 r1 q1) (he _)
theorem WK:OpR X (binaryOp .Add) (λx y H Q=>∃i j,x= .str i/\y= .str j/\i.length+j.length<=sizeLine/\Q (.str (i++j)) H):=by
 intro pins s σ H x y v u Q I rx ry h;obtain⟨i,j,rfl,rfl,hz,q⟩:=h;obtain⟨t,rfl⟩:=rx;obtain⟨t',rfl⟩:=ry;exact add_str (λt' tk=>⟨.str _,H,I.tok _,⟨_,rfl⟩,q⟩) hz
theorem j8 {x:V}{us:List Value}(r:zM [x] us):∃u,us=[u]/\zR x u:=by
 cases r with
 | cons r1 r2=>cases r2;exact⟨_,rfl,r1⟩
theorem qk {x y:V}{us:List Value}(r:zM [x,y] us):∃u w',us=[u,w']/\zR x u/\zR y w' :=by
 cases r with
 | cons r1 r2=>
  cases r2 with
  | cons r3 r4=>cases r4;exact⟨_,_,rfl,r1,r3⟩
end
end L2
namespace L2
open PySem PySem.Spec PyProof.Rows
structure Xa (h:Heap) (x dx C:Addr) (mA:Str->Option Value):Prop where
 obj:h.get? x=some (dH C dx)
 ns:h.Ns1 dx mA
 ne:dx ≠ x
theorem uA {h:Heap}{dx:Addr}{mA:Str->Option Value}(n:h.Ns1 dx mA):∃od,h.get? dx=some od/\∀name,dO name od=some (mA name):=by
 obtain⟨o,es,ep,ho,hd,hk,_,hm⟩:=n;refine⟨o,ho,λname=> ?_⟩;have e:=hm name;unfold nsFind findBy at e;rw[← Array.find?_toList]at e;unfold dO;rw[hd];dsimp only;split
 ·rename_i y q;rw[q]at e;exact congrArg _ e
 ·rename_i q;rw[q]at e;have a:es.toList.any (·.refKey)=false:=by
   rw[List.any_eq_false];intro y hy;obtain⟨z,t,hkey⟩:=hk y (Array.mem_toList_iff.mp hy);simp[DictEntry.refKey,hkey]
  have a' :¬ es.toList.any (·.refKey)=true:=by rw[a];exact aE
  rw[if_neg a'];exact congrArg _ e
theorem Xa.look {h:Heap}{x dx C:Addr}{mA:Str->Option Value}(I:Xa h x dx C mA):∃od,PySem.W.InstAt h x (dH C dx) C (some od)/\∀name,dO name od=some (mA name):=
 let ⟨od,ho,hl⟩:=uA I.ns
 ⟨od,⟨I.obj,rfl,rfl,ho⟩,hl⟩
section
variable {P:Program}{w:World}{H H' :Hp}{h h' :Heap}{a C dx:Addr}{fs fs' :List (Str×V)}
theorem qm (hok:HOk P w H h)(e:H a=some (.ins C dx fs)):∃mA,Xa h a dx C mA/\(∀f,xQ (fs.lookup f) (mA f))/\PySem.Within mA (fs.map (·.1))/\fs.length<=1000/\H dx=some (.own a):=by
 obtain⟨d,z,ne,ob,mA,n,r,q⟩:=(show zW P w H h a _ from hok a _ e);exact⟨mA,⟨ob,n,ne⟩,r,q,z,d⟩
end
structure Cls (K:a6) (C:Addr):Prop where
 pg:eY K C Str.empty=true
 hd:PySem.W.hasDictIn K C=true
 po:PySem.W.plainOver K C=true
 sa:cD K (.ref C) "__setattr__"=some (some (.builtin "object.__setattr__"))
theorem Cls.get {K:a6}{C:Addr}(c:Cls K C)(f:Str):eY K C f=true:=c.pg
section
variable {X:Cx}{pins:List (Addr×Obj)}{σ:St}{H:Hp}{s:Shared}{A:Around}{E:Value->Shared->Prop}{Q:Value->Shared->Prop}{c:Value}{b:Bool}
inductive WL (K:a6) (H:Hp):V->Value->Prop where
 | non:WL K H .non (.type "NoneType")
 | bl (x:Bool):WL K H (.bl x) (.type "bool")
 | int (i:Int):WL K H (.int i) (.type "int")
 | str (x:Str):WL K H (.str x) (.type "str")
 | flt (x:UInt64):WL K H (.flt x) (.type "float")
 | lst {a:Addr} {xs:List V} (e:H a=some (.lst xs)):WL K H (.ref a) (.type "list")
 | frz {a:Addr} {o:Obj} {xs:List V} (e:H a=some (.frz o (.lst xs))):WL K H (.ref a) (.type "list")
 | tup {a:Addr} {xs:List V} (e:H a=some (.tup xs)):WL K H (.ref a) (.type "tuple")
 | dK {a:Addr} {kvs:List (Key×V)} (e:H a=some (.dK kvs)):WL K H (.ref a) (.type "dict")
 | dT {a:Addr} {kvs:List (List Key×Addr×V)} (e:H a=some (.dT kvs)):WL K H (.ref a) (.type "dict")
 | ins {a C dx:Addr} {fs:List (Str×V)} (e:H a=some (.ins C dx fs)) (cl:Cls K C) (ha:cD K (.ref C) "__class__"=some (some (.builtin "object.__class__")))
   (hn:eJ K (.builtin "object.__class__") "__get__"=some (some (.builtin "getset_descriptor.__get__"))) (htk:fg K (.builtin "object.__class__")=some true)
   (hm:dZ K C (.type "object")=some true):WL K H (.ref a) (.ref C)
theorem uB {x:V}{u t:Value}(I:Inv X pins σ H s)(rx:zR x u)(ty:WL X.K H x t)(e:aC X.K t c=some b)(h:∀tk,Q (.bool b) { s with toks:=tk }):
  wpAny (model X.prog X.w) A (call (.builtin "isinstance") [u,c]) Q E s:=by
 cases ty with
 | non=>cases (rx);exact bf PySem.W.kitx_none I.kIn True.intro e (λz=>nomatch z) h
 | bl y=>cases (rx);exact bf PySem.W.kitx_bool I.kIn True.intro e (λz=>nomatch z) h
 | int i=>obtain⟨t,q⟩:=(rx);cases q;exact bf PySem.W.kitx_int I.kIn True.intro e (λz=>nomatch z) h
 | str y=>obtain⟨t,q⟩:=(rx);cases q;exact bf PySem.W.kitx_str I.kIn True.intro e (λz=>nomatch z) h
 | flt y=>obtain⟨t,q⟩:=(rx);cases q;exact bf PySem.W.kitx_float I.kIn True.intro e (λz=>nomatch z) h
 | @lst a xs ea=>
  cases (rx);obtain⟨_,_,n,_,h1⟩:=(show zW _ X.w H _ a _ from I.hok a _ ea);exact bf eK I.kIn ⟨_,h1,rfl⟩ e (λz=>nomatch z) h
 | @frz a ob xs ea=>
  cases (rx);obtain⟨_,_,_,n,_,h1⟩:=(show zW _ X.w H _ a _ from I.hok a _ ea);exact bf eK I.kIn ⟨_,h1,rfl⟩ e (λz=>nomatch z) h
 | @tup a xs ea=>
  cases (rx);obtain⟨_,_,_,p,_⟩:=(show zW _ X.w H _ a _ from I.hok a _ ea);obtain⟨o,h1,h2,_⟩:=p;exact bf PySem.W.kitx_tuple I.kIn ⟨o,h1,h2⟩ e (λz=>nomatch z) h
 | @dK a kvs ea=>
  cases (rx);obtain⟨_,_,vs,_,p⟩:=(show zW _ X.w H _ a _ from I.hok a _ ea);obtain⟨o,es,ep,h1,h2,_⟩:=p;exact bf eL I.kIn ⟨o,h1,h2.1⟩ e (λz=>nomatch z) h
 | @dT a kvs ea=>
  cases (rx);obtain⟨_,_,xs,_,o,es,ep,h1,h2,_⟩:=(show zW _ X.w H _ a _ from I.hok a _ ea);exact bf eL I.kIn ⟨o,h1,h2.1⟩ e (λz=>nomatch z) h
 | @ins a C dx fs ea cl ha hn htk hm=>
  cases (rx);obtain⟨mA,O,_⟩:=qm I.hok ea;obtain⟨od,J,_⟩:=O.look;exact bf (PySem.W.kitx_own (cl.get _) cl.hd ha hn htk hm) I.kIn J e (λz=>nomatch z) h
end
end L2
namespace L2
open PySem PySem.Spec PyProof.Rows
structure Z1 (k:Nat) (A:Around):Prop where
 hd:A.handled=none
 dp:A.depth+3*k+5 < recursionLimit
 un:A.units+16*k+200 < cLine
 gd:A.guards=some []
theorem Z1.mono {j k:Nat}{A:Around}(r:Z1 k A)(h:j<=k):Z1 j A:=⟨r.hd,by have:=r.dp;omega,by have:=r.un;omega,r.gd⟩
theorem Z1.deeper {k:Nat}{A:Around}(r:Z1 (k+1) A)(env:Env):Z1 k (A.deeper env):=
 ⟨r.hd,by have:=r.dp;show A.depth+1+3*k+5 < _;omega,by have:=r.un;show A.units+3+16*k+200 < _;omega,r.gd⟩
theorem Z1.depth {k:Nat}{A:Around}(r:Z1 k A):A.depth < recursionLimit:=by have:=r.dp;omega
theorem Z1.units {k:Nat}{A:Around}(r:Z1 k A):A.units+64 < cLine:=by have:=r.un;omega
def KH:TA:=λ_ H Q=>Q [] H
def vt (ta:TE)(tr:TA):TA:=λσ H Q=>ta σ H λx H1=>tr σ H1 λxs H2=>Q (x :: xs) H2
section
variable {X:Cx}{e:Expr}{es:List Expr}{te:TE}{t:TA}{pos:Pos}
theorem zK:PA X [] KH:=λ_ _ _ _ H Q I h=>eM ⟨[],H,I,.nil,h⟩
theorem zo (ha:PE X e te)(hr:PA X es t)(hs:starEach (e :: es) X.env=(false,eval e X.env) :: starEach es X.env:=by rfl):PA X (e :: es) (vt te t):=by
 intro pos pins s σ H Q I h;rw[hs];refine ei (thn (ha _ s σ H _ I h) λu s1 ⟨x,H1,I1,r1,q1⟩=> ?_);exact thn (hr pos _ s1 σ H1 _ I1 q1) λus s2 ⟨xs,H2,I2,r2,q2⟩=>⟨x :: xs,H2,I2,.cons r1 r2,q2⟩
def KI (t:TA):TE:=λσ H Q=>t σ H λxs H1=>xs.length<=sizeLine/\∀p,H1 p=none->Q (.ref p) (upd H1 p (.tup xs))
def KJ (t:TA):TE:=λσ H Q=>t σ H λxs H1=>xs.length<=sizeLine/\∀p,H1 p=none->Q (.ref p) (upd H1 p (.lst xs))
theorem vv {x1}(h:PA X es t):PE X (.Tuple es x1 pos) (KI t):=by
 intro pins s σ H Q I hq;refine wpAny_Tuple_spliced (thn (h pos _ s σ H _ I hq) λus s1 ⟨xs,H1,I1,r,z,q⟩=>⟨by rw[← r.length];exact z, ?_⟩)
 have hf:=I1.hok.fresh (ag _);refine⟨.ref _,upd H1 _ _,I1.laid (λb u e=>a7 _ e) (ag _) ?_,rfl,q _ hf⟩;exact⟨z,us,r,⟨_,ao _ rfl,rfl,_,rfl⟩,.inr ⟨_,ao _ rfl,rfl⟩⟩
theorem Yn (h:PA X es t):PE X (.List es pos) (KJ t):=by
 intro pins s σ H Q I hq;refine wpAny_List_spliced (thn (h pos _ s σ H _ I hq) λus s1 ⟨xs,H1,I1,r,z,q⟩=>⟨by rw[← r.length];exact z, ?_⟩)
 have hf:=I1.hok.fresh (ag _);refine⟨.ref _,upd H1 _ _,I1.laid (λb u e=>a7 _ e) (ag _) ?_,rfl,q _ hf⟩;exact⟨z,us,0,r,ao _ rfl⟩
end
abbrev Sp:=List V->Hp->VK->XK->Prop
abbrev CXT:=List Env->Hp->Shared->XK->Value->Shared->Prop
structure uj (P:Program) (w:World) (K:a6) (mg:Str->Option Value) (base:Heap) (A:Around) (outer:List Env) (s:Shared) (H:Hp):Prop where
 frames:A.frames=some outer
 mod:Mod K mg base
 bs:∀b o,base.get? b=some o->s.heap.get? b=some o/\H b=none
 bsz:base.objs.size<=s.heap.objs.size
 funs:s.heap.FunFrames base outer
 frf:∀b∈frs outer,H b=none
 hok:HOk P w H s.heap
 bare:AllBare s.gens
def CE (outer:List Env)(P:Program)(w:World)(H:Hp)(s:Shared)(Q:VK)(u:Value)(s' :Shared):Prop:=
 ∃v H',s'.os=s.os/\AllBare s'.gens/\Un (frs outer) [] H H' s.heap s'.heap/\HOk P w H' s'.heap/\zR v u/\Q v H'
def CR (CX:CXT)(outer:List Env)(P:Program)(w:World)(H:Hp)(s:Shared)(Q:VK)(E:XK)(r:Result)(s' :Shared):Prop:=
 match r with
 | .ok (.ret u)=>CE outer P w H s Q u s'
 | .ok _=>False
 | .error e=>CX outer H s E e s'
structure W8 (P:Program) (w:World) (K:a6) (mg:Str->Option Value) (base:Heap) (CX:CXT) (k:Nat) (f:Addr) (fd:FuncData) (ps:List Str) (sp:Sp):Prop where
 len:∀vs H Q E,sp vs H Q E->vs.length=ps.length
 run:∀(A:Around) (outer:List Env) (s:Shared) (H:Hp) (args:Args) (us:List Value) (vs:List V) (Q:VK) (E:XK),Z1 k A->uj P w K mg base A outer s H->BindsTo s fd args (ps.zip us)->zM vs us->sp vs H Q E->
  codeAny (model P w) A (.call (.ref f) args) (CR CX outer P w H s Q E) s
section
variable {X:Cx}{pins:List (Addr×Obj)}{σ:St}{H:Hp}{s s' :Shared}
theorem Inv.env0 (I:Inv X pins σ H s):uj X.prog X.w X.K X.mg X.base X.A X.stack s H:=
 ⟨I.ok.frames,I.ok.mod,I.bs,ay I.ok.bsz I.sz,I.stack,I.stkFree,I.hok,I.bare⟩
theorem Inv.after {Q:VK}{u:Value}(I:Inv X pins σ H s)(h:CE X.stack X.prog X.w H s Q u s'):EP X pins σ Q u s' :=by
 obtain⟨v,H',os,bare,un,hok,r,q⟩:=h;obtain⟨hh,g,d,t,os'⟩:=s';obtain rfl:os' =s.os:=os;exact⟨v,H',I.call un hok bare (λb z=>absurd z (by simp)),r,q⟩
end
def vw (sp:Sp)(dvs:List V)(E:XK)(t:TA):TE:=λσ H Q=>t σ H λvs H1=>sp (vs++dvs) H1 Q E
noncomputable def Binds (K:a6)(fd:FuncData)(ps:List Str)(ds:List Value):Prop:=
 ∀(s:Shared) (us:List Value),K.In s.heap->(us++ds).length=ps.length->BindsTo s fd ⟨us,[]⟩ (ps.zip (us++ds))
theorem Binds.all {K:a6}{fd:FuncData}{ps:List Str}(h:∀us:List Value,us.length=ps.length->bindArgs fd ⟨us,[]⟩=pure (ps.zip us)):Binds K fd ps []:=λs us _ hl=>by
 rw[aK]at hl ⊢;exact .of_eq (h us hl)
def zO (CX:CXT)(X:Cx)(E:XK):Prop:=∀(pins:List (Addr×Obj)) (σ:St) (H:Hp) (s:Shared) (e:Value) (s' :Shared),Inv X pins σ H s->CX X.stack H s E e s' ->X.xe e s'
section
variable {X:Cx}{CX:CXT}{k:Nat}{f C:Addr}{fd:FuncData}{ps:List Str}{sp:Sp}{dvs:List V}{ds:List Value}{E:XK}{x m:Str}{p pos apos:Pos}{e o:Expr}{es:List Expr}{ta:TE}{t:TA}
theorem vx {pins:List (Addr×Obj)}{σ:St}{H:Hp}{s:Shared}{Q:VK}{us:List Value}{vs:List V}(F:W8 X.prog X.w X.K X.mg X.base CX k f fd ps sp)(hr:Z1 k X.A)(hb:Binds X.K fd ps ds)(hd:zM dvs ds)(hx:zO CX X E)
  (I:Inv X pins σ H s) (r:zM vs us) (h:sp (vs++dvs) H Q E):wpAny (model X.prog X.w) X.A (call (.ref f) us) (EP X pins σ Q) X.xe s:=by
 have r2:=r.append hd;have hl:(us++ds).length=ps.length:=by rw[← r2.length];exact F.len _ _ _ _ h
 refine wpAny_call (codeAny_mono (F.run X.A _ s H _ _ _ Q E hr I.env0 (hb s us I.kIn hl) r2 h) λr s' hq=> ?_);cases r with
 | error e=>exact hx _ σ H s e s' I hq
 | ok fl=>
  cases fl with
  | ret u=>exact I.after hq
  | next=>exact aP hq
  | brk=>exact aP hq
  | cont=>exact aP hq
theorem qo (F:W8 X.prog X.w X.K X.mg X.base CX k f fd ps sp)(hr:Z1 k X.A)(hg:Gl X x)(hm:X.mg x=some (.ref f))(hk:bB X.K (.ref f)=true)(hb:Binds X.K fd ps ds)(hd:zM dvs ds)(hx:zO CX X E)
  (ha:PA X (e :: es) t) (hdb:(x == ("__debug__":Str))=false:=by decide) (he:starEach (e :: es) X.env=(false,eval e X.env) :: starEach es X.env:=by rfl) (hpl:(backTo pos (starEach es X.env)).any (·.1)=false:=by rfl):
  PE X (.Call (.Name x p) (e :: es) [] pos) (vw sp dvs E t):=by
 intro pins s σ H Q I h;refine wpAny_Call_Name_kw (Zj I hg hm ?_ hdb);refine PySem.W.callWith_K I.ok.mod.kin hk (thn (ha pos _ s σ H _ I h) λus s1 ⟨vs,H1,I1,r,q⟩=>⟨I1.kIn, ?_⟩) he hpl;exact vx F hr hb hd hx I1 r q
end
section
variable {X:Cx}{CX:CXT}{k:Nat}{f C:Addr}{fd:FuncData}{ps ks:List Str}{sp:Sp}{E:XK}{x m:Str}{p pos apos kpos:Pos}{e o:Expr}{es:List Expr}{kws:List Keyword}{te ta:TE}{t tk:TA}{nm:Option Str}
variable {g:List Value->List Value->List Value}{gV:List V->List V->List V}
end
structure zX (N P:List Str) (sc:Scope):Prop where
 kind:sc.kind= .function
 co:sc.isCoroutine=false
 gen:sc.isGenerator=false
 nd:N.Nodup
 pre:N.take P.length=P
 par:∀x∈P,sc.names.lookup x=some .local\/sc.names.lookup x=some .cell
 nofree:∀y∈sc.names,y.2 ≠ .free
theorem w6 {kindOf:Str->Option NameKind}{x:Str}:∀{binds:List (Str×Value)} {m:Str->Option Value},(∀v,(x,v) ∉ binds)->bindL kindOf binds m x=m x
 | [],_,_=>rfl
 | (n,v) :: r,m,h=>by
  unfold bindL;rw[w6 λw hw=>h w (a8 _ hw)];split
  ·have:x ≠ n:=by rintro rfl;exact h v ac
   simp[this]
  ·rfl
theorem w8 {kindOf:Str->Option NameKind}{x:Str}:∀{binds:List (Str×Value)} {m:Str->Option Value},(∀v,(x,v) ∉ binds)->bindC kindOf binds m x=m x
 | [],_,_=>rfl
 | (n,v) :: r,m,h=>by
  unfold bindC;rw[w8 λw hw=>h w (a8 _ hw)];split
  ·rfl
  ·have:x ≠ n:=by rintro rfl;exact h v ac
   simp[this]
theorem w9 {kindOf:Str->Option NameKind}{x:Str}{v:Value}:∀{P:List Str} {vs:List Value} {i:Nat} {m:Str->Option Value},P.Nodup->P[i]? =some x->vs[i]? =some v->kindOf x=some .local->
  bindL kindOf (P.zip vs) m x=some v
 | [],_,_,_,_,h,_,_=>by simp at h
 | _ :: _,[],_,_,_,_,h,_=>by simp at h
 | p :: P,w :: vs,0,m,nd,h1,h2,hk=>by
  simp at h1 h2;subst h1;subst h2;show bindL _ ((p,w) :: P.zip vs) m p=_;unfold bindL;rw[w6 λv hv=>(cu.mp nd).1 (cw hv).1,if_pos hk];simp
 | p :: P,w :: vs,i+1,m,nd,h1,h2,hk=>by
  show bindL _ ((p,w) :: P.zip vs) m x=_;exact w9 (cu.mp nd).2 (by simpa using h1) (by simpa using h2) hk
theorem wa {kindOf:Str->Option NameKind}{x:Str}{v:Value}:∀{P:List Str} {vs:List Value} {i:Nat} {m:Str->Option Value},P.Nodup->P[i]? =some x->vs[i]? =some v->kindOf x ≠ some .local->
  bindC kindOf (P.zip vs) m x=some v
 | [],_,_,_,_,h,_,_=>by simp at h
 | _ :: _,[],_,_,_,_,h,_=>by simp at h
 | p :: P,w :: vs,0,m,nd,h1,h2,hk=>by
  simp at h1 h2;subst h1;subst h2;show bindC _ ((p,w) :: P.zip vs) m p=_;unfold bindC;rw[w8 λv hv=>(cu.mp nd).1 (cw hv).1,if_neg hk];simp
 | p :: P,w :: vs,i+1,m,nd,h1,h2,hk=>by
  show bindC _ ((p,w) :: P.zip vs) m x=_;exact wa (cu.mp nd).2 (by simpa using h1) (by simpa using h2) hk
def start (N:List Str)(vs:List V):St:=vs.map some++au (N.length - vs.length) none
def zU (CX:CXT)(P:Program)(w:World)(K:a6)(mg:Str->Option Value)(base:Heap)(N:List Str)(qual:Str)(scope:Scope)(f:Addr)(cd:Value)(A:Around)(outer:List Env)(s:Shared)(H:Hp)(E:XK):Cx where
 prog:=P
 w:=w
 K:=K
 mg:=mg
 base:=base
 A:=A.deeper (envOfC qual scope s.heap.objs.size f cd)
 N:=N
 s₀:=s
 H₀:=H
 env:=envOfC qual scope s.heap.objs.size f cd
 outer:=outer
 stack:=envOfC qual scope s.heap.objs.size f cd :: outer
 ex:=[]
 calm:=true
 fn:=λ_=>true
 pn:=[]
 xe:=λe s' =>wpAny (model P w) (A.deeper (envOfC qual scope s.heap.objs.size f cd)) (leaving (envOfC qual scope s.heap.objs.size f cd) e) (λ_ s'' =>CX outer H s E e s'') (λe' s'' =>CX outer H s E e' s'') s'
theorem W9 {sc:Scope}{n:Nat}{x:Str}(h:sc.names.lookup x=some .cell):∃c,(cellsFrom n sc.names []).lookup x=some c:=by
 have q:=cF _ n [] (.inl h);exact bU.mp q
theorem jE {CX:CXT}{P:Program}{w:World}{K:a6}{mg:Str->Option Value}{base:Heap}{N ps:List Str}{qual:Str}{scope:Scope}{f:Addr}{cd:Value}{A:Around}{outer:List Env}{s s1:Shared}{H:Hp}{E:XK}{us:List Value}{vs:List V}
  (S:zX N ps scope) (hd:A.handled=none) (e0:uj P w K mg base A outer s H) (hl:vs.length=ps.length) (r:zM vs us)
  (x:InCallC s s.heap.objs.size (bindL (envOfC qual scope s.heap.objs.size f cd).kindOf (ps.zip us) λ_=>none) (cellsFrom (s.heap.objs.size+1) scope.names []) (bindC (envOfC qual scope s.heap.objs.size f cd).kindOf (ps.zip us) λ_=>none) s1):
  Inv (zU CX P w K mg base N qual scope f cd A outer s H E) [] (start N vs) H s1:=by
 have hpl:=by have:=congrArg f9 S.pre;rw[dr]at this;omega
 obtain⟨h1,tk,rfl,hk⟩:=x.done;have noA:∀b,b ∉ (zU CX P w K mg base N qual scope f cd A outer s H E).ex:=λb z=>absurd (show b∈([]:List _) from z) (by simp)
 refine⟨⟨e0.mod,S.kind,rfl,rfl,ag _,λy z c h1 h2=> ?_,λy hy=> ?_,λy c _ h=> ?_,λ_=>hd,cT e0.frames,.inr ⟨rfl,rfl⟩,λb z=>absurd z (noA b),e0.bs,e0.bsz,λb _ _=>noA b,λb z=>absurd z (noA b),e0.funs,e0.frf⟩,
  rfl,e0.bare,Un.kept hk,⟨_,x.toInCall.ns,λi y v h1 h2 h3=> ?_⟩,λy c h=>⟨_,x.cell y c h⟩,e0.hok.fresh (ag _),λy c h=> ?_,λp hp=>absurd (show p∈([]:List _) from hp) (by simp),e0.hok.kept hk, ?_⟩
 ·exact name_of_addr x.apart (aM h1) (aM h2)
 ·rcases hy with hy | hy
  ·exact W9 hy
  ·exact absurd rfl (S.nofree _ (aM hy))
 ·exact eI (x.above y c (aM h))
 ·have hi:i < vs.length:=by
   unfold start at h2
   by_cases hi:i < vs.length
   ·exact hi
   ·rw[aG (by simpa using hi)]at h2
    rw[aw]at h2;split at h2 <;> cases h2
  have ha:vs[i]? =some v:=by
   unfold start at h2;rw[aL (by simpa using hi),av]at h2
   cases e:vs[i]? with
   | none=>rw[e]at h2;cases h2
   | some a=>rw[e]at h2;cases h2;rfl
  obtain⟨u,hu,rv⟩:=r.get ha;have hp:ps[i]? =some y:=by
   rw[← S.pre,List.getElem?_take_of_lt (by omega)];exact h1
  have ndP:ps.Nodup:=by rw[← S.pre];exact S.nd.sublist (List.take_sublist _ _)
  refine⟨u,rv, ?_⟩;rcases S.par y (dP hp) with k | k
  ·exact .inl ⟨k,w9 ndP hp hu k⟩
  ·obtain⟨c,e⟩:=W9 k;refine .inr ⟨.inl k,c,e, ?_⟩;have q:=x.cell y c e;rw[wa ndP hp hu (by show scope.names.lookup y ≠ _;rw[k];decide)]at q
   exact q
 ·exact e0.hok.fresh (eI (x.above y c (aM h)))
 ·unfold start;show _=N.length;rw[aa,aD,aR];omega
theorem vy {CX:CXT}{P:Program}{w:World}{K:a6}{mg:Str->Option Value}{base:Heap}{k:Nat}{f:Addr}{name qual:Str}{params:Arguments}{body:List Stmt}{scope:Scope}{dV kV doc pm cdv ct oc:Value}{an od:Option Addr}
  {osl:Array (Option Value)} {N ps:List Str} {sp:Sp} (lk:K.lookup f=some ⟨oc,od,.func (bu name qual params body scope dV kV doc pm an cdv ct),osl⟩) (hcd:cG K cdv qual=true) (S:zX N ps scope)
  (len:∀vs H Q E,sp vs H Q E->vs.length=ps.length)
  (hbody:∀(A:Around) (outer:List Env) (s:Shared) (H:Hp) (vs:List V) (Q:VK) (E:XK),Z1 k (A.deeper (envOfC qual scope s.heap.objs.size f cdv))->sp vs H Q E->
   ∃t,PSs (zU CX P w K mg base N qual scope f cdv A outer s H E) body t/\t { nx:=λ_ H' =>Q .non H',rt:=Q } (start N vs) H):
  W8 P w K mg base CX (k+1) f (bu name qual params body scope dV kV doc pm an cdv ct) ps sp:=by
 refine⟨len,λA outer s H args us vs Q E hr e0 hb r hsp=> ?_⟩;have hl:=len _ _ _ _ hsp;have KX:=e0.mod.kin.keeps λb o e=>(e0.bs b o e).1;have lim:=e0.mod.nolimit.keeps λb o e=>(e0.bs b o e).1;have hkind:∀y∈ps.zip us,scope.names.lookup y.1=some _\/(scope.names.lookup y.1=some _/\((cellsFrom (s.heap.objs.size+1) _ []).lookup y.1).isSome=true):=λ⟨n,v⟩ hy=>by
  rcases S.par n (cw hy).1 with q | q
  ·exact .inl q
  ·exact .inr ⟨q,cF _ _ _ (.inl q)⟩
 refine codeAny_call_function hr.depth (KX _ _ lk) rfl S.co S.gen rfl (eA KX hcd) (hb _ _ _ _ ?_);refine wpAny_newFunctionEnv_cells S.kind hkind λenv he s1 x=> ?_;subst he;refine⟨lim.keeps x.toInCall.keep,codeAny_func ?_⟩;obtain⟨t,ht,hq⟩:=hbody A _ s H vs Q E (hr.deeper _) hsp;have I:Inv (zU CX P w K mg _ N _ _ f cdv A _ s H E) [] _ H s1:=jE S hr.hd e0 hl r x;refine aB (ht [] s1 _ H _ I hq) (λfl s' hs=> ?_) λe s' hs=>hs;have fin:∀{σ' :St} {H' :Hp} {v:V} {u:Value},Inv (zU CX P w K mg base N qual scope f cdv A outer s H E) [] σ' H' s' ->zR v u->Q v H' ->CE _ P w H s Q u s' :=
  λ{σ' H' v u} J rv q=>⟨v,H',J.os,J.bare,J.base,J.hok,rv,q⟩
 cases fl with
 | ret u=>
  obtain⟨v,σ',H',J,rv,q⟩:=hs;exact fin J rv q
 | next=>
  obtain⟨σ',H',J,q⟩:=hs;exact fin (v:=V.non) J rfl q
 | brk=>
  obtain⟨_,_,_,q⟩:=hs;exact aP q
 | cont=>
  obtain⟨_,_,_,q⟩:=hs;exact aP q
end L2
namespace L2
open PySem PySem.Spec PyProof.Rows
section
variable {X:Cx}{x:Str}{p pos:Pos}{e:Expr}{es:List Expr}{t:TA}{id T:String}{r:List V->Hp->VK->Prop}
def tCB (r:List V->Hp->VK->Prop)(t:TA):TE:=λσ H Q=>t σ H λvs H1=>r vs H1 Q
theorem jz (hc:Zy X (.builtin id) r)(hg:Gl X x)(hm:X.mg x=none)(hv:bootBuiltins x=some (.builtin id))(ha:PA X (e :: es) t)(hn:x ≠ "__name__":=by decide)(hdb:(x == ("__debug__":Str))=false:=by decide)
  (he:starEach (e :: es) X.env=(false,eval e X.env) :: starEach es X.env:=by rfl) (hpl:(backTo pos (starEach es X.env)).any (·.1)=false:=by rfl):PE X (.Call (.Name x p) (e :: es) [] pos) (tCB r t):=by
 intro pins s σ H Q I h;refine wpAny_Call_Name_kw (jk I hg hm hv ?_ hn hdb);exact PyProof.Rows.callWith_builtin1 (thn (ha pos _ s σ H _ I h) λus s1 ⟨vs,H1,I1,r1,q1⟩=>hc _ s1 σ H1 vs us Q I1 r1 q1) he hpl
theorem uC (hc:Zy X (.type T) r)(hg:Gl X x)(hm:X.mg x=none)(hv:bootBuiltins x=some (.type T))(ha:PA X (e :: es) t)(hn:x ≠ "__name__":=by decide)(hdb:(x == ("__debug__":Str))=false:=by decide)
  (he:starEach (e :: es) X.env=(false,eval e X.env) :: starEach es X.env:=by rfl) (hpl:(backTo pos (starEach es X.env)).any (·.1)=false:=by rfl):PE X (.Call (.Name x p) (e :: es) [] pos) (tCB r t):=by
 intro pins s σ H Q I h;refine wpAny_Call_Name_kw (jk I hg hm hv ?_ hn hdb);exact c6 (thn (ha pos _ s σ H _ I h) λus s1 ⟨vs,H1,I1,r1,q1⟩=>hc _ s1 σ H1 vs us Q I1 r1 q1) he hpl
end
end L2
namespace HT
open PySem PyProof.Rows
section
open PySem.SeqAt
open PySem.AutoSeq1 (wpAny_loadPart')
open PySem.MeetsSeq PySem.MeetsSeq2 PySem.MeetsSeq3
end
section
variable {prog:Program}{w:World}{A:Around}{E:Value->Shared->Prop}{s:Shared}
theorem cat_tup {t b:Addr}{vs ws:List Value}{Q:Value->Shared->Prop}(ht:IsTup s.heap t vs.toArray)(hb:IsTup s.heap b ws.toArray)(hv:vs ≠ [])
  (h1:ws=[]->Q (.ref t) s) (h2:ws ≠ []->Q (.ref s.heap.objs.size) { s with heap:=s.heap.push { cls:= .type "tuple",data:= .seq (vs++ws).toArray } })
  (hsz:vs.length+ws.length<=sizeLine):wpAny (model prog w) A (binaryOp .Add (.ref t) (.ref b)) Q E s:=by
 obtain⟨⟨cls,dd,data,sl⟩,ho,hc,n,hd⟩:=id ht;obtain⟨⟨cls2,dd2,data2,sl2⟩,ho2,hc2,n2,hd2⟩:=id hb;subst hc hd hc2 hd2;have e:vs.toArray++ws.toArray=(vs++ws).toArray:=by simp
 by_cases hw:ws=[]
 ·exact concat_meets ⟨_,ho,rfl⟩ ⟨_,ho2,rfl⟩ noFill_tuple_add seq_tuple_add cH cA (ck _ _)
   (tuple_addW1 t b _ _ n n2 dd dd2 sl sl2 (by simpa using hv) (by simp[hw])) ⟨ho,ho2,h1 hw⟩
 ·refine concat_meets ⟨_,ho,rfl⟩ ⟨_,ho2,rfl⟩ noFill_tuple_add seq_tuple_add cH cA (ck _ _)
   (tuple_addW2 t b _ _ n n2 dd dd2 sl sl2 (by simpa using hv) (by simpa using hw) (by exact hsz)) ⟨ho,ho2, ?_⟩
  rw[e];exact h2 hw
noncomputable def sIx (n d:Nat):Option Int->Nat
 | none=>d
 | some v=>if v < 0 then (v+(n:Int)).toNat else min v.toNat n
theorem sIx_none (n d:Nat):sIx n d none=d:=rfl
theorem sIx_nat (n d k:Nat):sIx n d (some (k:Int))=min k n:=by
 show (if (k) < 0 then ((k:Int)+(n)).toNat else min _ n)=min k n
 rw[if_neg (by omega),Int.toNat_natCast]
theorem uD (v:Int)(n d:Nat):(if v < 0 then max (v+(n:Int)) 0 else min v (n:Int))=((sIx n d (some v):Nat):Int):=by
 show (if v < 0 then max _ 0 else min v (n))=(((if v < 0 then (v+(n)).toNat else min _ n):Nat):Int)
 by_cases hv:v < 0
 ·simp only[if_pos hv];omega
 ·simp only[if_neg hv];omega
theorem WM (lo hi:Option Int)(n:Nat):dm lo hi 1 (n:Int)=(((sIx n 0 lo:Nat):Int),((sIx n n hi:Nat):Int)):=by
 refine Prod.ext ?_ ?_
 ·cases lo with
  | none=>rfl
  | some v=>exact uD v n 0
 ·cases hi with
  | none=>rfl
  | some v=>exact uD v n n
theorem WN (i j:Nat):cg (i:Int) (j:Int) 1=j - i:=by
 unfold cg;split <;> omega
theorem Ji {v:Value}{o:Option Int}{Q:Option Int->Shared->Prop}(p:IsPart v o)(h:Q o s):wpAny (model prog w) A (Builtin.Slice.slicePartIndex v) Q E s:=by
 cases p with
 | none=>exact slicePart_none h
 | int i t=>exact slicePart_int h
theorem sliceApplied_gen {sl:Addr}{vl vu:Value}{lo hi:Option Int}{n:Nat}{Q:Int×Int×Nat->Shared->Prop}(hs:s.heap.IsSliceOf sl vl vu .none)(pl:IsPart vl lo)(pu:IsPart vu hi)
  (h:Q (((sIx n 0 lo:Nat):Int),1,sIx n n hi - sIx n 0 lo) s):wpAny (model prog w) A (Builtin.Slice.sliceApplied (.ref sl) (pure (n:Int))) Q E s:=by
 obtain⟨os,hos,hcs,hds⟩:=id hs;refine a4 (a4 (bo hos hds rfl (a4 (bo hos hds rfl (a4 (bo hos hds rfl (aq ?_)))))));refine a4 (slicePart_none ?_);refine a4 (Ji pl (a4 (Ji pu (a4 (aq ?_)))));show wpAny _ _ (match dm lo hi 1 _ with | (lo,hi)=>pure (lo,(1:Int),cg lo hi 1)) _ _ s
 rw[WM lo hi n];show wpAny _ _ (pure _) _ _ s;rw[WN];exact aq h
theorem yl (xs:Array Value)(i k:Nat):((bF k).filterMap λ(m:Nat)=>xs[((i:Int)+(m:Int)*1).toNat]?).toArray=((xs.toList.drop i).take k).toArray:=by
 have e:(λ(m:Nat)=>xs[((i:Int)+(m)*1).toNat]?)=λm=>xs[i+m]? :=by
  funext m
  have:((i:Int)+(m)*1).toNat=i+m:=by omega
  rw[this]
 rw[e];have:=pick_run xs i k;rw[List.filterMap_map]at this;have e2:((λx=>xs[x]?) ∘ λx=>i+x)=λm=>xs[i+m]? :=rfl;rw[e2]at this;rw[this]
theorem getItem_tuple_cut {t sl:Addr}{items:Array Value}{vl vu:Value}{lo hi:Option Int}{Q:Value->Shared->Prop}(ht:IsTup s.heap t items)(hs:s.heap.IsSliceOf sl vl vu .none)(pl:IsPart vl lo)(pu:IsPart vu hi)
  (hw:¬ (sIx items.size 0 lo=0/\sIx items.size items.size hi=items.size))
  (h:Q (.ref s.heap.objs.size) { s with heap:=s.heap.push { cls:= .type "tuple",data:= .seq ((items.toList.drop (sIx items.size 0 lo)).take (sIx items.size items.size hi - sIx items.size 0 lo)).toArray } })
  (hsz:items.size<=sizeLine):wpAny (model prog w) A (getItem (.ref t) (.ref sl)) Q E s:=by
 have htake:sizeOk (.seq ((items.toList.drop (sIx items.size 0 lo)).take (sIx items.size items.size hi - sIx items.size 0 lo)).toArray):=by
  show ((items.toList.drop _).take _).toArray.size<=sizeLine;rw[ax,dr,dt,cj];omega
 obtain⟨os,hos,hcs,hds⟩:=id hs;have hTs:s.TypeIs (.ref sl) _:=⟨os,hos,hcs⟩;unfold getItem
 try with_reducible refine aV ?_
 refine a4 (wpAny_sequenceKey ht.typeIs (by decide) ?_)
 refine a4 (wpAny_callSpecial?_slot ht.typeIs aX
  (wpAny_call_entry aX ht.typeIs entry_tuple_getitem ?_ (args_tuple_getitem _ _)))
 show wpAny _ _ (db _ >>= _) _ _ s;refine a4 (tupleItemsOf_ ht ?_);refine a4 (wpAny_typeOf hTs ?_);refine a4 (sliceApplied_gen hs pl pu ?_);have hno:¬ ((((sIx items.size 0 lo):Int) == 0 && (1:Int) == 1 && (sIx items.size items.size hi - sIx items.size 0 lo) == items.size)=true):=by
  intro q;rw[ah,ah]at q;have q1:=eq_of_beq q.1.1;have q2:=eq_of_beq q.2;exact hw ⟨by omega,by omega⟩
 show wpAny _ _ (if (((sIx _ 0 lo:Nat):Int) == 0 && (1) == 1 && (sIx _ _ hi - sIx _ 0 lo) == items.size)=true then _ else _) _ _ s
 rw[if_neg hno,yl]
 first
  | exact a4 (bQ (aq ⟨_,rfl,aq h⟩) htake)
  | exact a4 _
  | exact a4 _
  | exact a4 _
end
end HT
namespace L2
open PySem PySem.Spec PyProof.Rows
abbrev TO:=St->Hp->(Option Int->Hp->Prop)->Prop
def PO (X:Cx)(e:Option Expr)(t:TO):Prop:=
 ∀(pins:List (Addr×Obj)) (s:Shared) (σ:St) (H:Hp) (Q:Option Int->Hp->Prop),Inv X pins σ H s->t σ H Q->
  wpAny (model X.prog X.w) X.A (evalPart e X.env) (λu s' =>∃o H',Inv X pins σ H' s' /\IsPart u o/\Q o H') X.xe s
def qp:TO:=λ_ H Q=>Q none H
def Xb (t:TE):TO:=λσ H Q=>t σ H λx H1=>∃i,x= .int i/\Q (some i) H1
section
variable {X:Cx}{e:Expr}{te:TE}{lo hi:Option Expr}{tl th:TO}{pos p2:Pos}
theorem qq:PO X none qp:=by
 intro pins s σ H Q I h;exact aq ⟨none,H,I,.none,h⟩
theorem qr (h:PE X e te):PO X (some e) (Xb te):=by
 intro pins s σ H Q I hw;refine thn (h _ s σ H _ I hw) λu s1 ⟨x,H1,I1,r1,q1⟩=> ?_;obtain⟨i,rfl,q⟩:=q1;obtain⟨t,rfl⟩:=r1;exact⟨some i,H1,I1,.int i t,q⟩
def SlR (X:Cx)(r:V->Option Int->Option Int->Hp->VK->Prop):Prop:=
 ∀(pins:List (Addr×Obj)) (s:Shared) (σ:St) (H:Hp) (x:V) (v vl vu:Value) (lo hi:Option Int) (sl:Addr) (Q:VK),Inv X pins σ H s->zR x v->s.heap.IsSliceOf sl vl vu .none->IsPart vl lo->IsPart vu hi->r x lo hi H Q->
  ∃T id,typeLookup (.type T) "__getitem__"=pure (some (.builtin id))/\s.TypeIs v T/\wpAny (model X.prog X.w) X.A (getItem v (.ref sl)) (EP X pins σ Q) X.xe s
theorem SlR.or {r r' :V->Option Int->Option Int->Hp->VK->Prop}(h:SlR X r)(h' :SlR X r'):SlR X (λx lo hi H Q=>r x lo hi H Q\/r' x lo hi H Q):=by
 intro pins s σ H x v vl vu lo hi sl Q I rx hs pl pu q;rcases q with q | q
 ·exact h _ s σ H x v vl vu lo hi sl Q I rx hs pl pu q
 ·exact h' _ s σ H x v vl vu lo hi sl Q I rx hs pl pu q
def tSl (r:V->Option Int->Option Int->Hp->VK->Prop)(te:TE)(tl th:TO):TE:=λσ H Q=>te σ H λx H1=>tl σ H1 λl H2=>th σ H2 λu H3=>r x l u H3 Q
theorem Wa {r:V->Option Int->Option Int->Hp->VK->Prop}(hr:SlR X r)(he:PE X e te)(hl:PO X lo tl)(hu:PO X hi th):PE X (.Subscript e (.Slice lo hi none p2) pos) (tSl r te tl th):=by
 intro pins s σ H Q I h;refine Subscript_ (thn (he _ s σ H _ I h) λv s1 ⟨x,H1,I1,r1,q1⟩=> ?_);refine wpAny_Slice (thn (hl _ s1 σ H1 _ I1 q1) λvl s2 ⟨l,H2,I2,pl,q2⟩=>thn (hu _ s2 σ H2 _ I2 q2) λvu s3 ⟨u,H3,I3,pu,q3⟩=> ?_);refine aq ?_;have I4:Inv X _ σ H3 { s3 with heap:=s3.heap.push { cls:= .type "slice",data:= .fields #[vl,vu,.none] } }:=I3.kept λb ob q=>a7 _ q;obtain⟨T,id,hT,ht,hg⟩:=hr _ _ σ H3 x v vl vu l u _ Q I4 r1 (Heap.IsSliceOf.new ..) pl pu q3;exact tail_any ht hT hg (by with_unfolding_all rfl)
noncomputable def QT (xs:List V)(lo hi:Option Int):List V:=(xs.drop (HT.sIx xs.length 0 lo)).take (HT.sIx xs.length xs.length hi - HT.sIx xs.length 0 lo)
theorem jF (xs:List V)(lo hi:Option Int):(QT xs lo hi).length<=xs.length:=by
 unfold QT;rw[dr,dt];omega
def KK (K:a6):V->Option Int->Option Int->Hp->VK->Prop:=λx lo hi H Q=>∃a xs,x= .ref a/\SqT K H a xs/\
 ¬ (HT.sIx xs.length 0 lo=0/\HT.sIx xs.length xs.length hi=xs.length)/\∀p,H p=none->Q (.ref p) (upd H p (.tup (QT xs lo hi)))
theorem vz:SlR X (KK X.K):=by
 intro pins s σ H x v vl vu lo hi sl Q I rx hs pl pu h;obtain⟨a,xs,rfl,hx,hw,q⟩:=h;cases rx;obtain⟨its,r,ht,hz⟩:=I.tuple hx;have hlen:its.toArray.size=xs.length:=by exact r.length.symm
 refine⟨"tuple",_,aX.lookup,ht.typeIs, ?_⟩;refine HT.getItem_tuple_cut ht hs pl pu (by rw[hlen];exact hw) ?_ (by rw[hlen];exact hz)
 rw[hlen];refine⟨.ref _,_,I.laid (λb ob q=>a7 _ q) (ag _) ?_,rfl,q _ (I.hok.fresh (ag _))⟩;exact⟨ay (jF xs lo hi) hz,_,(r.drop _).take _,ITN.new _ _⟩
def Xc (K:a6):R2:=λx y H Q=>∃a b xs ys,x= .ref a/\y= .ref b/\SqT K H a xs/\SqT K H b ys/\xs ≠ []/\xs.length+ys.length<=sizeLine/\
 (ys=[]->Q (.ref a) H)/\(ys ≠ []->∀p,H p=none->Q (.ref p) (upd H p (.tup (xs++ys))))
theorem zM.nil_iff {xs:List V}{us:List Value}(r:zM xs us):us=[]↔xs=[]:=by
 cases r with
 | nil=>simp
 | cons _ _=>simp
theorem qt:OpR X (binaryOp .Add) (Xc X.K):=by
 intro pins s σ H x y v u Q I rx ry h;obtain⟨a,b,xs,ys,rfl,rfl,ha,hb,hx,hz,q1,q2⟩:=h;cases rx;cases ry;obtain⟨its,r1,p1,_⟩:=I.tuple ha;obtain⟨its2,r2,p2,_⟩:=I.tuple hb;refine HT.cat_tup p1 p2 (λz=>hx (r1.nil_iff.mp z)) (λz=>⟨.ref a,H,I,rfl,q1 (r2.nil_iff.mp z)⟩) (λz=> ?_) (by rw[← r1.length,← r2.length];exact hz)
 refine⟨.ref _,_,I.laid (λb ob q=>a7 _ q) (ag _) ?_,rfl,q2 (λw=>z (r2.nil_iff.mpr w)) _ (I.hok.fresh (ag _))⟩;exact⟨by rw[aa];exact hz,_,r1.append r2,ITN.new _ _⟩
end
end L2
namespace L2
open PySem PySem.Spec PyProof.Rows
noncomputable def ixN (n:Nat)(i:Int):Option Nat:=if 0<=i then (if i < n then some i.toNat else none) else if -(n:Int)<=i then some (i+n).toNat else none
def atI {α:Type}(xs:List α)(i:Int):Option α:=(ixN xs.length i).bind λj=>xs[j]?
theorem qu {n:Nat}{i:Int}{j:Nat}(h:ixN n i=some j):seqIndex? i n=some j/\j < n/\ -(n:Int)<=i/\i < n:=by
 unfold ixN at h
 by_cases h0:0<=i
 ·rw[if_pos h0]at h
  by_cases h1:i < n
  ·rw[if_pos h1]at h;have e:=ak h;exact⟨by rw[seqIndex_of h0 h1,e],by omega,by omega,h1⟩
  ·rw[if_neg h1]at h;cases h
 ·rw[if_neg h0]at h
  by_cases h1: -(n)<=i
  ·rw[if_pos h1]at h;have e:=ak h;exact⟨by rw[seqIndex_neg (by omega) h1,e],by omega,h1,by omega⟩
  ·rw[if_neg h1]at h;cases h
theorem wR {α:Type}{xs:List α}{i:Int}{v:α}(h:atI xs i=some v):∃j,seqIndex? i xs.length=some j/\xs[j]? =some v/\j < xs.length/\ -(xs.length:Int)<=i/\i < xs.length:=by
 unfold atI at h;cases e:ixN _ i with
 | none=>rw[e]at h;cases h
 | some j=>
  rw[e]at h;obtain⟨h1,h2,h3,h4⟩:=qu e;exact⟨j,h1,h,h2,h3,h4⟩
theorem Zt {α:Type}{xs:List α}{j:Nat}{v:α}(h:xs[j]? =some v):atI xs (j:Int)=some v:=by
 have hj:=(aT.mp h).1;have e:ixN xs.length (j)=some j:=by
  unfold ixN;rw[if_pos (by omega),if_pos (by omega)];simp
 unfold atI;rw[e];exact h
noncomputable def uF (b:Expr):Prop:=∀o i,subscripted b false o i=operate [o,i] (getItem o i)
def IxR (X:Cx)(r:R2):Prop:=
 ∀(value slice:Expr) (pins:List (Addr×Obj)) (s:Shared) (σ:St) (H:Hp) (x y:V) (v u:Value) (Q:VK),Inv X pins σ H s->zR x v->zR y u->r x y H Q->
  subscripted slice false v u=operate [v,u] (getItem v u)->wpAny (model X.prog X.w) X.A (subscriptTail value slice v u) (EP X pins σ Q) X.xe s
def MtR (X:Cx)(id:String)(r:V->List V->Hp->VK->Prop):Prop:=
 ∀(pins:List (Addr×Obj)) (s:Shared) (σ:St) (H:Hp) (x:V) (xs:List V) (v:Value) (us:List Value) (Q:VK),Inv X pins σ H s->zR x v->zM xs us->r x xs H Q->
  wpAny (model X.prog X.w) X.A (call (.builtin id) (v :: us)) (EP X pins σ Q) X.xe s
section
variable {X:Cx}{a b:Expr}{ta tb:TE}{pos:Pos}
theorem IxR.or {r r' :R2}(h:IxR X r)(h' :IxR X r'):IxR X (λx y H Q=>r x y H Q\/r' x y H Q):=by
 intro value slice pins s σ H x y v u Q I rx ry q hs;rcases q with q | q
 ·exact h _ _ _ s σ H x y v u Q I rx ry q hs
 ·exact h' _ _ _ s σ H x y v u Q I rx ry q hs
theorem Xd {r:R2}(hr:IxR X r)(ha:PE X a ta)(hb:PE X b tb)(hs:uF b):PE X (.Subscript a b pos) (tOp r ta tb):=by
 intro pins s σ H Q I h;exact Subscript_ (X3 ha hb I h λv u s2 x y H2 I2 rx ry q=>hr a b _ s2 σ H2 x y v u Q I2 rx ry q (hs _ _))
def K7 (K:a6):R2:=λx y H Q=>∃p xs i v,x= .ref p/\y= .int i/\SqL K H p xs/\atI xs i=some v/\Q v H
def K8 (K:a6):R2:=λx y H Q=>∃p xs i v,x= .ref p/\y= .int i/\SqT K H p xs/\atI xs i=some v/\Q v H
def K9:R2:=λx y H Q=>∃z i c,x= .str z/\y= .int i/\z.length<=sizeLine/\atI z.cps.toList i=some c/\Q (.str ⟨#[c]⟩) H
theorem qw:IxR X (K7 X.K):=by
 intro value slice pins s σ H x y v u Q I rx ry h hs;obtain⟨p,xs,i,z,rfl,rfl,hq,he,q⟩:=h;cases rx;obtain⟨t,rfl⟩:=ry;obtain⟨its,r,pl,hz⟩:=I.list hq;obtain⟨j,h1,h2,h3,h4,h5⟩:=wR he;obtain⟨w,ew,rw'⟩:=r.get h2;have hl:=r.length;have hn:=w5;have fin:EP X _ σ Q w s:=⟨z,H,I,rw',q⟩
 by_cases h0:0<=i
 ·have hj:=by
   rw[seqIndex_of h0 h5]at h1;exact ak h1
  exact item_listR pl.isList h0 (by omega) (by rw[hj];simpa using ew) fin hs
 ·have hj:(i+(its.toArray.size)).toNat=j:=by
   rw[seqIndex_neg (by omega) h4]at h1
   rw[ax,← hl];exact ak h1
  exact subscriptTail_builtinR pl.isList.typeIs slot_list_getitem.lookup
   (wpAny_getItem_list_neg pl.isList (by omega) (by rw[ax] <;> omega) (by omega) (by rw[hj];simpa using ew) ⟨rfl,fin⟩) hs
theorem vA:IxR X (K8 X.K):=by
 intro value slice pins s σ H x y v u Q I rx ry h hs;obtain⟨p,xs,i,z,rfl,rfl,hq,he,q⟩:=h;cases rx;obtain⟨t,rfl⟩:=ry;obtain⟨its,r,pl,hz⟩:=I.tuple hq;obtain⟨j,h1,h2,h3,h4,h5⟩:=wR he;obtain⟨w,ew,rw'⟩:=r.get h2;have hl:=r.length;have hn:=w5;have fin:EP X _ σ Q w s:=⟨z,H,I,rw',q⟩;exact subscriptTail_builtinR pl.typeIs slot_tuple_getitem.lookup
  (getItem_tuple pl (by omega) (by omega) (by rw[ax,← hl];exact h1) (by simpa using ew) ⟨rfl,fin⟩) hs
theorem vC:IxR X K9:=by
 intro value slice pins s σ H x y v u Q I rx ry h hs;obtain⟨z,i,c,rfl,rfl,hz,he,q⟩:=h;obtain⟨t,rfl⟩:=rx;obtain⟨t',rfl⟩:=ry;obtain⟨j,h1,h2,h3,h4,h5⟩:=wR he;have hl:z.cps.toList.length=z.length:=by simp[fA]
 rw[hl]at h1 h4 h5;have hn:=w5;exact tail_any (c8 s z t) slot_str_getitem.lookup (getItem_str (by
  have e1:decide (i < -(2 ^ 63))=false:=decide_eq_false (by omega)
  have e2:decide (i ≥ 2 ^ 63)=false:=decide_eq_false (by omega)
  rw[e1,e2,Bool.or_false]) (by rw[h1];simpa using h2) ⟨.str _,H,I.tok _,⟨_,rfl⟩,q⟩) hs
def rIx (K:a6):R2:=λx y H Q=>K7 K x y H Q\/K8 K x y H Q\/K9 x y H Q
theorem vD:IxR X (rIx X.K):=qw.or (vA.or vC)
theorem wb (lo hi:Option Int)(n:Nat):(sliceBounds lo hi none n).1=((HT.sIx n 0 lo:Nat):Int)/\(sliceBounds lo hi none n).2.1=((HT.sIx n n hi:Nat):Int)/\(sliceBounds lo hi none n).2.2=1:=by
 refine⟨?_, ?_,rfl⟩
 ·cases lo with
  | none=>simp[sliceBounds,HT.sIx]
  | some i=>
   simp only[sliceBounds,HT.sIx,eZ,show (1) > 0 by decide,if_true]
   by_cases h:i < 0
   ·simp only[h,if_true] <;> omega
   ·simp only[h,if_false] <;> omega
 ·cases hi with
  | none=>simp[sliceBounds,HT.sIx]
  | some i=>
   simp only[sliceBounds,HT.sIx,eZ,show (1) > 0 by decide,if_true]
   by_cases h:i < 0
   ·simp only[h,if_true] <;> omega
   ·simp only[h,if_false] <;> omega
theorem Ju (its:List Value)(lo hi:Option Int):slicePick its.toArray lo hi none=((its.drop (HT.sIx its.length 0 lo)).take (HT.sIx its.length its.length hi - HT.sIx its.length 0 lo)).toArray:=by
 obtain⟨h1,h2,h3⟩:=wb lo hi _;unfold slicePick;rw[h1,h2,h3];simp only[sliceRange_one,pick_run,ax] <;> rfl
def KL (K:a6):V->Option Int->Option Int->Hp->VK->Prop:=λx lo hi H Q=>∃a xs,x= .ref a/\SqL K H a xs/\∀p,H p=none->Q (.ref p) (upd H p (.lst (QT xs lo hi)))
theorem qx:SlR X (KL X.K):=by
 intro pins s σ H x v vl vu lo hi sl Q I rx hs pl pu h;obtain⟨a,xs,rfl,hx,q⟩:=h;cases rx;obtain⟨its,r,ht,hz⟩:=I.list hx;have hlen:=r.length;refine⟨"list",_,slot_list_getitem.lookup,ht.isList.typeIs, ?_⟩;refine wpAny_getItem_list_slice ht.isList hs pl pu .none (by simp) ?_ (by rw[ax] <;> omega)
 rw[Ju,← hlen];refine⟨.ref _,_,I.laid (λb ob q=>a7 _ q) (ag _) ?_,rfl,q _ (I.hok.fresh (ag _))⟩;exact⟨ay (jF xs lo hi) hz,_,0,(r.drop _).take _,ao _ rfl⟩
theorem wc:Zy X (.builtin "len") (λxs H Q=>∃p ys,xs=[.ref p]/\(SqL X.K H p ys\/SqT X.K H p ys)/\Q (.int ys.length) H):=by
 intro pins s σ H xs us Q I r h;obtain⟨p,ys,rfl,hq,q⟩:=h;obtain⟨u,rfl,rx⟩:=j8 r;cases rx;have hn:=w5;rcases hq with hq | hq
 ·obtain⟨its,r',pl,hz⟩:=I.list hq;have hlen:=r'.length;exact Calls.call_len_list pl.isList (by simp only[ax] <;> omega) ⟨.int _,H,I.tok _,⟨s.toks+1,by rw[ax,hlen]⟩,q⟩
 ·obtain⟨its,r',pl,hz⟩:=I.tuple hq;have hlen:=r'.length;exact len_tuple pl (by simp only[ax] <;> omega) ⟨.int _,H,I.tok _,⟨s.toks+1,by rw[ax,hlen]⟩,q⟩
theorem wd:Zy X (.builtin "len") (λxs H Q=>∃z,xs=[.str z]/\z.length<=sizeLine/\Q (.int z.length) H):=by
 intro pins s σ H xs us Q I r h;obtain⟨z,rfl,hz,q⟩:=h;obtain⟨u,rfl,t,rfl⟩:=j8 r;have hn:=w5;exact len_str (by omega) ⟨.int _,H,I.tok _,⟨_,rfl⟩,q⟩
theorem Zy.or {f:Value}{r r' :List V->Hp->VK->Prop}(h:Zy X f r)(h' :Zy X f r'):Zy X f (λxs H Q=>r xs H Q\/r' xs H Q):=by
 intro pins s σ H xs us Q I rs q;rcases q with q | q
 ·exact h _ s σ H xs us Q I rs q
 ·exact h' _ s σ H xs us Q I rs q
theorem ZT:Zy X (.type "tuple") (λxs H Q=>∃p ys,xs=[.ref p]/\((SqL X.K H p ys/\∀l,H l=none->Q (.ref l) (upd H l (.tup ys)))\/(SqT X.K H p ys/\Q (.ref p) H))):=by
 intro pins s σ H xs us Q I r h;obtain⟨p,ys,rfl,h⟩:=h;obtain⟨u,rfl,rx⟩:=j8 r;cases rx;rcases h with ⟨hq,q⟩ | ⟨hq,q⟩
 ·obtain⟨its,r',pl,hz⟩:=I.list hq;have hlen:=r'.length;refine call_tuple_list pl.isList (λh' kp=> ?_) (by simp only[ax] <;> omega)
  have I1:Inv X _ σ H { s with heap:=h' }:=I.kept kp;have I2:Inv X _ σ (upd H _ (.tup ys)) { s with heap:=h'.push _ }:=
   I1.laid (λb o e=>a7 _ e) (ag _) (show zW _ X.w _ _ _ _ from ⟨hz,its,r',ITN.new _ _⟩)
  exact⟨.ref _,_,I2,rfl,q _ (I1.hok.fresh (ag _))⟩
 ·obtain⟨its,r',pl,hz⟩:=I.tuple hq;exact call_tuple_same pl ⟨.ref p,H,I,rfl,q⟩
def tyV (K:a6)(T:String)(x:V)(H:Hp):Prop:=match x with
 | .str _=>T="str"
 | .int _=>T="int"
 | .ref p=>(T="list"/\∃xs,SqL K H p xs)\/(T="tuple"/\∃o,K.lookup p=some o/\o.cls= .type "tuple"/\o.dict=none)\/
   (T="dict"/\((∃kvs,H p=some (.dK kvs))\/∃kvs,H p=some (.dT kvs)))\/(T="set"/\∃S n,H p=some (.set S n))
 | _=>False
theorem vF {pins:List (Addr×Obj)}{σ:St}{H:Hp}{s:Shared}{T:String}{x:V}{v:Value}(I:Inv X pins σ H s)(r:zR x v)(ty:tyV X.K T x H):
  s.TypeIs v T/\∀a,v= .ref a->∃ob,s.heap.get? a=some ob/\ob.dict=none:=by
 cases x with
 | str z=>
  obtain⟨t,rfl⟩:=r;cases (ty);exact⟨c8 s z t,λ_ e=>nomatch e⟩
 | int i=>
  obtain⟨t,rfl⟩:=r;cases (ty);exact⟨typeIs_int s i t,λ_ e=>nomatch e⟩
 | ref p=>
  cases r;rcases ty with ⟨rfl,xs,hq⟩ | ⟨rfl,o,hk,hc,hd⟩ | ⟨rfl,hk⟩ | ⟨rfl,S,n,hk⟩
  ·obtain⟨its,_,pl,_⟩:=I.list hq;refine⟨pl.isList.typeIs,λa e=> ?_⟩;cases e;obtain⟨o,n,e,c,hd,_⟩:=pl;exact⟨o,e,hd⟩
  ·refine⟨⟨o,I.kIn p o hk,hc⟩,λa e=> ?_⟩;cases e;exact⟨o,I.kIn _ o hk,hd⟩
  ·have z:∃o,s.heap.get? p=some o/\o.ExactDict:=by
    rcases hk with ⟨kvs,hk⟩ | ⟨kvs,hk⟩
    ·obtain⟨_,_,_,_,o,_,_,e,ex,_⟩:=I.hok p _ hk;exact⟨o,e,ex⟩
    ·obtain⟨_,_,_,_,o,_,_,e,ex,_⟩:=I.hok p _ hk;exact⟨o,e,ex⟩
   obtain⟨o,e,ex⟩:=z;refine⟨⟨o,e,ex.1⟩,λa e2=> ?_⟩;cases e2;exact⟨o,e,ex.2.1⟩
  ·obtain⟨o,_,_,_,e,ex,_⟩:=I.hok p _ hk;refine⟨⟨o,e,ex.1⟩,λa e2=> ?_⟩;cases e2;exact⟨o,e,ex.2.1⟩
 | _=>exact aP ty
def tBM (K:a6)(T:String)(r:V->List V->Hp->VK->Prop)(to:TE)(t:TA):TE:=λσ H Q=>to σ H λx H1=>tyV K T x H1/\t σ H1 λxs H2=>r x xs H2 Q
variable {o e:Expr}{es:List Expr}{to:TE}{t:TA}{name:Str}{apos cpos:Pos}{T id:String}{r:V->List V->Hp->VK->Prop}
theorem J8 (pa:PlainAttrs T)(slot:Slot T name id)(hty:typeOf (.builtin id)=pure (.type "method_descriptor"))(hm:MtR X id r)(ho:PE X o to)(ha:PA X (e :: es) t)
  (hbase:attributeBase o name X.env (eval o X.env)=eval o X.env:=by rfl)
  (hfew:((backTo cpos (starEach (e :: es) X.env)).all (λx=> !x.1) && (backToKw cpos (keywordEach [] X.env)).all (λx=>x.1.isSome)
   && decide ((e :: es).length+([]:List Keyword).length+(if ([]:List Keyword).isEmpty then 0 else 1) < 30))=true:=by rfl)
  (hline:(apos.endLine == cpos.line)=true:=by rfl) (hs:starEach (e :: es) X.env=(false,eval e X.env) :: starEach es X.env:=by rfl) (hplain:(backTo cpos (starEach es X.env)).any (·.1)=false:=by rfl):
  PE X (.Call (.Attribute o name apos) (e :: es) [] cpos) (tBM X.K T r to t):=by
 intro pins s σ H Q I h;refine wpAny_Call_method_late hbase hfew hline rfl (thn (ho _ s σ H _ I h) λv s1 ⟨x,H1,I1,r1,ty,q1⟩=> ?_);obtain⟨h1,h2⟩:=vF I1 r1 ty;refine⟨T,id,pa,slot,hty,h1,h2, ?_⟩;have hA:=ha cpos _ s1 σ H1 _ I1 q1;rw[hs]at hA ⊢;refine Calls.callWith_builtin (by show (false || (backTo _ _).any _)=false;rw[hplain] <;> rfl) (cU ?_)
 exact thn hA λus s2 ⟨vs,H2,I2,r2,q2⟩=>hm _ s2 σ H2 x vs v us Q I2 r1 r2 q2
end
end L2
namespace L2
open PySem PySem.Spec PyProof.Rows
def MtM (X:Cx)(id:String)(r:V->List V->Hp->VK->Prop):Prop:=
 ∀(pins:List (Addr×Obj)) (s:Shared) (σ:St) (H:Hp) (x:V) (xs:List V) (v:Value) (us:List Value) (Q:VK),Inv X pins σ H s->zR x v->zM xs us->r x xs H Q->
  wpAny (model X.prog X.w) X.A (call (.builtin id) (v :: us)) (EP X pins σ Q) X.xe s
theorem zM.one:∀{x:V} {us:List Value},zM [x] us->∃u,us=[u]/\zR x u
 | _,_,.cons r .nil=>⟨_,rfl,r⟩
theorem zM.rep {xs:List V}{us:List Value}(h:zM xs us):∀k:Nat,zM (au k xs).flatten (au k us).flatten
 | 0=> .nil
 | k+1=>by
  exact zM.append h (zM.rep h k)
theorem ZU (its:List Value):∀(k:Nat) (acc:List Value),
  de (λx1 x2=>x1++x2) acc.toArray (au k its.toArray)=(acc++(au k its).flatten).toArray
 | 0,acc=>by simp
 | k+1,acc=>by
  have e:acc.toArray++its.toArray=(acc++its).toArray:=by simp
  have e2:(acc++its)++(au k its).flatten=acc++(au (k+1) its).flatten:=by
   rw[d6,eN,a_]
  rw[← e2,← ZU its k _,← e,d6,fj]
section
variable {X:Cx}{pins:List (Addr×Obj)}{σ:St}{H:Hp}{s:Shared}{l b:Addr}{xs ys zs:List V}
theorem Inv.lset {its its' :List Value}{n:Nat}{f:Array Value->Array Value}{t' :Nat}(I:Inv X pins σ H s)(hH:H l=some (.lst xs))
  (e:s.heap.get? l=some { cls:= .type "list",data:= .seq its.toArray n }) (hf:f its.toArray=its'.toArray) (hv:zM ys its') (hz:ys.length<=sizeLine):
  Inv X pins σ (upd H l (.lst ys)) { s with heap:=s.heap.update l (Obj.mapSeq f),toks:=t' }:=by
 have q:=PySem.IsL.update e f;rw[hf]at q;refine I.write (by rw[hH];exact trivial) (.inl rfl) (λb' u hb hu=>(aH _ _ (bq hb)).trans hu) ⟨_,q⟩ ?_
 exact⟨hz,its',_,hv,q⟩
theorem Inv.lnew {its:List Value}{t' :Nat}(I:Inv X pins σ H s)(hv:zM ys its)(hz:ys.length<=sizeLine):
  Inv X pins σ (upd H s.heap.objs.size (.lst ys)) { s with heap:=s.heap.push { cls:= .type "list",data:= .seq its.toArray },toks:=t' }:=
 I.laid (λ_ _ q=>a7 _ q) (ag _) ⟨hz,its,0,hv,ao _ rfl⟩
theorem Inv.fresh (I:Inv X pins σ H s):H s.heap.objs.size=none:=I.hok.fresh (ag _)
theorem Inv.lstM (I:Inv X pins σ H s)(hH:H l=some (.lst xs)):xs.length<=sizeLine/\∃(its:List Value) (n:Nat),zM xs its/\xs.length=its.length/\s.heap.get? l=some { cls:= .type "list",data:= .seq its.toArray n }:=by
 obtain⟨z,its,n,r,e⟩:=I.hok l _ hH;exact⟨z,its,n,r,r.length,e⟩
theorem Wb {n:Nat}(h:n<=sizeLine):cq n=false:=by
 exact decide_eq_false (by omega)
end
section
variable {X:Cx}
def qy:V->List V->Hp->VK->Prop:=λx vs H Q=>∃l xs y,x= .ref l/\vs=[y]/\H l=some (.lst xs)/\xs.length < sizeLine/\Q .non (upd H l (.lst (xs++[y])))
theorem jG:MtM X "list.append" qy:=by
 intro pins s σ H x vs v us Q I rx rv h;obtain⟨l,xs,y,rfl,rfl,hH,hz,q⟩:=h;cases rx;obtain⟨u,rfl,ru⟩:=rv.one;obtain⟨z,its,n,r,hl,e⟩:=I.lstM hH;refine bJ F.slot_list_append ⟨_,e,rfl⟩ F.entry_list_append (F.args_list_append_2 _ _) (PySem.list_append l _ n u (by rw[ax];omega)) ⟨e, ?_⟩
 refine⟨.non,_,I.lset hH e (by simp) (r.append (.cons ru .nil)) ?_,rfl,q⟩
 rw[aa,cM];omega
def qz:V->List V->Hp->VK->Prop:=λx vs H Q=>∃l b xs zs,x= .ref l/\vs=[.ref b]/\H l=some (.lst xs)/\H b=some (.lst zs)/\xs.length+zs.length<=sizeLine/\Q .non (upd H l (.lst (xs++zs)))
theorem uG:MtM X "list.extend" qz:=by
 intro pins s σ H x vs v us Q I rx rv h;obtain⟨l,b,xs,zs,rfl,rfl,hH,hB,hz,q⟩:=h;cases rx;obtain⟨u,rfl,ru⟩:=rv.one;cases ru;obtain⟨z,its,n,r,hl,e⟩:=I.lstM hH;obtain⟨z2,its2,n2,r2,hl2,e2⟩:=I.lstM hB;have hsz:its.toArray.size+its2.toArray.size<=sizeLine:=by rw[ax,ax];omega
 have hlong:¬ (!its.toArray.isEmpty && cq (its.toArray.size+its2.toArray.size))=true:=by
  rw[Wb hsz,Bool.and_false];exact aE
 refine bJ F.slot_list_extend ⟨_,e,rfl⟩ F.entry_list_extend (F.args_list_extend_2 _ _)
  (AutoSeq1.list_extend_list_list_0 l _ n b _ n2 hlong (by omega) (by omega)) ⟨e,e2, ?_⟩
 refine⟨.non,_,I.lset hH e (by simp) (r.append r2) ?_,rfl,q⟩
 rw[aa];omega
def KM:R2:=λx y H Q=>∃l b xs zs,x= .ref l/\y= .ref b/\H l=some (.lst xs)/\H b=some (.lst zs)/\xs.length+zs.length<=sizeLine/\∀p,H p=none->Q (.ref p) (upd H p (.lst (xs++zs)))
theorem vG:OpR X (binaryOp .Add) KM:=by
 intro pins s σ H x y v u Q I rx ry h;obtain⟨l,b,xs,zs,rfl,rfl,hH,hB,hz,q⟩:=h;cases rx;cases ry;obtain⟨z,its,n,r,hl,e⟩:=I.lstM hH;obtain⟨z2,its2,n2,r2,hl2,e2⟩:=I.lstM hB;refine PySem.P.add_list e e2 ?_ (by rw[ax,ax];omega)
 have ea:its.toArray++its2.toArray=(its++its2).toArray:=by simp
 rw[ea];exact⟨.ref _,_,I.lnew (r.append r2) (by rw[aa];omega),rfl,q _ I.fresh⟩
def KN:R2:=λx y H Q=>∃l k xs,x= .ref l/\y= .int k/\H l=some (.lst xs)/\ -(2 ^ 63)<=k/\k < 2 ^ 63/\xs.length*k.toNat<=sizeLine/\
 ∀p,H p=none->Q (.ref p) (upd H p (.lst (au k.toNat xs).flatten))
theorem Jv {α:Type}(xs:List α)(k:Nat):(au k xs).flatten.length=k*xs.length:=by
 induction k with
 | zero=>simp
 | succ k ih=>rw[d6,eN,aa,ih,Nat.succ_mul,Nat.add_comm]
theorem vH:OpR X (binaryOp .Mult) KN:=by
 intro pins s σ H x y v u Q I rx ry h;obtain⟨l,k,xs,rfl,rfl,hH,h1,h2,hz,q⟩:=h;cases rx;obtain⟨t,rfl⟩:=ry;obtain⟨z,its,n,r,hl,e⟩:=I.lstM hH;have hlen:its.toArray.size*k.toNat<=sizeLine:=by rw[ax,← hl];exact hz
 have hcap:¬ its.toArray.size*k.toNat > (2 ^ 63 - 1) / 8:=by
  have:(sizeLine)<=(2 ^ 63 - 1) / 8:=by decide
  omega
 have hfit:¬ (!Builtin.List.listFitsIndex k)=true:=by
  rw[fitsIndex_both h1 h2];exact aE
 have hlong:¬ cq (its.toArray.size*k.toNat)=true:=by
  rw[Wb hlen];exact aE
 have hnew:de (λx1 x2=>x1++x2) #[] (au (if its.toArray.isEmpty=true then 0 else k.toNat) its.toArray)=(au k.toNat its).flatten.toArray:=by
  have f0:∀m,de (λx1 x2=>x1++x2) #[] _=(au m its).flatten.toArray:=λm=>by
   have:=ZU its m [];exact this
  rw[f0];cases its with
  | nil=>simp
  | cons a r' =>rw[if_neg (by simp)]
 refine wpAny_binaryOp_repeat_ref (by decide) ⟨_,e,rfl⟩ (λs' =>typeIs_int s' k t) noFill_list_mul fk cY repeat_list e_.lookup
  (bJ cY (typeIs_int s k t) f7 (eO _ _) (int___rmul___int_list k t l _ n)
   ⟨e,rfl,⟨_,e,rfl⟩,bJ F.slot_list_mul ⟨_,e,rfl⟩ F.entry_list_mul (F.args_list_mul_2 _ _) (AutoListH.list___mul___list_int_3 l _ n k t hfit hcap hlong) ⟨e, ?_⟩⟩)
 rw[hnew];exact⟨.ref _,_,I.lnew (r.rep _) (by rw[Jv,dB];exact hz),rfl,q _ I.fresh⟩
end
end L2
namespace Att
open PySem PySem.W PySem.Calls PyProof.Rows
theorem jH {P:Params}{h:Heap}:∀(ns:List Int) (vs:List Value),WellAll P h vs (ns.map WData.int)->IntsAre vs ns:=by
 intro ns
 induction ns with
 | nil=>
  intro vs w;cases w;exact .nil
 | cons n ns ih=>
  intro vs w;cases w with
  | cons a b=>
   cases a;exact .cons _ _ (ih _ b)
theorem script_of {l:OpenLaw}{n:Nat}(hn:l.most=some n){P:Params}{h:Heap}{args:List WData}{vals:List Value}
  (hpre:l.row.toRowW.claim.pre args=true) (hwl:WellAll P h vals args):
  ∃a vs ns,vals=[Value.ref a]/\args=[WData.list (ns.map WData.int)]/\h.get? a=some { cls:= .type "list",data:= .seq vs.toArray }/\IntsAre vs ns/\ns.length<=n:=by
 have hsh:=(pre_splitW hpre).1;have hc:=(pre_splitW hpre).2;obtain⟨d,r,rfl,h1,h2⟩:=hasAllW_cons hsh;obtain rfl:=hasAllW_nil h2;obtain⟨xs,rfl,h3⟩:=hasW_list h1;obtain⟨ns,rfl⟩:=items_int h3;have hlen:ns.length<=n:=by
  have h4:=by
   have h4:=(holds_andW hc).1;rw[hn]at h4;exact h4
  have h5:=condW_of h4 (w_not (w_lt w_lit (w_len_list (w_arg rfl))));rw[aD]at h5;refine Nat.le_of_not_lt λq=> ?_;have q' :(n) < ((ns.length):Int):=by omega
  first
   | (rw[decide_eq_true q']at h5;exact absurd h5 (by decide))
   | (simp at h5)
 cases hwl with
 | cons w1 w2=>
  cases w2;cases w1 with
  | list ho hall=>exact⟨_,_,ns,rfl,rfl,ho,jH ns _ hall,hlen⟩
theorem post_true (l:OpenLaw)(args:List WData):l.row.toRowW.claim.post args (.bool true) args=true:=
 postW_of
  (show WShape.has [] _ _=true by first | rfl | decide | simp[WShape.has,WShape.arms,WShape.armsAll])
  (show (WTm.eq _ _).value [] _=some _ from w_eq_bool (w_res rfl) w_lit) rfl
end Att
namespace L2
open PySem PySem.Spec PyProof.Rows
theorem we:∀{vs:List Value} {ns:List Int},IntsAre vs ns->zM (ns.map V.int) vs
 | _,_,.nil=> .nil
 | _,_,.cons n t h=> .cons ⟨t,rfl⟩ (we h)
end L2
namespace L2
open PySem PySem.Spec PyProof.Rows
end L2
namespace L2
open PySem PySem.Spec PyProof.Rows
noncomputable def Zu (s:Stmt):Arguments:=match s with
 | .FunctionDef _ a _ _ _ _ _ _ _ _=>a
 | _=>{ posonlyargs:=[],args:=[],vararg:=none,kwonlyargs:=[],kw_defaults:=[],kwarg:=none,defaults:=[] }
noncomputable def zq (s:Stmt):List Stmt:=match s with
 | .FunctionDef _ _ b _ _ _ _ _ _ _=>b
 | _=>[]
noncomputable def z6 (s:Stmt):Scope:=match s with
 | .FunctionDef _ _ _ _ _ _ sc _ _ _=>sc
 | _=>{ kind:= .function,names:=[],isGenerator:=false,isCoroutine:=false }
abbrev CX0:CXT:=λ_ _ _ _ _ _=>False
structure Fun (K:a6) (x qual:Str) (st:Stmt) (f:Addr) (fd:FuncData):Prop where
 ex:∃(oc:Value) (od:Option Addr) (kV doc pm:Value) (an:Option Addr) (cdv ct:Value) (osl:Array (Option Value)),
  fd=bu x qual (Zu st) (zq st) (z6 st) .none kV doc pm an cdv ct/\K.lookup f=some ⟨oc,od,.func fd,osl⟩/\cG K cdv qual=true
 kp:bB K (.ref f)=true
section
variable {P:Program}{w:World}{K:a6}{mg:Str->Option Value}{base:Heap}
theorem Fun.ok {x qual:Str}{st:Stmt}{f:Addr}{fd:FuncData}{N ps:List Str}{k:Nat}{sp:Sp}(F:Fun K x qual st f fd)(S:zX N ps (z6 st))(len:∀vs H Q E,sp vs H Q E->vs.length=ps.length)
  (hbody:∀(cdv:Value) (A:Around) (outer:List Env) (s:Shared) (H:Hp) (vs:List V) (Q:VK) (E:XK),Z1 k (A.deeper (envOfC qual (z6 st) s.heap.objs.size f cdv))->sp vs H Q E->
   ∃t,PSs (zU CX0 P w K mg base N qual (z6 st) f cdv A outer s H E).nox (zq st) t/\t { nx:=λ_ H' =>Q .non H',rt:=Q } (start N vs) H):W8 P w K mg base CX0 (k+1) f fd ps sp:=by
 obtain⟨oc,od,kV,doc,pm,an,cdv,ct,osl,rfl,lk,hcd⟩:=F.ex;refine vy lk hcd S len λA outer s H vs Q E hr hsp=> ?_;obtain⟨t,h,q⟩:=hbody cdv A _ s H vs Q E hr hsp;exact⟨t,h.nox,q⟩
theorem Fun.binds {x qual:Str}{st:Stmt}{f:Addr}{fd:FuncData}{ps:List Str}(F:Fun K x qual st f fd)
  (h:∀(kV doc pm:Value) (an:Option Addr) (cdv ct:Value) (us:List Value),us.length=ps.length->bindArgs (bu x qual (Zu st) (zq st) (z6 st) .none kV doc pm an cdv ct) ⟨us,[]⟩=pure (ps.zip us)):Binds K fd ps []:=by
 obtain⟨oc,od,kV,doc,pm,an,cdv,ct,osl,rfl,lk,hcd⟩:=F.ex;exact .all (h kV doc pm an cdv ct)
theorem vI {x qual:Str}{st:Stmt}{f:Addr}{oc:Value}{od an:Option Addr}{osl:Array (Option Value)}{kV doc pm cdv ct:Value}(l:K.lookup f=some ⟨oc,od,.func (bu x qual (Zu st) (zq st) (z6 st) .none kV doc pm an cdv ct),osl⟩)
  (c:cG K cdv qual=true) (k:bB K (.ref f)=true):Fun K x qual st f (bu x qual (Zu st) (zq st) (z6 st) .none kV doc pm an cdv ct):=⟨⟨oc,od,kV,doc,pm,an,cdv,ct,osl,rfl,l,c⟩,k⟩
end
section
variable {X:Cx}
theorem pv (i:Nat){x:Str}{pos:Pos}(hN:X.N[i]? =some x:=by rfl)(hv:Vis X.env.scope x:=by first | exact Or.inl rfl | exact Or.inr (Or.inl rfl) | exact Or.inr (Or.inr rfl))(hd:(x == ("__debug__":Str))=false:=by decide)
  (hcd:(x == ("__classdict__":Str))=false:=by decide):PE X (.Name x pos) (yd i):=W6 hN hv hd hcd
end
def zc (H H' :Hp):Prop:=∀b o,H b=some o->H' b=some o
theorem zc.refl (H:Hp):zc H H:=λ_ _ h=>h
theorem zc.trans {H H1 H2:Hp}(a:zc H H1)(b:zc H1 H2):zc H H2:=λc o h=>b c o (a c o h)
theorem zc.free {H H' :Hp}(e:zc H H'){l:Addr}(h:H' l=Option.none):H l=Option.none:=by
 cases q:H l with
 | none=>rfl
 | some o=>
  rw[e l o q]at h;cases h
end L2
namespace L2
open PySem PySem.Spec PyProof.Rows PySem.W
theorem Wc {env:Env}{outer:List Env}{L:Addr}(h:env.frame=some L):frs (env :: outer)=L :: frs outer:=by
 unfold frs;rw[ci,h]
structure Jw (P:Program) (w:World) (outer:List Env) (H:Hp) (s s' :Shared) (ea:Addr) (cls a0:Value) (B:Heap) (H' :Hp):Prop where
 os:s'.os=s.os
 bare:AllBare s'.gens
 fly:b_ B outer ea cls a0 s'.heap
 hok:HOk P w H' B
 un:Un (frs outer) [] H H' s.heap s'.heap
 inB:∀b o,s.heap.get? b=some o->b ∉ frs outer->(H b=none->B.get? b=some o)/\∃o',B.get? b=some o'
def CX1 (P:Program)(w:World):CXT:=λouter H s E e s' =>∃ea cls a0 B H',e= .ref ea/\Jw P w outer H s s' ea cls a0 B H' /\E cls none H'
section
variable {X:Cx}{pins:List (Addr×Obj)}{σ:St}{H H' :Hp}{s s' :Shared}{ea:Addr}{cls a0:Value}{B:Heap}{h' h'' :Heap}
theorem Inv.frNf (I:Inv X pins σ H s):∀b∈frs X.stack,H b=none/\∃o,s.heap.get? b=some o/\∀vs,o.data ≠ .fields vs:=λb hb=>⟨I.stkFree b hb,(I.stack.mem hb).2⟩
theorem Jw.on {P:Program}{w:World}{outer:List Env}(L:Jw P w outer H s s' ea cls a0 B H')(ff:∀b∈frs outer,H b=none/\∃o,s.heap.get? b=some o/\∀vs,o.data ≠ .fields vs)
  (fl:b_ B outer ea cls a0 h') (sl:s'.heap.UpToSlots h'):Jw P w outer H s { s' with heap:=h' } ea cls a0 B H' where
 os:=L.os
 bare:=L.bare
 fly:=fl
 hok:=L.hok
 inB:=L.inB
 un:=by
  have slot:∀b o,s.heap.get? b=some o->H b=none->b∈frs outer->∃sl,h'.get? b=some { o with slots:=sl }:=λb o e n hb=>by
   obtain⟨sl1,e1⟩:=L.un.slot b o e n hb (by simp)
   obtain⟨_,o2,e2,nf⟩:=ff b hb;rw[e]at e2;cases e2;obtain⟨sl2,e3⟩:=sl b _ e1 nf;exact⟨sl2,e3⟩
  exact⟨λb o e n hb _=>fl.1 b o ((L.inB b o e hb).1 n),λb o e n hb _=>slot b o e n hb,L.un.free,λb o e _=>by
   by_cases hb:b∈frs outer
   ·obtain⟨sl1,e1⟩:=slot b o e (ff b hb).1 hb;exact⟨_,e1⟩
   ·obtain⟨o',e'⟩:=(L.inB b o e hb).2;exact⟨o',fl.1 b o' e'⟩,L.un.tups,L.un.frzs,L.un.tbls⟩
theorem Inv.old (I:Inv X pins σ H s){b:Addr}{o:Obj}(hX:X.stack=X.env :: X.outer)(hf:X.env.frame=some X.env.locals)(e:X.s₀.heap.get? b=some o)(hb:b ∉ frs X.outer):b ∉ frs X.stack:=by
 rw[hX,Wc hf];intro z;rcases aj.mp z with z | z
 ·exact absurd (ar (a9 e) I.ok.above) (by rw[z];exact aN _)
 ·exact hb z
theorem jI {X:Cx}(hX:X.stack=X.env :: X.outer)(hf:X.env.frame=some X.env.locals){b:Addr}(hb:b∈frs X.outer):b∈frs X.stack:=by
 rw[hX,Wc hf];exact a8 _ hb
theorem Jw.out (I:Inv X pins σ H s)(hX:X.stack=X.env :: X.outer)(hf:X.env.frame=some X.env.locals)(hex:X.ex=[])(L:Jw X.prog X.w X.stack H s s' ea cls a0 B H')
  (fl:b_ B X.outer ea cls a0 h') (sl:s'.heap.UpToSlots h'):Jw X.prog X.w X.outer X.H₀ X.s₀ { s' with heap:=h' } ea cls a0 B H' where
 os:=L.os.trans I.os
 bare:=L.bare
 fly:=fl
 hok:=L.hok
 inB:=λb o e hb=>by
  have nx:b ∉ X.ex:=by rw[hex];simp
  obtain⟨o1,e1⟩:=I.base.there b o e nx;have hb' :=I.old hX hf e hb;exact⟨λn=>(L.inB b o (I.base.keep b o e n hb nx) hb').1 (I.base.free b o e n nx),(L.inB b o1 e1 hb').2⟩
 un:=by
  have nx:∀b,b ∉ X.ex:=λb=>by rw[hex];simp
  have slot:∀b o,X.s₀.heap.get? b=some o->X.H₀ b=none->b∈frs X.outer->∃sl,h'.get? b=some { o with slots:=sl }:=λb o e n hb=>by
   obtain⟨sl1,e1⟩:=I.base.slot b o e n hb (nx b);have n1:=I.base.free b o e n (nx b);obtain⟨sl2,e2⟩:=L.un.slot b _ e1 n1 (jI hX hf hb) (by simp)
   obtain⟨_,o3,e3,nf⟩:=I.frNf b (jI hX hf hb);rw[e1]at e3;cases e3;obtain⟨sl4,e4⟩:=sl b _ e2 nf;exact⟨sl4,e4⟩
  refine⟨λb o e n hb _=> ?_,λb o e n hb _=>slot b o e n hb,λb o e n _=> ?_,λb o e _=> ?_,λb xs e=>L.un.tups b xs (I.base.tups b xs e),λb o xs e=>L.un.frzs b o xs (I.base.frzs b o xs e),λb ps q e=>L.un.tbls b ps q (I.base.tbls b ps q e)⟩
  ·exact fl.1 b o ((L.inB b o (I.base.keep b o e n hb (nx b)) (I.old hX hf e hb)).1 (I.base.free b o e n (nx b)))
  ·obtain⟨o1,e1⟩:=I.base.there b o e (nx b);exact L.un.free b o1 e1 (I.base.free b o e n (nx b)) (by simp)
  ·by_cases hb:b∈frs X.outer
   ·obtain⟨sl1,e1⟩:=slot b o e (I.ok.frf b hb) hb;exact⟨_,e1⟩
   ·obtain⟨o1,e1⟩:=I.base.there b o e (nx b);obtain⟨o',e'⟩:=(L.inB b o1 e1 (I.old hX hf e hb)).2;exact⟨o',fl.1 b o' e'⟩
theorem Jw.made (I:Inv X pins σ H s)(hX:X.stack=X.env :: X.outer)(hf:X.env.frame=some X.env.locals)(hex:X.ex=[]){vs:List Value}(hx:Heap.MadeExcOf s.heap h' ea cls vs)
  (fl:b_ (hideAll s.heap (frs X.stack)) X.outer ea cls a0 h'') (sl:h'.UpToSlots h''):Jw X.prog X.w X.outer X.H₀ X.s₀ { s with heap:=h'' } ea cls a0 (hideAll s.heap (frs X.stack)) H where
 os:=I.os
 bare:=I.bare
 fly:=fl
 hok:=λa o e=>(I.hok a o e).stay (λb u hb q=>hideAll_get _ q λz=>by
   have:=I.stkFree b z;rcases hb with rfl | hb
   ·rw[e]at this;cases this
   ·rw[hb]at this;cases this) (λ_ q=>q) λ_ _ q=>q
 inB:=λb o e hb=>by
  have nx:b ∉ X.ex:=by rw[hex];simp
  obtain⟨o1,e1⟩:=I.base.there b o e nx;have hb' :=I.old hX hf e hb;exact⟨λn=>hideAll_get _ (I.base.keep b o e n hb nx) hb',o1,hideAll_get _ e1 hb'⟩
 un:=by
  have nx:∀b,b ∉ X.ex:=λb=>by rw[hex];simp
  have slot:∀b o,X.s₀.heap.get? b=some o->X.H₀ b=none->b∈frs X.outer->∃sl,h''.get? b=some { o with slots:=sl }:=λb o e n hb=>by
   obtain⟨sl1,e1⟩:=I.base.slot b o e n hb (nx b);obtain⟨_,o3,e3,nf⟩:=I.frNf b (jI hX hf hb);rw[e1]at e3;cases e3;obtain⟨sl4,e4⟩:=sl b _ (hx.keeps b _ e1) nf;exact⟨sl4,e4⟩
  refine⟨λb o e n hb _=> ?_,λb o e n hb _=>slot b o e n hb,λb o e n _=>I.base.free b o e n (nx b),λb o e _=> ?_,I.base.tups,I.base.frzs,I.base.tbls⟩
  ·exact fl.1 b o (hideAll_get _ (I.base.keep b o e n hb (nx b)) (I.old hX hf e hb))
  ·by_cases hb:b∈frs X.outer
   ·obtain⟨sl1,e1⟩:=slot b o e (I.ok.frf b hb) hb;exact⟨_,e1⟩
   ·obtain⟨o1,e1⟩:=I.base.there b o e (nx b);exact⟨o1,fl.1 b o1 (hideAll_get _ e1 (I.old hX hf e hb))⟩
end
section
variable {P:Program}{w:World}{K:Frag}{mg:Str->Option Value}{base:Heap}{N:List Str}{qual:Str}{scope:Scope}{f:Addr}{cd:Value}{A:Around}{outer:List Env}{s:Shared}{H:Hp}{E:XK}
theorem qA:zO (CX1 P w) (zU (CX1 P w) P w K mg base N qual scope f cd A outer s H E) E:=by
 intro pins σ H1 s1 e s' I ⟨ea,cls,a0,B,H',he,L,hE⟩;subst he;exact wpAny_leaves_onW I.ok.frames rfl L.fly λh' fl sl=>⟨ea,cls,a0,B,H',rfl,L.out I rfl rfl rfl fl sl,hE⟩
theorem uH {x:Str}{C:Addr}{bm bmN:List Value}{Bn Bb newId nid initId inN:String}{np cpos pos:Pos}{e:Expr}{t:TA}(O:OwnCls x C bm newId mg base)(Fn:ExcBaseFacts Bn newId inN bmN)(hBn:bm.contains (.type Bn)=true)(FB:ExcBaseFacts Bb nid initId bm)
  (hg:Gl (zU (CX1 P w) P w K mg base N qual scope f cd A outer s H E) x) (ha:PA (zU (CX1 P w) P w K mg base N qual scope f cd A outer s H E) [e] t)
  (he:starEach [e] (envOfC qual scope s.heap.objs.size f cd)=[(false,eval e (envOfC qual scope s.heap.objs.size f cd))]) (hd:(x == ("__debug__":Str))=false:=by decide):
  PS (zU (CX1 P w) P w K mg base N qual scope f cd A outer s H E) (.Raise (some (.Call (.Name x np) [e] [] cpos)) none pos) (λ_ σ H1=>t σ H1 λvs H2=>vs.length<=sizeLine/\E (.ref C) none H2):=by
 intro pins s1 σ H1 D I hw;obtain⟨tl,N',nm,q,bs,hdct,sn,sub,ab,col,dd,k0,k1,k2,k3,k5,mN,hC,hN,hni,T⟩:=O.obj;have hp:(backTo cpos (starEach [e] (envOfC qual scope s.heap.objs.size f cd))).any (·.1)=false:=by rw[he];rfl
 refine wpAny_Raise_call_subU (nm:=nm) (q:=q) (N:=N') (bs:=bs) (hdct:=hdct) (sn:=sn) (sub:=sub) (ab:=ab) (col:=col) (dd:=dd) (k0:=k0) (k1:=k1) (k2:=k2) (k3:=k3) (k5:=k5)
  Fn hBn FB (T.hasType FB.hasBase) (I.ok.hd rfl) hp hni (Zj I hg O.bound ⟨rfl, ?_⟩ hd)
 have h2:=ha cpos _ s1 σ H1 _ I hw;have he' :starEach [e] (zU (CX1 P w) P w K mg base N _ _ f cd A outer s H E).env=[(false,eval e _)]:=he;rw[he']at h2 ⊢;refine cU (thn h2 λus s2 ⟨vs,H2,I2,r,hl,hE⟩=>⟨rfl,by rw[← r.length];exact hl,I2.bk _ _ hC,hN.keeps I2.bk,T.keeps I2.bk,λh' ea hx=> ?_⟩)
 have hin:∀env∈(zU (CX1 P w) P w K mg base N qual scope f cd A outer s H E).stack,∀b,env.frame=some b->b∈frs _:=λenv he b hb=>bI.mpr ⟨env,he,hb⟩;exact wpAny_leaves_madeW I2.ok.frames rfl (λb o q=>of_hideAll _ q) (funFrames_hide I2.stack hin) hx λh'' t' fl _ _ sl=>
  ⟨ea,.ref C,.ref t',_,H2,rfl,Jw.made I2 rfl rfl rfl hx fl sl,hE⟩
end
end L2
namespace L2
open PySem PySem.Spec PyProof.Rows PySem.W
theorem zW.there {P:Program}{w:World}{H:Hp}{h:Heap}{a:Addr}{o:HO}(x:zW P w H h a o):∃ob,h.get? a=some ob:=by
 cases o with
 | lst xs=>obtain⟨_,_,_,_,e⟩:=x;exact⟨_,e⟩
 | tup xs=>obtain⟨_,_,_,⟨_,e,_⟩,_⟩:=x;exact⟨_,e⟩
 | dK kvs=>obtain⟨_,_,_,_,o,_,_,e,_⟩:=x;exact⟨_,e⟩
 | dT kvs=>obtain⟨_,_,_,_,o,_,_,e,_⟩:=x;exact⟨_,e⟩
 | set S n=>obtain⟨o,_,_,_,e,_⟩:=x;exact⟨_,e⟩
 | ins C dx fs=>obtain⟨_,_,_,e,_⟩:=x;exact⟨_,e⟩
 | own y=>obtain⟨_,e⟩:=x;exact⟨_,e⟩
 | xd fs=>obtain⟨_,⟨_,_,_,e,_⟩,_⟩:=x;exact⟨_,e⟩
 | rng lo hi=>obtain⟨_,_,_,e⟩:=x;exact⟨_,e⟩
 | frz ob u=>obtain⟨e,_⟩:=x;exact⟨_,e⟩
 | tbl ps q=>obtain⟨_,e,_⟩:=x;exact⟨_,e⟩
 | met f y=>exact⟨_,(x)⟩
 | ext φ=>obtain⟨_,e,_⟩:=x;exact e
noncomputable def uI (cls:Value)(a:Addr)(h:Heap):Prop:=∃o,h.get? a=some o/\o.cls=cls
theorem uI.ok {P:Program}{w:World}{H:Hp}{h:Heap}{a:Addr}{cls:Value}(x:uI cls a h):zW P w H h a (.ext (uI cls a)):=
 ⟨x,let ⟨o,e,_⟩:=x;⟨o,e⟩,λ_ _ ⟨o,e,c⟩ k=>⟨o,k o e,c⟩⟩
noncomputable abbrev Cx.try' (X:Cx)(pn:List (Addr×Obj))(xe:Value->Shared->Prop):Cx:={ X with pn:=pn,xe:=xe }
noncomputable abbrev Cx.mark' (X:Cx)(e:Value):Cx:={ X with A:=X.A.mark (some e),calm:=false,xe:=λ_ _=>False }
section
variable {X:Cx}{pins pins' :List (Addr×Obj)}{σ:St}{H H' :Hp}{s s' :Shared}{xe:Value->Shared->Prop}
theorem Cx.Ok.try' (ok:X.Ok){pn:List (Addr×Obj)}:(X.try' pn xe).Ok:=
 ⟨ok.mod,ok.kind,ok.glob,ok.blt,ok.above,ok.inj,ok.has,ok.cab,ok.hd,ok.frames,ok.stk,ok.exf,ok.bs,ok.bsz,ok.noex,ok.exfs,ok.funs,ok.frf⟩
theorem Cx.Ok.untry {pn:List (Addr×Obj)}(ok:(X.try' pn xe).Ok):X.Ok:=
 ⟨ok.mod,ok.kind,ok.glob,ok.blt,ok.above,ok.inj,ok.has,ok.cab,ok.hd,ok.frames,ok.stk,ok.exf,ok.bs,ok.bsz,ok.noex,ok.exfs,ok.funs,ok.frf⟩
theorem Inv.try' (I:Inv X pins σ H s)(xe:Value->Shared->Prop):Inv (X.try' (X.pn++pins) xe) [] σ H s:=
 ⟨I.ok.try',I.os,I.bare,I.base,I.loc,I.cell,I.free,I.freeC,λp hp=>I.pin p (by simpa using hp),I.hok,I.len⟩
theorem Inv.untry (I:Inv (X.try' (X.pn++pins) xe) pins' σ H s):Inv X pins σ H s:=
 ⟨I.ok.untry,I.os,I.bare,I.base,I.loc,I.cell,I.free,I.freeC,λp hp=>I.pin p (bn _ hp),I.hok,I.len⟩
theorem Inv.mark' (I:Inv X pins σ H s)(e:Value):Inv (X.mark' e) pins σ H s:=
 ⟨⟨I.ok.mod,I.ok.kind,I.ok.glob,I.ok.blt,I.ok.above,I.ok.inj,I.ok.has,I.ok.cab,λz=>(by cases z),I.ok.frames,I.ok.stk,I.ok.exf,I.ok.bs,I.ok.bsz,I.ok.noex,I.ok.exfs,I.ok.funs,I.ok.frf⟩,I.os,I.bare,I.base,I.loc,I.cell,I.free,I.freeC,I.pin,I.hok,I.len⟩
theorem Inv.unmark {e:Value}(I:Inv (X.mark' e) pins σ H s)(hd:X.calm=true->X.A.handled=none):Inv X pins σ H s:=
 ⟨⟨I.ok.mod,I.ok.kind,I.ok.glob,I.ok.blt,I.ok.above,I.ok.inj,I.ok.has,I.ok.cab,hd,I.ok.frames,I.ok.stk,I.ok.exf,I.ok.bs,I.ok.bsz,I.ok.noex,I.ok.exfs,I.ok.funs,I.ok.frf⟩,I.os,I.bare,I.base,I.loc,I.cell,I.free,I.freeC,I.pin,I.hok,I.len⟩
theorem SP.untry {D:Ends}{f:Flow}{pins' :List (Addr×Obj)}(h:SP (X.try' (X.pn++pins) xe) pins' D f s'):SP X pins D f s' :=by
 cases f with
 | next=>obtain⟨σ',H',I,q⟩:=h;exact⟨σ',H',I.untry,q⟩
 | brk=>obtain⟨σ',H',I,q⟩:=h;exact⟨σ',H',I.untry,q⟩
 | cont=>obtain⟨σ',H',I,q⟩:=h;exact⟨σ',H',I.untry,q⟩
 | ret u=>obtain⟨v,σ',H',I,r,q⟩:=h;exact⟨v,σ',H',I.untry,r,q⟩
theorem qB {A:Around}{E:Value->Shared->Prop}{M:Model}{i:Nat}{n:Str}{pos:Pos}{Q:Unit->Shared->Prop}(I:Inv X pins σ H s)(hN:X.N.Nodup)(hi:X.N[i]? =some n)(hl:X.env.kindOf n=some .local)(h:∀s',Inv X pins (σ.set i none) H s' ->Q () s'):
  wpAny M A (do bindName X.env n .none;unbindBehindTheSuite X.env n pos) Q E s:=by
 obtain⟨m,hn,hlo⟩:=id I.loc;have hcls:(X.env.scope.kind == .class || (X.env.scope.kind == .module && X.env.locals != X.env.globals))=false:=by rw[I.ok.kind];rfl
 refine wpAny_nameGoes_keeps hl hn hcls λh' v hn' hs=> ?_;refine h _ ⟨I.ok,I.os,I.bare,⟨λb o e n hb hx=> ?_,λb o e n hb hx=> ?_,I.base.free,λb o e hx=> ?_,I.base.tups,I.base.frzs,I.base.tbls⟩,⟨_,hn',λj y v' e1 e2 e3=> ?_⟩,λy c e=> ?_,I.free,I.freeC,λp hp=> ?_,λb ob e=> ?_,by simpa using I.len⟩
 ·exact(hs.2 b (aA (ar (a9 e) I.ok.above))).trans (I.base.keep b o e n hb hx)
 ·obtain⟨sl,e1⟩:=I.base.slot b o e n hb hx;exact⟨sl,(hs.2 b (aA (ar (a9 e) I.ok.above))).trans e1⟩
 ·obtain⟨o',e1⟩:=I.base.there b o e hx;exact⟨o',(hs.2 b (aA (ar (a9 e) I.ok.above))).trans e1⟩
 ·by_cases hj:j=i
  ·subst hj;have hiσ:j < σ.length:=by rw[I.len];exact(aT.mp hi).1
   rw[aU hiσ]at e2;cases e2
  ·rw[az (bq hj)]at e2;obtain⟨u',r',q⟩:=hlo j y v' e1 e2 e3;refine⟨u',r', ?_⟩;rcases q with ⟨k,e⟩ | ⟨k,c,e,z⟩
   ·refine .inl ⟨k, ?_⟩;have:y ≠ n:=λe=>hj (Jt hN e1 (e ▸ hi));simp[this,e]
   ·exact .inr ⟨k,c,e,z.sameBut hs (I.cne y c e)⟩
 ·obtain⟨w',z⟩:=I.cell y c e;exact⟨w',z.sameBut hs (I.cne y c e)⟩
 ·obtain⟨e,n,ne,nf,d⟩:=I.pin p hp;exact⟨(hs.2 p.1 ne).trans e,n,ne,nf,d⟩
 ·refine(I.hok b ob e).stay (λc w' hc q=>(hs.2 c ?_).trans q) (λ_ q=>q) λ_ _ q=>q
  rintro rfl
  rcases hc with rfl | hc
  ·rw[I.free]at e;cases e
  ·rw[I.free]at hc;cases hc
end
section
variable {prog:Program}{w:World}{A:Around}{E:Value->Shared->Prop}{s:Shared}{env:Env}
theorem WO {K:Frag}{e:Addr}{cls c:Value}{t:Expr}{n:Str}{b₀:Stmt}{suite:List Stmt}{pos:Pos}{rest:List ExceptHandler}{Q:Flow->Shared->Prop}(hx:exmOne K cls c=some true)
  (h:wpAny (model prog w) (A.mark (some (.ref e))) (eval t env) (λv s₁=>v=c/\K.In s₁.heap/\(∃oe,s₁.heap.get? e=some oe/\oe.cls=cls)/\
   wpAny (model prog w) (A.mark (some (.ref e))) (setFlight (.ref e) none) (λ_ s₂=>
     wpAny (model prog w) (A.mark (some (.ref e))) (storeName env n (.ref e)) (λ_ s₃=>
      wpAny (model prog w) (A.mark (some (.ref e))) (execs (b₀ :: suite) env)
       (λf s₄=>wpAny (model prog w) A (do bindName env n .none;unbindBehindTheSuite env n pos) (λ_ s₅=>Q f s₅) E s₄)
       (λ_ _=>False) s₃) (λ_ _=>False) s₂) (λ_ _=>False) s₁) (λ_ _=>False) s):
  wpAny (model prog w) A (handleBy (.ref e) env (.ExceptHandler (some t) (some n) (b₀ :: suite) pos :: rest)) Q E s:=by
 refine wpAny_handleBy_cons (codeAny_handlers_test (aB h (λv s₁ h₁=> ?_) λ_ _ y=>y.elim)) (by intro q;cases q)
 obtain⟨rfl,X,⟨oe,he,hcls⟩,hk⟩:=h₁;have LT:Looks (model prog w) s₁.heap (typeOf (.ref e)) cls:=by
  rw[← hcls];exact(Looks.ld he).andThen .now
 refine(exm_one X LT hx) _ _ _ _ (λb o q=>q) (codeAny_handlers_suite_as ?_);exact aB hk (λ_ s₂ h₂=>aB h₂ (λ_ s₃ h₃=>aB h₃ (λ_ _ y=>y) λ_ _ y=>y.elim) λ_ _ y=>y.elim) λ_ _ y=>y.elim
end
end L2
namespace L2
open PySem PySem.Spec PyProof.Rows PySem.W
section
variable {X:Cx}{pins:List (Addr×Obj)}{σ:St}{H H' :Hp}{s s' :Shared}{ea:Addr}{cls a0:Value}{B:Heap}{h3:Heap}
theorem Inv.caught (I:Inv X pins σ H s)(L:Jw X.prog X.w X.stack H s s' ea cls a0 B H')(fl:b_ B X.stack ea cls a0 h3)(sl:s'.heap.UpToSlots h3):Inv X pins σ H' { s' with heap:=h3 }:=
 have L3:=L.on I.frNf fl sl
 I.call' L3.os L3.un (L.hok.kept fl.1) L3.bare (λb z=>absurd z (by simp))
theorem Jw.fresh {P:Program}{w:World}{outer:List Env}(L:Jw P w outer H s s' ea cls a0 B H'):H' ea=none:=by
 cases q:H' ea with
 | none=>rfl
 | some o=>
  obtain⟨ob,e⟩:=(L.hok ea o q).there;have:=L.fly.2.1;rw[e]at this;cases this
theorem Inv.caughtX (I:Inv X pins σ H s)(L:Jw X.prog X.w X.stack H s s' ea cls a0 B H')(fl:b_ B X.stack ea cls a0 h3)(sl:s'.heap.UpToSlots h3):Inv X pins σ (upd H' ea (.ext (uI cls ea))) { s' with heap:=h3 }:=by
 have L3:=L.on I.frNf fl sl;have hfree:=L.fresh;obtain⟨oe,vs,he,hc,hd,_⟩:=fl.first;have hne:∀b o,s.heap.get? b=some o->b ≠ ea:=λb o e z=>by
  subst z
  by_cases hb:b∈frs X.stack
  ·obtain⟨n,o2,e2,nf⟩:=I.frNf b hb;obtain⟨sl1,e3⟩:=L3.un.slot b o2 e2 n hb (by simp)
   rw[he]at e3;cases e3;exact nf vs hd
  ·obtain⟨o',e'⟩:=(L.inB b o e hb).2;have:=L.fly.2.1;rw[e']at this;cases this
 have nt:∀b u,H' b=some u->b ≠ ea:=λb u e z=>by rw[z,hfree]at e;cases e
 refine I.call' L3.os ⟨L3.un.keep,L3.un.slot,λb o e n hx=> ?_,L3.un.there,λb xs e=> ?_,λb o xs e=> ?_,λb ps q e=> ?_⟩ ?_ L3.bare (λb z=>absurd z (by simp))
 ·rw[za (hne b o e)];exact L3.un.free b o e n hx
 ·have:=L3.un.tups b xs e;rw[za (nt b _ this)];exact this
 ·have:=L3.un.frzs b o xs e;rw[za (nt b _ this)];exact this
 ·have:=L3.un.tbls b ps q e;rw[za (nt b _ this)];exact this
 ·intro b u e
  by_cases hb:b=ea
  ·subst hb;rw[zj]at e;cases e;exact uI.ok ⟨oe,he,hc⟩
  ·rw[za hb]at e;exact((L.hok.kept fl.1) b u e).stay (λ_ _ _ q=>q) (λc q=>by rw[za (nt c _ q)];exact q) (λc xs q=>by rw[za (nt c _ q)];exact q) λc o u q=>by rw[za (nt c _ q)];exact q
end
end L2
namespace PySem
open PySem.W
section
variable {M:Model}{A:Around}{E:Value->Shared->Prop}{s:Shared}
noncomputable def ym (base:Heap)(l:List Env)(e:Addr)(cls a0:Value)(h:Heap):Prop:=base.StaysIn h/\base.get? e=none/\h.FunFrames base l/\∃fl,h.TracedAtW base e cls a0 fl
theorem Jj {base:Heap}{l:List Env}{e:Addr}{cls a0:Value}{f:Option Addr}{Q:Unit->Shared->Prop}(x:ym base l e cls a0 s.heap)
  (h:∀h',ym base l e cls a0 h' ->s.heap.UpToSlots h' ->Q () { s with heap:=h' }):wpAny M A (setFlight (.ref e) f) Q E s:=by
 obtain⟨kb,en,fr,fl,oe,vs,T,oT,ts,q1,q2,q3,q4,q5,q6,q7,q8,q9⟩:=x;have z3:=(c9.mp q9).1;refine a4 (bo q1 q3 q4 ?_);refine wpAny_setField q7 q8 z3 ?_;generalize f.elim _ (λf=>rawInt f)=nv;have oth:∀b,b ≠ T->(s.heap.update T (aW (·.setIfInBounds 3 nv))).get? b=s.heap.get? b:=λb hb=>aH _ _ hb.symm;have nr:∀b o,s.heap.get? b=some o->(∀vs,o.data ≠ .fields vs)->b ≠ T:=λb o hb n q=>by subst q;rw[q7]at hb;cases hb;exact n ts q8
 have up:s.heap.UpToSlots _:=λb o hb n=>⟨o.slots,(oth b (nr b o hb n)).trans hb⟩;refine h _ ⟨λb o hb=>(oth b λq=> ?_).trans (kb b o hb),en,fr.of_keeps λb o hb n=>⟨o,(oth b (nr b o hb n)).trans hb,rfl⟩,nv,oe,vs,T,(aW (·.setIfInBounds 3 nv)) oT,ts.setIfInBounds 3 nv,(oth e q6.symm).trans q1,q2,q3,q4,q5,q6, ?_,cx q8 _,by simp[z3]⟩ up
 ·subst q;rw[q5]at hb;cases hb
 ·exact bz _ q7 (dI (cx q8 _))
theorem Wd {base:Heap}{env:Env}{outer:List Env}{L e:Addr}{cls a0:Value}{Q:Unit->Shared->Prop}(hfr:A.frames=some (env :: outer))(hf:env.frame=some L)(x:ym base (env :: outer) e cls a0 s.heap)
  (h:∀h',b_ base outer e cls a0 h' ->s.heap.UpToSlots h' ->Q () { s with heap:=h' }):wpAny M A (leaving env (.ref e)) Q E s:=by
 obtain⟨kb,en,fr,fl,tr⟩:=x
 by_cases hfl:fl=rawInt L
 ·subst hfl;refine a4 (wpAny_noteFrame_againW hf tr ?_);refine wpAny_landsW ⟨kb,en,fr,tr⟩ λh' ⟨k1,k2,⟨_,_,k3⟩,k4⟩ sl=>h h' ⟨k1,k2,k3,k4⟩ sl
 ·obtain⟨oe,vs,T,oT,ts,q1,⟨hcls,q2⟩,q3,q4,q5,q6,q7,q8,q9⟩:=tr;subst hcls;unfold leaving noteFrame;simp only[hf];refine a4 (a4 (bo q1 q3 q4 ?_));refine a4 (bo q7 q8 q9 ?_);rw[if_neg (λz=>hfl (eq_of_beq z))];refine a4 (wpAny_setField q7 q8 (c9.mp q9).1 ?_);have oth:∀b,b ≠ T->(s.heap.update T (aW (·.setIfInBounds 3 Value.none))).get? b=s.heap.get? b:=λb hb=>aH _ _ hb.symm;have nr:∀b o,s.heap.get? b=some o->(∀vs,o.data ≠ .fields vs)->b ≠ T:=λb o hb n q=>by subst q;rw[q7]at hb;cases hb;exact n ts q8
  refine wpAny_newEntryW hfr (fr.of_keeps λb o hb n=>⟨o,(oth b (nr b o hb n)).trans hb,rfl⟩) hf ((oth e q6.symm).trans q1) (λb o hb=>(oth b λq=> ?_).trans (kb b o hb)) en q3 (c9.mp q4).1 q2 λh' ⟨x1,⟨_,_,x2⟩,x3,x4⟩=>
   h h' ⟨x1,en,x2,x3⟩ λb o hb n=>x4 b o ((oth b (nr b o hb n)).trans hb) n
  subst q;rw[q5]at hb;cases hb
theorem qC {α:Type}{base:Heap}{l:List Env}{e:Addr}{cls a0:Value}{what:String}{env:Env}{Q:α->Shared->Prop}(x:ym base l e cls a0 s.heap)(h:∀h',ym base l e cls a0 h' ->s.heap.UpToSlots h' ->E (.ref e) { s with heap:=h' }):
  wpAny M A (passOn what (.ref e) env:Sem α) Q E s:=by
 obtain⟨_,_,_,fl,oe,vs,T,oT,ts,q1,q2,q3,q4,_⟩:=id x;refine a4 (bo q1 q3 q4 ?_);exact a4 (Jj x λh' f sl=>wpAny_throw (h h' f sl))
theorem vJ {env env' :Env}{e:Value}(h:env'.frame=env.frame):noteFrame e env' =noteFrame e env:=by
 unfold noteFrame frameOf;rw[h]
theorem jJ {base h h' :Heap}{C:Addr}{oC:Obj}(hC:base.get? C=some oC)(sb:cC C h h'):∀{l:List Env},h.FunFrames base l->h'.FunFrames (hideAll base [C]) l
 | [],_=>trivial
 | env :: _,⟨k,⟨L,o,f,n,ho,d⟩,r⟩=>by
  have ne:L ≠ C:=λz=>by subst z;rw[hC]at n;cases n
  refine⟨k,⟨L,o,f, ?_,(sb.2 L ne).trans ho,d⟩,jJ hC sb r⟩;cases q:(hideAll _ [C]).get? L with
  | none=>rfl
  | some u=>have:=of_hideAll _ q;rw[n]at this;cases this
theorem ym.hide {base h h' :Heap}{l:List Env}{e C:Addr}{oC:Obj}{cls a0 fl:Value}(k:base.StaysIn h)(n:base.get? e=none)(fr:h.FunFrames base l)(t:h.TracedAtW base e cls a0 fl)(hC:base.get? C=some oC)(sb:cC C h h'):ym (hideAll base [C]) l e cls a0 h' :=by
 have hn:∀b,base.get? b=none->(hideAll _ [C]).get? b=none:=λb z=>by
  cases q:(hideAll _ [C]).get? b with
  | none=>rfl
  | some u=>have:=of_hideAll _ q;rw[z]at this;cases this
 have ne:∀b,base.get? b=none->b ≠ C:=λb z q=>by subst q;rw[hC]at z;cases z
 obtain⟨oe,vs,T,oT,ts,q1,q2,q3,q4,q5,q6,q7,q8,q9⟩:=t;refine⟨λb o hb=> ?_,hn e n,jJ hC sb fr,fl,oe,vs,T,oT,ts,(sb.2 e (ne e n)).trans q1,q2,q3,q4,hn T q5,q6,(sb.2 T (ne T q5)).trans q7,q8,q9⟩;have hbC:b ≠ C:=λz=>by
  subst z;rw[hideAll_none _ (aQ.mpr rfl)]at hb;cases hb
 exact(sb.2 b hbC).trans (k b o (of_hideAll _ hb))
end
end PySem
namespace L2
open PySem PySem.Spec PyProof.Rows PySem.W
section
variable {X:Cx}{pins:List (Addr×Obj)}{σ:St}{H H' :Hp}{s s' :Shared}{ea C:Addr}{cls a0:Value}{B:Heap}{h' :Heap}
theorem Jw.outB (I:Inv X pins σ H s)(hX:X.stack=X.env :: X.outer)(hf:X.env.frame=some X.env.locals)(hex:X.ex=[])(L:Jw X.prog X.w X.stack H s s' ea cls a0 B H')(hC:H C=none)(hS:X.s₀.heap.objs.size<=C)(hCf:C ∉ frs X.stack){oC:Obj}(eC:s.heap.get? C=some oC)
  (fl:b_ (hideAll B [C]) X.outer ea cls a0 h') (sl:∀b o,s'.heap.get? b=some o->b ≠ C->(∀vs,o.data ≠ .fields vs)->∃sl,h'.get? b=some { o with slots:=sl }):Jw X.prog X.w X.outer X.H₀ X.s₀ { s' with heap:=h' } ea cls a0 (hideAll B [C]) H' :=by
 have nx:∀b,b ∉ X.ex:=λb=>by rw[hex];simp
 have nC:∀b o,X.s₀.heap.get? b=some o->b ∉ [C]:=λb o e z=>by
  rw[aQ.mp z]at e;exact absurd (a9 e) (dC.mpr hS)
 have nC' :=λb o e z=>nC b o e (aQ.mpr z);have inB:∀b o,X.s₀.heap.get? b=some o->b ∉ frs _->(X.H₀ b=none->(hideAll B [C]).get? b=some o)/\∃o',(hideAll B [C]).get? b=some o' :=λb o e hb=>by
  obtain⟨o1,e1⟩:=I.base.there b o e (nx b);have hb' :=I.old hX hf e hb;obtain⟨o2,e2⟩:=(L.inB b o1 e1 hb').2;exact⟨λn=>hideAll_get _ ((L.inB b o (I.base.keep b o e n hb (nx b)) hb').1 (I.base.free b o e n (nx b))) (nC b o e),o2,hideAll_get _ e2 (nC b o e)⟩
 have slot:∀b o,X.s₀.heap.get? b=some o->X.H₀ b=none->b∈frs _->∃sl,h'.get? b=some { o with slots:=sl }:=λb o e n hb=>by
  obtain⟨sl1,e1⟩:=I.base.slot b o e n hb (nx b);obtain⟨sl2,e2⟩:=L.un.slot b _ e1 (I.base.free b o e n (nx b)) (jI hX hf hb) (by simp)
  obtain⟨_,o3,e3,nf⟩:=I.frNf b (jI hX hf hb);rw[e1]at e3;cases e3;obtain⟨sl4,e4⟩:=sl b _ e2 (nC' b o e) nf;exact⟨sl4,e4⟩
 have hC' :=L.un.free C oC eC hC (by simp)
 refine⟨L.os.trans I.os,L.bare,fl,λa o e=>(L.hok a o e).stay (λb u hb q=>hideAll_get _ q λz=> ?_) (λ_ q=>q) λ_ _ q=>q,⟨λb o e n hb _=>fl.1 b o ((inB b o e hb).1 n),λb o e n hb _=>slot b o e n hb,λb o e n _=> ?_,λb o e _=> ?_,λb xs e=>L.un.tups b xs (I.base.tups b xs e),λb o xs e=>L.un.frzs b o xs (I.base.frzs b o xs e),λb ps q e=>L.un.tbls b ps q (I.base.tbls b ps q e)⟩,inB⟩
 ·rw[aQ.mp z]at hb;rcases hb with z | hb
  ·rw[← z,hC']at e;cases e
  ·rw[hC']at hb;cases hb
 ·obtain⟨o1,e1⟩:=I.base.there b o e (nx b);exact L.un.free b o1 e1 (I.base.free b o e n (nx b)) (by simp)
 ·by_cases hb:b∈frs X.outer
  ·obtain⟨sl1,e1⟩:=slot b o e (I.ok.frf b hb) hb;exact⟨_,e1⟩
  ·obtain⟨o',e'⟩:=(inB b o e hb).2;exact⟨o',fl.1 b o' e'⟩
def uJ (X:Cx)(E:XK):Prop:=∀(pins:List (Addr×Obj)) (σ:St) (H:Hp) (s:Shared) (e:Value) (s' :Shared) (C:Addr) (m:Str->Option Value) (E' :Value->Shared->Prop) (cenv:Env),Inv X pins σ H s->s.heap.Ns C m->H C=none->X.s₀.heap.objs.size<=C->C ∉ frs X.stack->cenv.frame=X.env.frame->CX1 X.prog X.w X.stack H s E e s' ->
 wpAny (model X.prog X.w) X.A (noteFrame e cenv) (λ_ s'' =>∃m,s''.heap.Ns C m/\∀h',cC C s''.heap h' ->∀env:Env,env.locals=C->wpAny (model X.prog X.w) X.A (passOn "comprehension.variables-let-go" e env:Sem Value) (λ_ _=>False) X.xe { s'' with heap:=h' }) E' s'
theorem WP {E:XK}(h:E=λ_ _ _=>False):uJ X E:=λpins σ H s e s' C m E' cenv I _ _ _ _ _ ⟨_,_,_,_,_,_,_,z⟩=>by subst h;exact z.elim
theorem We {P:Program}{w:World}{K:Frag}{mg:Str->Option Value}{base:Heap}{N:List Str}{qual:Str}{scope:Scope}{f:Addr}{cd:Value}{A:Around}{outer:List Env}{s:Shared}{H:Hp}{E:XK}:uJ (zU (CX1 P w) P w K mg base N qual scope f cd A outer s H E) E:=by
 intro pins σ H1 s1 e s' C m E' cenv I hn hC hS hCf hcf ⟨ea,cls,a0,B,H',he,L,hE⟩;subst he;rw[vJ hcf];refine wpAny_looks_onW I.ok.frames rfl L.fly λh1 held sl1=> ?_;obtain⟨oC,es,ep,eC,r⟩:=hn;have bC:=(L.inB C oC eC hCf).1 hC;refine⟨m,⟨oC,es,ep,held.1 C oC bC,r⟩,λh' sb env _=> ?_⟩;refine qC (ym.hide held.1 held.2.1 held.2.2.1 held.2.2.2 bC sb) λh2 fa2 sl2=> ?_;refine Wd I.ok.frames rfl fa2 λh3 fl3 sl3=>⟨ea,cls,a0,_,H',rfl,Jw.outB (s' :=s') I rfl rfl rfl L hC hS hCf eC fl3 λb o e nb nf=> ?_,hE⟩;obtain⟨x1,e1⟩:=sl1 b o e nf;obtain⟨x2,e2⟩:=sl2 b _ ((sb.2 b nb).trans e1) nf;obtain⟨x3,e3⟩:=sl3 b _ e2 nf;exact⟨x3,e3⟩
end
end L2
namespace L2
open PySem PySem.Spec PyProof.Rows
theorem PE.imp {X:Cx}{e:Expr}{t t' :TE}(h:PE X e t)(i:∀σ H Q,t' σ H Q->t σ H Q):PE X e t' :=λpins s σ H Q I q=>h _ s σ H Q I (i σ H Q q)
theorem PT.imp {X:Cx}{e:Expr}{t t' :TT}(h:PT X e t)(i:∀σ H Q,t' σ H Q->t σ H Q):PT X e t' :=λpins s σ H Q I q=>h _ s σ H Q I (i σ H Q q)
theorem PA.imp {X:Cx}{e:List Expr}{t t' :TA}(h:PA X e t)(i:∀σ H Q,t' σ H Q->t σ H Q):PA X e t' :=λpos pins s σ H Q I q=>h pos _ s σ H Q I (i σ H Q q)
theorem PS.imp {X:Cx}{e:Stmt}{t t' :TS}(h:PS X e t)(i:∀D σ H,t' D σ H->t D σ H):PS X e t' :=λpins s σ H D I q=>h _ s σ H D I (i D σ H q)
theorem PSs.imp {X:Cx}{e:List Stmt}{t t' :TS}(h:PSs X e t)(i:∀D σ H,t' D σ H->t D σ H):PSs X e t' :=λpins s σ H D I q=>h _ s σ H D I (i D σ H q)
end L2
namespace PV
open PySem
noncomputable def wf:Expr->Bool
 | .Starred _ _=>false
 | _=>true
theorem zw {e:Expr}{rest:List Expr}{env:Env}(h:wf e=true):starEach (e :: rest) env=(false,eval e env) :: starEach rest env:=by
 cases e <;> first | rfl | cases h
theorem st2 {a b:Expr}{env:Env}(h:wf a=true)(h' :wf b=true):starEach [a,b] env=[(false,eval a env),(false,eval b env)]:=by
 rw[zw h,zw h'];rfl
theorem st1 {a:Expr}{env:Env}(h:wf a=true):starEach [a] env=[(false,eval a env)]:=by
 rw[zw h];rfl
theorem zS {pos:Pos}{env:Env}:∀{es:List Expr},es.all wf=true->((backTo pos (starEach es env)).any λx=>x.fst)=false
 | [],_=>rfl
 | e :: es,h=>by
  rw[d_,ah]at h;rw[zw h.1];have:=zS (pos:=pos) (env:=env) h.2;show (false || ((backTo pos _).any λx=>x.fst))=false
  rw[this];rfl
open PySem PySem.Spec PyProof.Rows L2
noncomputable abbrev Sg:=L2.St
inductive T where
 | non | bl (b:Bool) | int (i:Int) | str (x:Str) | tup (xs:List T) | lst (xs:List T) | fz (xs:List T)
inductive R (α:Type) where
 | ok (a:α) | ex (c:Nat) | bad
noncomputable def R.bind {α β:Type}(r:R α)(f:α->R β):R β:=match r with
 | .ok a=>f a
 | .ex c=> .ex c
 | .bad=> .bad
mutual
inductive Rep (H:Hp):V->T->Prop where
 | non:Rep H .non .non
 | bl (b:Bool):Rep H (.bl b) (.bl b)
 | int (i:Int):Rep H (.int i) (.int i)
 | str (x:Str):Rep H (.str x) (.str x)
 | tup {a:Addr} {xs:List V} {ts:List T}:H a=some (.tup xs)->zt H xs ts->Rep H (.ref a) (.tup ts)
 | lst {a:Addr} {xs:List V} {ts:List T}:H a=some (.lst xs)->zt H xs ts->Rep H (.ref a) (.lst ts)
 | fz {a:Addr} {o:Obj} {xs:List V} {ts:List T}:H a=some (.frz o (.lst xs))->zt H xs ts->Rep H (.ref a) (.fz ts)
inductive zt (H:Hp):List V->List T->Prop where
 | nil:zt H [] []
 | cons {v:V} {t:T} {vs:List V} {ts:List T}:Rep H v t->zt H vs ts->zt H (v :: vs) (t :: ts)
end
mutual
theorem Rep.mono {H H' :Hp}(s:zc H H'):∀{v:V} {t:T},Rep H v t->Rep H' v t
 | _,_,.non=> .non
 | _,_,.bl b=> .bl b
 | _,_,.int i=> .int i
 | _,_,.str x=> .str x
 | _,_,.tup h r=> .tup (s _ _ h) (zt.mono s r)
 | _,_,.lst h r=> .lst (s _ _ h) (zt.mono s r)
 | _,_,.fz h r=> .fz (s _ _ h) (zt.mono s r)
theorem zt.mono {H H' :Hp}(s:zc H H'):∀{v:List V} {t:List T},zt H v t->zt H' v t
 | _,_,.nil=> .nil
 | _,_,.cons h r=> .cons (Rep.mono s h) (zt.mono s r)
end
theorem zt.length {H:Hp}:∀{vs:List V} {ts:List T},zt H vs ts->vs.length=ts.length
 | _,_,.nil=>rfl
 | _,_,.cons _ r=>congrArg _ (zt.length r)
theorem zt.get {H:Hp}:∀{vs:List V} {ts:List T} {i:Nat} {t:T},zt H vs ts->ts[i]? =some t->∃v,vs[i]? =some v/\Rep H v t
 | _,_,_,_,.nil,e=>by simp at e
 | _,_,0,_,.cons r _,e=>by simp at e;subst e;exact⟨_,rfl,r⟩
 | _,_,i+1,t,.cons _ q,e=>by
  obtain⟨v,h1,h2⟩:=zt.get q (by simpa using e)
  exact⟨v,by simpa using h1,h2⟩
theorem zt.getV {H:Hp}:∀{vs:List V} {ts:List T} {i:Nat} {v:V},zt H vs ts->vs[i]? =some v->∃t,ts[i]? =some t/\Rep H v t
 | _,_,_,_,.nil,e=>by simp at e
 | _,_,0,_,.cons r _,e=>by simp at e;subst e;exact⟨_,rfl,r⟩
 | _,_,i+1,v,.cons _ q,e=>by
  obtain⟨t,h1,h2⟩:=zt.getV q (by simpa using e)
  exact⟨t,by simpa using h1,h2⟩
theorem zt.append {H:Hp}:∀{vs ws:List V} {ts us:List T},zt H vs ts->zt H ws us->zt H (vs++ws) (ts++us)
 | _,_,_,_,.nil,q=>q
 | _,_,_,_,.cons r t,q=> .cons r (zt.append t q)
theorem zt.take {H:Hp}:∀{vs:List V} {ts:List T} (n:Nat),zt H vs ts->zt H (vs.take n) (ts.take n)
 | _,_,0,_=> .nil
 | _,_,_+1,.nil=> .nil
 | _,_,n+1,.cons r t=> .cons r (zt.take n t)
theorem zt.drop {H:Hp}:∀{vs:List V} {ts:List T} (n:Nat),zt H vs ts->zt H (vs.drop n) (ts.drop n)
 | _,_,0,r=>r
 | _,_,_+1,.nil=> .nil
 | _,_,n+1,.cons _ t=>zt.drop n t
theorem zt.rep {H:Hp}{vs:List V}{ts:List T}(h:zt H vs ts):∀n:Nat,zt H (au n vs).flatten (au n ts).flatten
 | 0=> .nil
 | n+1=>by
  exact h.append (zt.rep h n)
theorem zt.nil_iff {H:Hp}{vs:List V}{ts:List T}(h:zt H vs ts):vs=[]↔ts=[]:=by
 cases h <;> simp
def zv (B H H' :Hp):Hp:=λb=>match H b with
 | none=>H' b
 | some _=>B b
theorem zD {B H H' :Hp}{b:Addr}(h:H b=none):zv B H H' b=H' b:=by unfold zv;rw[h]
theorem zE {B H H' :Hp}{b:Addr}{o:HO}(h:H b=some o):zv B H H' b=B b:=by unfold zv;rw[h]
theorem zv.ge {B H H' :Hp}(s:zc B H)(s' :zc H H'):zc B (zv B H H'):=λb o h=>by
 rw[zE (s b o h)];exact h
theorem zv.le {B H H' :Hp}(s:zc B H)(s' :zc H H'):zc (zv B H H') H' :=λb o h=>by
 cases q:H b with
 | none=>rw[zD q]at h;exact h
 | some u=>rw[zE q]at h;exact s' b o (s b o h)
theorem zv.self (B H:Hp)(s:zc B H):zv B H H=B:=by
 funext b
 cases q:H b with
 | none=>
  rw[zD q,q];cases z:B b with
  | none=>rfl
  | some o=>rw[s b o z]at q;cases q
 | some u=>rw[zE q]
theorem zv.trans {B H H1 H2:Hp}(s1:zc H H1)(s2:zc H1 H2):zv (zv B H H1) H1 H2=zv B H H2:=by
 funext b
 cases q:H b with
 | none=>
  rw[zD q];cases z:H1 b with
  | none=>rw[zD z]
  | some o=>rw[zE z,zD q,z,s2 b o z]
 | some u=>rw[zE q,zE (s1 b u q),zE q]
inductive Fd where
 | tv (t:T) | tl (ts:List T)
noncomputable abbrev Ob:=Nat×List (Str×Fd)
noncomputable def KO:List Str:=["kind","remaining","done","undone","first","last","answered"]
def InC (vs:List (Str×V)):Prop:=∀f,f ∉ KO->vs.lookup f=none
inductive Sl where
 | un | vl (t:T) | ow (ts:List T) | xc (c:Nat) | ob (k n:Nat) | oc (k:Nat) (fs:List (Str×Fd)) | st (os:List Ob)
noncomputable def Sl.isS:Sl->Bool
 | .ob _ _=>true
 | .st _=>true
 | _=>false
noncomputable def Sl.isO:Sl->Bool
 | .ob _ _=>true
 | .oc _ _=>true
 | .st _=>true
 | _=>false
noncomputable abbrev En:=List Sl
structure Fx where
 B0:Hp
 H0:Hp
 E:XK
 cl:Nat->Value
 as:List Addr
def xz (ρ:En)(σ:Sg)(l:Addr):Prop:=∀(j:Nat) (us:List T),ρ[j]? =some (Sl.ow us)->σ[j]? ≠ some (some (V.ref l))
def FdR (Y:Fx)(B:Hp)(ρ:En)(σ:Sg)(H:Hp)(o:Addr->Prop)(v:V):Fd->Prop
 | .tv t=>Rep B v t
 | .tl ts=>∃l xs,v= .ref l/\B l=none/\Y.H0 l=none/\H l=some (.lst xs)/\zt B xs ts/\xz ρ σ l/\o l
def FsO (B H:Hp)(vs:List (Str×V))(fs:List (Str×Fd)):Prop:=∀(m:Nat) (f:Str) (d:Fd),fs[m]? =some (f,d)->∃v,vs[m]? =some (f,v)/\match d with
 | .tv t=>Rep B v t
 | .tl ts=>∃l xs,v= .ref l/\H l=some (.lst xs)/\zt B xs ts
theorem FsO.mono {B B' H H' :Hp}{vs:List (Str×V)}{fs:List (Str×Fd)}(h:FsO B H vs fs)(s:zc B B')(s' :zc H H'):FsO B' H' vs fs:=λm f d e=>by
 obtain⟨v,e1,r⟩:=h m f d e;refine⟨v,e1, ?_⟩;cases d with
 | tv t=>exact Rep.mono s r
 | tl ts=>obtain⟨l,xs,a,b,c⟩:=r;exact⟨l,xs,a,s' _ _ b,c.mono s⟩
structure StI (Y:Fx) (B:Hp) (ρ:En) (σ:Sg) (H:Hp) (as:List Addr) (O:Addr->Option (Nat×Nat)):Prop where
 pre:Y.as <+:as
 len:∀(i:Nat) (os:List Ob),ρ[i]? =some (Sl.st os)->as.length=os.length
 one:∀(i j:Nat) (os os' :List Ob),ρ[i]? =some (Sl.st os)->ρ[j]? =some (Sl.st os')->i=j
 ob:∀(i k n:Nat),ρ[i]? =some (Sl.ob k n)->∃a C dx vs,as[n]? =some a/\σ[i]? =some (some (V.ref a))/\Y.cl k= .ref C/\H a=some (.ins C dx vs)/\B a=none/\Y.H0 a=none/\InC vs
 oc:∀(i k:Nat) (fs:List (Str×Fd)),ρ[i]? =some (Sl.oc k fs)->∃a C dx vs,σ[i]? =some (some (V.ref a))/\Y.cl k= .ref C/\Y.H0 a=some (.ins C dx vs)/\InC vs/\FsO B Y.H0 vs fs
 st:∀(i:Nat) (os:List Ob),ρ[i]? =some (Sl.st os)->∀(n k:Nat) (fs:List (Str×Fd)),os[n]? =some (k,fs)->∃a C dx vs,as[n]? =some a/\Y.cl k= .ref C/\H a=some (.ins C dx vs)/\B a=none/\Y.H0 a=none/\O a=some (n,0)/\(vs.length=fs.length/\InC vs)/\
  ∀(m:Nat) (f:Str) (d:Fd),fs[m]? =some (f,d)->∃v,vs[m]? =some (f,v)/\FdR Y B ρ σ H (λl=>O l=some (n,m+1)) v d
structure SI (Y:Fx) (B:Hp) (ρ:En) (σ:Sg) (H:Hp):Prop where
 s0:zc Y.B0 Y.H0
 sH:zc Y.H0 H
 sB:zc B H
 old:∀b o,Y.H0 b=some o->B b=Y.B0 b
 len:ρ.length=σ.length
 vl:∀(i:Nat) (t:T),ρ[i]? =some (Sl.vl t)->∃v:V,σ[i]? =some (some v)/\Rep B v t
 ow:∀(i:Nat) (ts:List T),ρ[i]? =some (Sl.ow ts)->∃(a:Addr) (xs:List V),σ[i]? =some (some (V.ref a))/\B a=none/\Y.H0 a=none/\H a=some (.lst xs)/\zt B xs ts/\
  ∀(j:Nat) (us:List T),j ≠ i->ρ[j]? =some (Sl.ow us)->σ[j]? ≠ some (some (V.ref a))
 xc:∀(i:Nat) (c:Nat),ρ[i]? =some (Sl.xc c)->∃a:Addr,σ[i]? =some (some (V.ref a))/\B a=some (.ext (uI (Y.cl c) a))
 st:∃as O,StI Y B ρ σ H as O
theorem StI.on {Y Y' :Fx}{B B' :Hp}{ρ ρ' :En}{σ σ' :Sg}{H H' :Hp}{as:List Addr}{O:Addr->Option (Nat×Nat)}(x:StI Y B ρ σ H as O)(hO:∀(i:Nat) (s:Sl),s.isO=true->ρ'[i]? =some s->ρ[i]? =some s/\σ'[i]? =σ[i]?)(hB:zc B B')(hc:Y'.cl=Y.cl)(hA:Y'.as=Y.as)(h0:zc Y.H0 Y'.H0)
  (hH:∀b o,H b=some o->B b=none->Y.H0 b=none->((∃C dx vs,o= .ins C dx vs)\/xz ρ σ b)->H' b=some o/\B' b=none/\Y'.H0 b=none/\(xz ρ σ b->xz ρ' σ' b)):StI Y' B' ρ' σ' H' as O where
 pre:=by rw[hA];exact x.pre
 len:=λi os h=>x.len i os (hO i _ rfl h).1
 one:=λi j os os' h1 h2=>x.one i j os os' (hO i _ rfl h1).1 (hO j _ rfl h2).1
 ob:=λi k n h=>by
  obtain⟨h1,h2⟩:=hO i _ rfl h;obtain⟨a,C,dx,vs,e1,e2,e3,e4,e5,e6⟩:=x.ob i k n h1;obtain⟨g1,g2,g3,_⟩:=hH a _ e4 e5 e6.1 (.inl ⟨_,_,_,rfl⟩);rw[h2,hc];exact⟨a,C,dx,vs,e1,e2,e3,g1,g2,g3,e6.2⟩
 oc:=λi k fs h=>by
  obtain⟨h1,h2⟩:=hO i _ rfl h;obtain⟨a,C,dx,vs,e1,e2,e3,e4,e5⟩:=x.oc i k fs h1;rw[h2,hc];exact⟨a,C,dx,vs,e1,e2,h0 _ _ e3,e4,e5.mono hB h0⟩
 st:=λi os h n k fs e=>by
  obtain⟨a,C,dx,vs,e1,e2,e3,e4,e5,e6,e7,e8⟩:=x.st i os (hO i _ rfl h).1 n k fs e;obtain⟨g1,g2,g3,_⟩:=hH a _ e3 e4 e5 (.inl ⟨_,_,_,rfl⟩);refine⟨a,C,dx,vs,e1,by rw[hc];exact e2,g1,g2,g3,e6,e7,λm f d z=> ?_⟩
  obtain⟨v,z1,z2⟩:=e8 m f d z;refine⟨v,z1, ?_⟩;cases d with
  | tv t=>exact Rep.mono hB z2
  | tl ts=>
   obtain⟨l,xs,p1,p2,p3,p4,p5,p6,p7⟩:=z2;obtain⟨g1,g2,g3,g4⟩:=hH l _ p4 p2 p3 (.inr p6);exact⟨l,xs,p1,g2,g3,g1,p5.mono hB,g4 p6,p7⟩
theorem StI.no {Y:Fx}{B:Hp}{ρ:En}{σ:Sg}{H:Hp}(h:∀(i:Nat) (s:Sl),s.isO=true->ρ[i]? ≠ some s):∃as O,StI Y B ρ σ H as O:=⟨Y.as,λ_=>none,du _,λi os e=>(h i _ rfl e).elim,λi j os os' e=>(h i _ rfl e).elim,λi k n e=>(h i _ rfl e).elim,λi k fs e=>(h i _ rfl e).elim,λi os e=>(h i _ rfl e).elim⟩
theorem SI.grow {Y:Fx}{B:Hp}{ρ:En}{σ:Sg}{H H' :Hp}(I:SI Y B ρ σ H)(s:zc H H'):SI Y (zv B H H') ρ σ H' where
 s0:=I.s0
 sH:=I.sH.trans s
 sB:=zv.le I.sB s
 old:=λb o h=>by rw[zE (I.sH b o h)];exact I.old b o h
 len:=I.len
 vl:=λi t h=>let ⟨v,e,r⟩:=I.vl i t h;⟨v,e,r.mono (zv.ge I.sB s)⟩
 ow:=λi ts h=>let ⟨a,xs,e,b,h0,hh,r,d⟩:=I.ow i ts h;⟨a,xs,e,by rw[zE hh];exact b,h0,s _ _ hh,r.mono (zv.ge I.sB s),d⟩
 xc:=λi c h=>let ⟨a,e,r⟩:=I.xc i c h;⟨a,e,zv.ge I.sB s a _ r⟩
 st:=let ⟨as,O,x⟩:=I.st;⟨as,O,x.on (λ_ _ _ h=>⟨h,rfl⟩) (zv.ge I.sB s) rfl rfl (zc.refl _) λb o h hb h0 _=>⟨s _ _ h,by rw[zE h];exact hb,h0,id⟩⟩
def XP (Y:Fx)(B:Hp)(c:Nat):Prop:=∀(d:Option Addr) (H' :Hp),zc Y.H0 H' ->zc B H' ->Y.E (Y.cl c) d H'
def Po {α β:Type}(Y:Fx)(rel:Hp->Hp->β->α->Prop)(B H:Hp)(r:R α)(Q:β->Hp->Prop):Prop:=match r with
 | .ok a=>∀b H',zc H H' ->rel (zv B H H') H' b a->Q b H'
 | .ex c=>XP Y B c
 | .bad=>False
abbrev rC:Hp->Hp->V->T->Prop:=λB _ v t=>Rep B v t
abbrev rB:Hp->Hp->V->T->Prop:=λ_ H v t=>Rep H v t
abbrev rCs:Hp->Hp->List V->List T->Prop:=λB _ v t=>zt B v t
abbrev rE {α:Type}:Hp->Hp->α->α->Prop:=λ_ _ a b=>a=b
def tS {α β:Type}(Y:Fx)(rel:Hp->Hp->β->α->Prop)(f:En->R α)(ρ:En):Sg->Hp->(β->Hp->Prop)->Prop:=λσ H Q=>∃B,SI Y B ρ σ H/\Po Y rel B H (f ρ) Q
structure Snd (X:Cx) (Y:Fx) (e:Expr) (f:En->R T):Prop where
 mk ::
 go:∀ρ,PE X e (tS Y rC f ρ)
instance {X:Cx}{Y:Fx}{e:Expr}{f:En->R T}:CoeFun (Snd X Y e f) λ_=>∀ρ,PE X e (tS Y rC f ρ):=⟨Snd.go⟩
structure ZV (X:Cx) (Y:Fx) (e:Expr) (f:En->R T):Prop where
 mk ::
 go:∀ρ,PE X e (tS Y rB f ρ)
instance {X:Cx}{Y:Fx}{e:Expr}{f:En->R T}:CoeFun (ZV X Y e f) λ_=>∀ρ,PE X e (tS Y rB f ρ):=⟨ZV.go⟩
structure Jx (X:Cx) (Y:Fx) (e:Expr) (f:En->R Bool):Prop where
 mk ::
 go:∀ρ,PT X e (tS Y rE f ρ)
instance {X:Cx}{Y:Fx}{e:Expr}{f:En->R Bool}:CoeFun (Jx X Y e f) λ_=>∀ρ,PT X e (tS Y rE f ρ):=⟨Jx.go⟩
structure jl (X:Cx) (Y:Fx) (es:List Expr) (f:En->R (List T)):Prop where
 mk ::
 go:∀ρ,PA X es (tS Y rCs f ρ)
instance {X:Cx}{Y:Fx}{es:List Expr}{f:En->R (List T)}:CoeFun (jl X Y es f) λ_=>∀ρ,PA X es (tS Y rCs f ρ):=⟨jl.go⟩
theorem step {α α' β β' :Type}{Y:Fx}{rel:Hp->Hp->β->α->Prop}{rel' :Hp->Hp->β' ->α' ->Prop}{f:En->R α}{k:α->R α'}{ρ:En}{B:Hp}{σ:Sg}{H:Hp}{Q:β' ->Hp->Prop}{K:β->Hp->Prop}
  (I:SI Y B ρ σ H) (h:Po Y rel' B H ((f ρ).bind k) Q)
  (n:∀a b H1,f ρ= .ok a->zc H H1->rel (zv B H H1) H1 b a->SI Y (zv B H H1) ρ σ H1->Po Y rel' (zv B H H1) H1 (k a) Q->K b H1):tS Y rel f ρ σ H K:=by
 refine⟨B,I, ?_⟩;cases e:f ρ with
 | bad=>rw[e]at h;exact h
 | ex c=>rw[e]at h;exact h
 | ok a=>
  rw[e]at h;intro b H1 s r;refine n a b H1 e s r (I.grow s) ?_;have h' :Po Y _ B H (k a) Q:=h;revert h';cases k a with
  | bad=>exact λh' =>h'
  | ex c=>exact λh' d H' s0 sB' =>h' d H' s0 ((zv.ge I.sB s).trans sB')
  | ok a' =>exact λh' b' H2 s2 r2=>h' b' H2 (s.trans s2) (by rw[← zv.trans s s2];exact r2)
theorem Zf {α β:Type}{Y:Fx}{rel:Hp->Hp->β->α->Prop}{ρ:En}{B:Hp}{σ:Sg}{H:Hp}{a:α}{b:β}{Q:β->Hp->Prop}(I:SI Y B ρ σ H)(h:Po Y rel B H (.ok a) Q)(r:rel B H b a):Q b H:=h b H (zc.refl H) (by rw[zv.self B H I.sB];exact r)
theorem Snd.b {X:Cx}{Y:Fx}{e:Expr}{f:En->R T}(h:Snd X Y e f):ZV X Y e f:= .mk λρ=>PE.imp (h ρ) λσ H Q ⟨B,I,q⟩=>⟨B,I,by
 revert q;cases f ρ with
 | bad=>exact λq=>q
 | ex c=>exact λq=>q
 | ok a=>exact λq b H' s r=>q b H' s (r.mono (zv.le I.sB s))⟩
section
variable {X:Cx}{Y:Fx}{a b c:Expr}{fa fb fc:En->R T}{pos:Pos}
def vE (i:Nat):En->R T:=λρ=>match ρ[i]? with
 | some (.vl t)=> .ok t
 | _=> .bad
def vB (i:Nat):En->R T:=λρ=>match ρ[i]? with
 | some (.vl t)=> .ok t
 | some (.ow ts)=> .ok (.lst ts)
 | _=> .bad
def cE (t:T):En->R T:=λ_=> .ok t
theorem Xe (i:Nat){x:Str}(h:PE X (.Name x pos) (yd i)):Snd X Y (.Name x pos) (vE i):= .mk λρ=>PE.imp h λσ H Q ⟨B,I,q⟩=>by
 unfold vE at q;split at q
 ·rename_i t e;obtain⟨v,e1,r⟩:=I.vl i t e;exact⟨v,e1,Zf I q r⟩
 ·exact q.elim
theorem vK (i:Nat){x:Str}(h:PE X (.Name x pos) (yd i)):ZV X Y (.Name x pos) (vB i):= .mk λρ=>PE.imp h λσ H Q ⟨B,I,q⟩=>by
 unfold vB at q;split at q
 ·rename_i t e;obtain⟨v,e1,r⟩:=I.vl i t e;exact⟨v,e1,Zf I q (r.mono I.sB)⟩
 ·rename_i ts e;obtain⟨a,xs,e1,_,_,hh,r,_⟩:=I.ow i ts e;exact⟨.ref a,e1,Zf I q (.lst hh (r.mono I.sB))⟩
 ·exact q.elim
theorem Xf {i j}:Snd X Y (.Constant (.int i) j pos) (cE (.int i)):= .mk λρ=>PE.imp va λσ H Q ⟨B,I,q⟩=>Zf I q (.int i)
theorem KP {i j}:Snd X Y (.Constant (.bool i) j pos) (cE (.bl i)):= .mk λρ=>PE.imp xR λσ H Q ⟨B,I,q⟩=>Zf I q (.bl i)
theorem Xg {j}:Snd X Y (.Constant .none j pos) (cE .non):= .mk λρ=>PE.imp vb λσ H Q ⟨B,I,q⟩=>Zf I q .non
theorem vL {i j}:Snd X Y (.Constant (.str i) j pos) (cE (.str i)):= .mk λρ=>PE.imp Yj λσ H Q ⟨B,I,q⟩=>Zf I q (.str i)
def zb:En->R (List T):=λ_=> .ok []
def z0 (f:En->R T)(g:En->R (List T)):En->R (List T):=λρ=>(f ρ).bind λt=>(g ρ).bind λts=> .ok (t :: ts)
theorem yn:jl X Y [] zb:= .mk λρ=>PA.imp zK λσ H Q ⟨B,I,q⟩=>Zf I q .nil
theorem Yo {es:List Expr}{g:En->R (List T)}(h:Snd X Y a fa)(hs:jl X Y es g)(hq:starEach (a :: es) X.env=(false,eval a X.env) :: starEach es X.env:=by exact zw rfl):jl X Y (a :: es) (z0 fa g):= .mk λρ=>
 PA.imp (zo (h ρ) (hs ρ) hq) λσ H Q ⟨B,I,q⟩=>step I q λt v H1 _ s1 r1 I1 q1=>step I1 q1 λts vs H2 _ s2 r2 I2 q2=>Zf I2 q2 (.cons (r1.mono (zv.ge I1.sB s2)) r2)
theorem zc.new {H:Hp}{p:Addr}(h:H p=none)(o:HO):zc H (upd H p o):=λb u q=>by rw[za (zk q h)];exact q
theorem jK {B H:Hp}{p:Addr}(h:H p=none)(o:HO):zv B H (upd H p o) p=some o:=by rw[zD h,zj]
noncomputable def bnd:Nat:=16777216
theorem Z2 {n:Nat}(h:n<=bnd):n<=sizeLine:=by exact h
def J9 (g:En->R (List T)):En->R T:=λρ=>(g ρ).bind λts=>if ts.length<=bnd then .ok (.tup ts) else .bad
def ju (g:En->R (List T)):En->R T:=λρ=>(g ρ).bind λts=>if ts.length<=bnd then .ok (.lst ts) else .bad
theorem qD {ρ:En}{σ:Sg}{B H:Hp}{xs:List V}{ts:List T}(I:SI Y B ρ σ H)(r:zt B xs ts){p:Addr}(h:H p=none):Rep (zv B H (upd H p (.tup xs))) (.ref p) (.tup ts):=
 .tup (jK h _) (r.mono (zv.ge I.sB (zc.new h _)))
theorem qF {ρ:En}{σ:Sg}{B H:Hp}{xs:List V}{ts:List T}(I:SI Y B ρ σ H)(r:zt B xs ts){p:Addr}(h:H p=none):Rep (zv B H (upd H p (.lst xs))) (.ref p) (.lst ts):=
 .lst (jK h _) (r.mono (zv.ge I.sB (zc.new h _)))
theorem Xh {es:List Expr}{g:En->R (List T)}{x1}(h:jl X Y es g):Snd X Y (.Tuple es x1 pos) (J9 g):= .mk λρ=>PE.imp (vv (h ρ)) λσ H Q ⟨B,I,q⟩=>
 step I q λts vs H1 _ s1 r1 I1 q1=>by
  split at q1
  ·rename_i hb;refine⟨by rw[r1.length];exact Z2 hb,λp hp=>q1 _ _ (zc.new hp _) (qD I1 r1 hp)⟩
  ·exact q1.elim
theorem Xi {es:List Expr}{g:En->R (List T)}(h:jl X Y es g):Snd X Y (.List es pos) (ju g):= .mk λρ=>PE.imp (Yn (h ρ)) λσ H Q ⟨B,I,q⟩=>
 step I q λts vs H1 _ s1 r1 I1 q1=>by
  split at q1
  ·rename_i hb;refine⟨by rw[r1.length];exact Z2 hb,λp hp=>q1 _ _ (zc.new hp _) (qF I1 r1 hp)⟩
  ·exact q1.elim
end
end PV
namespace PV
open PySem PySem.Spec PyProof.Rows L2
noncomputable def eqL (f:T->T->Option Bool):List T->List T->Option Bool
 | [],[]=>some true
 | [],_ :: _=>some false
 | _ :: _,[]=>some false
 | x :: xs,y :: ys=>match f x y with
  | none=>none
  | some b=>match eqL f xs ys with
   | none=>none
   | some c=>some (b && c)
noncomputable def b2 (b:Bool):Int:=if b then 1 else 0
def eqF:Nat->T->T->Option Bool
 | _,.non,.non=>some true
 | _,.bl a,.bl b=>some (a == b)
 | _,.bl a,.int j=>some (b2 a == j)
 | _,.int i,.bl b=>some (i == b2 b)
 | _,.int i,.int j=>some (i == j)
 | _,.str x,.str y=>some (x == y)
 | n+1,.tup xs,.tup ys=>eqL (eqF n) xs ys
 | n+1,.lst xs,.lst ys=>eqL (eqF n) xs ys
 | n+1,.fz xs,.lst ys=>eqL (eqF n) xs ys
 | n+1,.lst xs,.fz ys=>eqL (eqF n) xs ys
 | n+1,.fz xs,.fz ys=>eqL (eqF n) xs ys
 | 0,.tup _,.tup _=>none
 | 0,.lst _,.lst _=>none
 | 0,.fz _,.lst _=>none
 | 0,.lst _,.fz _=>none
 | 0,.fz _,.fz _=>none
 | _,.non,_=>some false
 | _,.bl _,_=>some false
 | _,.int _,_=>some false
 | _,.str _,_=>some false
 | _,.tup _,_=>some false
 | _,.lst _,_=>some false
 | _,.fz _,_=>some false
mutual
theorem Rep.fn {H:Hp}:∀{v:V} {t t' :T},Rep H v t->Rep H v t' ->t=t'
 | _,_,_,.non,q=>by cases q;rfl
 | _,_,_,.bl _,q=>by cases q;rfl
 | _,_,_,.int _,q=>by cases q;rfl
 | _,_,_,.str _,q=>by cases q;rfl
 | _,_,_,.tup h r,q=>by cases q <;> rename_i r' h' <;> rw[h]at h' <;> cases h';rw[zt.fn r r']
 | _,_,_,.lst h r,q=>by cases q <;> rename_i r' h' <;> rw[h]at h' <;> cases h';rw[zt.fn r r']
 | _,_,_,.fz h r,q=>by cases q <;> rename_i r' h' <;> rw[h]at h' <;> cases h';rw[zt.fn r r']
theorem zt.fn {H:Hp}:∀{v:List V} {t t' :List T},zt H v t->zt H v t' ->t=t'
 | _,_,_,.nil,q=>by cases q;rfl
 | _,_,_,.cons h r,q=>by
  cases q with
  | cons h' r' =>rw[Rep.fn h h',zt.fn r r']
end
theorem Z8 {f:T->T->Option Bool}(hf:∀x b,f x x=some b->b=true):∀(xs:List T) (b:Bool),eqL f xs xs=some b->b=true
 | [],b,h=>by
  have h' :=h;cases h';rfl
 | x :: xs,b,h=>by
  unfold eqL at h;cases e:f x x with
  | none=>rw[e]at h;cases h
  | some c=>
   rw[e]at h;cases e' :eqL f xs xs with
   | none=>rw[e']at h;cases h
   | some d=>
    rw[e']at h;cases h;rw[hf x c e,Z8 hf xs d e'];rfl
theorem Z9:∀(n:Nat) (t:T) (b:Bool),eqF n t t=some b->b=true
 | n,.non,b,h=>by unfold eqF at h;cases h;rfl
 | n,.bl x,b,h=>by unfold eqF at h;cases h;simp
 | n,.int x,b,h=>by unfold eqF at h;cases h;simp
 | n,.str x,b,h=>by unfold eqF at h;cases h;simp
 | 0,.tup x,b,h=>by cases h
 | 0,.lst x,b,h=>by cases h
 | 0,.fz x,b,h=>by cases h
 | n+1,.tup x,b,h=>by exact Z8 (Z9 n) x b h
 | n+1,.lst x,b,h=>by exact Z8 (Z9 n) x b h
 | n+1,.fz x,b,h=>by exact Z8 (Z9 n) x b h
theorem uK {f:T->T->Option Bool}:∀{xs ys:List T} {b:Bool},eqL f xs ys=some b->
  ∃e:Nat->Bool,(∀j x y,xs[j]? =some x->ys[j]? =some y->f x y=some (e j))/\((bF (min xs.length ys.length)).all e && xs.length == ys.length)=b
 | [],[],b,h=>by
  have h' :=h;cases h';exact⟨λ_=>true,λj x y h=>by simp at h,by simp⟩
 | [],y :: ys,b,h=>by
  have h' :=h;cases h';exact⟨λ_=>true,λj x y h=>by simp at h,by simp⟩
 | x :: xs,[],b,h=>by
  have h' :=h;cases h';exact⟨λ_=>true,λj x y h h' =>by simp at h',by simp⟩
 | x :: xs,y :: ys,b,h=>by
  unfold eqL at h;cases e:f x y with
  | none=>rw[e]at h;cases h
  | some c=>
   rw[e]at h;cases e' :eqL f xs ys with
   | none=>rw[e']at h;cases h
   | some d=>
    rw[e']at h;cases h;obtain⟨g,h1,h2⟩:=uK e';refine⟨λj=>match j with | 0=>c | j+1=>g j,λj u v hu hv=> ?_, ?_⟩
    ·cases j with
     | zero=>simp at hu hv;subst hu hv;exact e
     | succ j=>exact h1 j u v (by simpa using hu) (by simpa using hv)
    ·have z:min (x :: xs).length (y :: ys).length=min xs.length ys.length+1:=by simp only[ae];omega
     rw[z,dD,d_,eQ];have z2:((x :: xs).length == (y :: ys).length)=(xs.length == ys.length):=by simp
     rw[z2,← h2,Bool.and_assoc];rfl
section
variable {X:Cx}{pins:List (Addr×Obj)}{σ:Sg}{H:Hp}{s:Shared}
theorem Za {a:Addr}{xs:List V}{ts:List T}(I:L2.Inv X pins σ H s)(h:H a=some (.tup xs))(r:zt H xs ts):∃its:List Value,zM xs its/\s.heap.IsTuple a its.toArray/\ts.length=its.length/\xs.length<=sizeLine:=by
 obtain⟨its,rv,p,z⟩:=I.tuple (SqT.of h);exact⟨its,rv,p,by rw[← r.length];exact rv.length,z⟩
theorem zL {a:Addr}{xs:List V}{ts:List T}(I:L2.Inv X pins σ H s)(h:Rd H a (.lst xs))(r:zt H xs ts):∃its:List Value,zM xs its/\s.heap.IsList a its.toArray/\ts.length=its.length/\xs.length<=sizeLine:=by
 obtain⟨its,rv,p,z⟩:=I.list (.inl h);exact⟨its,rv,p.isList,by rw[← r.length];exact rv.length,z⟩
end
noncomputable abbrev EqN (A:Around)(s:Shared)(u u' :Value)(b:Bool):Prop:=bZ A s u u' b/\dE A s u u' b/\cI A s u u' (!b)
section
variable {X:Cx}{pins:List (Addr×Obj)}{σ:Sg}{H:Hp}{s:Shared}
theorem uL {xs ys:List V}{ts us:List T}{its its' :List Value}{A:Around}{f:T->T->Option Bool}{e:Nat->Bool}(r:zt H xs ts)(r' :zt H ys us)(v:zM xs its)(v' :zM ys its')
  (he:∀(j:Nat) (x y:T),ts[j]? =some x->us[j]? =some y->f x y=some (e j))
  (ih:∀(x y:T) (b:Bool) (p q:V) (u w:Value),f x y=some b->Rep H p x->Rep H q y->zR p u->zR q w->EqN A s u w b) (j:Nat) (h1:j < its.toArray.size) (h2:j < its'.toArray.size):
  bZ A s its.toArray[j] its'.toArray[j] (e j):=by
 have l1:=v.length;have l2:=v'.length;have k1:j < xs.length:=by simp at h1;omega
 have k2:j < ys.length:=by simp at h2;omega
 obtain⟨t,et,rt⟩:=r.getV (aF k1);obtain⟨t',et',rt'⟩:=r'.getV (aF k2);obtain⟨u,eu,ru⟩:=v.get (aF k1);obtain⟨u',eu',ru'⟩:=v'.get (aF k2);have q1:=by
  have:its[j]? =some its.toArray[j]:=by simp at h1 ⊢
  rw[eu]at this;exact(ak this).symm
 have q2:=by
  have:its'[j]? =some its'.toArray[j]:=by simp at h2 ⊢
  rw[eu']at this;exact(ak this).symm
 rw[q1,q2];exact(ih t t' _ _ _ u u' (he j t t' et et') rt rt' ru ru').1
theorem qG {A:Around}{a c:Addr}{xs ys:List V}{ts us:List T}{b:Bool}{f:T->T->Option Bool}(I:L2.Inv X pins σ H s)(hu:A.units < cLine)(ha:H a=some (.tup xs))(hc:H c=some (.tup ys))(r:zt H xs ts)(r' :zt H ys us)
  (hb:eqL f ts us=some b) (hr:∀x b,f x x=some b->b=true)
  (ih:∀(x y:T) (b:Bool) (p q:V) (u w:Value),f x y=some b->Rep H p x->Rep H q y->zR p u->zR q w->EqN A.in1 s u w b):EqN A s (.ref a) (.ref c) b:=by
 obtain⟨its,v,p,l,_⟩:=Za I ha r;obtain⟨its',v',p',l',_⟩:=Za I hc r';obtain⟨e,he,hb'⟩:=uK hb;have hp:=uL r r' v v' he ih;have z:((bF (min its.toArray.size its'.toArray.size)).all e && its.toArray.size == its'.toArray.size)=b:=by
  rw[← hb'];simp[l,l']
 have R:=dE.tuples p p' hu hp;have N:=cI.tuples p p' hu hp;rw[z]at R;have N' :cI A s (.ref a) (.ref c) (!b):=by
  rw[← z];exact N
 refine⟨?_,R,N'⟩
 by_cases hac:a=c
 ·subst hac;rw[ha]at hc;cases hc;have:=r.fn r';subst this;rw[Z8 hr ts b hb];exact fo _
 ·exact eB hac R
theorem Jy {A:Around}{a c:Addr}{xs ys:List V}{ts us:List T}{b:Bool}{f:T->T->Option Bool}(I:L2.Inv X pins σ H s)(hu:A.units < cLine)(ha:Rd H a (.lst xs))(hc:Rd H c (.lst ys))(r:zt H xs ts)(r' :zt H ys us)
  (hb:eqL f ts us=some b) (hr:∀x b,f x x=some b->b=true)
  (ih:∀(x y:T) (b:Bool) (p q:V) (u w:Value),f x y=some b->Rep H p x->Rep H q y->zR p u->zR q w->EqN A.in1 s u w b):EqN A s (.ref a) (.ref c) b:=by
 obtain⟨its,v,p,l,_⟩:=zL I ha r;obtain⟨its',v',p',l',_⟩:=zL I hc r';obtain⟨e,he,hb'⟩:=uK hb;have hp:=uL r r' v v' he ih;have RN:dE A s (.ref a) (.ref c) b/\cI A s (.ref a) (.ref c) (!b):=by
  by_cases hl:its.toArray.size=its'.toArray.size
  ·have z:(bF its.toArray.size).all e=b:=by
    rw[← hb'];have:ts.length=us.length:=by simp at hl;omega
    rw[this];have k:its.toArray.size=us.length:=by simp;omega
    rw[k];simp
   have R:=dE.lists p p' hl hu hp;have N:=cI.lists p p' hl hu hp;rw[z]at R;refine⟨R, ?_⟩;rw[← z];exact N
  ·have hl' :(its.toArray.size != its'.toArray.size)=true:=by simpa using hl
   have z:b=false:=by
    rw[← hb'];have:¬ ts.length=us.length:=by simp at hl;omega
    simp[this]
   subst z;exact⟨dE.lists_lengths p p' hl' hu,cI.lists_lengths p p' hl' hu⟩
 refine⟨?_,RN.1,RN.2⟩
 by_cases hac:a=c
 ·subst hac;have hxy:xs=ys:=by
   rcases ha with ha | ⟨o,ha⟩ <;> rcases hc with hc | ⟨o',hc⟩ <;> (rw[ha]at hc;cases hc) <;> rfl
  subst hxy;have:=r.fn r';subst this;rw[Z8 hr ts b hb];exact fo _
 ·exact eB hac RN.1
end
section
variable {X:Cx}{pins:List (Addr×Obj)}{σ:Sg}{H:Hp}{s:Shared}
theorem ZW {A:Around}:A.in1.units=A.units+1:=rfl
set_option maxHeartbeats 2000000 in
theorem uM (I:L2.Inv X pins σ H s):∀(A:Around),A.units < cLine->∀(x y:T) (b:Bool) (p q:V) (u w:Value),eqF 0 x y=some b->Rep H p x->Rep H q y->zR p u->zR q w->EqN A s u w b:=by
 intro A hu x y b p q u w h rp rq ru rw';have hu' :=hu;cases rp with
 | non=>
  obtain rfl:u=Value.none:=ru;cases rq with
  | non=>obtain rfl:w=Value.none:=rw';unfold eqF at h;cases h;exact⟨.same _,.none_none,.none_none⟩
  | bl c=>obtain rfl:w=Value.bool c:=rw';unfold eqF at h;cases h;exact⟨.none_bool _,.none_bool _,.none_bool _⟩
  | int c=>obtain⟨t,rfl⟩:=rw';unfold eqF at h;cases h;exact⟨.none_int _ _,.none_int _ _,.none_int _ _⟩
  | str c=>obtain⟨t,rfl⟩:=rw';unfold eqF at h;cases h;exact⟨.none_str _ _,.none_str _ _,.none_str _ _⟩
  | tup h1 r1=>obtain rfl:w=Value.ref _:=rw';unfold eqF at h;cases h;obtain⟨i,_,p,_⟩:=Za I h1 r1;exact⟨.none_tuple p hu',.none_tuple p hu',.none_tuple p hu'⟩
  | lst h1 r1=>obtain rfl:w=Value.ref _:=rw';unfold eqF at h;cases h;obtain⟨i,_,p,_⟩:=zL I (.inl h1) r1;exact⟨.none_list p hu',.none_list p hu',.none_list p hu'⟩
  | fz h1 r1=>obtain rfl:w=Value.ref _:=rw';unfold eqF at h;cases h;obtain⟨i,_,p,_⟩:=zL I (.inr ⟨_,h1⟩) r1;exact⟨.none_list p hu',.none_list p hu',.none_list p hu'⟩
 | bl d=>
  obtain rfl:u=Value.bool d:=ru;cases rq with
  | non=>obtain rfl:w=Value.none:=rw';unfold eqF at h;cases h;exact⟨.bool_none _,.bool_none _,.bool_none _⟩
  | bl c=>obtain rfl:w=Value.bool c:=rw';unfold eqF at h;cases h;exact⟨.bool_bool _ _,.bool_bool _ _,.bool_bool _ _⟩
  | int c=>obtain⟨t,rfl⟩:=rw';unfold eqF at h;cases h;exact⟨.bool_int _ _ _,.bool_int _ _ _,.bool_int _ _ _⟩
  | str c=>obtain⟨t,rfl⟩:=rw';unfold eqF at h;cases h;exact⟨.bool_str _ _ _,.bool_str _ _ _,.bool_str _ _ _⟩
  | tup h1 r1=>obtain rfl:w=Value.ref _:=rw';unfold eqF at h;cases h;obtain⟨i,_,p,_⟩:=Za I h1 r1;exact⟨.bool_tuple _ p hu',.bool_tuple _ p hu',.bool_tuple _ p hu'⟩
  | lst h1 r1=>obtain rfl:w=Value.ref _:=rw';unfold eqF at h;cases h;obtain⟨i,_,p,_⟩:=zL I (.inl h1) r1;exact⟨.bool_list _ p hu',.bool_list _ p hu',.bool_list _ p hu'⟩
  | fz h1 r1=>obtain rfl:w=Value.ref _:=rw';unfold eqF at h;cases h;obtain⟨i,_,p,_⟩:=zL I (.inr ⟨_,h1⟩) r1;exact⟨.bool_list _ p hu',.bool_list _ p hu',.bool_list _ p hu'⟩
 | int d=>
  obtain⟨t0,rfl⟩:=ru;cases rq with
  | non=>obtain rfl:w=Value.none:=rw';unfold eqF at h;cases h;exact⟨.int_none _ _,.int_none _ _,.int_none _ _⟩
  | bl c=>obtain rfl:w=Value.bool c:=rw';unfold eqF at h;cases h;exact⟨.int_bool _ _ _,.int_bool _ _ _,.int_bool _ _ _⟩
  | int c=>obtain⟨t,rfl⟩:=rw';unfold eqF at h;cases h;exact⟨.int_int _ _ _ _,.int_int _ _ _ _,.int_int _ _ _ _⟩
  | str c=>obtain⟨t,rfl⟩:=rw';unfold eqF at h;cases h;exact⟨.int_str _ _ _ _,.int_str _ _ _ _,.int_str _ _ _ _⟩
  | tup h1 r1=>obtain rfl:w=Value.ref _:=rw';unfold eqF at h;cases h;obtain⟨i,_,p,_⟩:=Za I h1 r1;exact⟨.int_tuple _ _ p hu',.int_tuple _ _ p hu',.int_tuple _ _ p hu'⟩
  | lst h1 r1=>obtain rfl:w=Value.ref _:=rw';unfold eqF at h;cases h;obtain⟨i,_,p,_⟩:=zL I (.inl h1) r1;exact⟨.int_list _ _ p hu',.int_list _ _ p hu',.int_list _ _ p hu'⟩
  | fz h1 r1=>obtain rfl:w=Value.ref _:=rw';unfold eqF at h;cases h;obtain⟨i,_,p,_⟩:=zL I (.inr ⟨_,h1⟩) r1;exact⟨.int_list _ _ p hu',.int_list _ _ p hu',.int_list _ _ p hu'⟩
 | str d=>
  obtain⟨t0,rfl⟩:=ru;cases rq with
  | non=>obtain rfl:w=Value.none:=rw';unfold eqF at h;cases h;exact⟨.str_none _ _,.str_none _ _,.str_none _ _⟩
  | bl c=>obtain rfl:w=Value.bool c:=rw';unfold eqF at h;cases h;exact⟨.str_bool _ _ _,.str_bool _ _ _,.str_bool _ _ _⟩
  | int c=>obtain⟨t,rfl⟩:=rw';unfold eqF at h;cases h;exact⟨.str_int _ _ _ _,.str_int _ _ _ _,.str_int _ _ _ _⟩
  | str c=>obtain⟨t,rfl⟩:=rw';unfold eqF at h;cases h;exact⟨.str_str _ _ _ _,.str_str _ _ _ _,.str_str _ _ _ _⟩
  | tup h1 r1=>obtain rfl:w=Value.ref _:=rw';unfold eqF at h;cases h;obtain⟨i,_,p,_⟩:=Za I h1 r1;exact⟨.str_tuple _ _ p hu',.str_tuple _ _ p hu',.str_tuple _ _ p hu'⟩
  | lst h1 r1=>obtain rfl:w=Value.ref _:=rw';unfold eqF at h;cases h;obtain⟨i,_,p,_⟩:=zL I (.inl h1) r1;exact⟨.str_list _ _ p hu',.str_list _ _ p hu',.str_list _ _ p hu'⟩
  | fz h1 r1=>obtain rfl:w=Value.ref _:=rw';unfold eqF at h;cases h;obtain⟨i,_,p,_⟩:=zL I (.inr ⟨_,h1⟩) r1;exact⟨.str_list _ _ p hu',.str_list _ _ p hu',.str_list _ _ p hu'⟩
 | tup h0 r0=>
  obtain rfl:u=Value.ref _:=ru;obtain⟨i0,_,p0,_⟩:=Za I h0 r0;cases rq with
  | non=>obtain rfl:w=Value.none:=rw';unfold eqF at h;cases h;exact⟨.tuple_none p0 hu',.tuple_none p0 hu',.tuple_none p0 hu'⟩
  | bl c=>obtain rfl:w=Value.bool c:=rw';unfold eqF at h;cases h;exact⟨.tuple_bool _ p0 hu',.tuple_bool _ p0 hu',.tuple_bool _ p0 hu'⟩
  | int c=>obtain⟨t,rfl⟩:=rw';unfold eqF at h;cases h;exact⟨.tuple_int _ _ p0 hu',.tuple_int _ _ p0 hu',.tuple_int _ _ p0 hu'⟩
  | str c=>obtain⟨t,rfl⟩:=rw';unfold eqF at h;cases h;exact⟨.tuple_str _ _ p0 hu',.tuple_str _ _ p0 hu',.tuple_str _ _ p0 hu'⟩
  | tup h1 r1=>unfold eqF at h;cases h
  | lst h1 r1=>obtain rfl:w=Value.ref _:=rw';unfold eqF at h;cases h;obtain⟨i,_,p,_⟩:=zL I (.inl h1) r1;exact⟨.tuple_list p0 p hu',.tuple_list p0 p hu',.tuple_list p0 p hu'⟩
  | fz h1 r1=>obtain rfl:w=Value.ref _:=rw';unfold eqF at h;cases h;obtain⟨i,_,p,_⟩:=zL I (.inr ⟨_,h1⟩) r1;exact⟨.tuple_list p0 p hu',.tuple_list p0 p hu',.tuple_list p0 p hu'⟩
 | lst h0 r0=>
  obtain rfl:u=Value.ref _:=ru;obtain⟨i0,_,p0,_⟩:=zL I (.inl h0) r0;cases rq with
  | non=>obtain rfl:w=Value.none:=rw';unfold eqF at h;cases h;exact⟨.list_none p0 hu',.list_none p0 hu',.list_none p0 hu'⟩
  | bl c=>obtain rfl:w=Value.bool c:=rw';unfold eqF at h;cases h;exact⟨.list_bool _ p0 hu',.list_bool _ p0 hu',.list_bool _ p0 hu'⟩
  | int c=>obtain⟨t,rfl⟩:=rw';unfold eqF at h;cases h;exact⟨.list_int _ _ p0 hu',.list_int _ _ p0 hu',.list_int _ _ p0 hu'⟩
  | str c=>obtain⟨t,rfl⟩:=rw';unfold eqF at h;cases h;exact⟨.list_str _ _ p0 hu',.list_str _ _ p0 hu',.list_str _ _ p0 hu'⟩
  | tup h1 r1=>obtain rfl:w=Value.ref _:=rw';unfold eqF at h;cases h;obtain⟨i,_,p,_⟩:=Za I h1 r1;exact⟨.list_tuple p0 p hu',.list_tuple p0 p hu',.list_tuple p0 p hu'⟩
  | lst h1 r1=>unfold eqF at h;cases h
  | fz h1 r1=>unfold eqF at h;cases h
 | fz h0 r0=>
  obtain rfl:u=Value.ref _:=ru;obtain⟨i0,_,p0,_⟩:=zL I (.inr ⟨_,h0⟩) r0;cases rq with
  | non=>obtain rfl:w=Value.none:=rw';unfold eqF at h;cases h;exact⟨.list_none p0 hu',.list_none p0 hu',.list_none p0 hu'⟩
  | bl c=>obtain rfl:w=Value.bool c:=rw';unfold eqF at h;cases h;exact⟨.list_bool _ p0 hu',.list_bool _ p0 hu',.list_bool _ p0 hu'⟩
  | int c=>obtain⟨t,rfl⟩:=rw';unfold eqF at h;cases h;exact⟨.list_int _ _ p0 hu',.list_int _ _ p0 hu',.list_int _ _ p0 hu'⟩
  | str c=>obtain⟨t,rfl⟩:=rw';unfold eqF at h;cases h;exact⟨.list_str _ _ p0 hu',.list_str _ _ p0 hu',.list_str _ _ p0 hu'⟩
  | tup h1 r1=>obtain rfl:w=Value.ref _:=rw';unfold eqF at h;cases h;obtain⟨i,_,p,_⟩:=Za I h1 r1;exact⟨.list_tuple p0 p hu',.list_tuple p0 p hu',.list_tuple p0 p hu'⟩
  | lst h1 r1=>unfold eqF at h;cases h
  | fz h1 r1=>unfold eqF at h;cases h
set_option maxHeartbeats 2000000 in
theorem uN (I:L2.Inv X pins σ H s):∀(n:Nat) (A:Around),A.units+n < cLine->∀(x y:T) (b:Bool) (p q:V) (u w:Value),eqF n x y=some b->Rep H p x->Rep H q y->zR p u->zR q w->EqN A s u w b:=by
 intro n
 induction n with
 | zero=>exact λA hu x y b p q u w h=>uM I A (by omega) x y b p q u w h
 | succ n ih=>
  intro A hu x y b p q u w h rp rq ru rw';have low:=λh=>uM I A (by omega) x y b p q u w h rp rq ru rw'
  have hu' :A.units < cLine:=by omega
  have ih' :=ih A.in1 (by rw[ZW];omega)
  cases rp with
  | tup h0 r0=>
   cases rq with
   | tup h1 r1=>
    obtain rfl:u=Value.ref _:=ru;obtain rfl:w=Value.ref _:=rw';exact qG I hu' h0 h1 r0 r1 h (Z9 n) ih'
   | _=>exact low (by exact h)
  | lst h0 r0=>
   cases rq with
   | lst h1 r1=>
    obtain rfl:u=Value.ref _:=ru;obtain rfl:w=Value.ref _:=rw';exact Jy I hu' (.inl h0) (.inl h1) r0 r1 h (Z9 n) ih'
   | fz h1 r1=>
    obtain rfl:u=Value.ref _:=ru;obtain rfl:w=Value.ref _:=rw';exact Jy I hu' (.inl h0) (.inr ⟨_,h1⟩) r0 r1 h (Z9 n) ih'
   | _=>exact low (by exact h)
  | fz h0 r0=>
   cases rq with
   | lst h1 r1=>
    obtain rfl:u=Value.ref _:=ru;obtain rfl:w=Value.ref _:=rw';exact Jy I hu' (.inr ⟨_,h0⟩) (.inl h1) r0 r1 h (Z9 n) ih'
   | fz h1 r1=>
    obtain rfl:u=Value.ref _:=ru;obtain rfl:w=Value.ref _:=rw';exact Jy I hu' (.inr ⟨_,h0⟩) (.inr ⟨_,h1⟩) r0 r1 h (Z9 n) ih'
   | _=>exact low (by exact h)
  | _=>exact low (by cases rq <;> (exact h))
end
section
variable {X:Cx}{Y:Fx}{a b c d:Expr}{fa fb fc fd:En->R T}{pos:Pos}
def rG (Y:Fx)(g:T->T->R T):R2:=λx y H Q=>∃B t t',zc B H/\Rep B x t/\Rep B y t' /\Po Y rC B H (g t t') Q
def z9 (g:T->T->R T)(fa fb:En->R T):En->R T:=λρ=>(fa ρ).bind λx=>(fb ρ).bind λy=>g x y
theorem uO {op:Operator}{g:T->T->R T}(ho:OpR X (binaryOp op) (rG Y g))(ha:Snd X Y a fa)(hb:Snd X Y b fb):Snd X Y (.BinOp a op b pos) (z9 g fa fb):= .mk λρ=>
 PE.imp (X4 ho (ha ρ) (hb ρ)) λσ H Q ⟨B,I,q⟩=>step I q λt v H1 _ s1 r1 I1 q1=>step I1 q1 λt' v' H2 _ s2 r2 I2 q2=>
  ⟨_,t,t',I2.sB,r1.mono (zv.ge I1.sB s2),r2,q2⟩
theorem po0 {g:R T}{B H:Hp}{Q:VK}{t:T}{v:V}(sB:zc B H)(q:Po Y rC B H g Q)(e:g= .ok t)(r:Rep B v t):Q v H:=by
 subst e;exact q v H (zc.refl H) (by rw[zv.self B H sB];exact r)
theorem vM {g:R T}{B H:Hp}{Q:VK}{ts:List T}{xs:List V}{p:Addr}(sB:zc B H)(q:Po Y rC B H g Q)(e:g= .ok (.tup ts))(r:zt B xs ts)(h:H p=none):Q (.ref p) (upd H p (.tup xs)):=by
 subst e;exact q _ _ (zc.new h _) (.tup (jK h _) (r.mono (zv.ge sB (zc.new h _))))
theorem xA {g:R T}{B H:Hp}{Q:VK}{ts:List T}{xs:List V}{p:Addr}(sB:zc B H)(q:Po Y rC B H g Q)(e:g= .ok (.lst ts))(r:zt B xs ts)(h:H p=none):Q (.ref p) (upd H p (.lst xs)):=by
 subst e;exact q _ _ (zc.new h _) (.lst (jK h _) (r.mono (zv.ge sB (zc.new h _))))
def zl:T->T->R T
 | .int i,.int j=> .ok (.int (i+j))
 | .bl x,.int j=> .ok (.int (b2 x+j))
 | .int i,.bl y=> .ok (.int (i+b2 y))
 | .str x,.str y=>if x.length+y.length<=bnd then .ok (.str (x++y)) else .bad
 | .tup xs,.tup ys=>if xs.length+ys.length<=bnd then .ok (.tup (xs++ys)) else .bad
 | .lst xs,.lst ys=>if xs.length+ys.length<=bnd then .ok (.lst (xs++ys)) else .bad
 | _,_=> .bad
theorem yo {prog:Program}{w:World}{A:Around}{E:Value->Shared->Prop}{s:Shared}{t b:Addr}{vs ws:List Value}{Q:Value->Shared->Prop}(ht:IsTup s.heap t vs.toArray)(hb:IsTup s.heap b ws.toArray)(hv:vs=[])
  (h1:Q (.ref b) s):wpAny (model prog w) A (binaryOp .Add (.ref t) (.ref b)) Q E s:=by
 obtain⟨⟨cls,dd,data,sl⟩,ho,hc,n,hd⟩:=id ht;obtain⟨⟨cls2,dd2,data2,sl2⟩,ho2,hc2,n2,hd2⟩:=id hb;subst hc hd hc2 hd2;exact concat_meets ⟨_,ho,rfl⟩ ⟨_,ho2,rfl⟩ noFill_tuple_add seq_tuple_add cH cA (ck _ _)
   (tuple_addW0 t b _ _ n n2 dd dd2 sl sl2 (by simp[hv])) ⟨ho,ho2,h1⟩
theorem uP:OpR X (binaryOp .Add) (rG Y zl):=by
 intro pins s σ H x y v u Q I rx ry h;obtain⟨B,t,t',sB,r,r',q⟩:=h;cases r with
 | int i=>
  cases r' with
  | int j=>exact vk pins s σ H _ _ v u Q I rx ry ⟨i,j,rfl,rfl,po0 sB q rfl (.int _)⟩
  | bl y=>exact uz pins s σ H _ _ v u Q I rx ry ⟨i,y,rfl,rfl,po0 sB q rfl (.int _)⟩
  | _=>exact q.elim
 | bl x=>
  cases r' with
  | int j=>
   obtain rfl:v=Value.bool x:=rx;obtain⟨tk,rfl⟩:=ry;exact IntBool.add_bool_int (⟨.int _,H,I.tok _,⟨_,rfl⟩,po0 sB q rfl (.int _)⟩)
  | _=>exact q.elim
 | str x=>
  cases r' with
  | str y=>
   by_cases hb:x.length+y.length<=bnd
   ·exact WK pins s σ H _ _ v u Q I rx ry ⟨x,y,rfl,rfl,Z2 hb,po0 sB q (if_pos hb) (.str _)⟩
   ·rw[show zl (.str x) (.str y)= .bad from if_neg hb]at q;exact q.elim
  | _=>exact q.elim
 | @tup a xs ts h1 r1=>
  cases r' with
  | @tup a' ys us h2 r2=>
   by_cases hb:ts.length+us.length<=bnd
   ·have eg:zl (.tup ts) (.tup us)= .ok _:=if_pos hb;have hz:xs.length+ys.length<=sizeLine:=by rw[r1.length,r2.length];exact Z2 hb
    by_cases hx:xs=[]
    ·obtain rfl:v=Value.ref a:=rx;obtain rfl:u=Value.ref a' :=ry;obtain⟨its,rv,p,_⟩:=I.tuple (SqT.of (sB _ _ h1));obtain⟨its',rv',p',_⟩:=I.tuple (SqT.of (sB _ _ h2));have et:=r1.nil_iff.mp hx;refine yo p p' (rv.nil_iff.mpr hx) ⟨.ref a',H,I,rfl,po0 sB q eg ?_⟩;rw[et];exact .tup h2 r2
    ·refine qt _ s σ H _ _ v u Q I rx ry ⟨a,a',xs,ys,rfl,rfl,SqT.of (sB _ _ h1),SqT.of (sB _ _ h2),hx,hz,λhy=> ?_,λhy p hp=> ?_⟩
     ·refine po0 sB q eg ?_;rw[r2.nil_iff.mp hy,aK];exact .tup h1 r1
     ·exact vM sB q eg (r1.append r2) hp
   ·rw[show zl (.tup ts) (.tup us)= .bad from if_neg hb]at q;exact q.elim
  | _=>exact q.elim
 | @lst a xs ts h1 r1=>
  cases r' with
  | @lst a' ys us h2 r2=>
   by_cases hb:ts.length+us.length<=bnd
   ·have eg:zl (.lst ts) (.lst us)= .ok _:=if_pos hb;have hz:xs.length+ys.length<=sizeLine:=by rw[r1.length,r2.length];exact Z2 hb
    exact vG _ s σ H _ _ v u Q I rx ry ⟨a,a',xs,ys,rfl,rfl,sB _ _ h1,sB _ _ h2,hz,λp hp=>xA sB q eg (r1.append r2) hp⟩
   ·rw[show zl (.lst ts) (.lst us)= .bad from if_neg hb]at q;exact q.elim
  | _=>exact q.elim
 | _=>cases r' <;> exact q.elim
theorem Xj (ha:Snd X Y a fa)(hb:Snd X Y b fb):Snd X Y (.BinOp a .Add b pos) (z9 zl fa fb):=uO uP ha hb
noncomputable def jA:T->T->R T
 | .int i,.int j=> .ok (.int (i - j))
 | _,_=> .bad
noncomputable def Zv:T->T->R T
 | .int i,.int j=>if 0 < j then .ok (.int (i % j)) else .bad
 | _,_=> .bad
noncomputable def jL:T->T->R T
 | .int i,.int j=>if 0 < j/\j < 1073741824 then .ok (.int (i / j)) else .bad
 | _,_=> .bad
instance (i j:Int):Decidable (wQ i j):=by unfold wQ;infer_instance
def j6:T->T->R T
 | .int i,.int j=>if wQ i j then .ok (.int (i*j)) else .bad
 | .lst xs,.int k=>if 0<=k/\k < 1000000/\xs.length*k.toNat<=bnd then .ok (.lst (au k.toNat xs).flatten) else .bad
 | .tup xs,.int k=>if 2<=k/\k < 1000000/\xs ≠ []/\xs.length*k.toNat<=bnd then .ok (.tup (au k.toNat xs).flatten) else .bad
 | _,_=> .bad
theorem qH:OpR X (binaryOp .Sub) (rG Y jA):=by
 intro pins s σ H x y v u Q I rx ry h;obtain⟨B,t,t',sB,r,r',q⟩:=h;cases r with
 | int i=>
  cases r' with
  | int j=>exact vm _ s σ H _ _ v u Q I rx ry ⟨i,j,rfl,rfl,po0 sB q rfl (.int _)⟩
  | _=>exact q.elim
 | _=>cases r' <;> exact q.elim
theorem qI:OpR X (binaryOp .Mod) (rG Y Zv):=by
 intro pins s σ H x y v u Q I rx ry h;obtain⟨B,t,t',sB,r,r',q⟩:=h;cases r with
 | int i=>
  cases r' with
  | int j=>
   by_cases hj:0 < j
   ·exact vo _ s σ H _ _ v u Q I rx ry ⟨i,j,rfl,rfl,hj,po0 sB q (if_pos hj) (.int _)⟩
   ·rw[show Zv (.int i) (.int j)= .bad from if_neg hj]at q;exact q.elim
  | _=>exact q.elim
 | _=>cases r' <;> exact q.elim
theorem yq:OpR X (binaryOp .FloorDiv) (rG Y jL):=by
 intro pins s σ H x y v u Q I rx ry h;obtain⟨B,t,t',sB,r,r',q⟩:=h;cases r with
 | int i=>
  cases r' with
  | int j=>
   by_cases hj:0 < j/\j < 1073741824
   ·exact qg _ s σ H _ _ v u Q I rx ry ⟨i,j,rfl,rfl,hj,po0 sB q (if_pos hj) (.int _)⟩
   ·rw[show jL (.int i) (.int j)= .bad from if_neg hj]at q;exact q.elim
  | _=>exact q.elim
 | _=>cases r' <;> exact q.elim
theorem WQ (l:Addr)(items:Array Value)(n:Nat)(dd:Option Addr)(sl:Array (Option Value))(x:Int)(u:Tok)(h1:2<=x)(h2:x < 1000000)(hne:items.isEmpty=false)(hsz:items.size*x.toNat<=sizeLine):
  Meets (Builtin.«tuple.__mul__» ⟨[.ref l,.int x u],[]⟩) (λ_ R s=>s.heap.get? l=some { cls:= .type "tuple",dict:=dd,data:= .seq items n,slots:=sl }/\
   R (.ok (.ret (Value.ref s.heap.objs.size))) { s with heap:=s.heap.push { cls:=Value.type "tuple",data:=Data.seq (de (λx1 x2=>x1++x2) #[] (au x.toNat items)) },toks:=s.toks }):=
 .of_wp λprog w A R s h=>by
  obtain⟨hl,h⟩:=h;have e0:(items.size:Int)*x=((items.size*x.toNat:Nat):Int):=by
   have:x=((x.toNat:Nat):Int):=by omega
   rw[Int.natCast_mul,← this]
  have sl1:(sizeLine:Nat)=16777216:=cz;have c1:¬ (decide (x < -(2 ^ 63)) || decide (x ≥ 2 ^ 63))=true:=by simp;omega
  have c2:¬ (items.isEmpty || x == 1)=true:=by simp[hne];omega
  have c3:¬ (decide (x<=0) || items.isEmpty)=true:=by simp[hne];omega
  have c4:¬ ((items.size:Int)*x > (2 ^ 63 - 1) / 8):=by rw[e0];omega
  have c5:¬ df ((items.size:Int)*x)=true:=by
   unfold df;rw[e0];intro z;have:=of_decide_eq_true z;omega
  unfold Builtin.«tuple.__mul__»
  wp_walk using wpAny_loadPart' hl
  rw[if_neg c1]
  wp_walk using wpAny_loadPart' hl
  rw[if_neg c2]
  try dsimp only
  rw[if_neg c3]
  try dsimp only
  rw[if_neg c4]
  try dsimp only
  rw[if_neg c5]
  try dsimp only
  have hsz' :sizeOk (.seq (de (λx1 x2=>x1++x2) #[] (au x.toNat items))):=by
   show (de (λx1 x2=>x1++x2) #[] _).size<=sizeLine;have:=ZU items.toList x.toNat [];have q:=by
    simpa using this
   rw[q,ax,Jv,dB];exact hsz
  exact a4 (bQ (aq ⟨_,rfl,h⟩) hsz')
theorem wg:seqRepeat? (.type "tuple")=pure (some (.builtin "tuple.__mul__")):=by
 unfold seqRepeat?;rw[f8 (name:="__mul__") dv.lookup (by decide+kernel),f8 (name:="__rmul__") eR.lookup (by decide+kernel)]
 rfl
theorem jv:fillsNumberSlot (.type "tuple") "mul"=pure false:=
 PySem.fillsNumberSlot_seq dv.lookup (by decide+kernel) eR.lookup (by decide+kernel)
theorem Ja (a:Int)(t:Tok)(l:Addr)(items:Array Value)(n:Nat)(dd:Option Addr)(sl:Array (Option Value)):
  Meets (Builtin.«int.__rmul__» ⟨[.int a t,.ref l],[]⟩) (λ_ R s=>s.heap.get? l=some { cls:= .type "tuple",dict:=dd,data:= .seq items n,slots:=sl }/\R (.ok (.ret Value.notImplemented)) s):=
 .of_wp λprog w A R s h=>by obtain⟨hl,h⟩:=h;wp_walk;exact⟨_,rfl,h⟩
theorem qJ {prog:Program}{w:World}{A:Around}{E:Value->Shared->Prop}{s:Shared}{l:Addr}{its:List Value}{k:Int}{t:Tok}{Q:Value->Shared->Prop}(p:IsTup s.heap l its.toArray)(hne:its ≠ [])(h1:2<=k)(h2:k < 1000000)
  (hsz:its.length*k.toNat<=sizeLine) (q:Q (.ref s.heap.objs.size) { s with heap:=s.heap.push { cls:= .type "tuple",data:= .seq (au k.toNat its).flatten.toArray } }):
  wpAny (model prog w) A (binaryOp .Mult (.ref l) (.int k t)) Q E s:=by
 obtain⟨⟨cls,dd,data,sl⟩,ho,hc,n,hd⟩:=id p;subst hc hd;refine wpAny_binaryOp_repeat_ref (by decide) ⟨_,ho,rfl⟩ (λs' =>typeIs_int s' k t) jv fk cY wg e_.lookup
  (bJ cY (typeIs_int s k t) f7 (eO _ _) (Ja k t l _ n dd sl)
   ⟨ho,rfl,⟨_,ho,rfl⟩,bJ dv ⟨_,ho,rfl⟩ F.entry_tuple_mul (F.args_tuple_mul_2 _ _) (WQ l _ n dd sl k t h1 h2 (by simpa using hne) (by simpa using hsz)) ⟨ho, ?_⟩⟩)
 have:=ZU its k.toNat [];rw[this];exact q
theorem qK:OpR X (binaryOp .Mult) (rG Y j6):=by
 intro pins s σ H x y v u Q I rx ry h;obtain⟨B,t,t',sB,r,r',q⟩:=h;cases r with
 | int i=>
  cases r' with
  | int j=>
   by_cases hj:wQ i j
   ·exact vn _ s σ H _ _ v u Q I rx ry ⟨i,j,rfl,rfl,hj,po0 sB q (if_pos hj) (.int _)⟩
   ·rw[show j6 (.int i) (.int j)= .bad from if_neg hj]at q;exact q.elim
  | _=>exact q.elim
 | @lst l xs ts h1 r1=>
  cases r' with
  | int k=>
   by_cases hk:0<=k/\k < 1000000/\ts.length*k.toNat<=bnd
   ·have eg:j6 (.lst ts) (.int k)= .ok _:=if_pos hk;exact vH _ s σ H _ _ v u Q I rx ry ⟨l,k,xs,rfl,rfl,sB _ _ h1,by omega,by omega,by rw[r1.length];exact Z2 hk.2.2,λp hp=>xA sB q eg (r1.rep _) hp⟩
   ·rw[show j6 (.lst ts) (.int k)= .bad from if_neg hk]at q;exact q.elim
  | _=>exact q.elim
 | @tup l xs ts h1 r1=>
  cases r' with
  | int k=>
   by_cases hk:2<=k/\k < 1000000/\ts ≠ []/\ts.length*k.toNat<=bnd
   ·have eg:j6 (.tup ts) (.int k)= .ok _:=if_pos hk;obtain rfl:v=Value.ref l:=rx;obtain⟨tk,rfl⟩:=ry;obtain⟨its,rv,p,_⟩:=I.tuple (SqT.of (sB _ _ h1));have ln:=r1.length.symm.trans rv.length;have hne:its ≠ []:=λz=>hk.2.2.1 (by rw[z]at ln;exact bp.mp ln)
    refine qJ p hne hk.1 hk.2.1 (by rw[← ln];exact Z2 hk.2.2.2) ⟨.ref _,upd H _ (.tup (au k.toNat xs).flatten),I.laid (λb u e=>a7 _ e) (ag _) ?_,rfl, ?_⟩
    ·exact⟨by rw[Jv,r1.length,dB];exact Z2 hk.2.2.2,(au _ its).flatten,rv.rep _,⟨_,ao _ rfl,rfl,_,rfl⟩,.inr ⟨_,ao _ rfl,rfl⟩⟩
    ·exact vM sB q eg (r1.rep _) (I.hok.fresh (ag _))
   ·rw[show j6 (.tup ts) (.int k)= .bad from if_neg hk]at q;exact q.elim
  | _=>exact q.elim
 | _=>cases r' <;> exact q.elim
theorem Xk (ha:Snd X Y a fa)(hb:Snd X Y b fb):Snd X Y (.BinOp a .Sub b pos) (z9 jA fa fb):=uO qH ha hb
theorem Xl (ha:Snd X Y a fa)(hb:Snd X Y b fb):Snd X Y (.BinOp a .Mod b pos) (z9 Zv fa fb):=uO qI ha hb
theorem vN (ha:Snd X Y a fa)(hb:Snd X Y b fb):Snd X Y (.BinOp a .FloorDiv b pos) (z9 jL fa fb):=uO yq ha hb
theorem Xm (ha:Snd X Y a fa)(hb:Snd X Y b fb):Snd X Y (.BinOp a .Mult b pos) (z9 j6 fa fb):=uO qK ha hb
def vO (fa:En->R T):En->R T:=λρ=>(fa ρ).bind λx=>match x with
 | .int i=> .ok (.int (-i))
 | _=> .bad
theorem Xn (ha:Snd X Y a fa):Snd X Y (.UnaryOp .USub a pos) (vO fa):= .mk λρ=>PE.imp (X5 vp (ha ρ)) λσ H Q ⟨B,I,q⟩=>step I q λt v H1 _ s1 r1 I1 q1=>by
 cases r1 with
 | int i=>exact⟨i,rfl,po0 I1.sB q1 rfl (.int _)⟩
 | _=>exact q1.elim
def wO (g:T->T->R Bool):R2:=λx y H Q=>∃t t' b,Rep H x t/\Rep H y t' /\g t t' = .ok b/\Q (.bl b) H
def Jk (g:T->T->R Bool)(fa fb:En->R T):En->R T:=λρ=>(fa ρ).bind λx=>(fb ρ).bind λy=>(g x y).bind λb=> .ok (.bl b)
def zB (g:T->T->R Bool)(fa fb:En->R T):En->R Bool:=λρ=>(fa ρ).bind λx=>(fb ρ).bind λy=>g x y
noncomputable def Nx (g:T->T->R Bool):Prop:=∀t t' c,g t t' ≠ .ex c
theorem Xo {op:CmpOp}{g:T->T->R Bool}(nx:Nx g)(ho:OpR X (compareOp op) (wO g))(ha:ZV X Y a fa)(hb:ZV X Y b fb)(hm:behindInMarks op b=false):Snd X Y (.Compare a [op] [b] pos) (Jk g fa fb):= .mk λρ=>
 PE.imp (qh ho (ha ρ) (hb ρ) hm) λσ H Q ⟨B,I,q⟩=>step I q λt v H1 _ s1 r1 I1 q1=>step I1 q1 λt' v' H2 _ s2 r2 I2 q2=>by
  cases e:g t t' with
  | bad=>rw[e]at q2;exact q2.elim
  | ex c=>exact absurd e (nx _ _ _)
  | ok b=>rw[e]at q2;exact⟨t,t',b,r1.mono s2,r2,e,Zf I2 q2 (.bl b)⟩
theorem WR {op:CmpOp}{g:T->T->R Bool}(nx:Nx g)(ho:OpR X (compareOp op) (wO g))(ha:ZV X Y a fa)(hb:ZV X Y b fb)(hm:behindInMarks op b=false):Jx X Y (.Compare a [op] [b] pos) (zB g fa fb):= .mk λρ=>
 PT.imp (qj ho (ha ρ) (hb ρ) hm) λσ H Q ⟨B,I,q⟩=>step I q λt v H1 _ s1 r1 I1 q1=>step I1 q1 λt' v' H2 _ s2 r2 I2 q2=>by
  cases e:g t t' with
  | bad=>rw[e]at q2;exact q2.elim
  | ex c=>exact absurd e (nx _ _ _)
  | ok b=>rw[e]at q2;exact⟨t,t',b,r1.mono s2,r2,e,b,rfl,Zf I2 q2 rfl⟩
def eqC (t t' :T):R Bool:=match eqF 30 t t' with
 | some b=> .ok b
 | none=> .bad
def neC (t t' :T):R Bool:=match eqF 30 t t' with
 | some b=> .ok (!b)
 | none=> .bad
theorem qL:Nx eqC:=λt t' c h=>by unfold eqC at h;split at h <;> cases h
theorem vP:Nx neC:=λt t' c h=>by unfold neC at h;split at h <;> cases h
theorem uQ (hu:X.A.units+64 < cLine):OpR X (compareOp .Eq) (wO eqC):=by
 intro pins s σ H x y v u Q I rx ry h;obtain⟨t,t',b,r,r',e,q⟩:=h;unfold eqC at e;split at e
 ·rename_i k ek;have e' :=by injection e
  subst e';exact(uN I 30 X.A (by omega) t t' k x y v u ek r r' rx ry).2.1 _ _ _ _ ⟨.bl k,H,I,rfl,q⟩
 ·cases e
theorem Yp (hu:X.A.units+64 < cLine):OpR X (compareOp .NotEq) (wO neC):=by
 intro pins s σ H x y v u Q I rx ry h;obtain⟨t,t',b,r,r',e,q⟩:=h;unfold neC at e;split at e
 ·rename_i k ek;cases e;exact(uN I 30 X.A (by omega) t t' k x y v u ek r r' rx ry).2.2 _ _ _ _ ⟨.bl _,H,I,rfl,q⟩
 ·cases e
noncomputable def ltC:T->T->R Bool
 | .int i,.int j=> .ok (decide (i < j))
 | _,_=> .bad
noncomputable def leC:T->T->R Bool
 | .int i,.int j=> .ok (decide (i<=j))
 | .str x,.str y=> .ok (!decide (y.cps.toList < x.cps.toList))
 | _,_=> .bad
noncomputable def gtC:T->T->R Bool
 | .int i,.int j=> .ok (decide (j < i))
 | _,_=> .bad
theorem Xp:Nx ltC:=λt t' c h=>by unfold ltC at h;split at h <;> cases h
theorem yr:Nx leC:=λt t' c h=>by unfold leC at h;split at h <;> cases h
theorem Xq:Nx gtC:=λt t' c h=>by unfold gtC at h;split at h <;> cases h
theorem vQ:OpR X (compareOp .Lt) (wO ltC):=by
 intro pins s σ H x y v u Q I rx ry h;obtain⟨t,t',b,r,r',e,q⟩:=h;unfold ltC at e;split at e
 ·rename_i i j;cases e;cases r;cases r';exact X7 _ s σ H _ _ v u Q I rx ry ⟨i,j,rfl,rfl,q⟩
 ·cases e
theorem vR:OpR X (compareOp .Gt) (wO gtC):=by
 intro pins s σ H x y v u Q I rx ry h;obtain⟨t,t',b,r,r',e,q⟩:=h;unfold gtC at e;split at e
 ·rename_i i j;cases e;cases r;cases r';exact X9 _ s σ H _ _ v u Q I rx ry ⟨i,j,rfl,rfl,q⟩
 ·cases e
theorem Wf:OpR X (compareOp .LtE) (wO leC):=by
 intro pins s σ H x y v u Q I rx ry h;obtain⟨t,t',b,r,r',e,q⟩:=h;unfold leC at e;split at e
 ·rename_i i j;cases e;cases r;cases r';exact X8 _ s σ H _ _ v u Q I rx ry ⟨i,j,rfl,rfl,q⟩
 ·cases e;cases r;cases r';obtain⟨t1,rfl⟩:=rx;obtain⟨t2,rfl⟩:=ry;exact PySem.P.le_str ⟨.bl _,H,I,rfl,q⟩
 ·cases e
end
section
variable {X:Cx}{Y:Fx}{a b c d:Expr}{fa fb fc fd:En->R T}{pos:Pos}
noncomputable def qM (f:T->Option Bool):List T->Option Bool
 | []=>some false
 | t :: r=>match f t with
  | none=>none
  | some b=>match qM f r with
   | none=>none
   | some c=>some (b || c)
def inC (t t' :T):R Bool:=match t' with
 | .tup ys=>match qM (λy=>eqF 30 y t) ys with | some b=> .ok b | none=> .bad
 | .lst ys=>match qM (λy=>eqF 30 y t) ys with | some b=> .ok b | none=> .bad
 | _=> .bad
def Xr (t t' :T):R Bool:=(inC t t').bind λb=> .ok (!b)
theorem vS:Nx inC:=λt t' c h=>by
 unfold inC at h;split at h
 ·split at h <;> cases h
 ·split at h <;> cases h
 ·cases h
open Classical in
theorem wS {H:Hp}(f:T->Option Bool):∃e:Value->Bool,∀(v:V) (t:T) (u:Value) (b:Bool),zR v u->Rep H v t->f t=some b->e u=b:=by
 refine⟨λu=>decide (∃v t,zR v u/\Rep H v t/\f t=some true),λv t u b rv r e=> ?_⟩;cases b with
 | true=>exact decide_eq_true ⟨v,t,rv,r,e⟩
 | false=>
  refine decide_eq_false ?_
  rintro⟨v',t',rv',r',e'⟩
  have:=rv.inj rv';subst this;have:=r.fn r';subst this;rw[e]at e';cases e'
theorem uR {H:Hp}{f:T->Option Bool}{e:Value->Bool}(he:∀(v:V) (t:T) (u:Value) (b:Bool),zR v u->Rep H v t->f t=some b->e u=b):∀{xs:List V} {ts:List T} {its:List Value} {b:Bool},
  zM xs its->zt H xs ts->qM f ts=some b->its.any e=b/\∀u∈its,∃v t k,zR v u/\Rep H v t/\f t=some k
 | _,_,_,b,.nil,.nil,h=>by
  have h' :=h;cases h';exact⟨rfl,λu hu=>by simp at hu⟩
 | _,_,_,b,.cons rv vs,.cons r rs,h=>by
  rename_i v u vals us t ts;unfold qM at h;cases q:f t with
  | none=>rw[q]at h;cases h
  | some k=>
   rw[q]at h;cases q' :qM f ts with
   | none=>rw[q']at h;cases h
   | some k' =>
    rw[q']at h;cases h;obtain⟨h1,h2⟩:=uR he vs rs q';refine⟨by rw[List.any_cons,h1,he v t u k rv r q],λw hw=> ?_⟩
    rcases aj.mp hw with rfl | hw
    ·exact⟨v,t,k,rv,r,q⟩
    ·exact h2 w hw
theorem qN (hu:X.A.units+64 < cLine)(neg:Bool):OpR X (compareOp (if neg then .NotIn else .In)) (wO (if neg then Xr else inC)):=by
 intro pins s σ H x y v u Q I rx ry h;obtain⟨t,t',b,r,r',e,q⟩:=h;have hs:∃k,inC t t' = .ok k/\b=(if neg then !k else k):=by
  cases neg with
  | false=>exact⟨b,e,rfl⟩
  | true=>
   have e' :Xr t t' = .ok b:=e;unfold Xr at e';cases z:inC t t' with
   | bad=>rw[z]at e';cases e'
   | ex k=>exact absurd z (vS _ _ _)
   | ok k=>rw[z]at e';cases e';exact⟨k,rfl,rfl⟩
 obtain⟨k,ek,rfl⟩:=hs;unfold inC at ek;obtain⟨f,hf⟩:=wS λy=>eqF 30 y t;have eqa:∀w,(∃v t' k,zR v w/\Rep H v t' /\eqF 30 t' t=some k)->bZ X.A.in1 s w v (f w):=λw ⟨v',t',k,rv,rr,ee⟩=>by
  rw[hf v' t' w k rv rr ee];exact(uN I 30 _ (by rw[ZW];omega) t' t k v' x w v ee rr r rv rx).1
 split at ek
 ·split at ek
  ·rename_i k' hk;cases ek;cases r' with
   | @tup l xs _ h1 r1=>
    obtain rfl:u=Value.ref l:=ry;obtain⟨its,rv,p,_⟩:=Za I h1 r1;obtain⟨h2,h3⟩:=uR hf rv r1 hk;have h4:its.toArray.any f=k:=by simpa using h2
    cases neg with
    | false=>exact SeqAt.in_tupleAt f p (λw hw=>eqa w (h3 w (by simpa using hw))) (by rw[h4];exact⟨.bl k,H,I,rfl,q⟩)
    | true=>exact SeqAt.notIn_tupleAt f p (λw hw=>eqa w (h3 w (by simpa using hw))) (by rw[h4];exact⟨.bl _,H,I,rfl,q⟩)
  ·cases ek
 ·split at ek
  ·rename_i k' hk;cases ek;cases r' with
   | @lst l xs _ h1 r1=>
    obtain rfl:u=Value.ref l:=ry;obtain⟨its,rv,p,_⟩:=zL I (.inl h1) r1;obtain⟨h2,h3⟩:=uR hf rv r1 hk;have h4:its.toArray.any f=k:=by simpa using h2
    cases neg with
    | false=>exact SeqAt.in_listAt f p (λw hw=>eqa w (h3 w (by simpa using hw))) (by rw[h4];exact⟨.bl k,H,I,rfl,q⟩)
    | true=>exact SeqAt.notIn_listAt f p (λw hw=>eqa w (h3 w (by simpa using hw))) (by rw[h4];exact⟨.bl _,H,I,rfl,q⟩)
  ·cases ek
 ·cases ek
theorem vT (hu:X.A.units+64 < cLine):OpR X (compareOp .In) (wO inC):=qN hu false
noncomputable def isNC (t t' :T):R Bool:=match t' with
 | .non=>match t with | .non=> .ok true | _=> .ok false
 | .bl k=>match t with | .bl j=> .ok (j == k) | _=> .ok false
 | _=> .bad
def chE (g g' :T->T->R Bool)(fa fb fc:En->R T):En->R T:=λρ=>(fa ρ).bind λx=>(fb ρ).bind λy=>(g x y).bind λk=>if k=true then (fc ρ).bind λz=>(g' y z).bind λk' => .ok (.bl k') else .ok (.bl false)
def chT (g g' :T->T->R Bool)(fa fb fc:En->R T):En->R Bool:=λρ=>(fa ρ).bind λx=>(fb ρ).bind λy=>(g x y).bind λk=>if k=true then (fc ρ).bind λz=>g' y z else .ok false
theorem qO {op op' :CmpOp}{g g' :T->T->R Bool}(nx:Nx g)(nx' :Nx g')(ho:OpR X (compareOp op) (wO g))(ho' :OpR X (compareOp op') (wO g'))(ha:ZV X Y a fa)(hb:ZV X Y b fb)(hc:ZV X Y c fc)
  (hm:lastMarks [op,op'] [b,c]=false:=by with_unfolding_all rfl):Snd X Y (.Compare a [op,op'] [b,c] pos) (chE g g' fa fb fc):= .mk λρ=>
 PE.imp (yi ho ho' (ha ρ) (hb ρ) (hc ρ) hm) λσ H Q ⟨B,I,q⟩=>step I q λt v H1 _ s1 r1 I1 q1=>step I1 q1 λt' v' H2 _ s2 r2 I2 q2=>by
  cases e:g t t' with
  | bad=>rw[e]at q2;exact q2.elim
  | ex c=>exact absurd e (nx _ _ _)
  | ok k=>
   rw[e]at q2;refine⟨t,t',k,r1.mono s2,r2,e,k,rfl, ?_⟩;cases k with
   | false=>exact Zf I2 q2 (.bl _)
   | true=>
    refine step I2 q2 λt3 v3 H3 _ s3 r3 I3 q3=> ?_
    ·cases e:g' t' t3 with
     | bad=>rw[e]at q3;exact q3.elim
     | ex c=>exact absurd e (nx' _ _ _)
     | ok k=>rw[e]at q3;exact⟨t',t3,k,r2.mono s3,r3,e,Zf I3 q3 (.bl k)⟩
theorem qQ {op op' :CmpOp}{g g' :T->T->R Bool}(nx:Nx g)(nx' :Nx g')(ho:OpR X (compareOp op) (wO g))(ho' :OpR X (compareOp op') (wO g'))(ha:ZV X Y a fa)(hb:ZV X Y b fb)(hc:ZV X Y c fc)
  (hm:lastMarks [op,op'] [b,c]=false:=by with_unfolding_all rfl):Jx X Y (.Compare a [op,op'] [b,c] pos) (chT g g' fa fb fc):= .mk λρ=>
 PT.imp (yj ho ho' (ha ρ) (hb ρ) (hc ρ) hm) λσ H Q ⟨B,I,q⟩=>step I q λt v H1 _ s1 r1 I1 q1=>step I1 q1 λt' v' H2 _ s2 r2 I2 q2=>by
  cases e:g t t' with
  | bad=>rw[e]at q2;exact q2.elim
  | ex c=>exact absurd e (nx _ _ _)
  | ok k=>
   rw[e]at q2;refine⟨t,t',k,r1.mono s2,r2,e,k,rfl, ?_⟩;cases k with
   | false=>exact⟨false,rfl,Zf I2 q2 rfl⟩
   | true=>
    refine step I2 q2 λt3 v3 H3 _ s3 r3 I3 q3=> ?_
    ·cases e:g' t' t3 with
     | bad=>rw[e]at q3;exact q3.elim
     | ex c=>exact absurd e (nx' _ _ _)
     | ok k=>rw[e]at q3;exact⟨t',t3,k,r2.mono s3,r3,e,k,rfl,Zf I3 q3 rfl⟩
variable {rest:List Expr}{ga gb:En->R Bool}
def wT (fa fb:En->R T):En->R T:=λρ=>(fa ρ).bind λx=>match x with
 | .bl true=>fb ρ
 | .bl false=> .ok (.bl false)
 | _=> .bad
def orE (fa fb:En->R T):En->R T:=λρ=>(fa ρ).bind λx=>match x with
 | .bl true=> .ok (.bl true)
 | .bl false=>fb ρ
 | _=> .bad
def Ka (fa:En->R T):En->R T:=λρ=>(fa ρ).bind λx=>match x with
 | .bl k=> .ok (.bl (!k))
 | _=> .bad
theorem Xs {op}(h:Snd X Y a fa):Snd X Y (.BoolOp op [a] pos) fa:= .mk λρ=>vf (h ρ)
theorem Xu (ha:Snd X Y a fa)(hb:Snd X Y (.BoolOp .And (b :: rest) pos) fb):Snd X Y (.BoolOp .And (a :: b :: rest) pos) (wT fa fb):= .mk λρ=>
 PE.imp (vg (ha ρ) (hb ρ)) λσ H Q ⟨B,I,q⟩=>step I q λt v H1 _ s1 r1 I1 q1=>by
  cases r1 with
  | bl k=>
   refine⟨k,rfl, ?_⟩;cases k with
   | true=>exact⟨_,I1,q1⟩
   | false=>exact Zf I1 q1 (.bl _)
  | _=>exact q1.elim
theorem KQ (ha:Snd X Y a fa)(hb:Snd X Y (.BoolOp .Or (b :: rest) pos) fb):Snd X Y (.BoolOp .Or (a :: b :: rest) pos) (orE fa fb):= .mk λρ=>
 PE.imp (xV (ha ρ) (hb ρ)) λσ H Q ⟨B,I,q⟩=>step I q λt v H1 _ s1 r1 I1 q1=>by
  cases r1 with
  | bl k=>
   refine⟨k,rfl, ?_⟩;cases k with
   | false=>exact⟨_,I1,q1⟩
   | true=>exact Zf I1 q1 (.bl _)
  | _=>exact q1.elim
theorem Xv (ha:Snd X Y a fa):Snd X Y (.UnaryOp .Not a pos) (Ka fa):= .mk λρ=>
 PE.imp (vh (ha ρ)) λσ H Q ⟨B,I,q⟩=>step I q λt v H1 _ s1 r1 I1 q1=>by
  cases r1 with
  | bl k=>exact⟨k,rfl,Zf I1 q1 (.bl _)⟩
  | _=>exact q1.elim
structure uk (X:Cx) (Y:Fx) (e:Expr) (f:En->R Bool):Prop where
 mk ::
 go:∀ρ,PW X e (tS Y rE f ρ)
instance {X:Cx}{Y:Fx}{e:Expr}{f:En->R Bool}:CoeFun (uk X Y e f) λ_=>∀ρ,PW X e (tS Y rE f ρ):=⟨uk.go⟩
theorem uk.t {e:Expr}{f:En->R Bool}(h:uk X Y e f):Jx X Y e f:= .mk λρ=>(h ρ).pt
theorem PW.imp {e:Expr}{t t' :TT}(h:PW X e t)(i:∀σ H Q,t' σ H Q->t σ H Q):PW X e t' :=λwh pins s σ H Q I q=>h wh _ s σ H Q I (i σ H Q q)
def uS (fa fb:En->R Bool):En->R Bool:=λρ=>(fa ρ).bind λx=>if x=true then fb ρ else .ok false
def orT (fa fb:En->R Bool):En->R Bool:=λρ=>(fa ρ).bind λx=>if x=true then .ok true else fb ρ
def Jz (fa:En->R Bool):En->R Bool:=λρ=>(fa ρ).bind λx=> .ok (!x)
theorem vU (h:Jx X Y a ga):uk X Y (.BoolOp .And [a] pos) ga:= .mk λρ=>qd (h ρ)
theorem Xw (h:Jx X Y a ga):uk X Y (.BoolOp .Or [a] pos) ga:= .mk λρ=>vc (h ρ)
theorem Xx (ha:Jx X Y a ga)(hb:uk X Y (.BoolOp .And (b :: rest) pos) gb):uk X Y (.BoolOp .And (a :: b :: rest) pos) (uS ga gb):= .mk λρ=>
 PW.imp (vd (ha ρ) (hb ρ)) λσ H Q ⟨B,I,q⟩=>step I q λt v H1 _ s1 r1 I1 q1=>by
  have r1' :=r1;subst r1';cases v with
  | true=>exact⟨_,I1,q1⟩
  | false=>exact Zf I1 q1 rfl
theorem KR (ha:Jx X Y a ga)(hb:uk X Y (.BoolOp .Or (b :: rest) pos) gb):uk X Y (.BoolOp .Or (a :: b :: rest) pos) (orT ga gb):= .mk λρ=>
 PW.imp (xS (ha ρ) (hb ρ)) λσ H Q ⟨B,I,q⟩=>step I q λt v H1 _ s1 r1 I1 q1=>by
  have r1' :=r1;subst r1';cases v with
  | false=>exact⟨_,I1,q1⟩
  | true=>exact Zf I1 q1 rfl
theorem Xy (ha:Jx X Y a ga):Jx X Y (.UnaryOp .Not a pos) (Jz ga):= .mk λρ=>
 PT.imp (ve (ha ρ)) λσ H Q ⟨B,I,q⟩=>step I q λt v H1 _ s1 r1 I1 q1=>by
  have r1' :=r1;subst r1';exact Zf I1 q1 rfl
noncomputable def tru:T->R Bool
 | .bl k=> .ok k
 | .non=> .ok false
 | .int i=> .ok (i != 0)
 | .tup xs=> .ok (!xs.isEmpty)
 | .lst xs=> .ok (!xs.isEmpty)
 | _=> .bad
def jm (fa:En->R T):En->R Bool:=λρ=>(fa ρ).bind tru
theorem isE {H:Hp}{xs:List V}{ts:List T}(r:zt H xs ts):(!xs.isEmpty)= !ts.isEmpty:=by cases r <;> rfl
theorem Xz (ha:ZV X Y a fa)(he:∀whole,isTrue a X.env whole=(do let v ← whole;standAt a.pos;holding [v] (truthy v)):=by intro _;rfl):Jx X Y a (jm fa):= .mk λρ=>
 PT.imp (yk (ha ρ) he) λσ H Q ⟨B,I,q⟩=>step I q λt v H1 _ s1 r1 I1 q1=>by
  cases r1 with
  | bl k=>exact⟨k,rfl,Zf I1 q1 rfl⟩
  | non=>exact⟨false,rfl,Zf I1 q1 rfl⟩
  | int i=>exact⟨_,rfl,Zf I1 q1 rfl⟩
  | tup h r=>exact⟨_,.inr (.inl ⟨_,SqT.of h,rfl⟩),Zf I1 q1 (isE r)⟩
  | lst h r=>exact⟨_,.inl ⟨_,SqL.of h,rfl⟩,Zf I1 q1 (isE r)⟩
  | _=>exact q1.elim
def ifE (g:En->R Bool)(fa fb:En->R T):En->R T:=λρ=>(g ρ).bind λk=>if k=true then fa ρ else fb ρ
theorem KS (hc:Jx X Y c ga)(ha:Snd X Y a fa)(hb:Snd X Y b fb):Snd X Y (.IfExp c a b pos) (ifE ga fa fb):= .mk λρ=>
 PE.imp (ye (hc ρ) (ha ρ) (hb ρ)) λσ H Q ⟨B,I,q⟩=>step I q λt v H1 _ s1 r1 I1 q1=>by
  have r1' :=r1;subst r1';cases v with
  | true=>exact⟨_,I1,q1⟩
  | false=>exact⟨_,I1,q1⟩
end
end PV
namespace PV
open PySem PySem.Spec PyProof.Rows L2
section
variable {X:Cx}{Y:Fx}{a b c d:Expr}{fa fb fc fd:En->R T}{pos p:Pos}
def ap1 (g:T->R T)(fa:En->R T):En->R T:=λρ=>(fa ρ).bind g
noncomputable abbrev St1 (X:Cx)(a:Expr):Prop:=starEach [a] X.env=[(false,eval a X.env)]
theorem Yq {id:String}{x:Str}{r:List V->Hp->VK->Prop}{g:T->R T}(hc:Zy X (.builtin id) r)(hr:∀v t B H Q,Rep H v t->zc B H->Po Y rC B H (g t) Q->r [v] H Q)
  (gl:Gl X x) (mg:X.mg x=none) (bt:bootBuiltins x=some (.builtin id)) (ha:ZV X Y a fa) (hs:St1 X a:=by exact st1 rfl) (hn:x ≠ "__name__":=by decide) (hd:(x == ("__debug__":Str))=false:=by decide):Snd X Y (.Call (.Name x p) [a] [] pos) (ap1 g fa):= .mk λρ=>
 PE.imp (jz hc gl mg bt (zo (ha ρ) zK hs) hn hd hs rfl) λσ H Q ⟨B,I,q⟩=>step I q λt v H1 _ s1 r1 I1 q1=>hr v t _ H1 Q r1 I1.sB q1
theorem Yr {id:String}{x:Str}{r:List V->Hp->VK->Prop}{g:T->R T}(hc:Zy X (.type id) r)(hr:∀v t B H Q,Rep B v t->zc B H->Po Y rC B H (g t) Q->r [v] H Q)
  (gl:Gl X x) (mg:X.mg x=none) (bt:bootBuiltins x=some (.type id)) (ha:Snd X Y a fa) (hs:St1 X a:=by exact st1 rfl) (hn:x ≠ "__name__":=by decide) (hd:(x == ("__debug__":Str))=false:=by decide):Snd X Y (.Call (.Name x p) [a] [] pos) (ap1 g fa):= .mk λρ=>
 PE.imp (uC hc gl mg bt (zo (ha ρ) zK hs) hn hd hs rfl) λσ H Q ⟨B,I,q⟩=>step I q λt v H1 _ s1 r1 I1 q1=>hr v t _ H1 Q r1 I1.sB q1
def Z7:T->R T
 | .tup xs=> .ok (.int xs.length)
 | .lst xs=> .ok (.int xs.length)
 | .fz xs=> .ok (.int xs.length)
 | .str x=>if x.length<=bnd then .ok (.int x.length) else .bad
 | _=> .bad
theorem XA (v:V)(t:T)(B H:Hp)(Q:VK)(r:Rep H v t)(sB:zc B H)(q:Po Y rC B H (Z7 t) Q):
  (∃p ys,[v]=[V.ref p]/\(SqL X.K H p ys\/SqT X.K H p ys)/\Q (V.int ys.length) H)\/(∃z,[v]=[V.str z]/\z.length<=sizeLine/\Q (V.int z.length) H):=by
 cases r with
 | tup h r=>exact .inl ⟨_,_,rfl,.inr (SqT.of h),po0 sB q rfl (by rw[r.length];exact .int _)⟩
 | lst h r=>exact .inl ⟨_,_,rfl,.inl (SqL.of h),po0 sB q rfl (by rw[r.length];exact .int _)⟩
 | fz h r=>exact .inl ⟨_,_,rfl,.inl (.inl (.inr ⟨_,h⟩)),po0 sB q rfl (by rw[r.length];exact .int _)⟩
 | str x=>
  by_cases hb:x.length<=bnd
  ·exact .inr ⟨x,rfl,Z2 hb,po0 sB q (if_pos hb) (.int _)⟩
  ·rw[show Z7 (.str x)= .bad from if_neg hb]at q;exact q.elim
 | _=>exact q.elim
theorem XB (gl:Gl X "len")(mg:X.mg "len"=none)(ha:ZV X Y a fa)(hs:St1 X a:=by exact st1 rfl):Snd X Y (.Call (.Name "len" p) [a] [] pos) (ap1 Z7 fa):=
 Yq (wc.or wd) XA gl mg PySem.boot_len ha hs
noncomputable def qR:T->R T
 | .tup xs=> .ok (.tup xs)
 | .lst xs=> .ok (.tup xs)
 | _=> .bad
theorem vV (v:V)(t:T)(B H:Hp)(Q:VK)(r:Rep B v t)(sB:zc B H)(q:Po Y rC B H (qR t) Q):
  ∃p ys,[v]=[V.ref p]/\((SqL X.K H p ys/\∀l,H l=none->Q (.ref l) (upd H l (.tup ys)))\/(SqT X.K H p ys/\Q (.ref p) H)):=by
 cases r with
 | tup h r=>exact⟨_,_,rfl,.inr ⟨SqT.of (sB _ _ h),po0 sB q rfl (.tup h r)⟩⟩
 | lst h r=>exact⟨_,_,rfl,.inl ⟨SqL.of (sB _ _ h),λl hl=>vM sB q rfl r hl⟩⟩
 | _=>exact q.elim
theorem qS (gl:Gl X "tuple")(mg:X.mg "tuple"=none)(ha:Snd X Y a fa)(hs:St1 X a:=by exact st1 rfl):Snd X Y (.Call (.Name "tuple" p) [a] [] pos) (ap1 qR fa):=
 Yr ZT vV gl mg (PyProof.Rows.Boot.«tuple») ha hs
noncomputable def tyN:T->String
 | .non=>"NoneType"
 | .bl _=>"bool"
 | .int _=>"int"
 | .str _=>"str"
 | .tup _=>"tuple"
 | .lst _=>"list"
 | .fz _=>"list"
def isT (n:String)(t:T):Bool:=tyN t == n || (n == "int" && tyN t == "bool")
theorem XF {H:Hp}{v:V}{t:T}(K:a6)(r:Rep H v t):WL K H v (.type (tyN t)):=by
 cases r with
 | non=>exact .non
 | bl b=>exact .bl b
 | int b=>exact .int b
 | str b=>exact .str b
 | tup h _=>exact .tup h
 | lst h _=>exact .lst h
 | fz h _=>exact .frz h
theorem yt:Zy X (.builtin "isinstance") (λxs H Q=>∃v n t,xs=[v,.ty n]/\Rep H v t/\aC X.K (.type (tyN t)) (.type n)=some (isT n t)/\Q (.bl (isT n t)) H):=by
 intro pins s σ H xs us Q I rv h;obtain⟨v,n,t,rfl,r,hk,q⟩:=h;obtain⟨u,w,rfl,ru,rw'⟩:=qk rv;obtain rfl:w=Value.type n:=rw';exact uB I ru (XF X.K r) hk λtk=>⟨.bl _,H,I.tok tk,rfl,q⟩
def uT (n:String)(t:T):R T:= .ok (.bl (isT n t))
theorem qT (K:a6)(t:T):aC K (.type (tyN t)) (.type "int")=some (isT "int" t):=by cases t <;> rfl
theorem yu (K:a6)(t:T):aC K (.type (tyN t)) (.type "bool")=some (isT "bool" t):=by cases t <;> rfl
theorem qU (K:a6)(t:T):aC K (.type (tyN t)) (.type "str")=some (isT "str" t):=by cases t <;> rfl
theorem uU (K:a6)(t:T):aC K (.type (tyN t)) (.type "tuple")=some (isT "tuple" t):=by cases t <;> rfl
theorem yv {n:String}{p' :Pos}(hk:∀t,aC X.K (.type (tyN t)) (.type n)=some (isT n t))(gl:Gl X "isinstance")(mg:X.mg "isinstance"=none)(gl' :Gl X (aS n))(mg' :X.mg (aS n)=none)(bt:bootBuiltins (aS n)=some (.type n))(ha:ZV X Y a fa)
  (hs:starEach [a,.Name (aS n) p'] X.env=[(false,eval a X.env),(false,eval (.Name (aS n) p') X.env)]:=by exact st2 rfl rfl) (hs2:starEach [.Name (aS n) p'] X.env=[(false,eval (.Name (aS n) p') X.env)]:=by exact st1 rfl)
  (hn:aS n ≠ "__name__":=by decide) (hd:(aS n == ("__debug__":Str))=false:=by decide) (hz:((backTo pos (starEach [.Name (aS n) p'] X.env)).any λx=>x.fst)=false:=by exact zS rfl):
  Snd X Y (.Call (.Name "isinstance" p) [a,.Name (aS n) p'] [] pos) (ap1 (uT n) fa):= .mk λρ=>
 PE.imp (jz yt gl mg PyProof.Rows.Boot.«isinstance» (zo (ha ρ) (zo (ut (v:= .ty n) gl' mg' bt rfl hn hd) zK hs2) (by rw[hs,hs2])) (by decide) (by decide) (by rw[hs,hs2]) hz) λσ H Q ⟨B,I,q⟩=>
  step I q λt v H1 _ s1 r1 I1 q1=>⟨v,n,t,rfl,r1,hk t,po0 I1.sB q1 rfl (.bl _)⟩
def atT (xs:List T)(i:Int):R T:=match atI xs i with
 | some t=> .ok t
 | none=> .bad
def ixT:T->T->R T
 | .tup xs,.int i=>atT xs i
 | .lst xs,.int i=>atT xs i
 | .fz xs,.int i=>atT xs i
 | .str z,.int i=>if z.length<=bnd then match atI z.cps.toList i with | some c=> .ok (.str ⟨#[c]⟩) | none=> .bad else .bad
 | _,_=> .bad
theorem uV {H:Hp}{xs:List V}{ts:List T}{i:Int}{t:T}(r:zt H xs ts)(h:atI ts i=some t):∃v,atI xs i=some v/\Rep H v t:=by
 unfold atI at h ⊢;rw[r.length];cases e:ixN _ i with
 | none=>rw[e]at h;cases h
 | some j=>
  rw[e]at h;obtain⟨v,h1,h2⟩:=r.get (h);exact⟨v,h1,h2⟩
theorem KT (ha:Snd X Y a fa)(hb:Snd X Y b fb)(hs:uF b:=by exact λ_ _=>rfl):Snd X Y (.Subscript a b pos) (z9 ixT fa fb):= .mk λρ=>
 PE.imp (Xd vD (ha ρ) (hb ρ) hs) λσ H Q ⟨B,I,q⟩=>step I q λt v H1 _ s1 r1 I1 q1=>step I1 q1 λt' v' H2 _ s2 r2 I2 q2=>by
  have r1:=r1.mono (zv.ge I1.sB s2);cases r2 with
  | int i=>
   cases r1 with
   | @tup _ xs ts h r=>
    have q2:Po Y rC _ H2 (atT ts i) Q:=q2;unfold atT at q2;split at q2
    ·rename_i t' e;obtain⟨w,e1,e2⟩:=uV r e;exact .inr (.inl ⟨_,xs,i,w,rfl,rfl,SqT.of (I2.sB _ _ h),e1,po0 I2.sB q2 rfl e2⟩)
    ·exact q2.elim
   | @lst _ xs ts h r=>
    have q2:Po Y rC _ H2 (atT ts i) Q:=q2;unfold atT at q2;split at q2
    ·rename_i t' e;obtain⟨w,e1,e2⟩:=uV r e;exact .inl ⟨_,xs,i,w,rfl,rfl,SqL.of (I2.sB _ _ h),e1,po0 I2.sB q2 rfl e2⟩
    ·exact q2.elim
   | @fz _ _ xs ts h r=>
    have q2:Po Y rC _ H2 (atT ts i) Q:=q2;unfold atT at q2;split at q2
    ·rename_i t' e;obtain⟨w,e1,e2⟩:=uV r e;exact .inl ⟨_,xs,i,w,rfl,rfl,.inl (.inr ⟨_,I2.sB _ _ h⟩),e1,po0 I2.sB q2 rfl e2⟩
    ·exact q2.elim
   | str z=>
    have q2:Po Y rC _ H2 (if z.length<=bnd then match atI z.cps.toList i with | some c=> .ok _ | none=> .bad else .bad) Q:=q2
    split at q2
    ·rename_i hb;split at q2
     ·rename_i c e;exact .inr (.inr ⟨z,i,c,rfl,rfl,Z2 hb,e,po0 I2.sB q2 rfl (.str _)⟩)
     ·exact q2.elim
    ·exact q2.elim
   | _=>exact q2.elim
  | _=>cases r1 <;> exact q2.elim
structure yw (X:Cx) (Y:Fx) (e:Option Expr) (f:En->R (Option Int)):Prop where
 mk ::
 go:∀ρ,PO X e (tS Y rE f ρ)
instance {X:Cx}{Y:Fx}{e:Option Expr}{f:En->R (Option Int)}:CoeFun (yw X Y e f) λ_=>∀ρ,PO X e (tS Y rE f ρ):=⟨yw.go⟩
def noO:En->R (Option Int):=λ_=> .ok none
def zh (fa:En->R T):En->R (Option Int):=λρ=>(fa ρ).bind λt=>match t with
 | .int i=> .ok (some i)
 | _=> .bad
theorem PO.imp {e:Option Expr}{t t' :TO}(h:PO X e t)(i:∀σ H Q,t' σ H Q->t σ H Q):PO X e t' :=λpins s σ H Q I q=>h _ s σ H Q I (i σ H Q q)
theorem vW:yw X Y none noO:= .mk λρ=>PO.imp qq λσ H Q ⟨B,I,q⟩=>Zf I q rfl
theorem vX (ha:Snd X Y a fa):yw X Y (some a) (zh fa):= .mk λρ=>PO.imp (qr (ha ρ)) λσ H Q ⟨B,I,q⟩=>step I q λt v H1 _ s1 r1 I1 q1=>by
 cases r1 with
 | int i=>exact⟨i,rfl,Zf I1 q1 rfl⟩
 | _=>exact q1.elim
noncomputable def cut (xs:List T)(lo hi:Option Int):List T:=(xs.drop (HT.sIx xs.length 0 lo)).take (HT.sIx xs.length xs.length hi - HT.sIx xs.length 0 lo)
def slT (t:T)(lo hi:Option Int):R T:=match t with
 | .tup xs=> .ok (.tup (cut xs lo hi))
 | .lst xs=> .ok (.lst (cut xs lo hi))
 | _=> .bad
def slE (fa:En->R T)(fl fh:En->R (Option Int)):En->R T:=λρ=>(fa ρ).bind λt=>(fl ρ).bind λlo=>(fh ρ).bind λhi=>slT t lo hi
theorem uW {H:Hp}{xs:List V}{ts:List T}{lo hi:Option Int}(r:zt H xs ts):zt H (QT xs lo hi) (cut ts lo hi):=by
 unfold QT cut;rw[r.length];exact(r.drop _).take _
theorem j9 {prog:Program}{w:World}{A:Around}{E:Value->Shared->Prop}{s:Shared}{t sl:Addr}{items:Array Value}{vl vu:Value}{lo hi:Option Int}{Q:Value->Shared->Prop}(ht:IsTup s.heap t items)(hs:s.heap.IsSliceOf sl vl vu .none)(pl:IsPart vl lo)(pu:IsPart vu hi)
  (hw:HT.sIx items.size 0 lo=0/\HT.sIx items.size items.size hi=items.size) (h:Q (.ref t) s):wpAny (model prog w) A (getItem (.ref t) (.ref sl)) Q E s:=by
 obtain⟨os,hos,hcs,hds⟩:=id hs;have hTs:s.TypeIs (.ref sl) _:=⟨os,hos,hcs⟩;unfold getItem
 try with_reducible refine aV ?_
 refine a4 (wpAny_sequenceKey ht.typeIs (by decide) ?_)
 refine a4 (wpAny_callSpecial?_slot ht.typeIs aX
  (wpAny_call_entry aX ht.typeIs entry_tuple_getitem ?_ (args_tuple_getitem _ _)))
 show wpAny _ _ (db _ >>= _) _ _ s;refine a4 (tupleItemsOf_ ht ?_);refine a4 (wpAny_typeOf hTs ?_);refine a4 (HT.sliceApplied_gen hs pl pu ?_);have hyes:(((HT.sIx items.size 0 lo):Int) == 0 && (1:Int) == 1 && (HT.sIx items.size items.size hi - HT.sIx items.size 0 lo) == items.size)=true:=by
  rw[hw.1,hw.2];simp
 show wpAny _ _ (if (((HT.sIx _ 0 lo:Nat):Int) == 0 && (1) == 1 && (HT.sIx _ _ hi - HT.sIx _ 0 lo) == items.size)=true then _ else _) _ _ s
 rw[if_pos hyes];refine a4 (a4 (wpAny_typeOf ht.typeIs (aq ?_)));exact a4 (wpAny_rule (aq ⟨_,rfl,aq h⟩))
theorem WS:SlR X (λx lo hi H Q=>∃a xs,x= .ref a/\SqT X.K H a xs/\(HT.sIx xs.length 0 lo=0/\HT.sIx xs.length xs.length hi=xs.length)/\Q (.ref a) H):=by
 intro pins s σ H x v vl vu lo hi sl Q I rx hs pl pu h;obtain⟨a,xs,rfl,hx,hw,q⟩:=h;obtain rfl:v=Value.ref a:=rx;obtain⟨its,r,ht,hz⟩:=I.tuple hx;have hlen:its.toArray.size=xs.length:=by exact r.length.symm
 refine⟨"tuple",_,aX.lookup,ht.typeIs, ?_⟩;exact j9 ht hs pl pu (by rw[hlen];exact hw) ⟨.ref a,H,I,rfl,q⟩
theorem qV {xs:List T}{lo hi:Option Int}(h1:HT.sIx xs.length 0 lo=0)(h2:HT.sIx xs.length xs.length hi=xs.length):cut xs lo hi=xs:=by
 unfold cut;rw[h1,h2];simp
theorem qW {lo hi:Option Expr}{fl fh:En->R (Option Int)}{p2:Pos}(ha:Snd X Y a fa)(hl:yw X Y lo fl)(hh:yw X Y hi fh):Snd X Y (.Subscript a (.Slice lo hi none p2) pos) (slE fa fl fh):= .mk λρ=>
 PE.imp (Wa (vz.or (WS.or qx)) (ha ρ) (hl ρ) (hh ρ)) λσ H Q ⟨B,I,q⟩=>step I q λt v H1 _ s1 r1 I1 q1=>step I1 q1 λl l' H2 _ s2 el I2 q2=>step I2 q2 λh h' H3 _ s3 eh I3 q3=>by
  have el' :=el;have eh' :=eh;subst el' eh';have r1:=r1.mono ((zv.ge I1.sB s2).trans (zv.ge I2.sB s3));cases r1 with
  | @tup _ xs ts hx r=>
   by_cases hw:HT.sIx xs.length 0 l' =0/\HT.sIx xs.length xs.length h' =xs.length
   ·refine .inr (.inl ⟨_,xs,rfl,SqT.of (I3.sB _ _ hx),hw,po0 I3.sB q3 rfl ?_⟩);rw[r.length]at hw;rw[qV hw.1 hw.2];exact .tup hx r
   ·exact .inl ⟨_,xs,rfl,SqT.of (I3.sB _ _ hx),hw,λp hp=>vM I3.sB q3 rfl (uW r) hp⟩
  | @lst _ xs ts hx r=>
   exact .inr (.inr ⟨_,xs,rfl,SqL.of (I3.sB _ _ hx),λp hp=>xA I3.sB q3 rfl (uW r) hp⟩)
  | _=>exact q3.elim
noncomputable def y8:List T->Option Bool
 | []=>some true
 | .bl k :: r=>match y8 r with | some j=>some (k && j) | none=>none
 | _ :: _=>none
def XG:T->R T
 | .lst ts=>match y8 ts with | some k=> .ok (.bl k) | none=> .bad
 | _=> .bad
theorem uX:∀{H:Hp} {xs:List V} {ts:List T} {its:List Value} {k:Bool},zt H xs ts->zM xs its->y8 ts=some k->∃tr:Nat->Bool,(∀i v,its[i]? =some v->v=Value.bool (tr i))/\(bF its.length).all tr=k
 | _,_,_,_,k,.nil,.nil,h=>by
  have h' :=h;cases h';exact⟨λ_=>true,λi v e=>by simp at e,rfl⟩
 | H,_,_,_,k,.cons r rs,.cons (b:=u) rv vs,h=>by
  cases r with
  | bl b=>
   unfold y8 at h;split at h
   ·rename_i j e;cases h;obtain⟨tr,h1,h2⟩:=uX rs vs e;obtain rfl:u=Value.bool b:=rv;refine⟨λi=>match i with | 0=>b | i+1=>tr i,λi v e=> ?_, ?_⟩
    ·cases i with
     | zero=>simp at e;exact e.symm
     | succ i=>exact h1 i v (by simpa using e)
    ·rw[ae,dD,d_,eQ,← h2];rfl
   ·cases h
  | _=>cases h
theorem uY (hh:X.A.handled=none):Zy X (.builtin "all") (λvs H Q=>∃l xs ts k,vs=[.ref l]/\H l=some (.lst xs)/\zt H xs ts/\y8 ts=some k/\Q (.bl k) H):=by
 intro pins s σ H vs us Q I rv h;obtain⟨l,xs,ts,k,rfl,hl,r,hk,q⟩:=h;obtain⟨u,rfl,ru⟩:=j8 rv;obtain rfl:u=Value.ref l:=ru;obtain⟨its,rv,p,_⟩:=zL I (.inl hl) r;obtain⟨tr,h1,h2⟩:=uX r rv hk;refine call_all_walk (wpAny_pyIter_list p ?_);have hlt:=I.hok.lt hl;have old:∀b o,s.heap.get? b=some o->(s.heap.push { cls:= .type "list_iterator",data:= .fields #[.ref l,.int 0 0] }).get? b=some o:=λb o e=>a7 _ e;refine⟨s.heap.objs.size,_,_,_,_,_,tr,rfl,Walks.list (A:=X.A.in1) hh _ l (aA hlt) its.toArray, ?_, ?_,λh' tk hk' => ?_⟩
 ·refine⟨?_,p.at λo e=>old _ o e⟩;exact⟨_,ao _ rfl,rfl,rfl⟩
 ·intro i v s' Q' E' hi hq;rw[h1 i v (by simpa using hi)]
  exact aZ hq
 ·rw[ax,h2];refine⟨.bl k,H,I.kept (λb o e=>hk' b o ?_ (old b o e)),rfl,q⟩;simp;exact aA (a9 e)
theorem XH (hh:X.A.handled=none)(gl:Gl X "all")(mg:X.mg "all"=none)(ha:ZV X Y a fa)(hs:St1 X a:=by exact st1 rfl):Snd X Y (.Call (.Name "all" p) [a] [] pos) (ap1 XG fa):=
 Yq (uY hh) (λv t B H Q r sB q=>by
  cases r with
  | @lst l xs ts h r=>
   have q:Po Y rC B H (match y8 ts with | some k=> .ok _ | none=> .bad) Q:=q
   split at q
   ·rename_i k e;exact⟨l,xs,ts,k,rfl,h,r,e,po0 sB q rfl (.bl k)⟩
   ·exact q.elim
  | _=>exact q.elim) gl mg PyProof.Rows.Boot.«all» ha hs
end
inductive RS where
 | nx (ρ:En) | rt (t:T) | bk (ρ:En) | ct (ρ:En) | ex (c:Nat) | bad | rf (ts:List T)
noncomputable def R.s {α:Type}(r:R α)(k:α->RS):RS:=match r with
 | .ok a=>k a
 | .ex c=> .ex c
 | .bad=> .bad
def PoS (Y:Fx)(B:Hp)(r:RS)(D:Ends):Prop:=match r with
 | .nx ρ' =>∀σ' H' B',zc B B' ->SI Y B' ρ' σ' H' ->D.nx σ' H'
 | .rt t=>∀v H',zc Y.H0 H' ->Rep (zv Y.B0 Y.H0 H') v t->D.rt v H'
 | .bk ρ' =>∀σ' H' B',zc B B' ->SI Y B' ρ' σ' H' ->D.bk σ' H'
 | .ct ρ' =>∀σ' H' B',zc B B' ->SI Y B' ρ' σ' H' ->D.ct σ' H'
 | .ex c=>XP Y B c
 | .bad=>False
 | .rf ts=>∀a xs H' B',zc Y.H0 H' ->Y.H0 a=none->H' a=some (.lst xs)->zt B' xs ts->B' a=none->zc B' (zv Y.B0 Y.H0 H')->D.rt (.ref a) H'
theorem PoS.up {Y:Fx}{B B' :Hp}{r:RS}{D:Ends}(s:zc B B')(h:PoS Y B r D):PoS Y B' r D:=by
 cases r with
 | nx ρ=>exact λσ' H' B2 s2 I=>h σ' H' B2 (s.trans s2) I
 | bk ρ=>exact λσ' H' B2 s2 I=>h σ' H' B2 (s.trans s2) I
 | ct ρ=>exact λσ' H' B2 s2 I=>h σ' H' B2 (s.trans s2) I
 | rt t=>exact h
 | rf t=>exact h
 | ex c=>exact λd H' s0 sB=>h d H' s0 (s.trans sB)
 | bad=>exact h
def tSS (Y:Fx)(f:En->RS)(ρ:En):TS:=λD σ H=>∃B,SI Y B ρ σ H/\PoS Y B (f ρ) D
structure ZA (X:Cx) (Y:Fx) (e:Stmt) (f:En->RS):Prop where
 mk ::
 go:∀ρ,PS X e (tSS Y f ρ)
instance {X:Cx}{Y:Fx}{e:Stmt}{f:En->RS}:CoeFun (ZA X Y e f) λ_=>∀ρ,PS X e (tSS Y f ρ):=⟨ZA.go⟩
structure jo (X:Cx) (Y:Fx) (e:List Stmt) (f:En->RS):Prop where
 mk ::
 go:∀ρ,PSs X e (tSS Y f ρ)
instance {X:Cx}{Y:Fx}{e:List Stmt}{f:En->RS}:CoeFun (jo X Y e f) λ_=>∀ρ,PSs X e (tSS Y f ρ):=⟨jo.go⟩
theorem Jb {α β:Type}{Y:Fx}{rel:Hp->Hp->β->α->Prop}{f:En->R α}{k:α->RS}{ρ:En}{B:Hp}{σ:Sg}{H:Hp}{D:Ends}{K:β->Hp->Prop}
  (I:SI Y B ρ σ H) (h:PoS Y B ((f ρ).s k) D)
  (n:∀a b H1,f ρ= .ok a->zc H H1->rel (zv B H H1) H1 b a->SI Y (zv B H H1) ρ σ H1->PoS Y (zv B H H1) (k a) D->K b H1):tS Y rel f ρ σ H K:=by
 refine⟨B,I, ?_⟩;cases e:f ρ with
 | bad=>rw[e]at h;exact h
 | ex c=>rw[e]at h;exact h
 | ok a=>
  rw[e]at h;exact λb H1 s r=>n a b H1 e s r (I.grow s) (PoS.up (zv.ge I.sB s) h)
theorem zx {α:Type}{xs:List α}{i j:Nat}{x y:α}(h:(xs.set i x)[j]? =some y):(j=i/\y=x)\/(j ≠ i/\xs[j]? =some y):=by
 by_cases e:j=i
 ·subst e
  by_cases hl:j < xs.length
  ·rw[aU hl]at h;exact .inl ⟨rfl,(ak h).symm⟩
  ·rw[cN (by rw[bN];omega)]at h;cases h
 ·rw[az (bq e)]at h;exact .inr ⟨e,h⟩
theorem Wg {α:Type}{xs:List α}{i:Nat}{x y:α}(h:(xs.set i x)[i]? =some y):i < xs.length:=by
 by_cases hl:i < xs.length
 ·exact hl
 ·rw[cN (by rw[bN];omega)]at h;cases h
theorem StI.set {Y:Fx}{B:Hp}{ρ:En}{σ:Sg}{H:Hp}{as:List Addr}{O:Addr->Option (Nat×Nat)}(x:StI Y B ρ σ H as O)(i:Nat)(s:Sl)(v:Option V)(h1:s.isO=false)(h3:∀ts,s ≠ .ow ts):StI Y B (ρ.set i s) (σ.set i v) H as O:=
 x.on (λj y hy h=>by
  rcases zx h with ⟨_,e⟩ | ⟨hj,h'⟩
  ·rw[e,h1]at hy;cases hy
  ·exact⟨h',az (bq hj)⟩) (zc.refl _) rfl rfl (zc.refl _) λb o hb b0 h0 _=>⟨hb,b0,h0,λok j us h=>by
  rcases zx h with ⟨_,e⟩ | ⟨hj,h'⟩
  ·exact absurd e.symm (h3 us)
  ·rw[az (bq hj)];exact ok j us h'⟩
theorem SI.setV {Y:Fx}{B:Hp}{ρ:En}{σ:Sg}{H:Hp}(I:SI Y B ρ σ H)(i:Nat){v:V}{t:T}(r:Rep B v t):SI Y B (ρ.set i (.vl t)) (σ.set i (some v)) H where
 s0:=I.s0
 sH:=I.sH
 sB:=I.sB
 old:=I.old
 len:=by rw[bN,bN];exact I.len
 vl:=λj u h=>by
  rcases zx h with ⟨rfl,e⟩ | ⟨hj,h'⟩
  ·cases e;exact⟨v,aU (by rw[← I.len];exact Wg h),r⟩
  ·obtain⟨w,e,rr⟩:=I.vl j u h';exact⟨w,by rw[az (bq hj)];exact e,rr⟩
 ow:=λj us h=>by
  rcases zx h with ⟨rfl,e⟩ | ⟨hj,h'⟩
  ·cases e
  ·obtain⟨a,xs,e,b0,h0,hh,rr,d⟩:=I.ow j us h';refine⟨a,xs,by rw[az (bq hj)];exact e,b0,h0,hh,rr,λk ws hk hw=> ?_⟩
   rcases zx hw with ⟨rfl,e'⟩ | ⟨hk',hw'⟩
   ·cases e'
   ·rw[az (bq hk')];exact d k ws hk hw'
 xc:=λj c h=>by
  rcases zx h with ⟨rfl,e⟩ | ⟨hj,h'⟩
  ·cases e
  ·obtain⟨a,e,r⟩:=I.xc j c h';exact⟨a,by rw[az (bq hj)];exact e,r⟩
 st:=let ⟨as,O,x⟩:=I.st;⟨as,O,x.set i _ _ rfl (λ_=>Sl.noConfusion)⟩
theorem SI.newO {Y:Fx}{B:Hp}{ρ:En}{σ:Sg}{H:Hp}(I:SI Y B ρ σ H)(i:Nat){p:Addr}{xs:List V}{ts:List T}(hp:H p=none)(r:zt B xs ts):SI Y B (ρ.set i (.ow ts)) (σ.set i (some (.ref p))) (upd H p (.lst xs)) where
 s0:=I.s0
 sH:=I.sH.trans (zc.new hp _)
 sB:=I.sB.trans (zc.new hp _)
 old:=I.old
 len:=by rw[bN,bN];exact I.len
 vl:=λj u h=>by
  rcases zx h with ⟨rfl,e⟩ | ⟨hj,h'⟩
  ·cases e
  ·obtain⟨w,e,rr⟩:=I.vl j u h';exact⟨w,by rw[az (bq hj)];exact e,rr⟩
 ow:=λj us h=>by
  have op:∀k ws a,ρ[k]? =some (Sl.ow ws)->σ[k]? =some (some (V.ref a))->a ≠ p:=λk ws a h1 h2=>by
   obtain⟨a',xs',e,_,_,hh,_⟩:=I.ow k ws h1;rw[e]at h2;cases h2;exact zk hh hp
  rcases zx h with ⟨rfl,e⟩ | ⟨hj,h'⟩
  ·cases e;refine⟨p,xs,aU (by rw[← I.len];exact Wg h),I.sB.free hp,I.sH.free hp,zj,r,λk ws hk hw=> ?_⟩
   rcases zx hw with ⟨rfl,e'⟩ | ⟨hk',hw'⟩
   ·exact absurd rfl hk
   ·rw[az (bq hk')];exact λz=>op k ws p hw' z rfl
  ·obtain⟨a,xs',e,b0,h0,hh,rr,d⟩:=I.ow j us h';refine⟨a,xs',by rw[az (bq hj)];exact e,b0,h0,by rw[za (op j us a h' e)];exact hh,rr,λk ws hk hw=> ?_⟩
   rcases zx hw with ⟨rfl,e'⟩ | ⟨hk',hw'⟩
   ·rw[aU (by rw[← I.len];exact Wg hw)]
    intro z;exact op j us a h' e (by injection z with z;injection z with z;injection z with z;exact z.symm)
   ·rw[az (bq hk')];exact d k ws hk hw'
 xc:=λj c h=>by
  rcases zx h with ⟨rfl,e⟩ | ⟨hj,h'⟩
  ·cases e
  ·obtain⟨a,e,r⟩:=I.xc j c h';exact⟨a,by rw[az (bq hj)];exact e,r⟩
 st:=by
  obtain⟨as,O,x⟩:=I.st;refine⟨as,O,x.on (λj y hy h=> ?_) (zc.refl _) rfl rfl (zc.refl _) λb o hb b0 h0 _=> ?_⟩
  ·rcases zx h with ⟨_,e⟩ | ⟨hj,h'⟩
   ·subst e;cases hy
   ·exact⟨h',az (bq hj)⟩
  ·have hne:b ≠ p:=zk hb hp;refine⟨by rw[za hne];exact hb,b0,h0,λok j us h=> ?_⟩
   rcases zx h with ⟨rfl,e⟩ | ⟨hj,h'⟩
   ·rw[aU (by rw[← I.len];exact Wg h)]
    intro z;injection z with z;injection z with z;injection z with z;exact hne z.symm
   ·rw[az (bq hj)];exact ok j us h'
theorem SI.chg {Y:Fx}{B:Hp}{ρ:En}{σ:Sg}{H:Hp}(I:SI Y B ρ σ H)(i:Nat){p:Addr}{ts us:List T}{ys:List V}(hi:ρ[i]? =some (.ow ts))(he:σ[i]? =some (some (.ref p)))(r:zt B ys us):SI Y B (ρ.set i (.ow us)) σ (upd H p (.lst ys)):=by
 obtain⟨p',xs,e,b0,h0,hh,rr,d⟩:=I.ow i ts hi;rw[he]at e;cases e;have nb:∀b o,B b=some o->b ≠ p:=λb o h z=>by subst z;rw[b0]at h;cases h
 have n0:∀b o,Y.H0 b=some o->b ≠ p:=λb o h z=>by subst z;rw[h0]at h;cases h
 refine⟨I.s0,λb o h=>by rw[za (n0 b o h)];exact I.sH b o h,λb o h=>by rw[za (nb b o h)];exact I.sB b o h,I.old,by rw[bN];exact I.len,λj u h=> ?_,λj ws h=> ?_,λj c h=> ?_, ?_⟩
 rotate_right
 ·obtain⟨as,O,x⟩:=I.st;refine⟨as,O,x.on (λj y hy h=> ?_) (zc.refl _) rfl rfl (zc.refl _) λb o hb b0' h0' cs=> ?_⟩
  ·rcases zx h with ⟨_,e⟩ | ⟨hj,h'⟩
   ·subst e;cases hy
   ·exact⟨h',rfl⟩
  ·have hne:b ≠ p:=λz=>by
    subst z;rcases cs with ⟨C,dx,vs,ez⟩ | ok
    ·rw[hh]at hb;cases hb;cases ez
    ·exact ok i ts hi he
   refine⟨by rw[za hne];exact hb,b0',h0',λok j us h=> ?_⟩
   rcases zx h with ⟨rfl,e⟩ | ⟨hj,h'⟩
   ·rw[he];intro z;injection z with z;injection z with z;injection z with z;exact hne z.symm
   ·exact ok j us h'
 rotate_right
 ·rcases zx h with ⟨rfl,z⟩ | ⟨hj,h'⟩
  ·cases z
  ·exact I.xc j c h'
 ·rcases zx h with ⟨rfl,z⟩ | ⟨hj,h'⟩
  ·cases z
  ·exact I.vl j u h'
 ·rcases zx h with ⟨rfl,z⟩ | ⟨hj,h'⟩
  ·cases z;refine⟨p,ys,he,b0,h0,zj,r,λk vs hk hw=> ?_⟩;rcases zx hw with ⟨rfl,e'⟩ | ⟨hk',hw'⟩
   ·exact absurd rfl hk
   ·exact d k vs hk hw'
  ·obtain⟨a,xs',e,c0,g0,gg,ss,d'⟩:=I.ow j ws h';have hne:a ≠ p:=λz=>by subst z;exact d j ws hj h' e
   refine⟨a,xs',e,c0,g0,by rw[za hne];exact gg,ss,λk vs hk hw=> ?_⟩
   rcases zx hw with ⟨rfl,e'⟩ | ⟨hk',hw'⟩
   ·rw[he];intro z;injection z with z;injection z with z;injection z with z;exact hne z.symm
   ·exact d' k vs hk hw'
noncomputable def y9:Sl->Sl
 | .ow ts=> .vl (.lst ts)
 | .ob _ _=> .un
 | .st _=> .un
 | x=>x
def frz (ρ:En):En:=ρ.map y9
theorem SI.up {Y:Fx}{B:Hp}{ρ:En}{σ:Sg}{H:Hp}(I:SI Y B ρ σ H):zc B (zv B Y.H0 H):=λb o h=>by
 cases q:Y.H0 b with
 | none=>rw[zD q];exact I.sB b o h
 | some u=>rw[zE q];exact h
theorem SI.frz {Y:Fx}{B:Hp}{ρ:En}{σ:Sg}{H:Hp}(I:SI Y B ρ σ H):SI Y (zv B Y.H0 H) (PV.frz ρ) σ H:=by
 have up:zc B (zv B _ H):=λb o h=>by
  cases q:Y.H0 b with
  | none=>rw[zD q];exact I.sB b o h
  | some u=>rw[zE q];exact h
 refine⟨I.s0,I.sH,λb o h=> ?_,λb o h=>by rw[zE h];exact I.old b o h,by unfold PV.frz;rw[aD];exact I.len,λj t h=> ?_,λj ts h=> ?_,λj c h=> ?_, ?_⟩
 rotate_right
 ·have no:∀(j:Nat) (y:Sl),y.isS=true->(PV.frz ρ)[j]? ≠ some y:=λj y hy h=>by
   unfold PV.frz at h;rw[av]at h;cases e:ρ[j]? with
   | none=>rw[e]at h;cases h
   | some x=>rw[e]at h;cases x <;> (cases h;cases hy)
  obtain⟨as,O,x⟩:=I.st;refine⟨Y.as,λ_=>none,du _,λi os e=>(no i _ rfl e).elim,λi j os os' e=>(no i _ rfl e).elim,λi k n e=>(no i _ rfl e).elim,λi k fs h=> ?_,λi os e=>(no i _ rfl e).elim⟩;have h' :ρ[i]? =some (Sl.oc k fs):=by
   unfold PV.frz at h;rw[av]at h;cases e:ρ[i]? with
   | none=>rw[e]at h;cases h
   | some x=>rw[e]at h;cases x <;> (cases h;try rfl)
  obtain⟨a,C,dx,vs,e1,e2,e3,e4,e5⟩:=x.oc i k fs h';exact⟨a,C,dx,vs,e1,e2,e3,e4,e5.mono up (zc.refl _)⟩
 rotate_right
 ·unfold PV.frz at h;rw[av]at h;cases e:ρ[j]? with
  | none=>rw[e]at h;cases h
  | some x=>
   rw[e]at h;cases x with
   | xc d=>
    cases h;obtain⟨a,e1,r⟩:=I.xc j _ e;exact⟨a,e1,up a _ r⟩
   | un=>cases h
   | vl _=>cases h
   | ow _=>cases h
   | ob _ _=>cases h
   | oc _ _=>cases h
   | st _=>cases h
 ·cases q:Y.H0 b with
  | none=>rw[zD q]at h;exact h
  | some u=>rw[zE q]at h;exact I.sB b o h
 ·unfold PV.frz at h;rw[av]at h;cases e:ρ[j]? with
  | none=>rw[e]at h;cases h
  | some x=>
   rw[e]at h;cases x with
   | un=>cases h
   | vl u=>
    cases h;obtain⟨v,e1,r⟩:=I.vl j _ e;exact⟨v,e1,r.mono up⟩
   | ow us=>
    cases h;obtain⟨a,xs,e1,b0,h0,hh,rr,_⟩:=I.ow j us e;exact⟨.ref a,e1,.lst (by rw[zD h0];exact hh) (rr.mono up)⟩
   | xc _=>cases h
   | ob _ _=>cases h
   | oc _ _=>cases h
   | st _=>cases h
 ·unfold PV.frz at h;rw[av]at h;cases e:ρ[j]? with
  | none=>rw[e]at h;cases h
  | some x=>
   rw[e]at h;cases x with
   | un=>cases h
   | vl u=>cases h
   | ow us=>cases h
   | xc _=>cases h
   | ob _ _=>cases h
   | oc _ _=>cases h
   | st _=>cases h
theorem Ys {Y:Fx}{B H H' :Hp}(s0:zc Y.H0 H)(old:∀b o,Y.H0 b=some o->B b=Y.B0 b)(s:zc H H')(sB:zc B H):zc (zv B H H') (zv Y.B0 Y.H0 H'):=λb o h=>by
 cases q:H b with
 | none=>
  rw[zD q]at h;rw[zD (s0.free q)];exact h
 | some u=>
  rw[zE q]at h;cases z:Y.H0 b with
  | none=>rw[zD z];exact s b o (sB b o h)
  | some w=>rw[zE z,← old b w z];exact h
section
variable {X:Cx}{Y:Fx}{a b c d:Expr}{fa fb fc fd:En->R T}{pos p:Pos}{st:Stmt}{sts sts' :List Stmt}{f g:En->RS}
def nxS:En->RS:=λρ=> .nx ρ
def zu (f g:En->RS):En->RS:=λρ=>match f ρ with
 | .nx ρ' =>g ρ'
 | r=>r
theorem XI:jo X Y [] nxS:= .mk λρ=>PSs.imp qe λD σ H ⟨B,I,q⟩=>q σ H B (zc.refl B) I
theorem XJ (h:ZA X Y st f):jo X Y [st] f:= .mk λρ=>uu (h ρ)
theorem vY (h1:ZA X Y st f)(h2:jo X Y sts g):jo X Y (st :: sts) (zu f g):= .mk λρ=>by
 refine PSs.imp (yf (u:=λD σ H=>∃ρ',tSS Y g ρ' D σ H) (h1 ρ) ?_) ?_
 ·intro pins s σ H D I ⟨ρ',q⟩;exact h2 ρ' _ s σ H D I q
 ·intro D σ H ⟨B,I,q⟩;refine⟨B,I, ?_⟩;unfold zu at q;cases e:f ρ with
  | nx ρ' =>
   rw[e]at q;intro σ' H' B' s' I';exact⟨ρ',B',I',PoS.up s' q⟩
  | rt t=>rw[e]at q;exact q
  | rf t=>rw[e]at q;exact q
  | bk ρ' =>rw[e]at q;exact q
  | ct ρ' =>rw[e]at q;exact q
  | ex c=>rw[e]at q;exact q
  | bad=>rw[e]at q;exact q
def zZ (i:Nat)(fa:En->R T):En->RS:=λρ=>(fa ρ).s λt=> .nx (ρ.set i (.vl t))
theorem XL {i:Nat}{x:Str}{p' :Pos}(hN:X.N.Nodup)(hi:X.N[i]? =some x)(hx:L2.Loc X.env.scope x)(ha:Snd X Y a fa)(hs:swapsWith a (some (.Name x p')) pos.line X.env=pure false:=by rfl)
  (hf:X.fn x=true\/X.env.scope.names.lookup x=some .local:=by first | exact .inl rfl | exact .inr rfl | assumption):ZA X Y (.Assign [.Name x p'] a pos) (zZ i fa):= .mk λρ=>
 PS.imp (Yl hN hi hx (ha ρ) hs hf) λD σ H ⟨B,I,q⟩=>Jb I q λt v H1 _ s1 r1 I1 q1=>q1 _ _ _ (zc.refl _) (I1.setV i r1)
def yx (i:Nat)(ga:En->R (List T)):En->RS:=λρ=>(ga ρ).s λts=>if ts.length<=bnd then .nx (ρ.set i (.ow ts)) else .bad
theorem vZ {i:Nat}{x:Str}{p' :Pos}{es:List Expr}{ga:En->R (List T)}(hN:X.N.Nodup)(hi:X.N[i]? =some x)(hx:L2.Loc X.env.scope x)(ha:jl X Y es ga)(hs:swapsWith (.List es p) (some (.Name x p')) pos.line X.env=pure false:=by rfl)
  (hf:X.fn x=true\/X.env.scope.names.lookup x=some .local:=by first | exact .inl rfl | exact .inr rfl | assumption):ZA X Y (.Assign [.Name x p'] (.List es p) pos) (yx i ga):= .mk λρ=>
 PS.imp (Yl hN hi hx (Yn (ha ρ)) hs hf) λD σ H ⟨B,I,q⟩=>Jb I q λts vs H1 _ s1 r1 I1 q1=>by
  split at q1
  ·rename_i hb;exact⟨by rw[r1.length];exact Z2 hb,λp hp=>q1 _ _ _ (zc.refl _) (I1.newO i hp r1)⟩
  ·exact q1.elim
def zI (fa:En->R T):En->RS:=λρ=>(fa (frz ρ)).s λt=> .rt t
theorem XM (ha:Snd X Y a fa):ZA X Y (.Return (some a) pos) (zI fa):= .mk λρ=>
 PS.imp (Yk (ha _)) λD σ H ⟨B,I,q⟩=>by
  refine⟨_,I.frz, ?_⟩;unfold zI at q;cases e:fa _ with
  | bad=>rw[e]at q;exact q
  | ex c=>
   rw[e]at q;exact λd H' s0 sG=>q d H' s0 (I.up.trans sG)
  | ok t=>
   rw[e]at q;intro v H' s r;have J:=I.frz;exact q v H' (I.sH.trans s) (r.mono (Ys J.sH J.old s J.sB))
def ifS (g:En->R Bool)(f1 f2:En->RS):En->RS:=λρ=>(g ρ).s λk=>if k=true then f1 ρ else f2 ρ
theorem XN {ga:En->R Bool}(hc:Jx X Y c ga)(h1:jo X Y sts f)(h2:jo X Y sts' g):ZA X Y (.If c sts sts' pos) (ifS ga f g):= .mk λρ=>
 PS.imp (xZ (hc ρ) (h1 ρ) (h2 ρ)) λD σ H ⟨B,I,q⟩=>Jb I q λt v H1 _ s1 r1 I1 q1=>by
  have r1' :=r1;subst r1';cases v with
  | true=>exact⟨_,I1,q1⟩
  | false=>exact⟨_,I1,q1⟩
def uZ (fa:En->R T):En->RS:=λρ=>(fa ρ).s λ_=> .nx ρ
theorem V0 (ha:Snd X Y a fa)(hs:swapsWith a none pos.line X.env=pure false:=by rfl):ZA X Y (.Expr a pos) (uZ fa):= .mk λρ=>
 PS.imp (wP (ha ρ) hs) λD σ H ⟨B,I,q⟩=>Jb I q λt v H1 _ s1 r1 I1 q1=>q1 _ _ _ (zc.refl _) I1
def wU (i:Nat)(fa:En->R T):En->RS:=λρ=>match ρ[i]? with
 | some (.ow ts)=>(fa ρ).s λt=>if ts.length < bnd then .nx (ρ.set i (.ow (ts++[t]))) else .bad
 | _=> .bad
def Wh (i:Nat)(fa:En->R T):En->RS:=λρ=>match ρ[i]? with
 | some (.ow ts)=>(fa ρ).s λt=>match t with
  | .lst us=>if ts.length+us.length<=bnd then .nx (ρ.set i (.ow (ts++us))) else .bad
  | _=> .bad
 | _=> .bad
theorem V1 {n:Nat}(h:n < bnd):n < sizeLine:=by exact h
theorem XO {i:Nat}{x:Str}{px pa:Pos}(hv:PE X (.Name x px) (yd i))(ha:Snd X Y a fa)(hb:attributeBase (.Name x px) "append" X.env (eval (.Name x px) X.env)=eval (.Name x px) X.env:=by rfl)(hs:St1 X a:=by exact st1 rfl)
  (hz:(pa.endLine == p.line)=true:=by rfl) (hw:swapsWith (.Call (.Attribute (.Name x px) "append" pa) [a] [] p) none pos.line X.env=pure false:=by rfl):ZA X Y (.Expr (.Call (.Attribute (.Name x px) "append" pa) [a] [] p) pos) (wU i fa):= .mk λρ=>by
 have e1:(((((backTo p (starEach [a] X.env)).all λx=> !x.fst) && (backToKw p (keywordEach [] X.env)).all λx=>x.fst.isSome) && decide (([a].length+([]:List Keyword).length+if ([]:List Keyword).isEmpty=true then 0 else 1) < 30))=true):=by rw[hs];rfl
 refine PS.imp (wP (J8 bV PySem.F.slot_list_append PySem.F.type_list_append jG hv (zo (ha ρ) zK hs) hb e1 hz hs rfl) hw) λD σ H ⟨B,I,q⟩=> ?_;unfold wU at q;split at q
 ·rename_i ts e;obtain⟨l,xs,e1,b0,h0,hh,rr,d⟩:=I.ow i ts e;refine⟨.ref l,e1,.inl ⟨rfl,_,SqL.of hh⟩, ?_⟩;refine Jb I q λt v H1 _ s1 r1 I1 q1=> ?_;split at q1
  ·rename_i hb;refine⟨l,xs,v,rfl,rfl,s1 _ _ hh,by rw[rr.length];exact V1 hb, ?_⟩
   exact q1 _ _ _ (zc.refl _) (I1.chg i e e1 ((rr.mono (zv.ge I.sB s1)).append (.cons r1 .nil)))
  ·exact q1.elim
 ·exact q.elim
theorem XQ {i:Nat}{x:Str}{px pa:Pos}(hv:PE X (.Name x px) (yd i))(ha:Snd X Y a fa)(hb:attributeBase (.Name x px) "extend" X.env (eval (.Name x px) X.env)=eval (.Name x px) X.env:=by rfl)(hs:St1 X a:=by exact st1 rfl)
  (hz:(pa.endLine == p.line)=true:=by rfl) (hw:swapsWith (.Call (.Attribute (.Name x px) "extend" pa) [a] [] p) none pos.line X.env=pure false:=by rfl):ZA X Y (.Expr (.Call (.Attribute (.Name x px) "extend" pa) [a] [] p) pos) (Wh i fa):= .mk λρ=>by
 have e1:(((((backTo p (starEach [a] X.env)).all λx=> !x.fst) && (backToKw p (keywordEach [] X.env)).all λx=>x.fst.isSome) && decide (([a].length+([]:List Keyword).length+if ([]:List Keyword).isEmpty=true then 0 else 1) < 30))=true):=by rw[hs];rfl
 refine PS.imp (wP (J8 bV PySem.F.slot_list_extend PySem.F.type_list_extend uG hv (zo (ha ρ) zK hs) hb e1 hz hs rfl) hw) λD σ H ⟨B,I,q⟩=> ?_;unfold Wh at q;split at q
 ·rename_i ts e;obtain⟨l,xs,e1,b0,h0,hh,rr,d⟩:=I.ow i ts e;refine⟨.ref l,e1,.inl ⟨rfl,_,SqL.of hh⟩, ?_⟩;refine Jb I q λt v H1 _ s1 r1 I1 q1=> ?_;cases r1 with
  | @lst b zs us hb r=>
   have q1:PoS Y _ (if ts.length+us.length<=bnd then .nx _ else .bad) D:=q1
   split at q1
   ·rename_i hl;refine⟨l,b,xs,zs,rfl,rfl,s1 _ _ hh,I1.sB _ _ hb,by rw[rr.length,r.length];exact Z2 hl, ?_⟩
    exact q1 _ _ _ (zc.refl _) (I1.chg i e e1 ((rr.mono (zv.ge I.sB s1)).append r))
   ·exact q1.elim
  | _=>exact q1.elim
 ·exact q.elim
end
def spP (cl:Nat->Value)(n:Nat)(g:List T->R T):Sp:=λvs H Q E=>∃B ts,ts.length=n/\zc B H/\zt B vs ts/\Po ⟨B,H,E,cl,[]⟩ rC B H (g ts) Q
theorem spP.len {cl:Nat->Value}{n:Nat}{g:List T->R T}(vs:List V)(H:Hp)(Q:VK)(E:XK)(h:spP cl n g vs H Q E):vs.length=n:=by
 obtain⟨B,ts,hl,_,r,_⟩:=h;rw[r.length,hl]
def z8 (n:Nat)(g:List T->R T)(ga:En->R (List T)):En->R T:=λρ=>(ga ρ).bind λts=>if ts.length=n then g ts else .bad
section
variable {X:Cx}{Y:Fx}{a b c d:Expr}{fa fb fc fd:En->R T}{pos p:Pos}
theorem Yt {CX:CXT}{k n:Nat}{f:Addr}{fd:FuncData}{ps:List Str}{g:List T->R T}{x:Str}{es:List Expr}{ga:En->R (List T)}(F:W8 X.prog X.w X.K X.mg X.base CX k f fd ps (spP Y.cl n g))(hr:Z1 k X.A)(gl:Gl X x)(mg:X.mg x=some (.ref f))
  (kp:bB X.K (.ref f)=true) (bd:L2.Binds X.K fd ps []) (hx:zO CX X Y.E) (ha:jl X Y (a :: es) ga) (hd:(x == ("__debug__":Str))=false:=by decide)
  (hs:starEach (a :: es) X.env=(false,eval a X.env) :: starEach es X.env:=by exact zw rfl) (hz:((backTo pos (starEach es X.env)).any λx=>x.fst)=false:=by exact zS rfl):Snd X Y (.Call (.Name x p) (a :: es) [] pos) (z8 n g ga):= .mk λρ=>
 PE.imp (qo F hr gl mg kp bd .nil hx (ha ρ) hd hs hz) λσ H Q ⟨B,I,q⟩=>step I q λts vs H1 _ s1 r1 I1 q1=>by
  split at q1
  ·rename_i hn;rw[aK];refine⟨_,ts,hn,I1.sB,r1, ?_⟩;revert q1;cases g ts with
   | bad=>exact λq1=>q1
   | ex c=>exact λq1 d H' s sB=>q1 d H' (I1.sH.trans s) sB
   | ok t=>exact λq1=>q1
  ·exact q1.elim
end
noncomputable def zC:RS->R T
 | .rt t=> .ok t
 | .rf ts=> .ok (.lst ts)
 | .nx _=> .ok .non
 | .ex c=> .ex c
 | _=> .bad
def en0 (n:Nat)(ts:List T):En:=ts.map Sl.vl++au (n - ts.length) Sl.un
theorem zt.vl {H:Hp}:∀{vs:List V} {ts:List T} {i:Nat} {t:T} {n m:Nat},zt H vs ts->(ts.map Sl.vl++au n Sl.un)[i]? =some (Sl.vl t)->∃v:V,(vs.map some++au m none)[i]? =some (some v)/\Rep H v t
 | _,_,i,t,n,m,.nil,h=>by
  simp only[d7,bO]at h;rw[aw]at h;split at h
  ·cases h
  ·cases h
 | _,_,0,t,n,m,.cons r _,h=>by
  simp at h;subst h;exact⟨_,rfl,r⟩
 | _,_,i+1,t,n,m,.cons _ q,h=>by
  obtain⟨v,h1,h2⟩:=zt.vl q (by simpa using h)
  exact⟨v,by simpa using h1,h2⟩
theorem Yu {n:Nat}:∀{ts:List T} {i:Nat} {us:List T},(ts.map Sl.vl++au n Sl.un)[i]? =some (Sl.ow us)->False
 | [],i,us,h=>by
  simp only[d7,bO]at h;rw[aw]at h;split at h
  ·cases h
  ·cases h
 | t :: ts,0,us,h=>by simp at h
 | t :: ts,i+1,us,h=>Yu (by simpa using h)
theorem Yv {n:Nat}:∀{ts:List T} {i:Nat} {c:Nat},(ts.map Sl.vl++au n Sl.un)[i]? =some (Sl.xc c)->False
 | [],i,us,h=>by
  simp only[d7,bO]at h;rw[aw]at h;split at h
  ·cases h
  ·cases h
 | t :: ts,0,us,h=>by simp at h
 | t :: ts,i+1,us,h=>Yv (by simpa using h)
theorem U0 {n:Nat}{x:Sl}(h1:∀t,x ≠ .vl t)(h2:x ≠ .un):∀{ts:List T} {i:Nat},(ts.map Sl.vl++au n Sl.un)[i]? =some x->False
 | [],i,h=>by
  simp only[d7,bO]at h;rw[aw]at h;split at h
  ·exact h2 (ak h).symm
  ·cases h
 | t :: ts,0,h=>h1 t (ak (by simpa using h)).symm
 | t :: ts,i+1,h=>U0 h1 h2 (by simpa using h)
theorem SI.start {Y:Fx}{N:List Str}{vs:List V}{ts:List T}(s:zc Y.B0 Y.H0)(r:zt Y.B0 vs ts):SI Y Y.B0 (en0 N.length ts) (L2.start N vs) Y.H0 where
 s0:=s
 sH:=zc.refl _
 sB:=s
 old:=λ_ _ _=>rfl
 len:=by unfold en0 L2.start;simp[r.length]
 vl:=λi t h=>r.vl h
 ow:=λi ts h=>(Yu h).elim
 xc:=λi c h=>(Yv h).elim
 st:=StI.no λi s hs h=>U0 (λt z=>by rw[z]at hs;cases hs) (λz=>by rw[z]at hs;cases hs) h
section
variable {P:Program}{w:World}{K:a6}{mg:Str->Option Value}{base:Heap}
theorem XR {cl:Nat->Value}{x qual:Str}{st:Stmt}{f:Addr}{fd:FuncData}{N ps:List Str}{k n:Nat}{fb:En->RS}{g:List T->R T}(F:Fun K x qual st f fd)(S:zX N ps (z6 st))(hn:n=ps.length)
  (hb:∀(cdv:Value) (A:Around) (outer:List Env) (s:Shared) (H:Hp) (E:XK) (Y:Fx),Y.cl=cl->Z1 k (A.deeper (envOfC qual (z6 st) s.heap.objs.size f cdv))->
   jo (zU CX0 P w K mg base N qual (z6 st) f cdv A outer s H E).nox Y (zq st) fb)
  (hg:∀ts,ts.length=n->g ts=zC (fb (en0 N.length ts))):W8 P w K mg base CX0 (k+1) f fd ps (spP cl n g):=by
 subst hn;refine F.ok S spP.len λcdv A outer s H vs Q E hr ⟨B,ts,hl,sB,r,q⟩=> ?_;refine⟨_,hb cdv A _ s H E ⟨B,H,E,cl,[]⟩ rfl hr _,B,SI.start sB r, ?_⟩;rw[hg ts hl]at q;revert q;cases fb _ with
 | rt t=>exact λq v H' s r=>q v H' s r
 | rf t=>exact λq a xs H' B' s0 n e r _ l=>q _ H' s0 (.lst (by rw[zD n];exact e) (r.mono l))
 | nx ρ=>exact λq σ' H' B' _ I=>q _ H' I.sH .non
 | ex c=>exact λq=>q
 | bk ρ=>exact λq=>q.elim
 | ct ρ=>exact λq=>q.elim
 | bad=>exact λq=>q
end
abbrev rI:Hp->Hp->It->List T->Prop:=λB1 _ J ts=>∀B2 H2,zc B1 B2->zc B2 H2->(∀i,i < ts.length->J.go i H2)/\(∀(i:Nat) t x H3,ts[i]? =some t->J.yld i H2 x H3->zc H2 H3/\Rep (zv B2 H2 H3) x t)/\(∀i,ts.length<=i->J.stop i H2)
structure wj (X:Cx) (Y:Fx) (tg iter:Expr) (f:En->R (List T)):Prop where
 mk ::
 go:∀ρ,PI X tg iter (tS Y rI f ρ)
instance {X:Cx}{Y:Fx}{tg iter:Expr}{f:En->R (List T)}:CoeFun (wj X Y tg iter f) λ_=>∀ρ,PI X tg iter (tS Y rI f ρ):=⟨wj.go⟩
section
variable {X:Cx}{Y:Fx}{a b c d tg:Expr}{fa fb fc fd:En->R T}{pos p:Pos}
theorem PI.imp {e:Expr}{t t' :TI}(h:PI X tg e t)(i:∀σ H Q,t' σ H Q->t σ H Q):PI X tg e t' :=λpins s σ H Q I q=>h _ s σ H Q I (i σ H Q q)
theorem V2 {K:a6}{B1 H1:Hp}{a:Addr}{xs:List V}{ts:List T}(h:B1 a=some (.tup xs))(r:zt B1 xs ts):rI B1 H1 (Itt K a) ts:=λB2 H2 s1 s2=>by
 have h2:=s2 _ _ (s1 _ _ h);refine⟨λi hi=> ?_,λi t x H3 e y=> ?_,λi hi=>⟨xs,SqT.of h2,by rw[r.length];exact hi⟩⟩
 ·obtain⟨v,e,_⟩:=r.get (aF hi);exact⟨xs,v,SqT.of h2,e⟩
 ·obtain⟨rfl,y⟩:=y;obtain⟨v,e1,r1⟩:=r.get e;have:=y xs (SqT.of h2);rw[e1]at this;cases this;refine⟨zc.refl _, ?_⟩;rw[zv.self B2 _ s2];exact r1.mono s1
theorem V3 {K:a6}{B1 H1:Hp}{a:Addr}{xs:List V}{ts:List T}(h:B1 a=some (.lst xs))(r:zt B1 xs ts):rI B1 H1 (Itl K a) ts:=λB2 H2 s1 s2=>by
 have h2:=s2 _ _ (s1 _ _ h);refine⟨λi hi=> ?_,λi t x H3 e y=> ?_,λi hi=>⟨xs,SqL.of h2,by rw[r.length];exact hi⟩⟩
 ·obtain⟨v,e,_⟩:=r.get (aF hi);exact⟨xs,v,SqL.of h2,e⟩
 ·obtain⟨rfl,y⟩:=y;obtain⟨v,e1,r1⟩:=r.get e;have:=y xs (SqL.of h2);rw[e1]at this;cases this;refine⟨zc.refl _, ?_⟩;rw[zv.self B2 _ s2];exact r1.mono s1
noncomputable def rng (lo:Int)(n:Nat):List T:=(bF n).map λ(i:Nat)=>T.int (lo+(i:Int))
theorem V4 {B1 H1:Hp}{lo:Int}{n:Nat}:rI B1 H1 (Itr lo n) (rng lo n):=λB2 H2 s1 s2=>by
 have hl:(rng lo n).length=n:=by unfold rng;simp
 refine⟨λi hi=>by rw[hl]at hi;exact hi,λi t x H3 e y=> ?_,λi hi=>by rw[hl]at hi;exact hi⟩
 obtain⟨rfl,rfl⟩:=y;refine⟨zc.refl _, ?_⟩;unfold rng at e;rw[av]at e
 by_cases hi:i < n
 ·rw[List.getElem?_range hi]at e;cases e;exact .int _
 ·rw[cN (by simp;omega)]at e;cases e
def qY (fa:En->R T):En->R (List T):=λρ=>(fa ρ).bind λt=>match t with
 | .int j=>if -1000000 < j/\j < 1000000 then .ok (rng 0 j.toNat) else .bad
 | _=> .bad
theorem V5 (gl:Gl X "range")(mg:X.mg "range"=none)(ha:Snd X Y a fa)(hs:St1 X a:=by exact st1 rfl):wj X Y tg (.Call (.Name "range" p) [a] [] pos) (qY fa):= .mk λρ=>PI.imp (ux gl mg (zo (ha ρ) zK hs) hs) λσ H R ⟨B,I,q⟩=>step I q λt v H1 _ s1 r1 I1 q1=>by
 cases r1 with
 | int j=>
  have q1:Po Y rI _ H1 (if -1000000 < j/\j < 1000000 then .ok _ else .bad) R:=q1
  split at q1
  ·exact⟨j,rfl,by omega,by omega,Zf I1 q1 V4⟩
  ·exact q1.elim
 | _=>exact q1.elim
def V6 (X:Cx)(Y:Fx)(tg:Expr)(g:T->En->R En):Prop:=∃t:TG,PG X tg t/\∀B ρ σ H v x Q,SI Y B ρ σ H->Rep B v x->(match g x ρ with | .ok ρ' =>∀σ',SI Y B ρ' σ' H->Q σ' H | _=>False)->t v σ H Q
def Z4 (i:Nat):T->En->R En:=λt ρ=> .ok (ρ.set i (.vl t))
theorem Yw {i:Nat}{x:Str}(hN:X.N.Nodup)(hi:X.N[i]? =some x)(hx:L2.Loc X.env.scope x)(hf:X.fn x=true\/X.env.scope.names.lookup x=some .local:=by first | exact .inl rfl | exact .inr rfl | assumption):V6 X Y (.Name x pos) (Z4 i):=
 ⟨JZ i,j7 hN hi hx hf,λB ρ σ H v x Q I r q=>q _ (I.setV i r)⟩
def jw (i j:Nat):T->En->R En:=λt ρ=>match t with
 | .tup [x,y]=> .ok ((ρ.set i (.vl x)).set j (.vl y))
 | _=> .bad
theorem V7 {i j:Nat}{x y:Str}{p' p2:Pos}{k:Nat}(hc:X.calm=true)(hN:X.N.Nodup)(hi:X.N[i]? =some x)(hj:X.N[j]? =some y)(hx:L2.Loc X.env.scope x)(hy:L2.Loc X.env.scope y)
  (hf:X.fn x=true\/X.env.scope.names.lookup x=some .local:=by first | exact .inl rfl | exact .inr rfl | assumption) (hf' :X.fn y=true\/X.env.scope.names.lookup y=some .local:=by first | exact .inl rfl | exact .inr rfl | assumption):
  V6 X Y (.Tuple [.Name x pos,.Name y p'] k p2) (jw i j):=by
 refine⟨K2 X.K 2 _,vi hc (W7 (j7 hN hi hx hf) (W7 (j7 hN hj hy hf') qf)),λB ρ σ H v t Q I r q=> ?_⟩;cases r with
 | @tup l xs ts h r=>
  cases r with
  | nil=>exact q.elim
  | cons r1 rr=>
   cases rr with
   | nil=>exact q.elim
   | cons r2 rr=>
    cases rr with
    | cons _ _=>exact q.elim
    | nil=>
     exact⟨l,_,rfl,SqT.of (I.sB _ _ h),rfl,_,_,rfl,_,_,rfl,rfl,q _ ((I.setV i r1).setV j r2)⟩
 | _=>exact q.elim
def Jc (g:T->En->R En)(fb:En->RS):List T->En->RS
 | [],ρ=> .nx ρ
 | t :: ts,ρ=>match g t ρ with
  | .ok ρ1=>match fb ρ1 with
   | .nx ρ2=>Jc g fb ts ρ2
   | .ct ρ2=>Jc g fb ts ρ2
   | .bk ρ2=> .nx ρ2
   | r=>r
  | .ex c=> .bad
  | .bad=> .bad
def Yx (fi:En->R (List T))(g:T->En->R En)(fb:En->RS):En->RS:=λρ=>(fi ρ).s λts=>Jc g fb ts ρ
theorem V8 {iter:Expr}{sts:List Stmt}{fi:En->R (List T)}{g:T->En->R En}{fb:En->RS}(hp:PassesOwn (model X.prog X.w) X.A X.env X.xe)(hc:X.calm=true)(hi:wj X Y tg iter fi)(hg:V6 X Y tg g)(hb:jo X Y sts fb)
  (hs:∀x,foldedSetIterable iter X.env x=pure x:=by intro _;rfl):ZA X Y (.For tg iter sts [] pos) (Yx fi g fb):= .mk λρ=>by
 obtain⟨tG,hG,hG'⟩:=hg;refine PS.imp (vj (tb:=λD σ H=>∃ρ',tSS Y fb ρ' D σ H) hp hc (hi ρ) hG (λpins s σ H D I ⟨ρ',q⟩=>hb ρ' _ s σ H D I q) hs) λD σ H ⟨B,I,q⟩=> ?_;refine Jb I q λts J H1 _ s1 r1 I1 q1=> ?_;refine⟨λi m σ' H' =>m=ts.length - i/\i<=ts.length/\∃ρ' B',SI Y B' ρ' σ' H' /\zc _ B' /\PoS Y B' (Jc g fb (ts.drop i) ρ') D,⟨ts.length,by simp,bR _,ρ,_,I1,zc.refl _,q1⟩, ?_⟩
 rintro i m σ' H' ⟨rfl,hi,ρ',B',I',sB',q'⟩
 obtain⟨hgo,hyld,hstop⟩:=r1 B' H' sB' I'.sB
 by_cases hlt:i < ts.length
 ·refine .inr ⟨hgo i hlt,λσ2 H2=>∃ρ2 B2,SI Y B2 ρ2 σ2 H2/\zc _ B2/\PoS Y B2 _ D,λσ2 H2 ⟨ρ2,B2,I2,s2,q2⟩=>⟨ts.length - (i+1),by omega,rfl,hlt,ρ2,B2,I2,s2,q2⟩,λx H2 y=> ?_⟩
  obtain⟨s2,r2⟩:=hyld i _ x H2 (aF hlt) y;rw[bi hlt]at q';unfold Jc at q';refine hG' _ ρ' σ' H2 x _ _ (I'.grow s2) r2 ?_;cases eg:g _ ρ' with
  | bad=>rw[eg]at q';exact q'
  | ex c=>rw[eg]at q';exact q'
  | ok ρ1=>
   rw[eg]at q';intro σ1 J1;refine⟨ρ1,_,J1, ?_⟩;have q2:=PoS.up (zv.ge I'.sB s2) q';dsimp only at q2;have s3:=sB'.trans (zv.ge I'.sB s2);revert q2;cases fb ρ1 with
   | nx ρ2=>exact λq2 σ3 H3 B3 s4 I3=>⟨ρ2,B3,I3,s3.trans s4,PoS.up s4 q2⟩
   | ct ρ2=>exact λq2 σ3 H3 B3 s4 I3=>⟨ρ2,B3,I3,s3.trans s4,PoS.up s4 q2⟩
   | bk ρ2=>exact λq2=>q2
   | rt t=>exact λq2=>q2
   | rf t=>exact λq2=>q2
   | ex c=>exact λq2=>q2
   | bad=>exact λq2=>q2
 ·have e:i=ts.length:=by omega
  subst e;rw[cR]at q';exact .inl ⟨hstop _ (ag _),q' σ' H' B' (zc.refl _) I'⟩
end
theorem jM {env:Env}:∀(ns:List (Str×NameKind)) (acc:List (Str×Addr)),(∀x∈ns,x.2=NameKind.free->∃c,env.cells.lookup x.1=some c)->(∀x c,acc.lookup x=some c->env.cells.lookup x=some c)->
  ∃cl,(forIn ns acc (λ(x:Str×NameKind) (r:List (Str×Addr))=>if (x.2 == NameKind.free)=true then (do let c ← cellOf env x.1;pure (ForInStep.yield ((x.1,c) :: r))) else pure (ForInStep.yield r)):Sem _)=pure cl/\
   (∀x c,cl.lookup x=some c->env.cells.lookup x=some c)/\(∀x c,acc.lookup x=some c->∃c',cl.lookup x=some c')/\(∀x∈ns,x.2=NameKind.free->∃c,cl.lookup x.1=some c)
 | [],acc,_,h=>⟨acc,rfl,h,λx c e=>⟨c,e⟩,λx hx=>by simp at hx⟩
 | (n,k) :: ns,acc,hf,h=>by
  by_cases hk:k=NameKind.free
  ·obtain⟨c,hc⟩:=hf _ ac hk;have h' :∀x d,((n,c) :: acc).lookup x=some d->env.cells.lookup x=some d:=λx d e=>by
    by_cases hx:x=n
    ·subst hx;have e' :=by simpa[ai] using e
     cases e';exact hc
    ·have e' :=by
      rw[ai,(beq_eq_false_iff_ne.mpr hx)]at e;exact e
     exact h x d e'
   obtain⟨cl,e,h1,h2,h3⟩:=jM ns _ (λx hx=>hf x (a8 _ hx)) h';refine⟨cl, ?_,h1,λx d ed=> ?_,λx hx hxf=> ?_⟩
   ·rw[c_];subst hk;have q:cellOf env n=pure c:=by unfold cellOf;rw[hc]
    simp only[beq_self_eq_true,if_true,q];exact e
   ·by_cases hx:x=n
    ·subst hx;exact h2 x c (by simp[ai])
    ·exact h2 x d (by rw[ai,(beq_eq_false_iff_ne.mpr hx)];exact ed)
   ·rcases aj.mp hx with rfl | hx
    ·exact h2 n c (by simp[ai])
    ·exact h3 x hx hxf
  ·obtain⟨cl,e,h1,h2,h3⟩:=jM ns acc (λx hx=>hf x (a8 _ hx)) h;refine⟨cl, ?_,h1,h2,λx hx hxf=> ?_⟩
   ·rw[c_];have q:(k == NameKind.free)=false:=by simpa using hk
    simp only[q,bK,if_false];exact e
   ·rcases aj.mp hx with rfl | hx
    ·exact absurd hxf hk
    ·exact h3 x hx hxf
theorem JA {scope:Scope}{env:Env}(hf:∀x∈scope.names,x.2=NameKind.free->∃c,env.cells.lookup x.1=some c):
  ∃cl,closureFor scope env=pure cl/\(∀x c,cl.lookup x=some c->env.cells.lookup x=some c)/\(∀x∈scope.names,x.2=NameKind.free->∃c,cl.lookup x.1=some c):=by
 obtain⟨cl,e,h1,_,h3⟩:=jM _ [] hf (λx c e=>by simp at e)
 refine⟨cl, ?_,h1,h3⟩;unfold closureFor;exact(by simpa using e)
def cxC (X:Cx)(scope:Scope)(N' :List Str)(cl:List (Str×Addr))(C:Addr)(s3:Shared)(H3:Hp)(fp:List Addr)(pins:List (Addr×Obj)):Cx:=
 { X with N:=N',s₀:=s3,H₀:=H3,env:=compEnvC scope cl C X.env,outer:=X.stack,stack:=X.stack,ex:=fp,fn:=λ_=>false,pn:=X.pn++pins,xe:=λ_ _=>False }
structure CSc (X:Cx) (scope:Scope):Prop where
 kind:scope.kind= .function
 nocell:∀x∈scope.names,x.2 ≠ .cell
 loc:∀x∈scope.names,x.2= .local->scope.names.lookup x.1=some .local
 fre:∀x∈scope.names,x.2= .free->X.env.kindOf x.1=some .cell\/X.env.kindOf x.1=some .free
theorem ZX {scope:Scope}{env:Env}{x:Str}{k:NameKind}(h:(relabel scope env).names.lookup x=some k)(hk:k= .cell\/k= .free)(hn:∀x∈scope.names,x.2 ≠ NameKind.cell):∃y∈scope.names,y.1=x/\y.2= .free:=by
 have go:∀ns:List (Str×NameKind),(∀x∈ns,x.2 ≠ NameKind.cell)->(ns.map λ(n,k)=>if (k == NameKind.free && env.scope.kind == .function && env.kindOf n == some .cell) then (n,NameKind.cell) else (n,k)).lookup x=some k->∃y∈ns,y.1=x/\y.2= .free:=by
  intro ns
  induction ns with
  | nil=>intro _ h;simp at h
  | cons y ns ih=>
   intro hn h;obtain⟨n,k'⟩:=y
   by_cases hx:x=n
   ·subst hx;refine⟨(x,k'),ac,rfl, ?_⟩;rw[bg]at h
    by_cases hc:(k' == NameKind.free && env.scope.kind == .function && env.kindOf x == some .cell)=true
    ·rw[ah,ah]at hc;exact eq_of_beq hc.1.1
    ·simp only[if_neg hc,ai,beq_self_eq_true]at h;cases h;rcases hk with rfl | rfl
     ·exact absurd rfl (hn _ ac)
     ·rfl
   ·obtain⟨z,hz,h1,h2⟩:=ih (λz hz=>hn z (a8 _ hz)) (by
     rw[bg]at h
     by_cases hc:(k' == NameKind.free && env.scope.kind == .function && env.kindOf n == some .cell)=true
     ·simp only[if_pos hc,ai,(beq_eq_false_iff_ne.mpr hx)]at h;exact h
     ·simp only[if_neg hc,ai,(beq_eq_false_iff_ne.mpr hx)]at h;exact h)
    exact⟨z,a8 _ hz,h1,h2⟩
 exact go _ hn h
section
variable {X:Cx}{pins:List (Addr×Obj)}{σ:Sg}{H:Hp}{s:Shared}
theorem wk {scope:Scope}{N' :List Str}{cl:List (Str×Addr)}{fp:List Addr}{h' :Heap}{tk:Nat}{σ' :Sg}(I:L2.Inv X pins σ H s)(S:CSc X scope)(hc:X.calm=true)
  (hcl:∀x c,cl.lookup x=some c->X.env.cells.lookup x=some c) (hcf:∀x∈scope.names,x.2=NameKind.free->∃c,cl.lookup x.1=some c)
  (hfp:∀b∈fp,J6 X pins H b) (hfo:∀b∈fp,∃o,s.heap.get? b=some o)
  (hns:h'.Ns s.heap.objs.size (λ_=>none)) (hk:∀b o,s.heap.get? b=some o->h'.get? b=some o)
  (hl:σ'.length=N'.length) (hσ:∀(i:Nat) (x:Str) (v:V),N'[i]? =some x->σ'[i]? =some (some v)->∃j:Nat,X.N[j]? =some x/\σ[j]? =some (some v)/\Vis X.env.scope x/\(scope.names.lookup x=some .free)/\(X.env.kindOf x=some .cell\/X.env.kindOf x=some .free)):
  L2.Inv (cxC X scope N' cl s.heap.objs.size s H fp pins) [] σ' H { s with heap:=h',toks:=tk }:=by
 have stk:=I.stkSub;have hlt:=λb hb=>let ⟨o,e⟩:=hfo b hb;a9 e;have fresh:=I.hok.fresh (ag _);refine⟨⟨I.ok.mod,S.kind,I.ok.glob,I.ok.blt,ag _,λx y c h1 h2=>I.ok.inj x y c (hcl _ _ h1) (hcl _ _ h2),λx hx=> ?_,λx c h _=>(aE h).elim,λ_=>I.ok.hd hc,I.ok.frames,.inl rfl,λb hb=> ?_,I.bs,
   ay I.ok.bsz I.sz,λb o e hb=> ?_,λb hb hb' => ?_,I.stack,I.stkFree⟩,rfl,I.bare,Un.kept hk,⟨_,hns,λi x v h1 h2 h3=> ?_⟩,λx c e=> ?_,fresh,λx c e=>I.freeC x c (hcl _ _ e),λp hp=> ?_,I.hok.kept hk,hl⟩
 ·have hx' :=hx;obtain⟨y,hy,rfl,hyf⟩:∃y∈scope.names,y.1=x/\y.2= .free:=by
   rcases hx' with h | h
   ·exact ZX h (.inl rfl) S.nocell
   ·exact ZX h (.inr rfl) S.nocell
  exact hcf y hy hyf
 ·refine⟨aA (hlt b hb),λx c e=>(hfp b hb).2.2.2.2.1 x c (hcl _ _ e)⟩
 ·rcases(hfp b hb).2.2.2.1 with h | h
  ·exact I.ok.noex b o e h
  ·exact absurd (ar (a9 e) (ay I.ok.bsz h)) (aN _)
 ·have q:=hfp b hb;rcases aj.mp (stk b hb') with z | z
  ·exact q.2.1 z
  ·exact q.2.2.1 z
 ·obtain⟨j,e1,e2,e3,e4,e5⟩:=hσ i x v h1 h2;obtain⟨m,hn,hloc⟩:=I.loc;obtain⟨u,ru,lk⟩:=hloc j x v e1 e2 e3;refine⟨u,ru,.inr ⟨?_, ?_⟩⟩
  ·rcases h3 with h | h | h
   ·exfalso;have:∀ns:List _,ns.lookup x=some .free->(ns.map λ(n,k)=>if (k == NameKind.free && X.env.scope.kind == .function && X.env.kindOf n == some .cell) then (n,NameKind.cell) else (n,k)).lookup x ≠ some .local:=by
     intro ns
     induction ns with
     | nil=>intro z;simp at z
     | cons y ns ih=>
      obtain⟨n,k⟩:=y;intro z w;rw[bg]at w
      by_cases hx:x=n
      ·subst hx;have hkf:=by simpa[ai] using z
       by_cases hcn:(k == NameKind.free && X.env.scope.kind == .function && X.env.kindOf x == some .cell)=true
       ·simp only[if_pos hcn,ai,beq_self_eq_true]at w;cases w
       ·simp only[if_neg hcn,ai,beq_self_eq_true]at w;rw[hkf]at w;cases w
      ·have z' :=by rw[ai,(beq_eq_false_iff_ne.mpr hx)]at z;exact z
       refine ih z' ?_
       by_cases hcn:(k == NameKind.free && X.env.scope.kind == .function && X.env.kindOf n == some .cell)=true
       ·simp only[if_pos hcn,ai,(beq_eq_false_iff_ne.mpr hx)]at w;exact w
       ·simp only[if_neg hcn,ai,(beq_eq_false_iff_ne.mpr hx)]at w;exact w
    exact this _ e4 h
   ·exact .inl h
   ·exact .inr h
  ·rcases lk with ⟨hk',_⟩ | ⟨_,c,hc',hcell⟩
   ·rcases e5 with z | z <;> (rw[z]at hk';cases hk')
   ·obtain⟨c',hc2⟩:=hcf _ (aM e4) rfl;have:=hcl x c' hc2;rw[hc']at this;cases this;obtain⟨o,eo,ed⟩:=hcell;exact⟨c,hc2,o,hk _ _ eo,ed⟩
 ·obtain⟨v,o,eo,ed⟩:=I.cell x c (hcl _ _ e);exact⟨v,o,hk _ _ eo,ed⟩
 ·have hp' :=by
   have:=hp;rwa[aK]at this
  obtain⟨e,n,ne,nf,dc⟩:=I.pin p hp';refine⟨hk _ _ e,n,aA (a9 e),λhb=> ?_,dc⟩;rcases aj.mp (stk _ hb) with z | z
  ·exact ne z
  ·exact nf z
end
def PIf (X:Cx)(ifs:List Expr)(t:TT):Prop:=
 ∀(pins:List (Addr×Obj)) (s:Shared) (σ:Sg) (H:Hp) (Q:Bool->Hp->Prop),L2.Inv X pins σ H s->t σ H Q->
  wpAny (model X.prog X.w) X.A (forIn ifs true λc r=>if r=true then do let ok ← isTrue c X.env (eval c X.env);pure (ForInStep.yield ok) else pure (ForInStep.yield r)) (TP X pins σ Q) X.xe s
theorem qZ {X:Cx}:PIf X [] (λ_ H Q=>Q true H):=λ_ _ σ H _ I h=>wpAny_tests_nil ⟨H,I,h⟩
noncomputable abbrev XE (X:Cx)(xe:Value->Shared->Prop):Cx:={ X with xe:=xe }
theorem wl {X:Cx}{pins:List (Addr×Obj)}{σ:Sg}{H:Hp}{s:Shared}{xe:Value->Shared->Prop}(I:L2.Inv X pins σ H s):L2.Inv (XE X xe) pins σ H s:=
 ⟨⟨I.ok.mod,I.ok.kind,I.ok.glob,I.ok.blt,I.ok.above,I.ok.inj,I.ok.has,I.ok.cab,I.ok.hd,I.ok.frames,I.ok.stk,I.ok.exf,I.ok.bs,I.ok.bsz,I.ok.noex,I.ok.exfs,I.ok.funs,I.ok.frf⟩,I.os,I.bare,I.base,I.loc,I.cell,I.free,I.freeC,I.pin,I.hok,I.len⟩
theorem Wi {X:Cx}{pins:List (Addr×Obj)}{σ:Sg}{H:Hp}{s:Shared}{xe:Value->Shared->Prop}(I:L2.Inv (XE X xe) pins σ H s):L2.Inv X pins σ H s:=(wl I:L2.Inv _ _ σ H s)
theorem V9 {X:Cx}{e:Expr}{t:TG}{xe:Value->Shared->Prop}(hx:X.xe=λ_ _=>False)(h:PG X e t):PG (XE X xe) e t:=λpins s σ H v u Q I r q=>aB (h _ s σ H v u Q (Wi I) r q) (λ_ s' ⟨σ',H',I',q'⟩=>⟨σ',H',wl I',q'⟩) λe s' z=>by rw[hx]at z;exact z.elim
theorem Yy {X:Cx}{e:List Expr}{t:TT}{xe:Value->Shared->Prop}(hx:X.xe=λ_ _=>False)(h:PIf X e t):PIf (XE X xe) e t:=λpins s σ H Q I q=>aB (h _ s σ H Q (Wi I) q) (λ_ s' ⟨H',I',q'⟩=>⟨H',wl I',q'⟩) λe s' z=>by rw[hx]at z;exact z.elim
theorem jN {α:Type}{M:Model}{A:Around}{m:Sem α}{Q:α->Shared->Prop}{E E' :Value->Shared->Prop}{s:Shared}(hE:∀e s',E' e s' ->E e s')(h:wpAny M A m Q E' s):wpAny M A m Q E s:=aB h (λ_ _ q=>q) hE
def wm (J:It)(D:Addr)(g:TG)(tt:TT)(te:TE)(fin:Sg->Hp->Prop)(W:Nat->Nat->List V->Sg->Hp->Prop):Prop:=
 ∀i m ys σ H,W i m ys σ H->H D=some (.lst ys)/\((J.stop i H/\fin σ H)\/(J.go i H/\∀x H2,J.yld i H x H2->g x σ H2 λσ3 H3=>tt σ3 H3 λk H4=>
  if k=true then te σ3 H4 λv H5=>H5 D=some (.lst ys)/\ys.length < sizeLine/\∃m',m' < m/\W (i+1) m' (ys++[v]) σ3 (upd H5 D (.lst (ys++[v]))) else ∃m',m' < m/\W (i+1) m' ys σ3 H4))
theorem U1 {X:Cx}{R:Result->Shared->Prop}(hx:∀e s',X.xe e s' ->notedBy (model X.prog X.w) X.A X.env (λe s' =>R (.error e) s') e s')(hc:X.calm=true){tg iter elt:Expr}{ifs:List Expr}{scope:Scope}{pos:Pos}{J:It}{fp:List Addr}{it:Addr}{tn:Nat->Heap->Prop}(TJ:uv X.prog X.w X.K tg J fp it tn)
  {g:TG} {tt:TT} {te:TE} (hg:PG X tg g) (ht:PIf X ifs tt) (he:PE X elt te) {D:Addr} {fin:Sg->Hp->Prop} (W:Nat->Nat->List V->Sg->Hp->Prop) (turn:wm J D g tt te fin W)
  (hR:∀s σ H,L2.Inv X [] σ H s->fin σ H->R (.ok .next) s) {m0:Nat} {σ0:Sg} {H0:Hp} {s0:Shared} (w0:W 0 m0 [] σ0 H0) (I0:L2.Inv X [] σ0 H0 s0) (t0:tn 0 s0.heap) (f0:∀b∈fp,J6 X [] H0 b):
  codeAny (model X.prog X.w) X.A (.compLoop (.ListComp elt [⟨tg,iter,ifs,0⟩] scope pos) 0 (.ref it) (.ref D) X.env) R s0:=by
 have stat:∀{H' :Hp},(∀b∈fp,H' b=none)->∀b∈fp,J6 X [] H' b:=λhn b hb=>⟨hn b hb,(f0 b hb).2⟩;refine codeAny_loop rfl (λn s' =>∃i ys σ' H',L2.Inv X [] σ' H' s' /\tn i s'.heap/\(∀b∈fp,H' b=none)/\W i n ys σ' H') (λn s3 h3=> ?_) m0 ⟨0,[],σ0,H0,I0,t0,λb hb=>(f0 b hb).1,w0⟩;obtain⟨i,ys,σ3,H3,I3,st3,fr3,w3⟩:=h3;show wpAny _ X.A ((compTurn _ 0 _ _ _).onRaise (λx=>do noteFrame x _;theTreesLotGoes x)) _ _ s3
 refine wpAny_noted ?_;obtain⟨hD,h⟩:=turn i n ys σ3 H3 w3;rcases h with ⟨stop,qn⟩ | ⟨go,next⟩
 ·refine a4 (aJ (a4 (thn (TJ.done X rfl rfl rfl hc i [] s3 σ3 H3 _ I3 (stat fr3) st3 stop) λr s4 ⟨hr,I4⟩=> ?_)));subst hr;exact aq (hR s4 σ3 H3 I4 qn)
 ·refine a4 (aJ (a4 (thn (TJ.item X rfl rfl rfl hc i [] s3 σ3 H3 _ I3 (stat fr3) st3 go) λr s4 ⟨u,hr,h4⟩=> ?_)));subst hr;refine a4 (thn h4 λ_ s5 ⟨x,H5,I5,r5,y5,st5,fr5⟩=> ?_);have I5' :=I5.pinned (stat fr5) (TJ.obj _ _ st5);refine a4 (jN hx (thn (hg _ s5 σ3 H5 x u _ I5' r5 (next x H5 y5)) λ_ s6 ⟨σ6,H6,I6,q6⟩=> ?_));have again:∀{σ7:Sg} {H7:Hp} {s7:Shared} {ys' :List V},L2.Inv X _ σ7 H7 s7->(∃m',m' < n/\W (i+1) m' ys' σ7 H7)->∃m,m < n/\∃i ys σ' H',L2.Inv X [] σ' H' s7/\tn i _/\(∀b∈fp,H' b=none)/\W i m ys σ' H' :=λ{σ7 H7 s7 ys'} I7 ⟨m',hm,w7⟩=>by
   refine⟨m',hm,i+1,ys',σ7,H7,I7.unpinned,TJ.keep _ _ _ st5 λb hb o e=>(I7.pin _ (am _ (am _ (zQ hb e)))).1,λb hb=> ?_,w7⟩;obtain⟨o,e,d⟩:=TJ.obj _ _ st5 b hb;exact(I7.pin _ (am _ (am _ (zQ hb e)))).2.1
  refine a4 (jN hx (thn (ht _ s6 σ6 H6 _ I6 q6) λk s7 ⟨H7,I7,q7⟩=> ?_));cases k with
  | false=>exact aq ⟨rfl,again I7 q7⟩
  | true=>
   refine a4 (a4 (jN hx (thn (he _ s7 σ6 H7 _ I7 q7) λv s8 ⟨y,H8,I8,r8,hD8,hlen,q8⟩=> ?_)));refine a4 (jN hx (thn (jG _ s8 σ6 H8 (.ref D) [y] _ [v] (λ_ H9=>∃m',m' < n/\W _ m' _ σ6 H9) I8 rfl (.cons r8 .nil) ⟨D,ys,y,rfl,rfl,hD8,hlen,q8⟩) λw s9 ⟨_,H9,I9,_,q9⟩=> ?_));exact aq (aq ⟨rfl,again I9 q9⟩)
def ja (k:Nat)(js:List Nat)(σ:Sg):Sg:=au k none++js.map λj=>(σ[j]?).getD none
section
variable {X:Cx}
abbrev Wj (X:Cx)(scope:Scope)(N' :List Str)(P:Cx->Prop):Prop:=∀cl C s3 H3 fp pins,P (cxC X scope N' cl C s3 H3 fp pins)
abbrev Yz (X:Cx)(scope:Scope)(N' :List Str)(E:XK)(P:Cx->Prop):Prop:=∀cl C s3 H3 fp pins xe,zO (CX1 X.prog X.w) (XE (cxC X scope N' cl C s3 H3 fp pins) xe) E->P (XE (cxC X scope N' cl C s3 H3 fp pins) xe)
structure yy (X:Cx) (scope:Scope) (N' :List Str) (k:Nat) (js:List Nat):Prop where
 len:N'.length=k+js.length
 cap:∀(i j:Nat),js[i]? =some j->∃x,N'[k+i]? =some x/\X.N[j]? =some x/\Vis X.env.scope x/\scope.names.lookup x=some .free/\(X.env.kindOf x=some .cell\/X.env.kindOf x=some .free)
theorem yz {E:XK}(hp:uJ X E){tg iter elt:Expr}{ifs:List Expr}{scope:Scope}{pos pos' :Pos}{N' :List Str}{k:Nat}{js:List Nat}{wi:TI}{g:TG}{tt:TT}{te:TE}{use:Option (Value->Sem Unit)}(S:CSc X scope)(CP:yy X scope N' k js)(hc:X.calm=true)
  (hi:PI X tg iter wi) (hg:Wj X scope N' λXC=>PG XC tg g) (ht:Wj X scope N' λXC=>PIf XC ifs tt) (he:Yz X scope N' E λXC=>PE XC elt te) {pins:List (Addr×Obj)} {σ:Sg} {H:Hp} {s:Shared} {Q:Value->Shared->Prop} {F:Addr->Hp->Prop} (I:L2.Inv X pins σ H s)
  (h:wi σ H λJ H1=>∀D,H1 D=none->∃W,(∃m,W 0 m [] (ja k js σ) (upd H1 D (.lst [])))/\wm J D g tt te (λ_ H' =>F D H') W)
  (hQ:∀D C H' s',L2.Inv X pins σ H' s' ->F D H' ->H' C=none->(X.s₀.heap.objs.size<=C)->C ≠ X.env.locals->(∀x c,X.env.cells.lookup x=some c->c ≠ C)->(∀p∈X.pn++pins,p.1 ≠ C)->(∃m,s'.heap.Ns C m)->compPost (model X.prog X.w) X.A X.xe use Q (.ref D) C (.ok .next) s')
  (hs:∀x,foldedSetIterable iter X.env x=pure x:=by intro _;rfl):
  wpAny (model X.prog X.w) X.A (comprehension (.ListComp elt [⟨tg,iter,ifs,0⟩] scope pos) scope X.env pos' (newList []) false (eval iter X.env) use) Q X.xe s:=by
 obtain⟨cl,ecl,hcl,hcf⟩:=JA (scope:=scope) (env:=X.env) λx hx hf=>I.ok.has x.1 (S.fre x hx hf);refine wpAny_comprehension_free rfl hs ecl S.kind S.loc ?_;refine thn (hi pins s σ H _ I h) λv s1 h1=>thn h1 λitv s2 h2=> ?_;obtain⟨it,fp,tn,J,H2,e,I2,TJ,st2,f2,q2⟩:=h2;subst e;refine bQ ?_;have hD:=I2.hok.fresh (ag _);have I3:L2.Inv X pins σ (upd H2 s2.heap.objs.size (.lst [])) { s2 with heap:=s2.heap.push { cls:= .type "list",data:= .seq _ } }:=
  I2.laid (t' :=s2.toks) (λb u e=>a7 _ e) (ag _) ⟨bR _,[],_,.nil,ao _ rfl⟩
 obtain⟨W,⟨m0,w0⟩,turn⟩:=q2 s2.heap.objs.size hD;have f3:∀b∈fp,J6 X pins (upd H2 s2.heap.objs.size (.lst [])) b:=λb hb=>by
  obtain⟨o,eo,_⟩:=TJ.obj _ _ st2 b hb;exact⟨by rw[za (aA (a9 eo))];exact(f2 b hb).1,(f2 b hb).2⟩
 have o3:∀b∈fp,∃o,(s2.heap.push { cls:= .type "list",data:= .seq ([]:List Value).toArray }).get? b=some o:=λb hb=>by
  obtain⟨o,eo,_⟩:=TJ.obj _ _ st2 b hb;exact⟨o,a7 _ eo⟩
 refine wpAny_newFunctionEnv S.nocell (by intro y hy;simp at hy) (λh4 hns4 hsb4=> ?_) S.kind
 generalize hG:s2.heap.push _=G3 at I3 o3 hns4 hsb4 ⊢;have s3e:∃s3:Shared,s3={ s2 with heap:=G3 }:=⟨_,rfl⟩;obtain⟨s3,es3⟩:=s3e;have hh3:s3.heap=s2.heap.push { cls:= .type "list",data:= .seq ([]:List Value).toArray }:=by rw[es3,hG]
 have hg3:G3=s3.heap:=by rw[es3]
 rw[← es3]at I3;rw[hg3]at hns4 hsb4 o3;have k4:=λb o e=>hsb4.extBut b o (aA (a9 e)) (a7 _ e);have IC:=wk (N' :=N') (cl:=cl) (fp:=fp) (σ' :=ja k js σ) (tk:=s3.toks+([]:List (Str×Value)).length) I3 S hc hcl hcf f3 o3 hns4 k4 (by unfold ja;simp[CP.len]) (λi x v h1 h2=>by
  unfold ja at h2
  by_cases hik:i < k
  ·rw[aL (by simpa using hik),aw,if_pos hik]at h2
   cases h2
  ·have hk' :k<=i:=by omega
   rw[aG (by simpa using hk'),aR,av]at h2
   cases ej:js[i - k]? with
   | none=>rw[ej]at h2;cases h2
   | some j=>
    rw[ej]at h2;obtain⟨y,e1,e2,e3,e4,e5⟩:=CP.cap (i - k) j ej;have:k+(i - k)=i:=by omega
    rw[this,h1]at e1;cases e1;refine⟨j,e2, ?_,e3,e4,e5⟩;have h2' :some ((σ[j]?).getD none)=some (some v):=h2;cases ez:σ[j]? with
    | none=>rw[ez]at h2';cases h2'
    | some z=>rw[ez]at h2';exact congrArg some (ak h2'))
 have TC:uv _ _ _ tg J fp it tn:=TJ;have t4:tn 0 h4:=TJ.keep _ _ _ st2 λb hb o e=>k4 b o (by rw[hh3];exact a7 _ e)
 have fC:∀b∈fp,J6 (cxC X scope N' cl s3.heap.objs.size s3 (upd H2 s2.heap.objs.size (.lst [])) fp pins) [] _ b:=λb hb=>by
  obtain⟨q0,q1,q2,q3,q4,q5⟩:=f3 b hb;obtain⟨o,eo⟩:=o3 b hb;refine⟨q0,aA (a9 eo),λhb' => ?_,.inl hb,λx c e=>q4 x c (hcl _ _ e),λp hp=> ?_⟩
  ·rcases aj.mp (I3.stkSub b hb') with z | z
   ·exact q1 z
   ·exact q2 z
  ·exact q5 p (by
    have:=hp;rwa[aK]at this)
 have fin:∀(s5:Shared) (σ5:Sg) (H5:Hp),L2.Inv (cxC X scope N' cl s3.heap.objs.size s3 (upd H2 s2.heap.objs.size (.lst [])) fp pins) [] σ5 H5 s5->F s2.heap.objs.size H5->compPost (model X.prog X.w) X.A X.xe use Q _ s3.heap.objs.size (.ok .next) s5:=λs5 σ5 H5 I5 q5=>by
  have J5:=I3.call' (ch:=fp) I5.os I5.base I5.hok I5.bare λb hb=>by
   obtain⟨q0,q1,q2,q3,q4,q5⟩:=f3 b hb;exact⟨q3,q1,q4,q5⟩
  refine hQ _ _ H5 s5 J5 q5 I5.free I3.sz (ce I3.lt) (λx c e z=> ?_) (λp hp z=> ?_) (let ⟨m,hm,_⟩:=I5.loc;⟨m,hm⟩)
  ·obtain⟨v',o,eo,_⟩:=I3.cell x c e;exact absurd (a9 eo) (by rw[z];exact aN _)
  ·exact absurd (a9 (I3.pin p hp).1) (by rw[z];exact aN _)
 have pass:zO (CX1 X.prog X.w) (XE (cxC X scope N' cl s3.heap.objs.size s3 (upd H2 s2.heap.objs.size (.lst [])) fp pins) (notedBy (model X.prog X.w) X.A (compEnvC scope cl s3.heap.objs.size X.env) λe s' =>compPost (model X.prog X.w) X.A X.xe use Q (.ref s2.heap.objs.size) s3.heap.objs.size (.error e) s')) E:=by
  intro pins1 σ1 H1 s1 e s' I1 c1;have J1:=I3.call' I1.os I1.base I1.hok I1.bare λb hb=>by
   obtain⟨q0,q1,q2,q3,q4,q5⟩:=f3 b hb;exact⟨q3,q1,q4,q5⟩
  obtain⟨m1,hm1,_⟩:=I1.loc;refine thn (hp pins σ H1 s1 e s' _ m1 _ _ J1 hm1 I1.free I3.sz (λz=> ?_) rfl c1) λ_ s'' q=> ?_
  ·obtain⟨_,o,eo,_⟩:=I3.stack.mem z;exact absurd (a9 eo) (aN _)
  ·cases use <;> exact q
 have loop:=U1 (X:=XE (cxC X scope N' cl _ s3 _ fp _) (notedBy _ X.A _ λe s' =>compPost _ X.A _ use Q _ _ _ s')) (iter:=iter) (scope:=scope) (pos:=pos) (λ_ _ z=>z) hc TC (V9 rfl (hg _ _ _ _ _ _)) (Yy rfl (ht _ _ _ _ _ _)) (he _ _ _ _ _ _ _ pass) W turn (λs5 σ5 H5 I5=>fin s5 σ5 H5 (Wi I5)) w0 (wl IC) t4 fC;rw[es3]at loop;exact codeAny_compStart_list loop (TJ.self _ _ _ _ _ t4 loop)
end
def zz (g:T->En->R En)(ft:En->R Bool)(fe:En->R T):List T->En->R (List T)
 | [],_=> .ok []
 | t :: ts,ρ=>(g t ρ).bind λρ1=>(ft ρ1).bind λk=>if k=true then (fe ρ1).bind λv=>(zz g ft fe ts ρ1).bind λvs=> .ok (v :: vs) else zz g ft fe ts ρ1
noncomputable def wV:Option Sl->Sl
 | some (.vl t)=> .vl t
 | some (.ob k _)=> .oc k []
 | some (.oc k fs)=> .oc k fs
 | _=> .un
def Jd (k:Nat)(js:List Nat)(ρ:En):En:=au k .un++js.map λj=>wV ρ[j]?
noncomputable def quiet {α:Type}:R α->R α
 | .ok a=> .ok a
 | _=> .bad
def JB (g:T->En->R En)(ft:En->R Bool)(fe:En->R T)(k:Nat)(js:List Nat)(ρ:En)(ts:List T):R (List T):=if ts.length<=bnd then quiet (zz g ft fe ts (Jd k js ρ)) else .bad
def ZH (fi:En->R (List T))(g:T->En->R En)(ft:En->R Bool)(fe:En->R T)(k:Nat)(js:List Nat):En->R T:=λρ=>(fi ρ).bind λts=>(JB g ft fe k js ρ ts).bind λvs=> .ok (.lst vs)
def GOk (tG:TG)(g:T->En->R En):Prop:=∀Y B ρ σ H v x Q,SI Y B ρ σ H->Rep B v x->(match g x ρ with | .ok ρ' =>∀σ',SI Y B ρ' σ' H->Q σ' H | _=>False)->tG v σ H Q
theorem JC (i:Nat):GOk (JZ i) (Z4 i):=λY B ρ σ H v x Q I r q=>q _ (I.setV i r)
theorem SI.blockS {Y:Fx}{B:Hp}{ρ:En}{σ:Sg}{H H' :Hp}(I:SI Y B ρ σ H)(k:Nat)(js:List Nat)(E:XK)(s:zc H H'):SI ⟨B,H,E,Y.cl,[]⟩ B (Jd k js ρ) (ja k js σ) H' where
 s0:=I.sB
 sH:=s
 sB:=I.sB.trans s
 old:=λ_ _ _=>rfl
 len:=by unfold Jd ja;simp
 vl:=λi t h=>by
  unfold Jd at h;unfold ja
  by_cases hik:i < k
  ·rw[aL (by simpa using hik),aw,if_pos hik]at h;cases h
  ·have hk' :k<=i:=by omega
   rw[aG (by simpa using hk'),aR,av]at h ⊢
   cases ej:js[i - k]? with
   | none=>rw[ej]at h;cases h
   | some j=>
    rw[ej]at h;have h' :wV ρ[j]? = .vl t:=ak h;unfold wV at h';split at h'
    ·rename_i u e;cases h';obtain⟨v,e1,r⟩:=I.vl j _ e;exact⟨v,by show some ((σ[j]?).getD none)=_;rw[e1];rfl,r⟩
    all_goals cases h'
 ow:=λi ts h=>by
  exfalso;unfold Jd at h
  by_cases hik:i < k
  ·rw[aL (by simpa using hik),aw,if_pos hik]at h;cases h
  ·have hk' :k<=i:=by omega
   rw[aG (by simpa using hk'),aR,av]at h
   cases ej:js[i - k]? with
   | none=>rw[ej]at h;cases h
   | some j=>
    rw[ej]at h;have h' :wV ρ[j]? = .ow ts:=ak h;unfold wV at h';split at h' <;> cases h'
 xc:=λi c h=>by
  exfalso;unfold Jd at h
  by_cases hik:i < k
  ·rw[aL (by simpa using hik),aw,if_pos hik]at h;cases h
  ·have hk' :k<=i:=by omega
   rw[aG (by simpa using hk'),aR,av]at h
   cases ej:js[i - k]? with
   | none=>rw[ej]at h;cases h
   | some j=>
    rw[ej]at h;have h' :wV ρ[j]? = .xc c:=ak h;unfold wV at h';split at h' <;> cases h'
 st:=by
  have get:∀(i:Nat) (x:Sl),x.isO=true->(Jd k js ρ)[i]? =some x->∃j,js[i - k]? =some j/\k<=i/\wV ρ[j]? =x:=λi x hx h=>by
   unfold Jd at h
   by_cases hik:i < k
   ·rw[aL (by simpa using hik),aw,if_pos hik]at h
    cases h;cases hx
   ·have hk' :k<=i:=by omega
    rw[aG (by simpa using hk'),aR,av]at h
    cases ej:js[i - k]? with
    | none=>rw[ej]at h;cases h
    | some j=>
     rw[ej]at h;exact⟨j,rfl,hk',ak h⟩
  refine⟨[],λ_=>none,du _,λi os h=> ?_,λi _ os _ h=> ?_,λi k' n h=> ?_,λi k' fs h=> ?_,λi os h=> ?_⟩
  ·obtain⟨j,_,_,e⟩:=get i _ rfl h;unfold wV at e;split at e <;> cases e
  ·obtain⟨j,_,_,e⟩:=get i _ rfl h;unfold wV at e;split at e <;> cases e
  ·obtain⟨j,_,_,e⟩:=get i _ rfl h;unfold wV at e;split at e <;> cases e
  ·obtain⟨j,ej,hk',e⟩:=get i _ rfl h;have sg:(ja k js σ)[i]? =some ((σ[j]?).getD none):=by
    unfold ja;rw[aG (by simpa using hk'),aR,av,ej];rfl
   obtain⟨as,O,x⟩:=I.st;unfold wV at e;split at e
   ·cases e
   ·rename_i k2 n2 e2;cases e;obtain⟨a,C,dx,vs,_,e3,e4,e5,_,_,e6⟩:=x.ob j _ _ e2;exact⟨a,C,dx,vs,by rw[sg,e3];rfl,e4,e5,e6,λm f d z=>by cases z⟩
   ·rename_i k2 fs2 e2;cases e;obtain⟨a,C,dx,vs,e3,e4,e5,e6,e7⟩:=x.oc j _ _ e2;exact⟨a,C,dx,vs,by rw[sg,e3];rfl,e4,I.sH _ _ e5,e6,e7.mono (zc.refl _) I.sH⟩
   ·cases e
  ·obtain⟨j,_,_,e⟩:=get i _ rfl h;unfold wV at e;split at e <;> cases e
theorem SI.block {Y:Fx}{B:Hp}{ρ:En}{σ:Sg}{H H3:Hp}{D:Addr}(I:SI Y B ρ σ H)(k:Nat)(js:List Nat)(E:XK)(hD:H D=none)(o:HO):SI ⟨B,H,E,Y.cl,[]⟩ B (Jd k js ρ) (ja k js σ) (upd H D o):=I.blockS k js E (zc.new hD _)
theorem SI.acc {Y:Fx}{B:Hp}{ρ:En}{σ:Sg}{H:Hp}{D:Addr}(I:SI Y B ρ σ H)(hb:B D=none)(h0:Y.H0 D=none)(ho:∀(i:Nat) (ts:List T),ρ[i]? =some (Sl.ow ts)->σ[i]? ≠ some (some (V.ref D)))(hso:∀(i:Nat) (x:Sl),ρ[i]? =some x->Sl.isS x=true->False)(o:HO):SI Y B ρ σ (upd H D o) where
 s0:=I.s0
 sH:=λb u h=>by
  rw[za (λz=>by subst z;rw[h0]at h;cases h)];exact I.sH b u h
 sB:=λb u h=>by
  rw[za (λz=>by subst z;rw[hb]at h;cases h)];exact I.sB b u h
 old:=I.old
 len:=I.len
 vl:=I.vl
 ow:=λi ts h=>by
  obtain⟨a,xs,e,b0,h0',hh,r,d⟩:=I.ow i ts h;refine⟨a,xs,e,b0,h0', ?_,r,d⟩;rw[za (λz=>ho i ts h (by rw[e,z]))];exact hh
 xc:=I.xc
 st:=let ⟨as,O,x⟩:=I.st;⟨as,O,x.pre,λi os h=>hso i _ h rfl |>.elim,λi j os os' h=>hso i _ h rfl |>.elim,λi k n h=>hso i _ h rfl |>.elim,x.oc,λi os h=>hso i _ h rfl |>.elim⟩
def Q0 (ρ:En):Prop:=∀(i:Nat) (x:Sl),ρ[i]? =some x->(∀ts,x ≠ Sl.ow ts)/\(x.isS=true->False)
theorem Wk (k:Nat)(js:List Nat)(ρ:En):Q0 (Jd k js ρ):=λi x h=>by
 unfold Jd at h
 by_cases hik:i < k
 ·rw[aL (by simpa using hik),aw,if_pos hik]at h
  cases h;exact⟨λ_=>Sl.noConfusion,aE⟩
 ·have hk' :=by omega
  rw[aG (by simpa using hk'),aR,av]at h
  cases ej:js[i - k]? with
  | none=>rw[ej]at h;cases h
  | some j=>
   rw[ej]at h;have h' :wV _=x:=ak h;unfold wV at h';split at h' <;> (subst h';exact⟨λ_=>Sl.noConfusion,aE⟩)
theorem yA {ρ:En}{i:Nat}{t:T}(h:Q0 ρ):Q0 (ρ.set i (.vl t)):=λj x e=>by
 rcases zx e with ⟨_,z⟩ | ⟨_,z⟩
 ·subst z;exact⟨λ_=>Sl.noConfusion,aE⟩
 ·exact h j x z
def GNo (g:T->En->R En):Prop:=(∀t ρ ρ',Q0 ρ->g t ρ= .ok ρ' ->Q0 ρ')/\∀t ρ c,g t ρ ≠ .ex c
theorem JD (i:Nat):GNo (Z4 i):=⟨λt ρ ρ' h e=>by
 cases e;exact yA h,λt ρ c e=>by cases e⟩
section
variable {X:Cx}{Y:Fx}{tg iter elt:Expr}{ifs:List Expr}{scope:Scope}{pos pos' :Pos}{N' :List Str}{k:Nat}{js:List Nat}{fi:En->R (List T)}{tG:TG}{g:T->En->R En}{ft:En->R Bool}{fe:En->R T}
structure jb (X:Cx) (Y:Fx) (ifs:List Expr) (f:En->R Bool):Prop where
 mk ::
 go:∀ρ,PIf X ifs (tS Y rE f ρ)
instance {X:Cx}{Y:Fx}{ifs:List Expr}{f:En->R Bool}:CoeFun (jb X Y ifs f) λ_=>∀ρ,PIf X ifs (tS Y rE f ρ):=⟨jb.go⟩
theorem PIf.imp {X:Cx}{e:List Expr}{t t' :TT}(h:PIf X e t)(i:∀σ H Q,t' σ H Q->t σ H Q):PIf X e t' :=λpins s σ H Q I q=>h _ s σ H Q I (i σ H Q q)
def Zw:En->R Bool:=λ_=> .ok true
theorem Va {X:Cx}:jb X Y [] Zw:= .mk λρ=>PIf.imp qZ λσ H Q ⟨B,I,q⟩=>Zf I q rfl
noncomputable def Kb (r:R (List T))(P:List T->Prop)(Z:Nat->Prop):Prop:=match r with
 | .ok vs=>P vs
 | .ex c=>Z c
 | .bad=>False
theorem Jl {B1 H1:Hp}{σ:Sg}{ρ:En}{J:It}{ts:List T}{r:R (List T)}{D:Addr}{E0:XK}(hG:GOk tG g)(hN:GNo g)(I:SI Y B1 ρ σ H1)(rI' :rI B1 H1 J ts)(hl:ts.length<=bnd)(ev:zz g ft fe ts (Jd k js ρ)=r)(hD:H1 D=none){F:Hp->Prop}
  (hF:Kb r (λvs=>∀H' xs B',zc H1 H' ->H' D=some (.lst xs)->zt B' xs vs->zc B' (zv B1 H1 H')->B' D=none->zc B1 B' ->F H') λc=>∀d H',zc H1 H' ->zc B1 H' ->E0 (Y.cl c) d H'):
  ∃W,(∃m,W 0 m [] (ja k js σ) (upd H1 D (.lst [])))/\wm J D tG (λσ H Q=>∃Y' ρ',Y'.cl=Y.cl/\tS Y' rE ft ρ' σ H Q) (λσ H Q=>∃Y' ρ',Y'.cl=Y.cl/\Y'.E=E0/\tS Y' rC fe ρ' σ H Q) (λ_ H' =>F H') W:=by
 refine⟨λi m ys σ' H' =>m=ts.length - i/\i<=ts.length/\ys.length<=i/\H' D=some (.lst ys)/\∃ρ' B' us,SI ⟨B1,H1,E0,Y.cl,[]⟩ B' ρ' σ' H' /\Q0 ρ' /\zc B1 B' /\B' D=none/\zt B' ys us/\((zz g ft fe (ts.drop i) ρ').bind λws=> .ok (us++ws))=r,
  ⟨ts.length,by simp,bR _,bR _,zj,_,B1,[],I.block (H3:=H1) k js _ hD _,Wk k js ρ,zc.refl _,I.sB.free hD,.nil,by rw[dg,ev];cases r <;> rfl⟩, ?_⟩
 rintro i m ys σ' H' ⟨rfl,hi,hyl,hDl,ρ',B',us,I',no',s1',bD,r',ew⟩
 refine⟨hDl, ?_⟩;obtain⟨hgo,hyld,hstop⟩:=rI' B' H' s1' I'.sB;have tD:∀H2,zc H' H2->zv B' H' H2 D=none:=λH2 s=>by rw[zE hDl];exact bD
 by_cases hlt:i < ts.length
 ·refine .inr ⟨hgo i hlt,λx H2 y=> ?_⟩;obtain⟨s2,r2⟩:=hyld i _ x H2 (aF hlt) y;rw[bi hlt]at ew;unfold zz at ew;have I2:=I'.grow s2;refine hG _ _ ρ' σ' H2 x _ _ I2 r2 ?_;cases eg:g ts[i] ρ' with
  | bad=>rw[eg]at ew;subst ew;exact hF
  | ex c=>exact(hN.2 _ _ _ eg).elim
  | ok ρ1=>
   rw[eg]at ew;have no1:=hN.1 _ _ _ no' eg;intro σ1 J1;refine⟨⟨B1,H1,E0,Y.cl,[]⟩,ρ1,rfl,_,J1, ?_⟩;have ew1:((ft ρ1).bind (λk=>if k=true then (fe ρ1).bind λv=>(zz g ft fe (ts.drop (i+1)) ρ1).bind λvs=> .ok (v :: vs) else zz g ft fe (ts.drop _) ρ1)).bind (λws=> .ok _)=r:=ew
   cases ef:ft ρ1 with
   | bad=>rw[ef]at ew1;subst ew1;exact hF
   | ex c=>
    rw[ef]at ew1;subst ew1;exact λd H' a b=>hF d H' a ((s1'.trans (zv.ge I'.sB s2)).trans b)
   | ok kk=>
    rw[ef]at ew1;intro b H3 s3 eb;have eb' :=eb;subst eb';have ew2:=ew1;have J2:=J1.grow s3;have hD3:H3 D=some _:=s3 _ _ (s2 _ _ hDl);have bD3:zv (zv B' H' H2) H2 H3 D=none:=by rw[zE (s2 _ _ hDl)];exact tD H2 s2
    have sB3:=(zv.ge I'.sB s2).trans (zv.ge I2.sB s3);cases b with
    | false=>exact⟨ts.length - (i+1),by omega,rfl,hlt,by omega,hD3,ρ1,_,us,J2,no1,s1'.trans sB3,bD3,r'.mono sB3,ew2⟩
    | true=>
     refine⟨⟨B1,H1,E0,Y.cl,[]⟩,ρ1,rfl,rfl,_,J2, ?_⟩;have ew3:=ew2;cases ee:fe ρ1 with
     | bad=>rw[ee]at ew3;subst ew3;exact hF
     | ex c=>
      rw[ee]at ew3;subst ew3;exact λd H' a b=>hF d H' a ((s1'.trans sB3).trans b)
     | ok v=>
      rw[ee]at ew3;have ew4:=ew3;have ew5:(zz g ft fe (ts.drop (i+1)) ρ1).bind (λws=> .ok ((us++[v])++ws))=r:=by
       rw[← ew4];cases zz g ft fe _ ρ1 with
       | ok ws=>show R.ok _=R.ok _;rw[a_];rfl
       | _=>rfl
      intro w H4 s4 rw4;have hD4:=s4 _ _ hD3;have J3:=J2.grow s4;have bD4:zv (zv (zv B' H' H2) H2 H3) H3 H4 D=none:=by rw[zE hD3];exact bD3
      have sB4:=sB3.trans (zv.ge J2.sB s4);refine⟨hD4,ar (eD hyl hlt) (Z2 hl),ts.length - (i+1),by omega,rfl,hlt,by rw[aa,cM];omega,zj,ρ1,_,us++[v], ?_,no1,s1'.trans sB4,bD4,(r'.mono sB4).append (.cons rw4 .nil),ew5⟩
      exact J3.acc bD4 hD (λj ts' e=>((no1 j _ e).1 ts' rfl).elim) (λj x e=>(no1 j x e).2) _
 ·have e:i=ts.length:=by omega
  subst e;refine .inl ⟨hstop _ (ag _), ?_⟩;rw[cR]at ew;have ew' :R.ok _=r:=ew;rw[aK]at ew';subst ew';refine hF H' ys B' I'.sH hDl r' (λb o h=> ?_) bD s1';cases q:H1 b with
  | none=>rw[zD q];exact I'.sB b o h
  | some u=>
   rw[zE q];have z:B' b=B1 b:=I'.old b u q;rw[← z];exact h
theorem U2 {B1 H1:Hp}{σ:Sg}{ρ:En}{J:It}{ts vs:List T}{D:Addr}(hG:GOk tG g)(hN:GNo g)(I:SI Y B1 ρ σ H1)(rI' :rI B1 H1 J ts)(hl:ts.length<=bnd)(ev:zz g ft fe ts (Jd k js ρ)= .ok vs)(hD:H1 D=none){F:Hp->Prop}
  (hF:∀H' xs B',zc H1 H' ->H' D=some (.lst xs)->zt B' xs vs->zc B' (zv B1 H1 H')->B' D=none->zc B1 B' ->F H'):
  ∃W,(∃m,W 0 m [] (ja k js σ) (upd H1 D (.lst [])))/\wm J D tG (λσ H Q=>∃Y' ρ',Y'.cl=Y.cl/\tS Y' rE ft ρ' σ H Q) (λσ H Q=>∃Y' ρ',Y'.cl=Y.cl/\(Y'.E=λ_ _ _=>False)/\tS Y' rC fe ρ' σ H Q) (λ_ H' =>F H') W:=Jl hG hN I rI' hl ev hD hF
structure U3 (X:Cx) (Y:Fx) (tg iter elt:Expr) (ifs:List Expr) (scope:Scope) (N' :List Str) (k:Nat) (js:List Nat) (fi:En->R (List T)) (tG:TG) (g:T->En->R En) (ft:En->R Bool) (fe:En->R T):Prop where
 sc:CSc X scope
 cp:yy X scope N' k js
 cm:X.calm=true
 it:wj X Y tg iter fi
 gt:Wj X scope N' λXC=>PG XC tg tG
 gk:GOk tG g
 gn:GNo g
 tt:∀Y',Y'.cl=Y.cl->Wj X scope N' λXC=>jb XC Y' ifs ft
 el:∀Y',Y'.cl=Y.cl->Yz X scope N' Y'.E λXC=>Snd XC Y' elt fe
 hs:∀x,foldedSetIterable iter X.env x=pure x
theorem Vb (C:U3 X Y tg iter elt ifs scope N' k js fi tG g ft fe):Snd X Y (.ListComp elt [⟨tg,iter,ifs,0⟩] scope pos) (ZH fi g ft fe k js):= .mk λρ=>by
 intro pins s σ H Q I ⟨B,J,q⟩;refine yz (WP rfl) (F:=λD H' =>Q (.ref D) H') (te:=λσ H Q=>∃Y' ρ',Y'.cl=Y.cl/\(Y'.E=λ_ _ _=>False)/\tS Y' rC fe ρ' σ H Q) (tt:=λσ H Q=>∃Y' ρ',Y'.cl=Y.cl/\tS Y' rE ft ρ' σ H Q) C.sc C.cp C.cm (C.it ρ) C.gt
  (λcl Cx' s3 H3 fp pins pins' s σ H Q I ⟨Y',ρ',ey,q⟩=>C.tt Y' ey cl Cx' s3 H3 fp _ ρ' _ s σ H Q I q) (λcl Cx' s3 H3 fp pins xe hp pins' s σ H Q I ⟨Y',ρ',ey,eE,q⟩=>C.el Y' ey cl Cx' s3 H3 fp _ xe (eE ▸ hp) ρ' _ s σ H Q I q) I ?_ ?_ C.hs
 ·refine step J q λts it' H1 _ s1 r1 J1 q1=> ?_;intro D hD;unfold JB at q1;split at q1
  ·rename_i hl;cases ev:zz g ft fe ts _ with
   | bad=>rw[ev]at q1;exact q1.elim
   | ex c=>rw[ev]at q1;exact q1.elim
   | ok vs=>
    rw[ev]at q1;refine U2 C.gk C.gn J1 r1 hl ev hD λH' xs B' s' e' r' l' b' sb' => ?_;refine(show Po Y rC _ H1 _ Q from q1) _ H' s' ?_;exact .lst (by rw[zD hD];exact e') (r'.mono l')
  ·exact q1.elim
 ·intro D Cc H' s' I' q' hC h0 hL hcell hpin hns;obtain⟨m,hm⟩:=hns;refine⟨m,hm,λh' hsb=>⟨.ref D,H', ?_,rfl,q'⟩⟩;exact I'.turned (λb o hb e=>hsb.extBut b o hb e) hC (bq hL).symm (.inr h0) hcell hpin
def U4 (g:T->En->R En)(ft:En->R Bool)(fe:En->R T)(k:Nat)(js:List Nat)(ρ:En)(ts:List T):R (List T):=if ts.length<=bnd then zz g ft fe ts (Jd k js ρ) else .bad
def jO (fi:En->R (List T))(g:T->En->R En)(ft:En->R Bool)(fe:En->R T)(k:Nat)(js:List Nat):En->R T:=λρ=>(fi ρ).bind λts=>(U4 g ft fe k js ρ ts).bind λvs=> .ok (.lst vs)
end
noncomputable def Itc (x:Str):It:=⟨λi _=>i < x.cps.size,λi H v H' =>H' =H/\∃c,x.cps[i]? =some c/\v= .str ⟨#[c]⟩,λi _=>x.cps.size<=i⟩
theorem Jm {P:Program}{w:World}{K:a6}{tg:Expr}{x:Str}{t:Tok}{ty:String}(it:Addr)(hty:ty="str_ascii_iterator"\/ty="str_iterator"):uv P w K tg (Itc x) [it] it (λi h=>h.IsStrIter it ty x t i):=by
 have W:∀A:Around,A.handled=none->Walks P w A it [it] [it] x.cps.size (SignAt x) (λi h=>h.IsStrIter it ty x t i):=λA hA=>by
  rcases hty with rfl | rfl
  ·exact Walks.strAscii hA it x t
  ·exact Walks.strWide hA it x t
 have hn:["enumerate","zip","dict_itemiterator","dict_reverseitemiterator","odict_iterator","itertools.zip_longest","itertools.pairwise"].contains ty=false:=by rcases hty with rfl | rfl <;> decide
 refine⟨by simp,λi h st b hb=> ?_,λi h h' st k=> ?_, ?_, ?_,λA i s Q E st h=> ?_⟩
 ·have e:b=it:=by simpa using hb
  subst e;obtain⟨o,e,c,d⟩:=st;exact⟨o,e,λv z=>by rw[d]at z;cases z⟩
 ·obtain⟨o,e,r⟩:=st;exact⟨o,k it (by simp) o e,r⟩
 ·intro X hP hw hK hc i pins s σ H E I hf st hg;obtain⟨f0,f1,f2,f3,f4,f5⟩:=hf it (by simp)
  refine(W X.A (I.ok.hd hc)).item i s _ _ hg st λv h' tk hv st' kk=> ?_;obtain⟨c,u,hc',rfl⟩:=hv;have I1:L2.Inv X _ σ H { s with heap:=h',toks:=tk }:=I.turned (λb o hb e=>kk b o (by simpa using hb) e) f0 f1 f3 f4 f5
  obtain⟨o,e,cl,d⟩:=id st';exact⟨_,rfl,yg e cl d hn ⟨.str _,H,I1,⟨u,rfl⟩,⟨rfl,c,hc',rfl⟩,st',λb hb=>(hf b hb).1⟩⟩
 ·intro X hP hw hK hc i pins s σ H E I hf st hg;obtain⟨f0,f1,f2,f3,f4,f5⟩:=hf it (by simp)
  have hx:=Array.getElem?_eq_none hg;rcases hty with rfl | rfl
  ·exact wpAny_pyNext_ascii_end (I.ok.hd hc) st hx λh' eb=>⟨rfl,I.turned (λb o hb e=>eb b o hb e) f0 f1 f3 f4 f5⟩
  ·exact wpAny_pyNext_wide_end (I.ok.hd hc) st hx λh' eb=>⟨rfl,I.turned (λb o hb e=>eb b o hb e) f0 f1 f3 f4 f5⟩
 ·rcases hty with rfl | rfl
  ·exact wpAny_pyIter_striter_ascii st h
  ·exact wpAny_pyIter_striter_wide st h
noncomputable def Zk (x:Str):List T:=x.cps.toList.map λc=>T.str ⟨#[c]⟩
theorem yB {B1 H1:Hp}{x:Str}:rI B1 H1 (Itc x) (Zk x):=λB2 H2 s1 s2=>by
 have hl:(Zk x).length=x.cps.size:=by unfold Zk;simp
 refine⟨λi hi=>by rw[hl]at hi;exact hi,λi t v H3 e y=> ?_,λi hi=>by rw[hl]at hi;exact hi⟩
 obtain⟨rfl,c,hc,rfl⟩:=y;refine⟨zc.refl _, ?_⟩;unfold Zk at e;rw[av]at e;have hc' :x.cps.toList[i]? =some c:=by simpa using hc
 rw[hc']at e;cases e;exact .str _
section
variable {X:Cx}{Y:Fx}{a b c d tg:Expr}{fa fb fc fd:En->R T}{pos p:Pos}
theorem Vc {l:Expr}{tl:TE}(hl:PE X l tl):PI X tg l (λσ H R=>tl σ H λx H1=>(∃a,x= .ref a/\(((∃xs,SqL X.K H1 a xs)/\R (Itl X.K a) H1)\/((∃xs,SqT X.K H1 a xs)/\R (Itt X.K a) H1)))\/(∃z,x= .str z/\R (Itc z) H1)):=by
 intro pins s σ H R I h;refine thn (hl _ s σ H _ I h) λv s1 ⟨x,H1,I1,r1,q1⟩=> ?_;have ok:∀b∈[s1.heap.objs.size],J6 X _ H1 b:=λb hb=>by
  have e:=by simpa using hb
  subst e;exact I1.fpOk (ag _) (I1.hok.fresh (ag _))
 rcases q1 with ⟨a,e,q⟩ | ⟨z,e,q⟩
 ·subst e;obtain rfl:v=Value.ref a:=r1;rcases q with ⟨⟨xs,hq⟩,q⟩ | ⟨⟨xs,hq⟩,q⟩
  ·obtain⟨its,rv,p,hz⟩:=I1.list hq;exact wpAny_pyIter_list p.isList ⟨s1.heap.objs.size,[s1.heap.objs.size],_,_,H1,rfl,I1.kept λb o e=>a7 _ e,uw a _,⟨_,ao _ rfl,rfl,rfl⟩,ok,q⟩
  ·obtain⟨its,rv,p,hz⟩:=I1.tuple hq;exact wpAny_pyIter_tuple (show s1.heap.IsTuple a _ from p) ⟨s1.heap.objs.size,[s1.heap.objs.size],_,_,H1,rfl,I1.kept λb o e=>a7 _ e,WH a _,⟨_,ao _ rfl,rfl,rfl⟩,ok,q⟩
 ·subst e;obtain⟨t,rfl⟩:=r1;cases ha:z.cps.all _
  ·exact wpAny_pyIter_wide ha ⟨s1.heap.objs.size,[s1.heap.objs.size],_,_,H1,rfl,I1.kept λb o e=>a7 _ e,Jm _ (.inr rfl),⟨_,ao _ rfl,rfl,rfl⟩,ok,q⟩
  ·exact wpAny_pyIter_ascii ha ⟨s1.heap.objs.size,[s1.heap.objs.size],_,_,H1,rfl,I1.kept λb o e=>a7 _ e,Jm _ (.inl rfl),⟨_,ao _ rfl,rfl,rfl⟩,ok,q⟩
def U5:T->R (List T)
 | .lst xs=> .ok xs
 | .tup xs=> .ok xs
 | .str x=> .ok (Zk x)
 | _=> .bad
def jP (fa:En->R T):En->R (List T):=λρ=>(fa ρ).bind U5
theorem XS (ha:Snd X Y a fa):wj X Y tg a (jP fa):= .mk λρ=>PI.imp (Vc (ha ρ)) λσ H R ⟨B,I,q⟩=>step I q λt v H1 _ s1 r1 I1 q1=>by
 cases r1 with
 | @tup l xs ts h r=>
  exact .inl ⟨l,rfl,.inr ⟨⟨xs,SqT.of (I1.sB _ _ h)⟩,Zf I1 (show Po Y rI _ H1 _ R from q1) (V2 h r)⟩⟩
 | @lst l xs ts h r=>
  exact .inl ⟨l,rfl,.inl ⟨⟨xs,SqL.of (I1.sB _ _ h)⟩,Zf I1 (show Po Y rI _ H1 _ R from q1) (V3 h r)⟩⟩
 | str z=>exact .inr ⟨z,rfl,Zf I1 (show Po Y rI _ H1 _ R from q1) yB⟩
 | _=>exact q1.elim
end
theorem Inv.laidT {X:Cx}{pins:List (Addr×Obj)}{σ:Sg}{H:Hp}{s:Shared}{h' :Heap}{tk:Nat}{ch:List Addr}{a:Addr}{xs:List V}(I:L2.Inv X pins σ H s)(hf:∀b∈ch,J6 X pins H b)(k:∀b o,b ∉ ch->s.heap.get? b=some o->h'.get? b=some o)
  (th:∀b o,b∈ch->s.heap.get? b=some o->∃o',h'.get? b=some o') (ha:s.heap.objs.size<=a) (new:zW X.prog X.w (upd H a (.tup xs)) h' a (.tup xs)):L2.Inv X pins σ (upd H a (.tup xs)) { s with heap:=h',toks:=tk }:=by
 have hn:=I.hok.fresh ha;have nch:∀b u,H b=some u->b ∉ ch:=λb u e hb=>by rw[(hf b hb).1]at e;cases e
 refine I.call' rfl ⟨λb o e n _ hc=>k b o hc e,λb o e n _ hc=>⟨o.slots,k b o hc e⟩,λb o e n _=>by rw[za (aA (ar (a9 e) ha))];exact n,λb o e hc=>⟨o,k b o hc e⟩,
  λb ys e=>by rw[za (zk e hn)];exact e,λb o u e=>by rw[za (zk e hn)];exact e,λb ps q e=>by rw[za (zk e hn)];exact e⟩ (λb u e=> ?_) I.bare λb hb=> ?_
 ·by_cases hb:b=a
  ·subst hb;rw[zj]at e;cases e;exact new
  ·rw[za hb]at e;refine(I.hok b u e).stay (λc v hc q=> ?_) (λc q=>by rw[za (zk q hn)];exact q) (λc ys q=>by rw[za (zk q hn)];exact q) λc o u q=>by rw[za (zk q hn)];exact q
   rcases hc with rfl | hc
   ·exact k c v (nch c u e) q
   ·exact k c v (nch c _ hc) q
 ·obtain⟨f0,f1,f2,f3,f4,f5⟩:=hf b hb;exact⟨f3,f1,f4,f5⟩
noncomputable def jQ (xs:List T):List T:=(xs.zipIdx).map λp=>T.tup [.int (p.2:Nat),p.1]
theorem U6 {xs:List T}{i:Nat}{t:T}(h:(jQ xs)[i]? =some t):∃x,xs[i]? =some x/\t= .tup [.int (i:Nat),x]:=by
 unfold jQ at h;rw[av,dQ]at h;cases e:xs[i]? with
 | none=>rw[e]at h;cases h
 | some x=>rw[e]at h;cases h;exact⟨x,rfl,by simp⟩
theorem wn (xs:List T):(jQ xs).length=xs.length:=by unfold jQ;simp
section
variable {X:Cx}{Y:Fx}{a:Expr}{fa:En->R T}{pos p pt:Pos}{elts:List Expr}{kk:Nat}
def enumI (fa:En->R T):En->R (List T):=λρ=>(fa ρ).bind λt=>match t with
 | .lst xs=> .ok (jQ xs)
 | _=> .bad
noncomputable def yC:List T->Option (List Str)
 | []=>some []
 | .str x :: r=>match yC r with | some ys=>some (x :: ys) | none=>none
 | _ :: _=>none
def wq (sep:Str):T->R T
 | .lst ts=>match yC ts with
  | some ys=>if (ys.map (·.length)).sum+ys.length*sep.length<=16777216 then .ok (.str (Txt.join sep ys)) else .bad
  | none=> .bad
 | _=> .bad
theorem Wl {H:Hp}:∀{xs:List V} {ts:List T} {its:List Value} {ys:List Str},zt H xs ts->zM xs its->yC ts=some ys->StrsAre its ys
 | _,_,_,ys,.nil,q,h=>by
  have h' :=h;cases q;cases h';exact .nil
 | _,_,_,ys,.cons r rs,q,h=>by
  cases q with
  | cons rv vs=>
  cases r with
  | str x=>
   unfold yC at h;split at h
   ·rename_i zs e;cases h;obtain⟨tk,rfl⟩:=rv;exact .cons x tk (Wl rs vs e)
   ·cases h
  | _=>cases h
theorem Q1:MtR X "str.join" (λx xs H Q=>∃z l zs ts ys,x= .str z/\xs=[.ref l]/\H l=some (.lst zs)/\zt H zs ts/\yC ts=some ys/\(ys.map (·.length)).sum+ys.length*z.length<=16777216/\Q (.str (Txt.join z ys)) H):=by
 intro pins s σ H x xs v us Q I rx rv h;obtain⟨z,l,zs,ts,ys,rfl,rfl,hl,r,e,hb,q⟩:=h;obtain⟨t,rfl⟩:=rx;obtain⟨u,rfl,ru⟩:=j8 rv;obtain rfl:u=Value.ref l:=ru;obtain⟨its,rv,p,_⟩:=zL I (.inl hl) r;exact join_list p (by simpa using Wl r rv e) hb λt' k=>⟨.str _,H,I.tok k,⟨t',rfl⟩,q⟩
theorem Vd {z:Str}{kc:Nat}{pz pa:Pos}(ha:ZV X Y a fa)(hb:attributeBase (.Constant (.str z) kc pz) "join" X.env (eval (.Constant (.str z) kc pz) X.env)=eval (.Constant (.str z) kc pz) X.env:=by rfl)(hs:St1 X a:=by exact st1 rfl)
  (hz:(pa.endLine == p.line)=true:=by rfl):Snd X Y (.Call (.Attribute (.Constant (.str z) kc pz) "join" pa) [a] [] p) (ap1 (wq z) fa):= .mk λρ=>by
 have e1:(((((backTo p (starEach [a] X.env)).all λx=> !x.fst) && (backToKw p (keywordEach [] X.env)).all λx=>x.fst.isSome) && decide (([a].length+([]:List Keyword).length+if ([]:List Keyword).isEmpty=true then 0 else 1) < 30))=true):=by rw[hs];rfl
 refine PE.imp (J8 bv PySem.F.slot_str_join PySem.F.type_str_join Q1 Yj (zo (ha ρ) zK hs) hb e1 hz hs rfl) λσ H Q ⟨B,I,q⟩=> ?_;refine⟨rfl,step I q λt v H1 _ s1 r1 I1 q1=> ?_⟩;cases r1 with
 | @lst l xs ts h r=>
  have q1:Po Y rC _ H1 (match yC ts with | some ys=>if (ys.map _).sum+ys.length*z.length<=16777216 then .ok _ else .bad | none=> .bad) Q:=q1
  split at q1
  ·rename_i ys e;split at q1
   ·rename_i hl;exact⟨z,l,xs,ts,ys,rfl,rfl,h,r,e,hl,po0 I1.sB q1 rfl (.str _)⟩
   ·exact q1.elim
  ·exact q1.elim
 | _=>exact q1.elim
end
theorem Q2 {X:Cx}{E:XK}:zO CX0 X E:=λ_ _ _ _ _ _ _ h=>h.elim
section
variable {X:Cx}{Y:Fx}{a b:Expr}{fa fb:En->R T}{pos pos' p p' :Pos}
theorem Q3 {cl:Nat->Value}{k j n:Nat}{f:Addr}{fd:FuncData}{ps:List Str}{g:List T->R T}{x:Str}{es:List Expr}{ga:En->R (List T)}(hy:Y.cl=cl)(F:W8 X.prog X.w X.K X.mg X.base CX0 j f fd ps (spP cl n g))(hr:Z1 k X.A)(hj:j<=k)(gl:Gl X x)
  (mg:X.mg x=some (.ref f)) (kp:bB X.K (.ref f)=true) (bd:L2.Binds X.K fd ps []) (ha:jl X Y (a :: es) ga) (hd:(x == ("__debug__":Str))=false:=by decide)
  (hs:starEach (a :: es) X.env=(false,eval a X.env) :: starEach es X.env:=by exact zw rfl) (hz:((backTo pos (starEach es X.env)).any λx=>x.fst)=false:=by exact zS rfl):Snd X Y (.Call (.Name x p) (a :: es) [] pos) (z8 n g ga):=by
 subst hy;exact Yt F (hr.mono hj) gl mg kp bd Q2 ha hd hs hz
theorem wW {x:Str}{i:Int}{u:Value}(gl:Gl X x)(mg:X.mg x=some u)(hu:∃t,u=Value.int i t)(hd:(x == ("__debug__":Str))=false:=by decide):Snd X Y (.Name x pos) (cE (.int i)):= .mk λρ=>
 PE.imp (ur (v:= .int i) gl mg hu hd) λσ H Q ⟨B,I,q⟩=>Zf I q (.int i)
end
noncomputable def yD (scope sc0:Scope):Bool:=(scope.kind == .function) && scope.names.all (λx=>x.2 != .cell) && scope.names.all (λx=>x.2 != .local || scope.names.lookup x.1 == some .local) &&
 scope.names.all (λx=>x.2 != .free || sc0.names.lookup x.1 == some .cell || sc0.names.lookup x.1 == some .free)
theorem Wm {X:Cx}{scope:Scope}(sc0:Scope)(h0:X.env.scope=sc0)(h:yD scope sc0=true):CSc X scope:=by
 unfold yD at h;simp only[ah,aY]at h;obtain⟨⟨⟨h1,h2⟩,h3⟩,h4⟩:=h;refine⟨eq_of_beq h1,λx hx=>by simpa using h2 x hx,λx hx hl=> ?_,λx hx hf=> ?_⟩
 ·have:=h3 x hx;rw[hl]at this;simpa using this
 ·have:=h4 x hx;rw[hf]at this;show X.env.scope.names.lookup x.1=_\/X.env.scope.names.lookup x.1=_;rw[h0];simpa using this
noncomputable def U7 (N N' :List Str)(scope sc0:Scope)(k:Nat)(js:List Nat):Bool:=(N'.length == k+js.length) && (bF js.length).all λi=>match js[i]? with
 | none=>true
 | some j=>match N'[k+i]?,N[j]? with
  | some x,some y=>(x == y) && (sc0.names.lookup x == some .cell || sc0.names.lookup x == some .free) && (scope.names.lookup x == some .free)
  | _,_=>false
theorem jR {X:Cx}{scope:Scope}{N' :List Str}{k:Nat}{js:List Nat}(N:List Str)(sc0:Scope)(hN:X.N=N)(h0:X.env.scope=sc0)(h:U7 N N' scope sc0 k js=true):yy X scope N' k js:=by
 unfold U7 at h;simp only[ah,aY]at h;obtain⟨h1,h2⟩:=h;refine⟨eq_of_beq h1,λi j e=> ?_⟩;have hi:=(aT.mp e).1;have q:=h2 i (dN.mpr hi);rw[e]at q;dsimp only at q;split at q
 ·rename_i x y e1 e2;simp only[ah,d0,beq_iff_eq]at q;obtain⟨⟨rfl,q2⟩,q3⟩:=q;refine⟨x,e1,by rw[hN];exact e2, ?_,q3, ?_⟩
  ·rw[h0];exact .inr q2
  ·show X.env.scope.names.lookup x=_\/X.env.scope.names.lookup x=_;rw[h0];exact q2
 ·cases q
theorem Ve {X:Cx}{Y:Fx}{tg iter elt:Expr}{ifs:List Expr}{scope:Scope}{k:Nat}{js:List Nat}{fi:En->R (List T)}{tG:TG}{g:T->En->R En}{ft:En->R Bool}{fe:En->R T}(N' :List Str)(N:List Str)(sc0:Scope)(hN:X.N=N)(h0:X.env.scope=sc0)
  (h:(yD scope sc0 && U7 N N' scope sc0 k js)=true) (cm:X.calm=true) (it:wj X Y tg iter fi) (gt:Wj X scope N' λXC=>PG XC tg tG) (gk:GOk tG g) (gn:GNo g) (tt:∀Y',Y'.cl=Y.cl->Wj X scope N' λXC=>jb XC Y' ifs ft)
  (el:∀Y',Y'.cl=Y.cl->Yz X scope N' Y'.E λXC=>Snd XC Y' elt fe) (hs:∀x,foldedSetIterable iter X.env x=pure x:=by intro _;rfl):U3 X Y tg iter elt ifs scope N' k js fi tG g ft fe:=by
 rw[ah]at h;exact⟨Wm sc0 h0 h.1,jR N sc0 hN h0 h.2,cm,it,gt,gk,gn,tt,el,hs⟩
end PV
namespace PV
open PySem PySem.Spec PyProof.Rows L2 PySem.W
section
variable {X:Cx}{Y:Fx}{a b:Expr}{fa fb:En->R T}{pos pos' p p' :Pos}
theorem Q4 {cl:Nat->Value}{k j n:Nat}{f:Addr}{fd:FuncData}{ps:List Str}{g:List T->R T}{x:Str}{es:List Expr}{ga:En->R (List T)}(hy:Y.cl=cl)(hp:zO (CX1 X.prog X.w) X Y.E)(F:W8 X.prog X.w X.K X.mg X.base (CX1 X.prog X.w) j f fd ps (spP cl n g))(hr:Z1 k X.A)(hj:j<=k)(gl:Gl X x)
  (mg:X.mg x=some (.ref f)) (kp:bB X.K (.ref f)=true) (bd:L2.Binds X.K fd ps []) (ha:jl X Y (a :: es) ga) (hd:(x == ("__debug__":Str))=false:=by decide)
  (hs:starEach (a :: es) X.env=(false,eval a X.env) :: starEach es X.env:=by exact zw rfl) (hz:((backTo pos (starEach es X.env)).any λx=>x.fst)=false:=by exact zS rfl):Snd X Y (.Call (.Name x p) (a :: es) [] pos) (z8 n g ga):=by
 subst hy;exact Yt F (hr.mono hj) gl mg kp bd hp ha hd hs hz
end
def ZB (c:Nat):En->RS:=λ_=> .ex c
section
variable {P:Program}{w:World}{K:a6}{mg:Str->Option Value}{base:Heap}{N:List Str}{qual:Str}{scope:Scope}{f:Addr}{cd:Value}{A:Around}{outer:List Env}{s:Shared}{H:Hp}{E:XK}{Y:Fx}
theorem U8 {x m:Str}{C:Addr}{bm bmN:List Value}{Bn Bb newId nid initId inN:String}{np cpos pos ap:Pos}{j c:Nat}(O:OwnCls x C bm newId mg base)(Fn:ExcBaseFacts Bn newId inN bmN)(hBn:bm.contains (.type Bn)=true)(FB:ExcBaseFacts Bb nid initId bm)
  (hY:Y.E=E) (hc:Y.cl c= .ref C) (hg:Gl (zU (CX1 P w) P w K mg base N qual scope f cd A outer s H E) x) (hd:(x == ("__debug__":Str))=false:=by decide):
  ZA (zU (CX1 P w) P w K mg base N qual scope f cd A outer s H E) Y (.Raise (some (.Call (.Name x np) [.Constant (.str m) j ap] [] cpos)) none pos) (ZB c):= .mk λρ=>by
 subst hY;refine PS.imp (uH O Fn hBn FB hg ((Yo vL yn:jl _ Y _ _) ρ) (zw rfl) hd) λD σ H1 ⟨B,I,q⟩=>⟨B,I,λvs H2 s2 r2=> ?_⟩;refine⟨?_, ?_⟩
 ·rw[r2.length];exact(by decide:1<=sizeLine)
 ·have:=q none H2 (I.sH.trans s2) (I.sB.trans s2);rw[hc]at this;exact this
theorem Fun.okX {x qual:Str}{st:Stmt}{f:Addr}{fd:FuncData}{N ps:List Str}{k:Nat}{sp:Sp}(F:Fun K x qual st f fd)(S:zX N ps (z6 st))(len:∀vs H Q E,sp vs H Q E->vs.length=ps.length)
  (hbody:∀(cdv:Value) (A:Around) (outer:List Env) (s:Shared) (H:Hp) (vs:List V) (Q:VK) (E:XK),Z1 k (A.deeper (envOfC qual (z6 st) s.heap.objs.size f cdv))->sp vs H Q E->
   ∃t,PSs (zU (CX1 P w) P w K mg base N qual (z6 st) f cdv A outer s H E) (zq st) t/\t { nx:=λ_ H' =>Q .non H',rt:=Q } (start N vs) H):W8 P w K mg base (CX1 P w) (k+1) f fd ps sp:=by
 obtain⟨oc,od,kV,doc,pm,an,cdv,ct,osl,rfl,lk,hcd⟩:=F.ex;exact vy lk hcd S len λA outer s H vs Q E hr hsp=>hbody cdv A _ s H vs Q E hr hsp
theorem Vf {cl:Nat->Value}{x qual:Str}{st:Stmt}{f:Addr}{fd:FuncData}{N ps:List Str}{k n:Nat}{fb:En->RS}{g:List T->R T}(F:Fun K x qual st f fd)(S:zX N ps (z6 st))(hn:n=ps.length)
  (hb:∀(cdv:Value) (A:Around) (outer:List Env) (s:Shared) (H:Hp) (E:XK) (Y:Fx),Y.cl=cl->Y.E=E->Z1 k (A.deeper (envOfC qual (z6 st) s.heap.objs.size f cdv))->
   jo (zU (CX1 P w) P w K mg base N qual (z6 st) f cdv A outer s H E) Y (zq st) fb)
  (hg:∀ts,ts.length=n->g ts=zC (fb (en0 N.length ts))):W8 P w K mg base (CX1 P w) (k+1) f fd ps (spP cl n g):=by
 subst hn;refine Fun.okX F S spP.len λcdv A outer s H vs Q E hr ⟨B,ts,hl,sB,r,q⟩=> ?_;refine⟨_,hb cdv A _ s H E ⟨B,H,E,cl,[]⟩ rfl rfl hr _,B,SI.start sB r, ?_⟩;rw[hg ts hl]at q;revert q;cases fb _ with
 | rt t=>exact λq v H' s r=>q v H' s r
 | rf t=>exact λq a xs H' B' s0 n e r _ l=>q _ H' s0 (.lst (by rw[zD n];exact e) (r.mono l))
 | nx ρ=>exact λq σ' H' B' s' I' =>q _ H' I'.sH .non
 | bk ρ=>exact λq=>q.elim
 | ct ρ=>exact λq=>q.elim
 | ex c=>exact λq=>q
 | bad=>exact λq=>q
end
end PV
namespace PySem.W
open PySem PySem.Calls PyProof.Rows PySem.Spec Builtin Builtin.ObjectAttr Builtin.Getset_descriptor
section
variable {prog:Program}{w:World}{A:Around}{E:Value->Shared->Prop}{s:Shared}{K:Frag}{x C:Addr}
theorem wt {tp:Value}{R:Result->Shared->Prop}(X:K.In s.heap)(L0:Looks (model prog w) s.heap (typeOf (.ref x)) (.ref C))(hm:mroIn K C (.type "object")=some true)
  (h:R (.ok (.ret (.ref C))) s):codeAny (model prog w) A (.call (.builtin "getset_descriptor.__get__") ⟨[.builtin "object.__class__",.ref x,tp],[]⟩) R s:=by
 have L1:=looks_mroIn (M:=model prog w) X hm;refine codeAny_call_builtin KF.slot_gs.plain KF.entry_gs (KF.slot_gs.check _ _ _ _ _ _ _ _ KF.type_class (KF.args_gs _ _ _) ?_);refine a4 (aq ?_);unfold descrGetter descrCheckInstance descrNameAndClass isInstance;simp only[KF.owner_class]
 repeat lk
 refine⟨eF _ (by decide+kernel),codeAny_builtin KF.entry_class ?_⟩
 repeat lk
 exact h
theorem Q5 {M:Model}{h:Heap}(X:K.In h)(ha:findIn K (.ref C) "__class__"=some (some (.builtin "object.__class__")))(hn:specialIn K (.builtin "object.__class__") "__get__"=some (some (.builtin "getset_descriptor.__get__")))
  (htk:takesIn K (.builtin "object.__class__")=some true):Looks M h (find (.ref x) (.ref C) "__class__") (.bind (.builtin "getset_descriptor.__get__") (.builtin "object.__class__")):=by
 have L1:=looks_findIn (M:=M) X ha;have L2:Looks M h _ _:=looks_specialIn X hn;have L3:=looks_takesIn (M:=M) X htk;refine L1.andThen (L2.andThen ?_);exact(show Looks M h (dataDescriptor? (some _) (some _)) _ from L3.andThen .now).andThen (Looks.tag .now)
theorem yE {M:Model}{nameV:Value}{Q:Unit->Shared->Prop}(L0:Looks M s.heap (typeOf (.ref x)) (.ref C))(L1:Looks M s.heap (isSubtype (.ref C) (.type "BaseException")) true)(hq:Q () s):wpAny M A (checkBuiltinCall "BaseException.__getattribute__" ⟨[.ref x,nameV],[]⟩) Q E s:=by
 have hk:builtinKind "BaseException.__getattribute__"=some .slot:=by decide+kernel
 have hsplit:splitId "BaseException.__getattribute__"=some ("BaseException","__getattribute__"):=by decide+kernel
 simp only[checkBuiltinCall,hk,hsplit]
 repeat (first | lk | wp_step)
 exact hq
end
end PySem.W
namespace PySem.W
open PySem PySem.Calls PyProof.Rows PySem.Spec Builtin Builtin.ObjectAttr Builtin.Getset_descriptor
section
variable {prog:Program}{w:World}{A:Around}{E:Value->Shared->Prop}{s:Shared}{K:Frag}{x C:Addr}
structure XCls (K:Frag) (C:Addr):Prop where
 ga:findIn K (.ref C) "__getattribute__"=some (some (.builtin "BaseException.__getattribute__"))
 gt:findIn K (.ref C) "__getattr__"=some none
 ca:findIn K (.ref C) "__class__"=some (some (.builtin "object.__class__"))
 sp:specialIn K (.builtin "object.__class__") "__get__"=some (some (.builtin "getset_descriptor.__get__"))
 tk:takesIn K (.builtin "object.__class__")=some true
 ob:mroIn K C (.type "object")=some true
 be:mroIn K C (.type "BaseException")=some true
 cl:(clsIn K C).isSome=true
theorem yF {tk:Tok}{Q:Fin->Shared->Prop}(X:K.In s.heap)(c:XCls K C)(L0:Looks (model prog w) s.heap (typeOf (.ref x)) (.ref C))(hq:Q (.done (.ret (.ref C))) s):
  wpAny (model prog w) A (Builtin.«object.__getattribute__» ⟨[.ref x,.str "__class__" tk],[]⟩) Q E s:=by
 have L1:=Q5 (M:=model prog w) (x:=x) X c.ca c.sp c.tk;refine a4 (aq (a4 (aq (a4 (L0.at (a4 (L1.at ?_)))))));refine a4 (wpAny_call (wt X L0 c.ob ?_));exact aq hq
end
end PySem.W
namespace PySem.W
open PySem PySem.Calls PyProof.Rows PySem.Spec Builtin Builtin.ObjectAttr Builtin.Getset_descriptor
section
variable {prog:Program}{w:World}{A:Around}{E:Value->Shared->Prop}{s:Shared}{K:Frag}{x C:Addr}
theorem yG {Q:Option Value->Shared->Prop}(X:K.In s.heap)(c:XCls K C)(L0:Looks (model prog w) s.heap (typeOf (.ref x)) (.ref C))(h:Q (some (.ref C)) { s with toks:=s.toks+1 }):wpAny (model prog w) A (getAttr? (.ref x) "__class__") Q E s:=by
 have L1:=looks_findIn (M:=model prog w) X c.ga;have L2:=looks_findIn (M:=model prog w) X c.gt;have L3:=looks_mroIn (M:=model prog w) X c.be;have fb:=dw.ga.bind (.ref x);refine a4 (wpAny_mkText (a4 (wpAny_attempt (aV (a4 (L0.at (a4 (L1.at ?_))))))));refine a4 ?_;refine L2.at ?_;refine a4 (wpAny_attempt (aV ?_));unfold callGetattribute;unfold boundAndCalled;rw[fb];refine wpAny_call (codeAny_call_builtin dw.ga.plain PySem.F.entry_bexc_ga (yE L0 L3 (yF X c L0 ?_)));exact handed_on rfl (aq h)
theorem Q6 (c:XCls K C):KitX K (.ref x) (.ref C) (λh=>∃o,h.get? x=some o/\o.cls= .ref C) where
 ty:=λM h _ ⟨o,h1,h2⟩=>h2 ▸ (Looks.ld h1).andThen .now
 it:=λ_ _ X _=>by
  obtain⟨cdD,hcD⟩:=bU.mp c.cl;unfold clsIn at hcD;split at hcD
  ·rename_i c' d' cd' sl' ho;intro A' Q' E' s' k q;unfold isType loadHead;exact a4 (wpAny_loadPart (k _ _ (X _ _ ho)) (aq q))
  ·cases hcD
 ne:=λh tp dd its n sl X htp=>by
  obtain⟨cdD,hcD⟩:=bU.mp c.cl;refine Bool.eq_false_iff.mpr λq=> ?_;have e:C=tp:=Value.ref.inj (beq_iff_eq.mp q);subst e;unfold clsIn at hcD;split at hcD
  ·rename_i c' d' cd' sl' ho;have z:=(X _ _ ho).symm.trans htp;cases z
  ·cases hcD
 ca:=λ{prog w A E Q s} X ⟨o,h1,h2⟩ k=>yG X c (h2 ▸ (Looks.ld h1).andThen .now) k
end
end PySem.W
namespace PV
open PySem PySem.Spec PyProof.Rows L2 PySem.W
section
variable {X:Cx}{Y:Fx}{a b:Expr}{fa fb:En->R T}{pos pos' p p' :Pos}
def jx (i:Nat)(ok tab:Nat->Bool):En->R T:=λρ=>match ρ[i]? with
 | some (.xc c)=>if ok c=true then .ok (.bl (tab c)) else .bad
 | _=> .bad
theorem wu:Zy X (.builtin "isinstance") (λxs H Q=>∃a C v b,xs=[.ref a,v]/\H a=some (.ext (uI (.ref C) a))/\XCls X.K C/\(∀u,zR v u->kitOne X.K (.ref C) u=some b)/\Q (.bl b) H):=by
 intro pins s σ H xs us Q I rv h;obtain⟨a,C,v,b,rfl,e,c,hk,q⟩:=h;obtain⟨u,w,rfl,ru,rw'⟩:=qk rv;obtain rfl:u=Value.ref a:=ru;obtain⟨hx,_,_⟩:=(show zW _ X.w H _ a _ from I.hok a _ e);exact kia_one (Q6 c) I.kIn hx (hk w rw') (λz=>nomatch z) λtk=>⟨.bl _,H,I.tok tk,rfl,q⟩
structure XK1 (K:Frag) (cl:Nat->Value) (ok:Nat->Bool):Prop where
 at_:∀c,ok c=true->∃C,cl c= .ref C/\XCls K C
theorem ZI {i:Nat}{ok tab:Nat->Bool}{y cn:Str}{C:Addr}{yp cp:Pos}(hK:XK1 X.K Y.cl ok)(ht:∀c,ok c=true->kitOne X.K (Y.cl c) (.ref C)=some (tab c))(gl:Gl X "isinstance")(mg:X.mg "isinstance"=none)(hv:PE X (.Name y yp) (yd i))(gl' :Gl X cn)(mg' :X.mg cn=some (.ref C))
  (hd:(cn == ("__debug__":Str))=false:=by decide):Snd X Y (.Call (.Name "isinstance" p) [.Name y yp,.Name cn cp] [] pos) (jx i ok tab):= .mk λρ=>
 PE.imp (jz wu gl mg PyProof.Rows.Boot.«isinstance» (zo hv (zo (ur (v:= .ref C) gl' mg' rfl hd) zK (st1 rfl)) (st2 rfl rfl)) (by decide) (by decide) (by rw[st2 rfl rfl,st1 rfl]) (zS rfl)) λσ H Q ⟨B,I,q⟩=>by
  unfold jx at q;split at q
  ·rename_i c e;split at q
   ·rename_i hc;obtain⟨a,e1,r⟩:=I.xc i c e;obtain⟨Cc,e2,xc⟩:=hK.at_ c hc;have ht' :=ht c hc;rw[e2]at r ht';exact⟨_,e1,a,Cc,_,_,rfl,I.sB a _ r,xc,λu ru=>by obtain rfl:u=Value.ref C:=ru;exact ht',Zf I q (.bl _)⟩
   ·exact q.elim
  ·exact q.elim
theorem Q7 {i:Nat}{ok tab:Nat->Bool}{y:Str}{n:String}{yp cp:Pos}(hK:XK1 X.K Y.cl ok)(ht:∀c,ok c=true->kitOne X.K (Y.cl c) (.type n)=some (tab c))(gl:Gl X "isinstance")(mg:X.mg "isinstance"=none)(hv:PE X (.Name y yp) (yd i))(gl' :Gl X (aS n))(mg' :X.mg (aS n)=none)
  (bt:bootBuiltins (aS n)=some (.type n)) (hn:aS n ≠ "__name__":=by decide) (hd:(aS n == ("__debug__":Str))=false:=by decide):Snd X Y (.Call (.Name "isinstance" p) [.Name y yp,.Name (aS n) cp] [] pos) (jx i ok tab):= .mk λρ=>
 PE.imp (jz wu gl mg PyProof.Rows.Boot.«isinstance» (zo hv (zo (ut (v:= .ty n) gl' mg' bt rfl hn hd) zK (st1 rfl)) (st2 rfl rfl)) (by decide) (by decide) (by rw[st2 rfl rfl,st1 rfl]) (zS rfl)) λσ H Q ⟨B,I,q⟩=>by
  unfold jx at q;split at q
  ·rename_i c e;split at q
   ·rename_i hc;obtain⟨a,e1,r⟩:=I.xc i c e;obtain⟨Cc,e2,xc⟩:=hK.at_ c hc;have ht' :=ht c hc;rw[e2]at r ht';exact⟨_,e1,a,Cc,_,_,rfl,I.sB a _ r,xc,λu ru=>by obtain rfl:u=Value.type n:=ru;exact ht',Zf I q (.bl _)⟩
   ·exact q.elim
  ·exact q.elim
def spC (cl:Nat->Value)(gx:Nat->R T):Sp:=λvs H Q E=>∃B a c,vs=[V.ref a]/\zc B H/\B a=some (.ext (uI (cl c) a))/\Po ⟨B,H,E,cl,[]⟩ rC B H (gx c) Q
end
section
variable {P:Program}{w:World}{K:a6}{mg:Str->Option Value}{base:Heap}
def enC (n c:Nat):En:= .xc c :: au (n - 1) .un
theorem SI.startC {Y:Fx}{N:List Str}{a:Addr}{c:Nat}(s:zc Y.B0 Y.H0)(hN:1<=N.length)(r:Y.B0 a=some (.ext (uI (Y.cl c) a))):SI Y Y.B0 (enC N.length c) (L2.start N [V.ref a]) Y.H0 where
 s0:=s
 sH:=zc.refl _
 sB:=s
 old:=λ_ _ _=>rfl
 len:=by unfold enC L2.start;simp
 vl:=λi t h=>by
  unfold enC at h;cases i with
  | zero=>cases h
  | succ i=>rw[bW,aw]at h;split at h <;> cases h
 ow:=λi t h=>by
  unfold enC at h;cases i with
  | zero=>cases h
  | succ i=>rw[bW,aw]at h;split at h <;> cases h
 xc:=λi d h=>by
  unfold enC at h;cases i with
  | zero=>
   cases h;exact⟨a,by unfold L2.start;rfl,r⟩
  | succ i=>rw[bW,aw]at h;split at h <;> cases h
 st:=StI.no λi y hy h=>by
  unfold enC at h;cases i with
  | zero=>cases h;cases hy
  | succ i=>
   rw[bW,aw]at h;split at h
   ·cases h;cases hy
   ·cases h
end
end PV
namespace PySem.ZG
open PySem PySem.Spec PySem.Builtin.SmallTypes
end PySem.ZG
namespace PySem.ZG
open PySem PySem.Spec PySem.Builtin.SmallTypes
end PySem.ZG
namespace PySem.ZG
open PySem PySem.Spec PySem.Builtin.SmallTypes
end PySem.ZG
namespace PySem.ZG
open PySem PySem.Spec PySem.Builtin.SmallTypes
end PySem.ZG
namespace PySem.ZG
open PySem PySem.Spec PySem.Builtin.SmallTypes
end PySem.ZG
namespace PV
open PySem PySem.Spec PyProof.Rows L2 PySem.ZG
end PV
namespace PV
open PySem PySem.Spec PyProof.Rows L2
def eqs (y:T):List T->Option (List Bool)
 | []=>some []
 | t :: ts=>match eqF 30 t y with
  | none=>none
  | some b=>match eqs y ts with
   | none=>none
   | some bs=>some (b :: bs)
def XT (y:T)(ts:List T):R T:=match eqs y ts with
 | some bs=> .ok (.int (bs.count true))
 | none=> .bad
def XU (y:T)(ts:List T):R T:=match eqs y ts with
 | some bs=>if true∈bs then .ok (.int (bs.idxOf true)) else .bad
 | none=> .bad
def xB (g:T->List T->R T)(fa fb:En->R T):En->R T:=λρ=>(fa ρ).bind λt=>match t with
 | .lst ts=>(fb ρ).bind λu=>g u ts
 | _=> .bad
theorem U9 {H:Hp}{y:T}{e:Value->Bool}(he:∀(v:V) (t:T) (u:Value) (b:Bool),zR v u->Rep H v t->eqF 30 t y=some b->e u=b):∀{xs:List V} {ts:List T} {its:List Value} {bs:List Bool},
  zM xs its->zt H xs ts->eqs y ts=some bs->its.map e=bs/\∀u∈its,∃v t k,zR v u/\Rep H v t/\eqF 30 t y=some k
 | _,_,_,_,.nil,.nil,h=>by
  cases h;exact⟨rfl,λu hu=>by simp at hu⟩
 | _,_,_,_,.cons rv vs,.cons r rs,h=>by
  rename_i v u vals us t ts;unfold eqs at h;cases q:eqF 30 t y with
  | none=>rw[q]at h;cases h
  | some k=>
   rw[q]at h;cases q' :eqs y ts with
   | none=>rw[q']at h;cases h
   | some k' =>
    rw[q']at h;cases h;obtain⟨h1,h2⟩:=U9 he vs rs q';refine⟨by rw[bg,h1,he v t u k rv r q],λw hw=> ?_⟩
    rcases aj.mp hw with z | hw
    ·exact⟨v,t,k,z ▸ rv,r,q⟩
    ·exact h2 w hw
section
variable {X:Cx}{Y:Fx}{a b:Expr}{fa fb:En->R T}{pos p p' pos' :Pos}
theorem Ua {e:Value->Bool}:∀its:List Value,List.countP e its=(its.map e).count true
 | []=>rfl
 | u :: us=>by
  rw[List.countP_cons,bg,List.count_cons,Ua us];cases e u <;> rfl
theorem yH (hu:X.A.units+64 < cLine):MtR X "list.count" (λx xs H Q=>∃l ys ts v t bs,x= .ref l/\xs=[v]/\H l=some (.lst ys)/\zt H ys ts/\Rep H v t/\eqs t ts=some bs/\Q (.int (bs.count true)) H):=by
 intro pins s σ H x xs v0 us Q I rx rv h;obtain⟨l,ys,ts,v,t,bs,rfl,rfl,hl,r,rt,e,q⟩:=h;obtain rfl:v0=Value.ref l:=rx;obtain⟨u,rfl,ru⟩:=j8 rv;obtain⟨hz,its,n,ri,eo⟩:=(show zW _ X.w H _ l _ from I.hok l _ hl);obtain⟨f,hf⟩:=wS λz=>eqF 30 z t;obtain⟨h2,h3⟩:=U9 hf ri r e;refine bJ dy ⟨_,eo,rfl⟩ PySem.F.entry_list_count (PySem.F.args_list_count_2 _ _) (SeqAt.list_countAt l _ n _ #[] u f) ⟨eo,λw hw=> ?_, ?_⟩
 ·obtain⟨v',t',k,rv',rr,ee⟩:=h3 w (by simpa using hw)
  rw[hf v' t' w k rv' rr ee];exact(uN I 30 _ (by rw[ZW];omega) t' t k v' v w u ee rr rt rv' ru).1
 ·rw[Ua,h2];exact⟨.int _,H,I.tok _,⟨_,rfl⟩,q⟩
theorem yI (hu:X.A.units+64 < cLine):MtR X "list.index" (λx xs H Q=>∃l ys ts v t bs,x= .ref l/\xs=[v]/\H l=some (.lst ys)/\zt H ys ts/\Rep H v t/\eqs t ts=some bs/\true∈bs/\Q (.int (bs.idxOf true)) H):=by
 intro pins s σ H x xs v0 us Q I rx rv h;obtain⟨l,ys,ts,v,t,bs,rfl,rfl,hl,r,rt,e,hm,q⟩:=h;obtain rfl:v0=Value.ref l:=rx;obtain⟨u,rfl,ru⟩:=j8 rv;obtain⟨hz,its,n,ri,eo⟩:=(show zW _ X.w H _ l _ from I.hok l _ hl);obtain⟨f,hf⟩:=wS λz=>eqF 30 z t;obtain⟨h2,h3⟩:=U9 hf ri r e;have hj:=List.idxOf_lt_length_iff.mpr hm;have hlen:bs.length=its.length:=by rw[← h2,aD]
 have hri:=ri.length;rw[cz]at hz;have hat:∀m (hm:m < its.length),f its[m]=bs[m]'(by rw[hlen];exact hm):=λm hm=>by
  have:(its.map f)[m]'(by rw[aD];exact hm)=bs[m]'(by rw[hlen];exact hm):=by simp only[h2]
  rw[← this,List.getElem_map]
 refine bJ dz ⟨_,eo,rfl⟩ PySem.F.entry_list_index (PySem.F.args_list_index_2 _ _) (SeqAt.list_indexAt l _ n _ #[] u f _ (by rw[ax,← hlen];exact hj) (by omega) ?_ ?_) ⟨eo,λw hw=> ?_, ?_⟩
 ·rw[dR,hat];exact List.getElem_idxOf hj
 ·intro m hm hlt;rw[dR,hat m (by simpa using hm)]
  have:=List.not_of_lt_findIdx hlt;simpa using this
 ·obtain⟨v',t',k,rv',rr,ee⟩:=h3 w (by simpa using hw)
  rw[hf v' t' w k rv' rr ee];exact(uN I 30 _ (by rw[ZW];omega) t' t k v' v w u ee rr rt rv' ru).1
 ·exact⟨.int _,H,I.tok _,⟨_,rfl⟩,q⟩
theorem Q8 {pa:Pos}(hu:X.A.units+64 < cLine)(ha:ZV X Y a fa)(hb:ZV X Y b fb)(hb1:attributeBase a "count" X.env (eval a X.env)=eval a X.env:=by rfl)(hs:St1 X b:=by exact st1 rfl)(hz:(pa.endLine == p.line)=true:=by rfl):
  Snd X Y (.Call (.Attribute a "count" pa) [b] [] p) (xB XT fa fb):= .mk λρ=>by
 have e1:(((((backTo p (starEach [b] X.env)).all λx=> !x.fst) && (backToKw p (keywordEach [] X.env)).all λx=>x.fst.isSome) && decide (([b].length+([]:List Keyword).length+if ([]:List Keyword).isEmpty=true then 0 else 1) < 30))=true):=by rw[hs];rfl
 refine PE.imp (J8 bV dy PySem.F.type_list_count (yH hu) (ha ρ) (zo (hb ρ) zK hs) hb1 e1 hz hs rfl) λσ H Q ⟨B,I,q⟩=>step I q λt v H1 _ s1 r1 I1 q1=> ?_;cases t with
 | lst ts=>
  cases r1 with
  | @lst l xs _ h r=>
   refine⟨.inl ⟨rfl,_,SqL.of h⟩,step I1 q1 λu v' H2 _ s2 r2 I2 q2=> ?_⟩;unfold XT at q2;split at q2
   ·rename_i bs e;exact⟨l,xs,ts,v',u,bs,rfl,rfl,s2 _ _ h,r.mono s2,r2,e,Zf I2 q2 (.int _)⟩
   ·exact q2.elim
 | _=>exact q1.elim
theorem Q9 {pa:Pos}(hu:X.A.units+64 < cLine)(ha:ZV X Y a fa)(hb:ZV X Y b fb)(hb1:attributeBase a "index" X.env (eval a X.env)=eval a X.env:=by rfl)(hs:St1 X b:=by exact st1 rfl)(hz:(pa.endLine == p.line)=true:=by rfl):
  Snd X Y (.Call (.Attribute a "index" pa) [b] [] p) (xB XU fa fb):= .mk λρ=>by
 have e1:(((((backTo p (starEach [b] X.env)).all λx=> !x.fst) && (backToKw p (keywordEach [] X.env)).all λx=>x.fst.isSome) && decide (([b].length+([]:List Keyword).length+if ([]:List Keyword).isEmpty=true then 0 else 1) < 30))=true):=by rw[hs];rfl
 refine PE.imp (J8 bV dz PySem.F.type_list_index (yI hu) (ha ρ) (zo (hb ρ) zK hs) hb1 e1 hz hs rfl) λσ H Q ⟨B,I,q⟩=>step I q λt v H1 _ s1 r1 I1 q1=> ?_;cases t with
 | lst ts=>
  cases r1 with
  | @lst l xs _ h r=>
   refine⟨.inl ⟨rfl,_,SqL.of h⟩,step I1 q1 λu v' H2 _ s2 r2 I2 q2=> ?_⟩;unfold XU at q2;split at q2
   ·rename_i bs e;split at q2
    ·rename_i hm;exact⟨l,xs,ts,v',u,bs,rfl,rfl,s2 _ _ h,r.mono s2,r2,e,hm,Zf I2 q2 (.int _)⟩
    ·exact q2.elim
   ·exact q2.elim
 | _=>exact q1.elim
end
end PV
namespace PySem.RV
open PySem PySem.Spec PyProof.Rows PySem.Builtin.SmallTypes
end PySem.RV
namespace PySem.RV
open PySem PySem.Spec PyProof.Rows
end PySem.RV
namespace PV
open PySem PySem.Spec PyProof.Rows L2
end PV
namespace PySem.RV
open PySem PySem.Spec PyProof.Rows PySem.Builtin.SmallTypes
end PySem.RV
namespace PV
open PySem PySem.Spec PyProof.Rows L2
end PV
namespace PySem.RW37
open PySem PySem.Spec PyProof.Rows L2
end PySem.RW37
namespace PV
open PySem PySem.Spec PyProof.Rows L2 PySem.RW37
end PV
namespace PV
open PySem PySem.Spec PyProof.Rows L2
end PV
namespace PySem.RV
open PySem PySem.Spec PyProof.Rows PySem.Builtin.SmallTypes
end PySem.RV
namespace PV
open PySem PySem.Spec PyProof.Rows L2
noncomputable def Wn (t t' :T):R Bool:=match t,t' with
 | .str x,.str y=> .ok (Txt.contains y x)
 | _,_=> .bad
theorem Vg:Nx Wn:=λt t' c h=>by
 unfold Wn at h;split at h <;> cases h
section
variable {X:Cx}{Y:Fx}{a b c:Expr}{fa fb fc:En->R T}{pos p:Pos}
theorem Qa:OpR X (compareOp .In) (wO Wn):=by
 intro pins s σ H x y v u Q I rx ry h;obtain⟨t,t',k,r,r',e,q⟩:=h;unfold Wn at e;split at e
 ·cases e;cases r;cases r';obtain⟨t1,rfl⟩:=rx;obtain⟨t2,rfl⟩:=ry;exact P.in_str ⟨.bl _,H,I,rfl,q⟩
 ·cases e
def smE (g:Str->T->R T)(fa fb:En->R T):En->R T:=λρ=>(fa ρ).bind λt=>match t with
 | .str x=>(fb ρ).bind λu=>g x u
 | _=> .bad
noncomputable def QU (x:Str):T->R T
 | .str y=> .ok (.bl (bL x y))
 | _=> .bad
noncomputable def QV (x:Str):T->R T
 | .str y=> .ok (.bl (bH x y))
 | _=> .bad
def Vh (x:Str):T->R T
 | .str y=>if x.length<=bnd/\(y.length == 0)=false then .ok (.tup [.str (bh x y).1,.str (bh x y).2.1,.str (bh x y).2.2]) else .bad
 | _=> .bad
noncomputable def QW (x:Str):T->R T
 | .str y=>if x.length<=1000/\(y.length == 0)=false then .ok (.lst ((cB x y).map T.str)) else .bad
 | _=> .bad
def Ub (fa fb fc:En->R T):En->R T:=λρ=>(fa ρ).bind λt=>match t with
 | .str x=>(fb ρ).bind λu=>(fc ρ).bind λw=>match u,w with
  | .str y,.int i=> .ok (.bl (bP x y i))
  | _,_=> .bad
 | _=> .bad
theorem YA:MtR X "str.startswith" (λx xs H Q=>(∃z y,x= .str z/\xs=[.str y]/\Q (.bl (bL z y)) H)\/∃z y i,x= .str z/\xs=[.str y,.int i]/\Q (.bl (bP z y i)) H):=by
 intro pins s σ H x xs v us Q I rx rv h;rcases h with ⟨z,y,rfl,rfl,q⟩ | ⟨z,y,i,rfl,rfl,q⟩
 ·obtain⟨t,rfl⟩:=rx;obtain⟨u,rfl,ru⟩:=j8 rv;obtain⟨t2,rfl⟩:=ru;exact call_gives F.slot_str_startswith (c8 _ _ _) F.entry_str_startswith (F.args_str_startswith_2 _ _) (gives_str_startswith z y t t2) ⟨.bl _,H,I,rfl,q⟩
 ·obtain⟨t,rfl⟩:=rx;obtain⟨u,u3,rfl,ru,r3⟩:=qk rv;obtain⟨t2,rfl⟩:=ru;obtain⟨t3,rfl⟩:=r3;refine SC.startswith3 ?_;exact⟨.bl _,H,I,rfl,q⟩
theorem Vi:MtR X "str.endswith" (λx xs H Q=>∃z y,x= .str z/\xs=[.str y]/\Q (.bl (bH z y)) H):=by
 intro pins s σ H x xs v us Q I rx rv h;obtain⟨z,y,rfl,rfl,q⟩:=h;obtain⟨t,rfl⟩:=rx;obtain⟨u,rfl,ru⟩:=j8 rv;obtain⟨t2,rfl⟩:=ru;exact call_gives F.slot_str_endswith (c8 _ _ _) F.entry_str_endswith (F.args_str_endswith_2 _ _) (gives_str_endswith z y t t2) ⟨.bl _,H,I,rfl,q⟩
theorem wv {pins:List (Addr×Obj)}{s:Shared}{σ:L2.St}{H:Hp}(I:Inv X pins σ H s)(x y z:Str)(t1 t2 t3:Tok)(k:Nat){Q:VK}(q:∀p,H p=none->Q (.ref p) (upd H p (.tup [.str x,.str y,.str z]))):
  EP X pins σ Q (.ref s.heap.objs.size) { s with heap:=s.heap.push { cls:= .type "tuple",data:= .seq [.str x t1,.str y t2,.str z t3].toArray },toks:=k }:=
 ⟨.ref _,upd H _ (.tup [.str x,.str y,.str z]),I.laid (λb u e=>a7 _ e) (ag _) ⟨by show 3<=16777216;decide,[.str x t1,.str y t2,.str z t3],.cons ⟨_,rfl⟩ (.cons ⟨_,rfl⟩ (.cons ⟨_,rfl⟩ .nil)),⟨_,ao _ rfl,rfl,_,rfl⟩,.inr ⟨_,ao _ rfl,rfl⟩⟩,rfl,q _ (I.hok.fresh (ag _))⟩
theorem Vj:MtR X "str.partition" (λx xs H Q=>∃z y,x= .str z/\xs=[.str y]/\z.length<=bnd/\(y.length == 0)=false/\∀p,H p=none->Q (.ref p) (upd H p (.tup [.str (bh z y).1,.str (bh z y).2.1,.str (bh z y).2.2]))):=by
 intro pins s σ H x xs v us Q I rx rv h;obtain⟨z,y,rfl,rfl,hz,hy,q⟩:=h;obtain⟨t,rfl⟩:=rx;obtain⟨u,rfl,ru⟩:=j8 rv;obtain⟨t2,rfl⟩:=ru;refine bJ F.slot_str_partition (c8 _ _ _) F.entry_str_partition (F.args_str_partition_2 _ _) (meets_str_partition z y t t2 hy (Z2 hz)) ?_;unfold bh at q;revert q;cases bE z y 0 _ 1 with
 | nil=>exact λq=>wv I _ _ _ _ _ _ _ q
 | cons i r=>exact λq=>wv I _ _ _ _ _ _ _ q
theorem ww:∀l:List (Str×Tok),zM (l.map λp=>V.str p.1) (strValues l)
 | []=> .nil
 | (x,t) :: r=> .cons ⟨t,rfl⟩ (ww r)
theorem JE {pins:List (Addr×Obj)}{s:Shared}{σ:L2.St}{H:Hp}(I:Inv X pins σ H s)(l:List (Str×Tok))(k:Nat){ys:List Str}(hl:l.map (·.1)=ys)(hz:ys.length<=sizeLine){Q:VK}(q:∀p,H p=none->Q (.ref p) (upd H p (.lst (ys.map V.str)))):
  EP X pins σ Q (.ref s.heap.objs.size) { s with heap:=s.heap.push { cls:= .type "list",data:= .seq (strValues l).toArray },toks:=k }:=by
 subst hl;have e:(l.map (·.1)).map V.str=l.map λp=>V.str p.1:=by rw[bS];rfl
 rw[e]at q;refine⟨.ref _,upd H _ (.lst (l.map λp=>V.str p.1)),I.laid (λb u e=>a7 _ e) (ag _) ⟨?_,strValues l,0,ww l,ao _ rfl⟩,rfl,q _ (I.hok.fresh (ag _))⟩;rw[aD]at hz ⊢;exact hz
theorem Uc (x y:Str):(cB x y).length<=x.length+2:=by
 unfold cB;have e1:=dJ x y 0 x.length (x.length+1);split
 ·simp
 ·split
  ·simp
  ·rw[length_partsBetween];omega
theorem Vk:MtR X "str.split" (λx xs H Q=>∃z y,x= .str z/\xs=[.str y]/\z.length<=1000/\(y.length == 0)=false/\∀p,H p=none->Q (.ref p) (upd H p (.lst ((cB z y).map V.str)))):=by
 intro pins s σ H x xs v us Q I rx rv h;obtain⟨z,y,rfl,rfl,hz,hy,q⟩:=h;obtain⟨t,rfl⟩:=rx;obtain⟨u,rfl,ru⟩:=j8 rv;obtain⟨t2,rfl⟩:=ru;have hs:(cB z y).length<=sizeLine:=by
  have:=Uc z y;rw[cz];omega
 have hn:(Builtin.Str.partsBetween z (bE z y 0 z.length (z.length+1)) y.length).length<=sizeLine:=by
  have e1:=dJ z y 0 z.length (z.length+1);rw[length_partsBetween,cz];omega
 cases h1:(decide (z.length < y.length) || decide (dW z < dW y))
 ·cases hf:(bE z y 0 _ _).isEmpty
  ·refine bJ dA (c8 _ _ _) dn (dh _ _) (meets_str_split_sep z y t t2 h1 hy hf (by rw[cz];omega) hn) ?_
   rw[strsFrom_eq];exact JE I _ _ ((numbered_texts _ _).trans ((if_neg (ne_true_of_eq_false h1)).trans (if_neg (ne_true_of_eq_false hf))).symm) hs q
  ·refine bJ dA (c8 _ _ _) dn (dh _ _) (meets_str_split_not_found z y t t2 h1 hy hf) ?_;exact JE I [(z,t)] _ ((if_neg (ne_true_of_eq_false h1)).trans (if_pos hf)).symm hs q
 ·refine bJ dA (c8 _ _ _) dn (dh _ _) (meets_str_split_cannot_occur z y t t2 h1) ?_;exact JE I [(z,t)] _ (if_pos h1).symm hs q
section
variable {pa:Pos}
theorem xC {b:Expr}{p:Pos}(hs:St1 X b):(((((backTo p (starEach [b] X.env)).all λx=> !x.fst) && (backToKw p (keywordEach [] X.env)).all λx=>x.fst.isSome) && decide (([b].length+([]:List Keyword).length+if ([]:List Keyword).isEmpty=true then 0 else 1) < 30))=true):=by rw[hs];rfl
theorem XV (ha:Snd X Y a fa)(hb:Snd X Y b fb)(hb1:attributeBase a "startswith" X.env (eval a X.env)=eval a X.env:=by rfl)(hs:St1 X b:=by exact st1 rfl)(hz:(pa.endLine == p.line)=true:=by rfl):
  Snd X Y (.Call (.Attribute a "startswith" pa) [b] [] p) (smE QU fa fb):= .mk λρ=>
 PE.imp (J8 bv d8 d9 YA (ha ρ) (zo (hb ρ) zK hs) hb1 (xC hs) hz hs rfl) λσ H Q ⟨B,I,q⟩=>step I q λt v H1 _ s1 r1 I1 q1=>by
  cases r1 with
  | str x=>
   refine⟨rfl,step I1 q1 λu v' H2 _ s2 r2 I2 q2=> ?_⟩;cases r2 with
   | str y=>exact .inl ⟨x,y,rfl,rfl,po0 I2.sB q2 rfl (.bl _)⟩
   | _=>exact q2.elim
  | _=>exact q1.elim
theorem Vl (ha:Snd X Y a fa)(hb:Snd X Y b fb)(hc:Snd X Y c fc)(hb1:attributeBase a "startswith" X.env (eval a X.env)=eval a X.env:=by rfl)(hs:starEach [b,c] X.env=[(false,eval b X.env),(false,eval c X.env)]:=by exact st2 rfl rfl)(hs2:St1 X c:=by exact st1 rfl)(hz:(pa.endLine == p.line)=true:=by rfl):
  Snd X Y (.Call (.Attribute a "startswith" pa) [b,c] [] p) (Ub fa fb fc):= .mk λρ=>
 PE.imp (J8 bv d8 d9 YA (ha ρ) (zo (hb ρ) (zo (hc ρ) zK hs2) (by rw[hs,hs2])) hb1 (by rw[hs];rfl) hz (by rw[hs,hs2]) (by rw[hs2];rfl)) λσ H Q ⟨B,I,q⟩=>step I q λt v H1 _ s1 r1 I1 q1=>by
  cases r1 with
  | str x=>
   refine⟨rfl,step I1 q1 λu v' H2 _ s2 r2 I2 q2=>step I2 q2 λw v3 H3 _ s3 r3 I3 q3=> ?_⟩;cases r2 with
   | str y=>
    cases r3 with
    | int i=>exact .inr ⟨x,y,i,rfl,rfl,po0 I3.sB q3 rfl (.bl _)⟩
    | _=>exact q3.elim
   | _=>cases r3 <;> exact q3.elim
  | _=>exact q1.elim
theorem XW (ha:Snd X Y a fa)(hb:Snd X Y b fb)(hb1:attributeBase a "endswith" X.env (eval a X.env)=eval a X.env:=by rfl)(hs:St1 X b:=by exact st1 rfl)(hz:(pa.endLine == p.line)=true:=by rfl):
  Snd X Y (.Call (.Attribute a "endswith" pa) [b] [] p) (smE QV fa fb):= .mk λρ=>
 PE.imp (J8 bv PySem.F.slot_str_endswith PySem.F.type_str_endswith Vi (ha ρ) (zo (hb ρ) zK hs) hb1 (xC hs) hz hs rfl) λσ H Q ⟨B,I,q⟩=>step I q λt v H1 _ s1 r1 I1 q1=>by
  cases r1 with
  | str x=>
   refine⟨rfl,step I1 q1 λu v' H2 _ s2 r2 I2 q2=> ?_⟩;cases r2 with
   | str y=>exact⟨x,y,rfl,rfl,po0 I2.sB q2 rfl (.bl _)⟩
   | _=>exact q2.elim
  | _=>exact q1.elim
theorem XX {H:Hp}(x y z:Str):zt H [V.str x,.str y,.str z] [T.str x,.str y,.str z]:= .cons (.str _) (.cons (.str _) (.cons (.str _) .nil))
theorem Vm {H:Hp}:∀ys:List Str,zt H (ys.map V.str) (ys.map T.str)
 | []=> .nil
 | _ :: r=> .cons (.str _) (Vm r)
theorem XY (ha:Snd X Y a fa)(hb:Snd X Y b fb)(hb1:attributeBase a "partition" X.env (eval a X.env)=eval a X.env:=by rfl)(hs:St1 X b:=by exact st1 rfl)(hz:(pa.endLine == p.line)=true:=by rfl):
  Snd X Y (.Call (.Attribute a "partition" pa) [b] [] p) (smE Vh fa fb):= .mk λρ=>
 PE.imp (J8 bv PySem.F.slot_str_partition PySem.F.type_str_partition Vj (ha ρ) (zo (hb ρ) zK hs) hb1 (xC hs) hz hs rfl) λσ H Q ⟨B,I,q⟩=>step I q λt v H1 _ s1 r1 I1 q1=>by
  cases r1 with
  | str x=>
   refine⟨rfl,step I1 q1 λu v' H2 _ s2 r2 I2 q2=> ?_⟩;cases r2 with
   | str y=>
    have q2:Po Y rC _ H2 (if x.length<=bnd/\(y.length == 0)=false then .ok _ else .bad) Q:=q2
    split at q2
    ·rename_i hc;exact⟨x,y,rfl,rfl,hc.1,hc.2,λz hz=>vM I2.sB q2 rfl (XX _ _ _) hz⟩
    ·exact q2.elim
   | _=>exact q2.elim
  | _=>exact q1.elim
theorem XZ (ha:Snd X Y a fa)(hb:Snd X Y b fb)(hb1:attributeBase a "split" X.env (eval a X.env)=eval a X.env:=by rfl)(hs:St1 X b:=by exact st1 rfl)(hz:(pa.endLine == p.line)=true:=by rfl):
  Snd X Y (.Call (.Attribute a "split" pa) [b] [] p) (smE QW fa fb):= .mk λρ=>
 PE.imp (J8 bv PySem.F.slot_str_split PySem.F.type_str_split Vk (ha ρ) (zo (hb ρ) zK hs) hb1 (xC hs) hz hs rfl) λσ H Q ⟨B,I,q⟩=>step I q λt v H1 _ s1 r1 I1 q1=>by
  cases r1 with
  | str x=>
   refine⟨rfl,step I1 q1 λu v' H2 _ s2 r2 I2 q2=> ?_⟩;cases r2 with
   | str y=>
    have q2:Po Y rC _ H2 (if x.length<=1000/\(y.length == 0)=false then .ok _ else .bad) Q:=q2
    split at q2
    ·rename_i hc;exact⟨x,y,rfl,rfl,hc.1,hc.2,λz hz=>xA I2.sB q2 rfl (Vm _) hz⟩
    ·exact q2.elim
   | _=>exact q2.elim
  | _=>exact q1.elim
end
end
def Zg (fa:En->R T)(fl fh:En->R (Option Int)):En->R T:=λρ=>(fa ρ).bind λt=>(fl ρ).bind λlo=>(fh ρ).bind λhi=>match t with
 | .str x=>if x.length<=bnd then .ok (.str (bX x lo hi)) else .bad
 | _=> .bad
noncomputable def Qb (i:Int):Str:=aS (toString i)
def txO:T->Option Str
 | .int i=>if i.natAbs < 1000000 then some (Qb i) else none
 | .str x=>if x.length<=1000000 then some x else none
 | _=>none
def txV:V->Option Str
 | .int i=>if i.natAbs < 1000000 then some (Qb i) else none
 | .str x=>if x.length<=1000000 then some x else none
 | _=>none
def WT (t:T):R T:=match txO t with
 | some x=> .ok (.str x)
 | none=> .bad
def rdI (x:Str):Option Int:=((bF 199).map λ(k:Nat)=>(k:Int) - 99).find? λn=>Qb n == x
theorem Ud {i:Int}(h:i.natAbs < 1000000):i.natAbs.log2 < 1920:=by
 by_cases h0:i.natAbs=0
 ·rw[h0];decide
 ·have:i.natAbs.log2 < 20:=(Nat.log2_lt h0).mpr (by omega)
  omega
section
variable {X:Cx}{Y:Fx}{a b c:Expr}{fa fb fc:En->R T}{pos p p1 p2 p3:Pos}{kc:Nat}
theorem Vn:SlR X (λx lo hi H Q=>∃z,x= .str z/\z.length<=bnd/\Q (.str (bX z lo hi)) H):=by
 intro pins s σ H x v vl vu lo hi sl Q I rx hs pl pu h;obtain⟨z,rfl,hz,q⟩:=h;obtain⟨t,rfl⟩:=rx;refine⟨"str",_,F.slot_str_getitem.lookup,c8 _ _ _, ?_⟩;have fin:∀t' k,EP X pins σ Q _ _:=λt' k=>⟨.str _,H,I.tok k,⟨t',rfl⟩,q⟩;have hl:=ay (Txt.slice_le z lo hi) (Z2 hz);cases pl with
 | none=>
  cases pu with
  | none=>exact wpAny_getItem_str_slice (l:=none) (u:=none) (st:=none) hs rfl (post_val_or_str ⟨hl,fin⟩)
  | int j tj=>exact wpAny_getItem_str_slice (l:=none) (u:=some (j,tj)) (st:=none) hs rfl (post_val_or_str ⟨hl,fin⟩)
 | int i ti=>
  cases pu with
  | none=>exact wpAny_getItem_str_slice (l:=some (i,ti)) (u:=none) (st:=none) hs rfl (post_val_or_str ⟨hl,fin⟩)
  | int j tj=>exact wpAny_getItem_str_slice (l:=some (i,ti)) (u:=some (j,tj)) (st:=none) hs rfl (post_val_or_str ⟨hl,fin⟩)
theorem k7 {lo hi:Option Expr}{fl fh:En->R (Option Int)}(ha:Snd X Y a fa)(hl:yw X Y lo fl)(hh:yw X Y hi fh):Snd X Y (.Subscript a (.Slice lo hi none p2) pos) (Zg fa fl fh):= .mk λρ=>
 PE.imp (Wa Vn (ha ρ) (hl ρ) (hh ρ)) λσ H Q ⟨B,I,q⟩=>step I q λt v H1 _ s1 r1 I1 q1=>step I1 q1 λl l' H2 _ s2 el I2 q2=>step I2 q2 λh h' H3 _ s3 eh I3 q3=>by
  have el' :=el;have eh' :=eh;subst el' eh';cases r1 with
  | str x=>
   have q3:Po Y rC _ H3 (if x.length<=bnd then .ok _ else .bad) Q:=q3
   split at q3
   ·rename_i hb;exact⟨x,rfl,hb,po0 I3.sB q3 rfl (.str _)⟩
   ·exact q3.elim
  | _=>exact q3.elim
theorem yJ:Zy X (.type "str") (λxs H Q=>∃v x,xs=[v]/\txV v=some x/\Q (.str x) H):=by
 intro pins s σ H xs us Q I r h;obtain⟨v,x,rfl,e,q⟩:=h;obtain⟨u,rfl,ru⟩:=j8 r;unfold txV at e;split at e
 ·split at e
  ·rename_i i hi;obtain⟨t,rfl⟩:=ru;cases e;exact P.str_of_int (Ud hi) ⟨.str _,H,I.tok _,⟨_,rfl⟩,q⟩
  ·cases e
 ·split at e
  ·obtain⟨t,rfl⟩:=ru;cases e;exact P.str_of_str ⟨.str _,H,I,⟨_,rfl⟩,q⟩
  ·cases e
 ·cases e
theorem Vo {H:Hp}{v:V}{t:T}{x:Str}(r:Rep H v t)(e:txO t=some x):txV v=some x:=by
 cases r with
 | int i=>exact e
 | str y=>exact e
 | _=>cases e
theorem Vp (gl:Gl X "str")(mg:X.mg "str"=none)(ha:Snd X Y a fa)(hs:St1 X a:=by exact st1 rfl):Snd X Y (.Call (.Name "str" p) [a] [] pos) (ap1 WT fa):=
 Yr yJ (λv t B H Q r sB q=>by
  unfold WT at q;split at q
  ·rename_i x e;exact⟨v,x,rfl,Vo r e,po0 sB q rfl (.str _)⟩
  ·exact q.elim) gl mg (PyProof.Rows.Boot.«str») ha hs
end
def k8 (x:Str):It:=
 ⟨λi _=>i < x.cps.size,λi H v H' =>∃p c,H p=none/\v= .ref p/\x.cps[i]? =some c/\H' =upd H p (.tup [.int i,.str ⟨#[c]⟩]),λi _=>x.cps.size<=i⟩
theorem Qc (x:Str):strIterType x="str_ascii_iterator"\/strIterType x="str_iterator":=by
 unfold strIterType;split
 ·exact .inl rfl
 ·exact .inr rfl
theorem wx {prog:Program}{w:World}{A:Around}(hh:A.handled=none)(it:Addr)(x:Str)(t:Tok){ty:String}(hty:ty="str_ascii_iterator"\/ty="str_iterator"):Draws prog w A it [it] x.cps.size (SignAt x) (λi h=>h.IsStrIter it ty x t i):=by
 rcases hty with rfl | rfl
 ·exact Draws.strAscii hh it x t
 ·exact Draws.strWide hh it x t
theorem WU {P:Program}{w:World}{K:a6}{elts:List Expr}{kk:Nat}{pt:Pos}{x:Str}{tt:Tok}{ty:String}(hty:ty="str_ascii_iterator"\/ty="str_iterator")(e it:Addr)(hei:e ≠ it):
  uv P w K (.Tuple elts kk pt) (k8 x) [e,it] e (λi h=>i<=x.cps.size/\(∃old,IsEnum h e it i old)/\h.IsStrIter it ty x tt i) where
 mem:=by simp
 obj:=λi h st b hb=>by
  obtain⟨_,⟨old,he⟩,o,e1,c,d⟩:=st;rcases aj.mp hb with rfl | hb
  ·exact⟨_,he,λv z=>nomatch z⟩
  ·have z:b=it:=by simpa using hb
   subst z;exact⟨o,e1,λv z=>by rw[d]at z;cases z⟩
 keep:=λi h h' st k=>by
  obtain⟨hn,⟨old,he⟩,o,e1,r⟩:=st;exact⟨hn,⟨old,k e (by simp) _ he⟩,o,k it (by simp) o e1,r⟩
 item:=by
  intro X hP hw hK hc i pins s σ H E I hf st hg;subst hP hw hK;obtain⟨hin,⟨old,he⟩,hit⟩:=st;have D:=wx (prog:=X.prog) (w:=X.w) (A:=X.A.in1) (I.ok.hd hc) it x tt hty;have hef:e ∉ [it]:=λz=>hei (aQ.mp z);have WE:=WalksT.enumerateD D e hei hef (.head _);refine WE.item i s _ _ hg ⟨⟨old,he⟩,hit⟩ λT vals h' tk hP hT hTup hM hk=> ?_;obtain⟨t,y,⟨c,u,hc',rfl⟩,rfl⟩:=hP;refine⟨.ref T,rfl, ?_⟩;refine WE.go elts kk pt i T _ _ _ hM λh2 hst2 hk2=> ?_;have hTn:H T=none:=I.hok.fresh hT;have hTne:∀b∈[e,it],b ≠ T:=λb hb z=>by
   obtain⟨_,_,h3,h4⟩:=hM;rcases aj.mp hb with rfl | hb
   ·exact h3 z.symm
   ·have:b=it:=by simpa using hb
    subst this;exact h4 z.symm
  have xG:IsTup h2 T #[.int i t,.str ⟨#[c]⟩ u]:=by
   obtain⟨o,eo,r⟩:=hTup;exact⟨o,hk2 T o (λhb=>hTne T hb rfl) eo,r⟩
  refine⟨.ref T,upd H T (.tup [.int i,.str ⟨#[c]⟩]),Inv.laidT (s:=s) (h' :=h2) (ch:=[e,it]) (tk:=tk) I hf (λb o hb e=>hk2 b o hb (hk b o hb e)) (λb o hb _=> ?_) hT ⟨by rw[cz];show 2<=16777216;decide,[.int i t,.str ⟨#[c]⟩ u],.cons ⟨t,rfl⟩ (.cons ⟨u,rfl⟩ .nil),xG,.inl ⟨_,_,rfl⟩⟩,rfl,⟨T,c,hTn,rfl,hc',rfl⟩,⟨hg,hst2.1,hst2.2⟩,λb hb=> ?_⟩
  ·obtain⟨⟨old2,he2⟩,⟨o2,eo2,_⟩⟩:=hst2;rcases aj.mp hb with rfl | hb
   ·exact⟨_,he2⟩
   ·have:b=it:=by simpa using hb
    subst this;exact⟨o2,eo2⟩
  ·rw[za (hTne b hb)];exact(hf b hb).1
 done:=by
  intro X hP hw hK hc i pins s σ H E I hf st hg;subst hP hw hK;obtain⟨hin,⟨old,he⟩,hit⟩:=st;have D:=wx (prog:=X.prog) (w:=X.w) (A:=X.A.in1) (I.ok.hd hc) it x tt hty;have hn:x.cps.size=i:=Nat.le_antisymm hg hin;refine wpAny_pyNext_enum_endD D he (by rw[hn];exact hit) λh' hk=>⟨rfl, ?_⟩
  obtain⟨f0,f1,f2,f3,f4,f5⟩:=hf it (by simp)
  exact I.turned (t' :=s.toks) (λb o hb e=>hk b o hb e) f0 f1 f3 f4 f5
 self:=λ_ _ _ _ _ st h=>let ⟨_,⟨_,he⟩,_⟩:=st;wpAny_pyIter_enum he h
theorem yK {B1 H1:Hp}{x:Str}:rI B1 H1 (k8 x) (jQ (Zk x)):=λB2 H2 s1 s2=>by
 have hl:(jQ (Zk x)).length=x.cps.size:=by rw[wn];unfold Zk;simp
 refine⟨λi hi=>by rw[hl]at hi;exact hi,λi t v H3 e y=> ?_,λi hi=>by rw[hl]at hi;exact hi⟩
 obtain⟨p,c,hp,rfl,hc,rfl⟩:=y;obtain⟨t',et,rfl⟩:=U6 e;have hc' :x.cps.toList[i]? =some c:=by simpa using hc
 unfold Zk at et;rw[av,hc']at et;cases et;exact⟨zc.new hp _,.tup (jK hp _) (.cons (.int _) (.cons (.str _) .nil))⟩
def Ue (fa:En->R T):En->R (List T):=λρ=>(fa ρ).bind λt=>match t with
 | .str x=> .ok (jQ (Zk x))
 | _=> .bad
section
variable {X:Cx}{Y:Fx}{a:Expr}{fa:En->R T}{pos p pt:Pos}{elts:List Expr}{kk:Nat}
theorem yL {ta:TA}(hg:Gl X "enumerate")(hm:X.mg "enumerate"=none)(ha:PA X [a] ta)(hs:St1 X a:=by exact st1 rfl):
  PI X (.Tuple elts kk pt) (.Call (.Name "enumerate" p) [a] [] pos) (λσ H R=>ta σ H λvs H1=>∃x,vs=[.str x]/\R (k8 x) H1):=by
 intro pins s σ H R I h;refine Call_ (jk I hg hm PyProof.Rows.Boot.«enumerate» (c6 (thn (ha pos _ s σ H _ I h) λus s1 ⟨vs,H1,I1,r1,q1⟩=> ?_) hs rfl));obtain⟨x,e,q⟩:=q1;subst e;obtain⟨u,rfl,ru⟩:=j8 r1;obtain⟨tt,rfl⟩:=ru;refine call_enumerate_str λh' he hit hsz hk=>wpAny_pyIter_enum he ?_;have f:∀b∈[s1.heap.objs.size+1,s1.heap.objs.size],J6 X _ H1 b:=λb hb=>by
  rcases aj.mp hb with rfl | hb
  ·exact I1.fpOk (Nat.le_succ _) (I1.hok.fresh (Nat.le_succ _))
  ·have z:=by simpa using hb
   subst z;exact I1.fpOk (ag _) (I1.hok.fresh (ag _))
 exact⟨s1.heap.objs.size+1,[s1.heap.objs.size+1,s1.heap.objs.size],_,_,H1,rfl,I1.kept hk,WU (Qc x) _ _ (Nat.succ_ne_self _),⟨bR _,⟨_,he⟩,hit⟩,f,q⟩
theorem Qd (hg:Gl X "enumerate")(hm:X.mg "enumerate"=none)(ha:Snd X Y a fa)(hs:St1 X a:=by exact st1 rfl):wj X Y (.Tuple elts kk pt) (.Call (.Name "enumerate" p) [a] [] pos) (Ue fa):= .mk λρ=>
 PI.imp (yL hg hm (zo (ha ρ) zK hs) hs) λσ H R ⟨B,I,q⟩=>step I q λt v H1 _ s1 r1 I1 q1=>by
  cases r1 with
  | str x=>exact⟨x,rfl,Zf I1 (show Po Y rI _ H1 _ R from q1) yK⟩
  | _=>exact q1.elim
end
end PV
namespace PV
open PySem PySem.W PyProof.Rows
section
variable {O:KeyOrd}{n:Nat}{key:Nat->O.α}
variable (hk:∀i j,i < n->j < n->key i=key j->i=j)
include hk
omit hk in
omit hk in
omit hk in
omit hk in
end
end PV
namespace PV
open PySem PySem.Spec PyProof.Rows L2
section
open PySem.W PySem.Calls
variable {O:KeyOrd}{n:Nat}{key:Nat->O.α}
end
section
variable {prog:Program}{w:World}{A:Around}{E:Value->Shared->Prop}{s:Shared}
open PySem.W PySem.Calls
end
end PV
namespace PV
open PySem PySem.Spec PyProof.Rows L2
section
variable {prog:Program}{w:World}{A:Around}{E:Value->Shared->Prop}{s:Shared}
open HT in
open HT in
end
end PV
namespace PV
open PySem PySem.Spec PyProof.Rows L2
end PV
namespace L2
open PySem PySem.Spec PyProof.Rows PySem.W
structure Lm (X:Cx) (c P:Addr) (q:Str):Prop where
 code:X.env.code= .ref c
 hd:codeHdIn X.K c P=true
 bt:X.base.BuiltinsAt X.mg P
 ql:X.env.qual++"<lambda>"=q
def jS (H:Hp)(q:Str)(c:Addr):Prop:=∃oc vs t,H c=some (.frz oc (.own c))/\oc.data= .fields vs/\vs[1]? =some (.str q t)
theorem jS.mono {H H' :Hp}{q:Str}{c:Addr}(s:zc H H')(h:jS H q c):jS H' q c:=let ⟨oc,vs,t,e,r⟩:=h;⟨oc,vs,t,s _ _ e,r⟩
theorem jS.rec {P:Program}{w:World}{H:Hp}{q:Str}{c:Addr}{h:Heap}(x:jS H q c)(ok:HOk P w H h):h.CodeRec (.ref c) q:=by
 obtain⟨oc,vs,t,e,d,v⟩:=x;exact⟨c,oc,vs,t,rfl,(ok c _ e).1,d,v⟩
theorem Jn {p p' :Pos}{c cv:Value}:∀(l:List Value),TriplesOk l->codeAmong p (l++[rawInt p'.line,rawInt p'.col,c])=some cv->codeAmong p l=some cv\/cv=c
 | [],_,h=>by
  right
  simp only[bO,rawInt,codeAmong]at h;split at h
  ·exact(ak h).symm
  ·cases h
 | .int a t :: .int b u :: x :: r,ok,h=>by
  simp only[cS,codeAmong]at h ⊢;split at h
  ·rename_i z;rw[if_pos z];exact .inl h
  ·rename_i z;rw[if_neg z];exact Jn r (by simpa only[TriplesOk] using ok) h
noncomputable abbrev yM (q:Str)(params:Arguments)(body:Expr)(scope:Scope)(clos:List (Str×Addr))(pm ctv:Value)(c:Addr):Obj:=kla_obj "<lambda>" q params body scope clos pm c ctv
theorem YB {X:Cx}{c P:Addr}{q:Str}{params:Arguments}{body:Expr}{scope:Scope}{pos:Pos}{clos:List (Str×Addr)}(L:Lm X c P q)(hdef:defaultsOf params X.env=([],[]))(hcl:closureFor scope X.env=pure clos):
  PE X (.Lambda params body scope pos) (λσ H Q=>H P=some (.tbl #[] q)/\∀f c' pm ctv H',zc H H' ->H' f=some (.frz (yM q params body scope clos pm ctv c') (.own f))->jS H' q c' ->Q (.ref f) H'):=by
 intro pins s σ H Q I ⟨hP,h⟩;obtain⟨more,eP,tr,al⟩:=I.hok P _ hP;have C:=codeHd_of_K I.kIn L.hd;have hg:=I.ok.mod.glob.keeps I.bk;have hB:s.heap.BuiltinsAt X.mg P:=by
  obtain⟨bm,o,b1,b2,b3,b4,b5,b6⟩:=L.bt;exact⟨bm,o,b1,b2,b3,b4,I.bk _ _ b5,b6⟩
 have hgP:mainGlobals ≠ P:=λz=>by
  obtain⟨o,es,ep,e,hd,_⟩:=hg;rw[z,eP]at e;cases e;cases hd
 have fobj:∀{H2:Hp} {f:Addr} {o:Obj} {h2:Heap},h2.get? f=some o->zW X.prog X.w H2 h2 f (.frz o (.own f)):=λe=>⟨e,_,e⟩;refine kla_eval hdef ?_;rw[L.ql];cases hf:codeAmong pos _ with
 | some cv=>
  obtain⟨c',oc,vs,t,rfl,e2,e3,e4⟩:=al pos cv hf;refine kla_makeFunctionHit hcl I.ok.glob hg L.code C eP tr hf hB λctv h' tk hk hsz=> ?_;have hfr:=I.hok.fresh hsz;have e5:(h'.push (yM q params body scope clos ((X.mg "__name__").getD .none) ctv c')).get? _=some _:=ao _ rfl;refine⟨.ref _,_,I.laid (λb u e=>a7 _ (hk b u e)) hsz (fobj e5),rfl, ?_⟩;exact h _ c' _ ctv _ (PV.zc.new hfr _) zj (jS.mono (PV.zc.new hfr _) ⟨oc,vs,t,e2,e3,e4⟩)
 | none=>
  refine kla_makeFunction hcl I.ok.glob hg L.code C eP tr hf hgP hB λc' ctv h' tk hx hge hlt hrec htb=> ?_;obtain⟨c₂,oc,vs,t,e2,hoc,hd,hv⟩:=hrec;cases e2;have hc0:=I.hok.fresh hge;have neP:∀b,H b=none->b ≠ P:=λb n z=>by rw[z,hP]at n;cases n
  have neC:∀b o,s.heap.get? b=some o->b ≠ c' :=λb o e=>aA (ar (a9 e) hge);have sm:zc H (upd H c' (.frz oc (.own c'))):=PV.zc.new hc0 _;have hl:(#[]++more++ #[rawInt pos.line,rawInt pos.col,Value.ref c']).toList=(#[]++more).toList++[rawInt pos.line,rawInt pos.col,Value.ref c']:=by simp
  have hok:HOk _ X.w (upd H c' _) h' :=λb u e=>by
   by_cases hb:b=c'
   ·subst hb;rw[zj]at e;cases e;exact fobj hoc
   ·rw[za hb]at e
    by_cases hbP:b=P
    ·subst hbP;rw[hP]at e;cases e;refine⟨more++ #[rawInt _,rawInt _,Value.ref c'],by rw[← di];exact htb,by rw[← di,hl];exact TriplesOk_snoc _ _ _ _ tr,λp cv z=> ?_⟩
     rw[← di,hl]at z;rcases Jn _ tr z with z | rfl
     ·obtain⟨c2,oc2,vs2,t2,a1,a2,a3⟩:=al p cv z;exact⟨c2,oc2,vs2,t2,a1,sm _ _ a2,a3⟩
     ·exact⟨c',oc,vs,t,rfl,zj,hd,hv⟩
    ·refine(I.hok b u e).stay (λa v ha q' =>hx a v (λz=> ?_) q') (λ_ q' =>sm _ _ q') (λ_ _ q' =>sm _ _ q') λ_ _ _ q' =>sm _ _ q';subst z;rcases ha with z | z
     ·exact hbP z.symm
     ·rw[hP]at z;cases z
  have I1:Inv X pins σ (upd H c' (.frz oc (.own c'))) { s with heap:=h',toks:=s.toks }:=by
   refine I.step (ch:=[]) (λ_ z=>nomatch z) (λb o _ _ _ e n=>hx b o (neP b n) e) (λb o _ _ _ e n=>⟨o.slots,hx b o (neP b n) e⟩) (λb o _ e n=>by rw[za (neC b o e)];exact n) (λb o _ e=> ?_) (λ_ _ e=>sm _ _ e) (λ_ _ _ e=>sm _ _ e) (λ_ _ _ e=>sm _ _ e) (λm hm=>hm.extBut hx (neP _ I.free)) hok I.bare
   by_cases hb:b=P
   ·exact⟨_,hb ▸ htb⟩
   ·exact⟨o,hx b o hb e⟩
  have hfr:upd H c' (.frz oc (.own c')) h'.objs.size=none:=by rw[za (ce hlt)];exact I1.hok.fresh (ag _) |> λz=>by rw[za (ce hlt)]at z;exact z
  have e5:(h'.push (yM q params body scope clos ((X.mg "__name__").getD .none) ctv c')).get? _=some _:=ao _ rfl;refine⟨.ref _,_,I1.laid (λb u e=>a7 _ e) (ag _) (fobj e5),rfl, ?_⟩;have s2:zc _ (upd _ _ (.frz (yM q params body scope clos ((X.mg "__name__").getD .none) ctv c') (.own h'.objs.size))):=PV.zc.new hfr _;exact h _ c' _ ctv _ (sm.trans s2) zj (jS.mono s2 ⟨oc,vs,t,zj,hd,hv⟩)
end L2
namespace L2
open PySem PySem.Spec PyProof.Rows PySem.W
def ya (s:Shared)(H:Hp)(fr:List Addr):Heap:=hideAll s.heap (trk s.heap H++fr)
theorem JF {s:Shared}{H:Hp}{fr:List Addr}{b:Addr}{o:Obj}(e:s.heap.get? b=some o)(n:H b=none)(hb:b ∉ fr):(ya s H fr).get? b=some o:=
 hideAll_get _ e λhm=>by
  rcases bc.mp hm with z | z
  ·have q:=(cr.mp z).2;rw[n]at q;cases q
  ·exact hb z
theorem Qe {s:Shared}{H:Hp}{fr:List Addr}{b:Addr}{o:Obj}(e:(ya s H fr).get? b=some o):s.heap.get? b=some o/\H b=none:=by
 have e' :=of_hideAll _ e;refine⟨e', ?_⟩;cases q:H b with
 | none=>rfl
 | some x=>
  have hm:b∈trk _ H++fr:=bn _ (cr.mpr ⟨dN.mpr (a9 e'),by simp[q]⟩)
  have z:(ya s H fr).get? b=none:=hideAll_none _ hm;rw[z]at e;cases e
theorem Mod.keeps {K:Frag}{mg:Str->Option Value}{b b' :Heap}(m:Mod K mg b)(k:∀a o,b.get? a=some o->b'.get? a=some o):Mod K mg b' :=
 ⟨m.kin.keeps k,m.glob.keeps k,let ⟨mb,h1,h2⟩:=m.blt;⟨mb,h1.keeps k,h2⟩,m.nolimit.keeps k⟩
section
variable {X:Cx}{pins:List (Addr×Obj)}{σ:St}{H:Hp}{s:Shared}
theorem Inv.big_of (I:Inv X pins σ H s):∀b o,X.base.get? b=some o->(ya s H (frs X.stack)).get? b=some o:=λb o e=>by
 refine JF (I.bs b o e).1 (I.bs b o e).2 λhb=> ?_;have:=(I.stack.mem hb).1;rw[e]at this;cases this
theorem Inv.big (I:Inv X pins σ H s):uj X.prog X.w X.K X.mg (ya s H (frs X.stack)) X.A X.stack s H:=
 ⟨I.ok.frames,I.ok.mod.keeps I.big_of,λb o e=>Qe e,eT (hideAll_size _ _),funFrames_hide I.stack λenv he a ha=>am _ (bI.mpr ⟨env,he,ha⟩),I.stkFree,I.hok,I.bare⟩
end
def cxL (P:Program)(w:World)(K:Frag)(mg:Str->Option Value)(base:Heap)(N:List Str)(q:Str)(scope:Scope)(f:Addr)(cd:Value)(clos:List (Str×Addr))(A:Around)(outer:List Env)(s:Shared)(H:Hp)(E:XK):Cx where
 prog:=P
 w:=w
 K:=K
 mg:=mg
 base:=base
 A:=A.deeper (envX q scope s.heap.objs.size f cd clos)
 N:=N
 s₀:=s
 H₀:=H
 env:=envX q scope s.heap.objs.size f cd clos
 outer:=outer
 stack:=envX q scope s.heap.objs.size f cd clos :: outer
 ex:=[]
 calm:=true
 fn:=λ_=>false
 pn:=[]
 xe:=λe s' =>wpAny (model P w) (A.deeper (envX q scope s.heap.objs.size f cd clos)) (leaving (envX q scope s.heap.objs.size f cd clos) e) (λ_ s'' =>CX1 P w outer H s E e s'') (λe' s'' =>CX1 P w outer H s E e' s'') s'
section
variable {P:Program}{w:World}{K:Frag}{mg:Str->Option Value}{base:Heap}{N:List Str}{q:Str}{scope:Scope}{f:Addr}{cd:Value}{clos:List (Str×Addr)}{A:Around}{outer:List Env}{s:Shared}{H:Hp}{E:XK}
theorem Qf:zO (CX1 P w) (cxL P w K mg base N q scope f cd clos A outer s H E) E:=by
 intro pins σ H1 s1 e s' I ⟨ea,cls,a0,B,H',he,L,hE⟩;subst he;exact wpAny_leaves_onW I.ok.frames rfl L.fly λh' fl sl=>⟨ea,cls,a0,B,H',rfl,L.out I rfl rfl rfl fl sl,hE⟩
structure LSc (scope:Scope):Prop where
 kind:scope.kind= .function
 co:scope.isCoroutine=false
 gen:scope.isGenerator=false
 nocell:∀x∈scope.names,x.2 ≠ .cell
structure Wo (base:Heap) (H:Hp) (scope:Scope) (clos:List (Str×Addr)) (N:List Str) (σ:St):Prop where
 inj:∀x y c,clos.lookup x=some c->clos.lookup y=some c->x=y
 has:∀x∈scope.names,x.2= .free->∃c,clos.lookup x.1=some c
 cell:∀x c,clos.lookup x=some c->(∃v,base.IsCell c v)/\H c=none
 loc:∀(i:Nat) (x:Str) (v:V),N[i]? =some x->σ[i]? =some (some v)->∃u c,zR v u/\clos.lookup x=some c/\base.IsCell c (some u)/\scope.names.lookup x=some .free
 len:σ.length=N.length
theorem Jo {h h' :Heap}{c:Addr}{v:Option Value}(k:∀a o,h.get? a=some o->h'.get? a=some o)(x:h.IsCell c v):h'.IsCell c v:=let ⟨o,e,d⟩:=x;⟨o,k _ _ e,d⟩
theorem Qg {σ:St}{h1:Heap}{tk:Nat}(S:LSc scope)(hd:A.handled=none)(e0:uj P w K mg base A outer s H)(C:Wo base H scope clos N σ)(ns:h1.Ns s.heap.objs.size (λ_=>none))(hk:∀b o,s.heap.get? b=some o->h1.get? b=some o):
  Inv (cxL P w K mg base N q scope f cd clos A outer s H E) [] σ H { s with heap:=h1,toks:=tk }:=by
 have bk:=λb o e=>hk b o (e0.bs b o e).1;have noA:∀b,b ∉ (cxL P w K mg base N q scope f cd clos A outer s H E).ex:=λb z=>absurd (show b∈([]:List _) from z) (by simp)
 refine⟨⟨e0.mod,S.kind,rfl,rfl,ag _,C.inj,λy hy=> ?_,λy c h _=>(aE h).elim,λ_=>hd,cT e0.frames,.inr ⟨rfl,rfl⟩,λb z=>absurd z (noA b),e0.bs,e0.bsz,λb _ _=>noA b,λb z=>absurd z (noA b),e0.funs,e0.frf⟩,
  rfl,e0.bare,Un.kept hk,⟨_,ns,λi y v h1 h2 h3=> ?_⟩,λy c h=> ?_,e0.hok.fresh (ag _),λy c h=>(C.cell y c h).2,λp hp=>absurd (show p∈([]:List _) from hp) (by simp),e0.hok.kept hk,C.len⟩
 ·rcases hy with hy | hy
  ·exact absurd rfl (S.nocell _ (aM hy))
  ·exact C.has _ (aM hy) rfl
 ·obtain⟨u,c,r,e,ic,k⟩:=C.loc i y v h1 h2;exact⟨u,r,.inr ⟨.inr k,c,e,Jo bk ic⟩⟩
 ·obtain⟨v,ic⟩:=(C.cell y c h).1;exact⟨v,Jo bk ic⟩
end
end L2
namespace L2
open PySem PySem.Spec PyProof.Rows PySem.W
structure Zl (k:Nat) (A:Around):Prop where
 dp:A.depth+3*k+5 < recursionLimit
 un:A.units+16*k+200 < cLine
 gd:A.guards=some []
theorem Z1.m {k:Nat}{A:Around}(r:Z1 k A):Zl k A:=⟨r.dp,r.un,r.gd⟩
theorem Zl.mono {j k:Nat}{A:Around}(r:Zl k A)(h:j<=k):Zl j A:=⟨by have:=r.dp;omega,by have:=r.un;omega,r.gd⟩
theorem Zl.deeper {k:Nat}{A:Around}(r:Zl (k+1) A)(env:Env):Zl k (A.deeper env):=
 ⟨by have:=r.dp;show A.depth+1+3*k+5 < _;omega,by have:=r.un;show A.units+3+16*k+200 < _;omega,r.gd⟩
theorem Zl.mark {k:Nat}{A:Around}(r:Zl k A)(e:Value):Zl k (A.mark (some e)):=⟨r.dp,r.un,r.gd⟩
theorem Zl.depth {k:Nat}{A:Around}(r:Zl k A):A.depth < recursionLimit:=by have:=r.dp;omega
theorem Zl.units {k:Nat}{A:Around}(r:Zl k A):A.units+64 < cLine:=by have:=r.un;omega
structure FnM (P:Program) (w:World) (K:Frag) (mg:Str->Option Value) (base:Heap) (k:Nat) (f:Addr) (fd:FuncData) (ps:List Str) (sp:Sp):Prop where
 len:∀vs H Q E,sp vs H Q E->vs.length=ps.length
 run:∀(A:Around) (outer:List Env) (s:Shared) (H:Hp) (args:Args) (us:List Value) (vs:List V) (Q:VK),Zl k A->uj P w K mg base A outer s H->BindsTo s fd args (ps.zip us)->zM vs us->sp vs H Q (λ_ _ _=>False)->
  codeAny (model P w) A (.call (.ref f) args) (λr s' =>∃u,r= .ok (.ret u)/\CE outer P w H s Q u s') s
abbrev cxM (P:Program)(w:World)(K:Frag)(mg:Str->Option Value)(base:Heap)(N:List Str)(qual:Str)(scope:Scope)(f:Addr)(cd:Value)(A:Around)(outer:List Env)(s:Shared)(H:Hp):Cx:=
 { (zU CX0 P w K mg base N qual scope f cd A outer s H (λ_ _ _=>False)).nox with calm:=false }
section
variable {P:Program}{w:World}{K:Frag}{mg:Str->Option Value}{base:Heap}
theorem Vq {k:Nat}{x qual:Str}{st:Stmt}{f:Addr}{fd:FuncData}{N ps:List Str}{sp:Sp}(F:Fun K x qual st f fd)(S:zX N ps (z6 st))(len:∀vs H Q E,sp vs H Q E->vs.length=ps.length)
  (hbody:∀(cdv:Value) (A:Around) (outer:List Env) (s:Shared) (H:Hp) (vs:List V) (Q:VK),Zl k (A.deeper (envOfC qual (z6 st) s.heap.objs.size f cdv))->sp vs H Q (λ_ _ _=>False)->
   ∃t,PSs (cxM P w K mg base N qual (z6 st) f cdv A outer s H) (zq st) t/\t { nx:=λ_ H' =>Q .non H',rt:=Q } (start N vs) H):FnM P w K mg base (k+1) f fd ps sp:=by
 obtain⟨oc,od,kV,doc,pm,an,cdv,ct,osl,rfl,lk,hcd⟩:=F.ex;refine⟨len,λA outer s H args us vs Q hr e0 hb r hsp=> ?_⟩;have hl:=len _ _ _ _ hsp;have KX:=e0.mod.kin.keeps λb o e=>(e0.bs b o e).1;have lim:=e0.mod.nolimit.keeps λb o e=>(e0.bs b o e).1;have hkind:∀y∈ps.zip us,(z6 st).names.lookup y.1=some _\/((z6 st).names.lookup y.1=some _/\((cellsFrom (s.heap.objs.size+1) _ []).lookup y.1).isSome=true):=λ⟨n,v⟩ hy=>by
  rcases S.par n (cw hy).1 with q | q
  ·exact .inl q
  ·exact .inr ⟨q,cellsFrom_some _ _ _ (.inl q)⟩
 refine codeAny_call_function hr.depth (KX _ _ lk) rfl S.co S.gen rfl (codeRec_of KX hcd) (hb _ _ _ _ ?_);refine wpAny_newFunctionEnv_cells S.kind hkind λenv he s1 x=> ?_;subst he;refine⟨lim.keeps x.toInCall.keep,codeAny_func ?_⟩;obtain⟨t,ht,hq⟩:=hbody cdv A _ s H vs Q (hr.deeper _) hsp;have e1:uj P w K mg _ { A with handled:=none } _ s H:=⟨e0.frames,e0.mod,e0.bs,e0.bsz,e0.funs,e0.frf,e0.hok,e0.bare⟩;have J:Inv (zU CX0 P w K mg _ N _ _ f cdv _ _ s H (λ_ _ _=>False)) [] _ H s1:=jE S rfl e1 hl r x;have I:Inv (cxM P w K mg _ N _ _ f cdv A _ s H) [] _ H s1:=
  ⟨⟨J.ok.mod,J.ok.kind,J.ok.glob,J.ok.blt,J.ok.above,J.ok.inj,J.ok.has,J.ok.cab,λz=>(by cases z),cT e0.frames,J.ok.stk,J.ok.exf,J.ok.bs,J.ok.bsz,J.ok.noex,J.ok.exfs,J.ok.funs,J.ok.frf⟩,J.os,J.bare,J.base,J.loc,J.cell,J.free,J.freeC,J.pin,J.hok,J.len⟩
 refine aB (ht [] s1 _ H _ I hq) (λfl s' hs=> ?_) λe s' hs=>hs.elim;have fin:∀{σ' :St} {H' :Hp} {v:V} {u:Value},Inv (cxM P w K mg base N qual (z6 st) f cdv A outer s H) [] σ' H' s' ->zR v u->Q v H' ->∃u',(Except.ok (Flow.ret u):Result)= .ok _/\CE _ P w H s Q u' s' :=
  λ{σ' H' v u} J rv q=>⟨u,rfl,v,H',J.os,J.bare,J.base,J.hok,rv,q⟩
 cases fl with
 | ret u=>
  obtain⟨v,σ',H',J,rv,q⟩:=hs;exact fin J rv q
 | next=>
  obtain⟨σ',H',J,q⟩:=hs;exact fin (v:=V.non) J rfl q
 | brk=>obtain⟨_,_,_,q⟩:=hs;exact aP q
 | cont=>obtain⟨_,_,_,q⟩:=hs;exact aP q
theorem yN {X:Cx}{k:Nat}{f:Addr}{fd:FuncData}{ps:List Str}{sp:Sp}{x:Str}{p pos:Pos}{e:Expr}{t:TA}(F:FnM X.prog X.w X.K X.mg X.base k f fd ps sp)(hr:Zl k X.A)(hg:Gl X x)(hm:X.mg x=some (.ref f))(hk:keepIn X.K (.ref f)=true)(hb:Binds X.K fd ps [])
  (ha:PA X [e] t) (hdb:(x == ("__debug__":Str))=false:=by decide) (he:starEach [e] X.env=[(false,eval e X.env)]:=by rfl):
  PE X (.Call (.Name x p) [e] [] pos) (λσ H Q=>t σ H λvs H1=>sp vs H1 Q λ_ _ _=>False):=by
 intro pins s σ H Q I h;refine wpAny_Call_Name_kw (Zj I hg hm ?_ hdb);refine callWith_K I.ok.mod.kin hk (thn (ha pos _ s σ H _ I h) λus s1 ⟨vs,H1,I1,r,q⟩=>⟨I1.kIn, ?_⟩) he rfl;have hl:us.length=ps.length:=by rw[← r.length];exact F.len _ _ _ _ q
 have hb' :=hb s1 us I1.kIn (by rw[aK];exact hl)
 rw[aK]at hb';refine wpAny_call (codeAny_mono (F.run X.A _ s1 H1 _ us vs Q hr I1.env0 hb' r q) λr s' ⟨u,e1,hq⟩=> ?_);subst e1;exact I1.after hq
end
end L2
namespace PV
open PySem PySem.Spec PyProof.Rows L2 PySem.W
noncomputable def nx1 (r:R T):R T:=match r with
 | .ok t=> .ok t
 | _=> .bad
def jy (ok:Nat->Bool)(gx:Nat->R T)(r:R T):R T:=match r with
 | .ok t=> .ok t
 | .ex c=>if ok c=true then nx1 (gx c) else .bad
 | .bad=> .bad
def jT (js:List Nat)(ok:Nat->Bool)(gx:Nat->R T)(fe:En->R T):En->R T:=λρ=>jy ok gx (fe (Jd 0 js ρ))
section
variable {X:Cx}{Y:Fx}
theorem Vr {pins:List (Addr×Obj)}{σ:Sg}{H:Hp}{s:Shared}{scope:Scope}{clos:List (Str×Addr)}{N' :List Str}{js:List Nat}(I:L2.Inv X pins σ H s)(hfn:∀x,X.fn x=true)(hcl:∀x c,clos.lookup x=some c->X.env.cells.lookup x=some c)
  (hcf:∀x∈scope.names,x.2=NameKind.free->∃c,clos.lookup x.1=some c) (CP:yy X scope N' 0 js):Wo (ya s H (frs X.stack)) H scope clos N' (ja 0 js σ):=by
 have up:∀x c,X.env.cells.lookup x=some c->∀v,s.heap.IsCell c v->(ya s H _).IsCell c v:=λx c e v ⟨o,ho,hd⟩=>⟨o,JF ho (I.freeC x c e) λhb=>by
  rcases aj.mp (I.stkSub c hb) with z | z
  ·exact I.cne x c e z
  ·obtain⟨_,o2,e2,_⟩:=I.ok.funs.mem z;exact absurd (a9 e2) (dC.mpr (I.ok.cab x c (hfn x) e)),hd⟩
 refine⟨λx y c h1 h2=>I.ok.inj x y c (hcl _ _ h1) (hcl _ _ h2),hcf,λx c e=>⟨?_,I.freeC x c (hcl x c e)⟩,λi x v h1 h2=> ?_,by unfold ja;simp[CP.len]⟩
 ·obtain⟨v,ic⟩:=I.cell x c (hcl x c e);exact⟨v,up x c (hcl x c e) v ic⟩
 ·unfold ja at h2;rw[dX,bO,av]at h2;cases ej:js[i]? with
  | none=>rw[ej]at h2;cases h2
  | some j=>
   rw[ej]at h2;have h2' :(σ[j]?).getD _=some v:=ak h2;have hσ:σ[j]? =some (some v):=by
    cases ez:σ[j]? with
    | none=>rw[ez]at h2';cases h2'
    | some z=>rw[ez]at h2';exact congrArg _ h2'
   obtain⟨y,e1,e2,e3,e4,e5⟩:=CP.cap i j ej;rw[Nat.zero_add,h1]at e1;cases e1;obtain⟨m,hn,hlo⟩:=I.loc;obtain⟨u,ru,lk⟩:=hlo j x v e2 hσ e3;obtain⟨c,ec⟩:=hcf _ (aM e4) rfl;rcases lk with ⟨k,_⟩ | ⟨_,c2,e6,ic⟩
   ·rcases e5 with z | z <;> (rw[k]at z;cases z)
   ·have:=hcl x c ec;rw[e6]at this;cases this;exact⟨u,c,ru,ec,up x c e6 _ ic,e4⟩
end
section
variable {P:Program}{w:World}{K:a6}{mg:Str->Option Value}{base:Heap}
theorem Qh {cl:Nat->Value}{x qual q:Str}{st:Stmt}{f:Addr}{fd:FuncData}{N:List Str}{k:Nat}{fb:En->RS}{gx:Nat->R T}(F:Fun K x qual st f fd)(S:zX N [q] (z6 st))(hN:1<=N.length)
  (hb:∀(cdv:Value) (A:Around) (outer:List Env) (s:Shared) (H:Hp) (Y:Fx),Y.cl=cl->Zl k (A.deeper (envOfC qual (z6 st) s.heap.objs.size f cdv))->
   jo (cxM P w K mg base N qual (z6 st) f cdv A outer s H) Y (zq st) fb)
  (hg:∀c,gx c=zC (fb (enC N.length c))):FnM P w K mg base (k+1) f fd [q] (spC cl gx):=by
 refine Vq F S (λvs H Q E ⟨_,_,_,e,_⟩=>by rw[e];rfl) λcdv A outer s H vs Q hr ⟨B,a,c,e,sB,r,q⟩=> ?_
 subst e;refine⟨_,hb cdv A _ s H ⟨B,H,λ_ _ _=>False,cl,[]⟩ rfl hr _,B,SI.startC sB hN r, ?_⟩;rw[hg c]at q;revert q;cases fb _ with
 | rt t=>exact λq v H' s r=>q v H' s r
 | rf t=>exact λq a xs H' B' s0 n e r _ l=>q _ H' s0 (.lst (by rw[zD n];exact e) (r.mono l))
 | nx ρ=>exact λq σ' H' B' _ I=>q _ H' I.sH .non
 | ex c=>exact λq=>q
 | bk ρ=>exact λq=>q.elim
 | ct ρ=>exact λq=>q.elim
 | bad=>exact λq=>q
def YC (cl:Nat->Value)(n:Nat)(g:List T->R T)(Pt:Addr)(q:Str):Sp:=λvs H Q E=>H Pt=some (.tbl #[] q)/\spP cl n g vs H Q E
end
end PV
namespace L2
open PySem PySem.Spec PyProof.Rows PySem.W
end L2
namespace PV
open PySem PySem.Spec PyProof.Rows L2
end PV
namespace PV
open PySem PySem.Spec PyProof.Rows L2 PySem.W
end PV
namespace PV
open PySem PySem.Spec PyProof.Rows L2
end PV
namespace PV
open PySem PySem.Spec PyProof.Rows L2 PySem.W
theorem Uf {x:Str}:∀(ns:List (Str×NameKind)) (n:Nat) (acc:List (Str×Addr)),(∀k,(x,k)∈ns->k ≠ NameKind.cell)->(cellsFrom n ns acc).lookup x=acc.lookup x
 | [],_,_,_=>rfl
 | (y,k) :: ns,n,acc,h=>by
  unfold cellsFrom;have h' :=λk hk=>h k (a8 _ hk);split
  ·rename_i hk;rw[Uf ns _ _ h',ai];have:x ≠ y:=λz=>h k (by rw[z];exact ac) (eq_of_beq hk)
   rw[beq_eq_false_iff_ne.mpr this]
  ·exact Uf ns _ _ h'
theorem Wp {x:Str}{c:Addr}:∀(ns:List (Str×NameKind)) (n:Nat) (acc:List (Str×Addr)),(cellsFrom n ns acc).lookup x=some c->((x,NameKind.cell)∈ns/\n<=c)\/acc.lookup x=some c
 | [],_,_,h=> .inr h
 | (y,k) :: ns,n,acc,h=>by
  unfold cellsFrom at h;split at h
  ·rename_i hk;rcases Wp ns _ _ h with ⟨a,b⟩ | z
   ·exact .inl ⟨a8 _ a,c7 b⟩
   ·rw[ai]at z
    by_cases hx:x=y
    ·subst hx;rw[beq_self_eq_true]at z;have e:=ak z;rw[eq_of_beq hk];exact .inl ⟨ac,eT e⟩
    ·rw[beq_eq_false_iff_ne.mpr hx]at z;exact .inr z
  ·rcases Wp ns _ _ h with ⟨a,b⟩ | z
   ·exact .inl ⟨a8 _ a,b⟩
   ·exact .inr z
theorem JG {x:Str}:∀(ns:List (Str×NameKind)) (n:Nat) (acc:List (Str×Addr)),(∃c,acc.lookup x=some c)->∃c,(cellsFrom n ns acc).lookup x=some c
 | [],_,_,h=>h
 | (y,k) :: ns,n,acc,h=>by
  unfold cellsFrom;split
  ·refine JG ns _ _ ?_;rw[ai]
   by_cases hx:x=y
   ·subst hx;rw[beq_self_eq_true];exact⟨_,rfl⟩
   ·rw[beq_eq_false_iff_ne.mpr hx];exact h
  ·exact JG ns _ _ h
theorem YD {x:Str}:∀(ns:List (Str×NameKind)) (n:Nat) (acc:List (Str×Addr)),(x,NameKind.cell)∈ns->∃c,(cellsFrom n ns acc).lookup x=some c
 | (y,k) :: ns,n,acc,h=>by
  unfold cellsFrom;rcases aj.mp h with e | h
  ·cases e;refine JG ns _ _ ⟨n, ?_⟩;rw[ai,beq_self_eq_true]
  ·split <;> exact YD ns _ _ h
theorem Ug {x:Str}{c:Addr}:∀(ns:List (Str×NameKind)) (n m:Nat) (acc:List (Str×Addr)),m<=n->((x,NameKind.cell)∈ns\/∀d,acc.lookup x=some d->m<=d)->(cellsFrom n ns acc).lookup x=some c->m<=c
 | [],_,_,_,_,h,e=>(h.resolve_left (by simp)) _ e
 | (y,k) :: ns,n,m,acc,hm,h,e=>by
  unfold cellsFrom at e;split at e
  ·refine Ug ns _ m _ (Nat.le_succ_of_le hm) ?_ e
   by_cases hx:x=y
   ·subst hx;refine .inr λd z=> ?_;rw[ai,beq_self_eq_true]at z;have e:=ak z;rw[← e];exact hm
   ·rcases h with h | h
    ·rcases aj.mp h with z | z
     ·cases z;exact absurd rfl hx
     ·exact .inl z
    ·refine .inr λd z=> ?_;rw[ai,beq_eq_false_iff_ne.mpr hx]at z;exact h d z
  ·rename_i hk;refine Ug ns _ m _ hm ?_ e;rcases h with h | h
   ·rcases aj.mp h with z | z
    ·cases z;exact absurd rfl hk
    ·exact .inl z
   ·exact .inr h
theorem Uh:∀(ns:List (Str×NameKind)) (n:Nat) (acc:List (Str×Addr)),(∀x y c,acc.lookup x=some c->acc.lookup y=some c->x=y)->(∀x c,acc.lookup x=some c->c < n)->∀x y c,(cellsFrom n ns acc).lookup x=some c->(cellsFrom n ns acc).lookup y=some c->x=y
 | [],_,_,h,_=>h
 | (y,k) :: ns,n,acc,h,hb=>by
  unfold cellsFrom;split
  ·have lk:∀x c,((y,n) :: acc).lookup x=some c->(x=y/\c=n)\/acc.lookup x=some c:=λx c e=>by
    rw[ai]at e
    by_cases hx:x=y
    ·subst hx;rw[beq_self_eq_true]at e;exact .inl ⟨rfl,(ak e).symm⟩
    ·rw[beq_eq_false_iff_ne.mpr hx]at e;exact .inr e
   refine Uh ns _ _ (λa b c e1 e2=> ?_) λa c e=> ?_
   ·rcases lk a c e1 with ⟨p1,q1⟩ | z1 <;> rcases lk b c e2 with ⟨p2,q2⟩ | z2
    ·rw[p1,p2]
    ·exact absurd (hb _ _ z2) (by rw[q1];exact aN _)
    ·exact absurd (hb _ _ z1) (by rw[q2];exact aN _)
    ·exact h a b c z1 z2
   ·rcases lk a c e with ⟨_,q⟩ | z
    ·rw[q];exact Nat.lt_succ_self _
    ·exact eU (hb _ _ z)
  ·exact Uh ns _ _ h hb
theorem wX {x:Str}{c:Addr}:∀(ns:List (Str×NameKind)) (h:Heap) (acc:List (Str×Addr)),(cellsFrom h.objs.size ns acc).lookup x=some c->(∀d,acc.lookup x=some d->∃v,h.IsCell d v)->∃v,(pushCells h ns).IsCell c v
 | [],_,_,e,k=>k c e
 | (y,k) :: ns,h,acc,e,hk=>by
  unfold pushCells;unfold cellsFrom at e;split at e
  ·rename_i hc;rw[if_pos hc];have sz:(h.push { cls:= .type "cell",data:= .cell none }).objs.size=h.objs.size+1:=dS ..;rw[← sz]at e;refine wX ns _ _ e λd z=> ?_;rw[ai]at z
   by_cases hx:x=y
   ·subst hx;rw[beq_self_eq_true]at z;have e:=ak z;rw[← e];exact⟨none,_,ao _ rfl,rfl⟩
   ·rw[beq_eq_false_iff_ne.mpr hx]at z;obtain⟨v,o,eo,ed⟩:=hk d z;exact⟨v,o,a7 _ eo,ed⟩
  ·rename_i hc;rw[if_neg hc];exact wX ns _ _ e hk
theorem ZJ {scope:Scope}{env:Env}{x:Str}{k:NameKind}(h:(relabel scope env).names.lookup x=some k):∃k',(x,k')∈scope.names/\(k=k' \/k' = .free/\k= .cell):=by
 have go:∀ns:List _,(ns.map λ(n,k)=>if (k == NameKind.free && env.scope.kind == .function && env.kindOf n == some .cell) then (n,NameKind.cell) else (n,k)).lookup x=some k->∃k',(x,k')∈ns/\(k=k' \/k' = .free/\k= .cell):=by
  intro ns
  induction ns with
  | nil=>intro h;simp at h
  | cons y ns ih=>
   intro h;obtain⟨n,k'⟩:=y;rw[bg]at h
   by_cases hx:x=n
   ·subst hx;refine⟨k',ac, ?_⟩
    by_cases hc:(k' == NameKind.free && env.scope.kind == .function && env.kindOf x == some .cell)=true
    ·simp only[if_pos hc,ai,beq_self_eq_true]at h;rw[ah,ah]at hc;exact .inr ⟨eq_of_beq hc.1.1,(ak h).symm⟩
    ·simp only[if_neg hc,ai,beq_self_eq_true]at h;exact .inl (ak h).symm
   ·obtain⟨z,hz,h1⟩:=ih (by
     by_cases hc:(k' == NameKind.free && env.scope.kind == .function && env.kindOf n == some .cell)=true
     ·simp only[if_pos hc,ai,(beq_eq_false_iff_ne.mpr hx)]at h;exact h
     ·simp only[if_neg hc,ai,(beq_eq_false_iff_ne.mpr hx)]at h;exact h)
    exact⟨z,a8 _ hz,h1⟩
 exact go _ h
def cxD (X:Cx)(scope:Scope)(N' :List Str)(cl:List (Str×Addr))(C:Addr)(s3:Shared)(H3:Hp)(fp:List Addr)(pins:List (Addr×Obj)):Cx:=
 { X with N:=N',s₀:=s3,H₀:=H3,env:=compEnvC scope (cellsFrom (C+1) scope.names cl) C X.env,outer:=X.stack,stack:=X.stack,ex:=fp,fn:=λx=>scope.names.lookup x == some .cell,pn:=X.pn++pins,xe:=λ_ _=>False }
structure CSd (X:Cx) (scope:Scope):Prop where
 kind:scope.kind= .function
 can:∀x∈scope.names,scope.names.lookup x.1=some x.2
 fre:∀x∈scope.names,x.2= .free->X.env.kindOf x.1=some .cell\/X.env.kindOf x.1=some .free
section
variable {X:Cx}{pins:List (Addr×Obj)}{σ:Sg}{H:Hp}{s:Shared}
theorem WV {scope:Scope}{N' :List Str}{cl:List (Str×Addr)}{fp:List Addr}{h0 h' :Heap}{tk:Nat}{σ' :Sg}(I:L2.Inv X pins σ H s)(S:CSd X scope)(hc:X.calm=true)
  (hcl:∀x c,cl.lookup x=some c->X.env.cells.lookup x=some c) (hcf:∀x∈scope.names,x.2=NameKind.free->∃c,cl.lookup x.1=some c)
  (hfp:∀b∈fp,J6 X pins H b) (hfo:∀b∈fp,∃o,s.heap.get? b=some o)
  (h0s:h0.objs.size=s.heap.objs.size+1) (h0k:∀b o,s.heap.get? b=some o->h0.get? b=some o) (eh:h' =pushCells h0 scope.names)
  (hns:h'.Ns s.heap.objs.size (λ_=>none)) (hk:∀b o,s.heap.get? b=some o->h'.get? b=some o)
  (hl:σ'.length=N'.length) (hσ:∀(i:Nat) (x:Str) (v:V),N'[i]? =some x->σ'[i]? =some (some v)->∃j:Nat,X.N[j]? =some x/\σ[j]? =some (some v)/\Vis X.env.scope x/\(scope.names.lookup x=some .free)/\(X.env.kindOf x=some .cell\/X.env.kindOf x=some .free)):
  L2.Inv (cxD X scope N' cl s.heap.objs.size s H fp pins) [] σ' H { s with heap:=h',toks:=tk }:=by
 have stk:=I.stkSub;have hlt:=λb hb=>let ⟨o,e⟩:=hfo b hb;a9 e;have fresh:=I.hok.fresh (ag _);have cll:∀x c,cl.lookup x=some c->c < s.heap.objs.size:=λx c e=>by
  obtain⟨v,o,eo,_⟩:=I.cell x c (hcl x c e);exact a9 eo
 have any:∀x c,(cellsFrom _ scope.names cl).lookup x=some c->s.heap.objs.size+1<=c\/X.env.cells.lookup x=some c:=λx c e=>by
  rcases Wp _ _ _ e with ⟨_,z⟩ | z
  ·exact .inl z
  ·exact .inr (hcl x c z)
 refine⟨⟨I.ok.mod,S.kind,I.ok.glob,I.ok.blt,ag _,Uh _ _ _ (λx y c h1 h2=>I.ok.inj x y c (hcl _ _ h1) (hcl _ _ h2)) (λx c e=>eU (cll x c e)),λx hx=> ?_,λx c h e=> ?_,λ_=>I.ok.hd hc,I.ok.frames,.inl rfl,λb hb=> ?_,I.bs,
   ay I.ok.bsz I.sz,λb o e hb=> ?_,λb hb hb' => ?_,I.stack,I.stkFree⟩,rfl,I.bare,Un.kept hk,⟨_,hns,λi x v h1 h2 h3=> ?_⟩,λx c e=> ?_,fresh,λx c e=> ?_,λp hp=> ?_,I.hok.kept hk,hl⟩
 ·have hx' :=hx;have:(x,NameKind.cell)∈scope.names\/(x,NameKind.free)∈scope.names:=by
   rcases hx' with h | h
   ·obtain⟨k',m,e | ⟨e,_⟩⟩:=ZJ h
    ·exact .inl (e ▸ m)
    ·exact .inr (e ▸ m)
   ·obtain⟨k',m,e | ⟨e,_⟩⟩:=ZJ h
    ·exact .inr (e ▸ m)
    ·exact .inr (e ▸ m)
  rcases this with h | h
  ·exact YD _ _ _ h
  ·exact JG _ _ _ (hcf _ h rfl)
 ·have hm:=aM (eq_of_beq h);exact c7 (Ug _ _ _ _ (ag _) (.inl hm) e)
 ·refine⟨aA (hlt b hb),λx c e=> ?_⟩;rcases any x c e with z | z
  ·exact λq=>absurd (hlt b hb) (by rw[← q];exact dC.mpr (c7 z))
  ·exact(hfp b hb).2.2.2.2.1 x c z
 ·rcases(hfp b hb).2.2.2.1 with h | h
  ·exact I.ok.noex b o e h
  ·exact absurd (ar (a9 e) (ay I.ok.bsz h)) (aN _)
 ·have q:=hfp b hb;rcases aj.mp (stk b hb') with z | z
  ·exact q.2.1 z
  ·exact q.2.2.1 z
 ·obtain⟨j,e1,e2,e3,e4,e5⟩:=hσ i x v h1 h2;obtain⟨m,hn,hloc⟩:=I.loc;obtain⟨u,ru,lk⟩:=hloc j x v e1 e2 e3;have only:∀k,(x,k)∈scope.names->k= .free:=λk hk=>by
   have:=S.can _ hk;rw[e4]at this;exact(ak this).symm
  refine⟨u,ru,.inr ⟨?_, ?_⟩⟩
  ·rcases h3 with h | h | h
   ·obtain⟨k',m',e | ⟨_,e⟩⟩:=ZJ h
    ·have:=only _ m';rw[← e]at this;cases this
    ·cases e
   ·exact .inl h
   ·exact .inr h
  ·rcases lk with ⟨hk',_⟩ | ⟨_,c,hc',hcell⟩
   ·rcases e5 with z | z <;> (rw[z]at hk';cases hk')
   ·obtain⟨c',hc2⟩:=hcf _ (aM e4) rfl;have:=hcl x c' hc2;rw[hc']at this;cases this;obtain⟨o,eo,ed⟩:=hcell;refine⟨c, ?_,o,hk _ _ eo,ed⟩;show (cellsFrom _ _ cl).lookup x=_;rw[Uf _ _ _ λk hk=>by rw[only k hk];decide]
    exact hc2
 ·have e:(cellsFrom _ _ cl).lookup x=some c:=e;rw[← h0s]at e;rw[eh];refine wX _ _ _ e λd z=> ?_;obtain⟨v,o,eo,ed⟩:=I.cell x d (hcl _ _ z);exact⟨v,o,h0k _ _ eo,ed⟩
 ·rcases any x c e with z | z
  ·exact I.hok.fresh (c7 z)
  ·exact I.freeC x c z
 ·have hp' :=by
   have:=hp;rwa[aK]at this
  obtain⟨e,n,ne,nf,dc⟩:=I.pin p hp';refine⟨hk _ _ e,n,aA (a9 e),λhb=> ?_,dc⟩;rcases aj.mp (stk _ hb) with z | z
  ·exact ne z
  ·exact nf z
end
theorem Qi {M:Model}{A:Around}{E:Value->Shared->Prop}{s:Shared}{scope:Scope}{globals:Addr}{closure:List (Str×Addr)}{qual:Str}{outer:Env}{Q:Env->Shared->Prop}
  (hQ:Q { scope,locals:=s.heap.objs.size,globals,cells:=cellsFrom (s.heap.objs.size+1) scope.names closure,qual:=qual,func:=none,code:=outer.code,frame:=outer.frame,builtins:=outer.builtins } { s with heap:=pushCells (s.heap.push { cls:= .type "dict",data:= .dict #[] }) scope.names }):
  wpAny M A (newFunctionEnv scope globals closure [] qual none .none (some outer)) Q E s:=by
 refine a4 (wpAny_alloc ?_);refine a4 (wpAny_layCells _ (λname kind cells=>by cases hkc:kind == NameKind.cell <;> simp[hkc]) _ _ _ _ ?_)
 refine a4 (aq (aq ?_));rw[show ({ s with heap:=s.heap.push _ }:Shared).heap.objs.size=s.heap.objs.size+1 from dS ..];exact hQ
abbrev Ui (X:Cx)(scope:Scope)(N' :List Str)(P:Cx->Prop):Prop:=∀cl C s3 H3 fp pins,P (cxD X scope N' cl C s3 H3 fp pins)
theorem JH {env:Env}:∀(ns:List (Str×NameKind)) (acc:List (Str×Addr)),(∀x∈ns,x.2=NameKind.free->∃c,env.cells.lookup x.1=some c)->
  ∃cl,(forIn ns acc (λ(x:Str×NameKind) (r:List (Str×Addr))=>if (x.2 == NameKind.free)=true then (do let c ← cellOf env x.1;pure (ForInStep.yield ((x.1,c) :: r))) else pure (ForInStep.yield r)):Sem _)=pure cl/\
   (∀x c,cl.lookup x=some c->acc.lookup x=some c\/(env.cells.lookup x=some c/\(x,NameKind.free)∈ns))/\(∀x c,acc.lookup x=some c->∃c',cl.lookup x=some c')/\(∀x∈ns,x.2=NameKind.free->∃c,cl.lookup x.1=some c)
 | [],acc,_=>⟨acc,rfl,λx c e=> .inl e,λx c e=>⟨c,e⟩,λx hx=>by simp at hx⟩
 | (n,k) :: ns,acc,hf=>by
  by_cases hk:k=NameKind.free
  ·obtain⟨c,hc⟩:=hf _ ac hk;obtain⟨cl,e,h1,h2,h3⟩:=JH ns _ (λx hx=>hf x (a8 _ hx));subst hk;refine⟨cl, ?_,λx d ed=> ?_,λx d ed=> ?_,λx hx hxf=> ?_⟩
   ·rw[c_];have q:cellOf env n=pure c:=by unfold cellOf;rw[hc]
    simp only[beq_self_eq_true,if_true,q];exact e
   ·rcases h1 x d ed with z | ⟨z,m⟩
    ·rw[ai]at z
     by_cases hx:x=n
     ·subst hx;rw[beq_self_eq_true]at z;have:=ak z;subst this;exact .inr ⟨hc,ac⟩
     ·rw[beq_eq_false_iff_ne.mpr hx]at z;exact .inl z
    ·exact .inr ⟨z,a8 _ m⟩
   ·by_cases hx:x=n
    ·subst hx;exact h2 x c (by simp[ai])
    ·exact h2 x d (by rw[ai,(beq_eq_false_iff_ne.mpr hx)];exact ed)
   ·rcases aj.mp hx with rfl | hx
    ·exact h2 n c (by simp[ai])
    ·exact h3 x hx hxf
  ·obtain⟨cl,e,h1,h2,h3⟩:=JH ns acc (λx hx=>hf x (a8 _ hx));refine⟨cl, ?_,λx d ed=>(h1 x d ed).imp id λz=>⟨z.1,a8 _ z.2⟩,h2,λx hx hxf=> ?_⟩
   ·rw[c_];have q:(k == NameKind.free)=false:=by simpa using hk
    simp only[q,bK,if_false];exact e
   ·rcases aj.mp hx with rfl | hx
    ·exact absurd hxf hk
    ·exact h3 x hx hxf
theorem yO {scope:Scope}{env:Env}(hf:∀x∈scope.names,x.2=NameKind.free->∃c,env.cells.lookup x.1=some c):
  ∃cl,closureFor scope env=pure cl/\(∀x c,cl.lookup x=some c->env.cells.lookup x=some c)/\(∀x∈scope.names,x.2=NameKind.free->∃c,cl.lookup x.1=some c)/\∀x c,cl.lookup x=some c->(x,NameKind.free)∈scope.names:=by
 obtain⟨cl,e,h1,_,h3⟩:=JH _ [] hf;have h1:=λx c z=>(h1 x c z).resolve_left (by simp)
 refine⟨cl, ?_,λx c z=>(h1 x c z).1,h3,λx c z=>(h1 x c z).2⟩;unfold closureFor;exact(by simpa using e)
section
variable {X:Cx}{Y:Fx}
theorem Qj {pins:List (Addr×Obj)}{σ:Sg}{H:Hp}{s:Shared}{scope:Scope}{clos:List (Str×Addr)}{N' :List Str}{js:List Nat}(I:L2.Inv X pins σ H s)(hfn:∀x c,clos.lookup x=some c->X.fn x=true)(hcl:∀x c,clos.lookup x=some c->X.env.cells.lookup x=some c)
  (hcf:∀x∈scope.names,x.2=NameKind.free->∃c,clos.lookup x.1=some c) (CP:yy X scope N' 0 js):Wo (ya s H (frs X.stack)) H scope clos N' (ja 0 js σ):=by
 have up:∀x c,clos.lookup x=some c->X.env.cells.lookup x=some c->∀v,s.heap.IsCell c v->(ya s H _).IsCell c v:=λx c e0 e v ⟨o,ho,hd⟩=>⟨o,JF ho (I.freeC x c e) λhb=>by
  rcases aj.mp (I.stkSub c hb) with z | z
  ·exact I.cne x c e z
  ·obtain⟨_,o2,e2,_⟩:=I.ok.funs.mem z;exact absurd (a9 e2) (dC.mpr (I.ok.cab x c (hfn x c e0) e)),hd⟩
 refine⟨λx y c h1 h2=>I.ok.inj x y c (hcl _ _ h1) (hcl _ _ h2),hcf,λx c e=>⟨?_,I.freeC x c (hcl x c e)⟩,λi x v h1 h2=> ?_,by unfold ja;simp[CP.len]⟩
 ·obtain⟨v,ic⟩:=I.cell x c (hcl x c e);exact⟨v,up x c e (hcl x c e) v ic⟩
 ·unfold ja at h2;rw[dX,bO,av]at h2;cases ej:js[i]? with
  | none=>rw[ej]at h2;cases h2
  | some j=>
   rw[ej]at h2;have h2' :(σ[j]?).getD _=some v:=ak h2;have hσ:σ[j]? =some (some v):=by
    cases ez:σ[j]? with
    | none=>rw[ez]at h2';cases h2'
    | some z=>rw[ez]at h2';exact congrArg _ h2'
   obtain⟨y,e1,e2,e3,e4,e5⟩:=CP.cap i j ej;rw[Nat.zero_add,h1]at e1;cases e1;obtain⟨m,hn,hlo⟩:=I.loc;obtain⟨u,ru,lk⟩:=hlo j x v e2 hσ e3;obtain⟨c,ec⟩:=hcf _ (aM e4) rfl;rcases lk with ⟨k,_⟩ | ⟨_,c2,e6,ic⟩
   ·rcases e5 with z | z <;> (rw[k]at z;cases z)
   ·have:=hcl x c ec;rw[e6]at this;cases this;exact⟨u,c,ru,ec,up x c ec e6 _ ic,e4⟩
end
section
variable {X:Cx}{Y:Fx}{tg iter elt:Expr}{ifs:List Expr}{scope:Scope}{pos pos' :Pos}{N' :List Str}{k:Nat}{js:List Nat}{fi:En->R (List T)}{tG:TG}{g:T->En->R En}{ft:En->R Bool}{fe:En->R T}
theorem WW {B1 H1:Hp}{σ:Sg}{ρ:En}{J:It}{ts:List T}{r:R (List T)}{D:Addr}{E0:XK}(hG:GOk tG g)(hN:GNo g)(I:SI Y B1 ρ σ H1)(rI' :rI B1 H1 J ts)(hl:ts.length<=bnd)(ev:zz g ft fe ts (Jd k js ρ)=r)(hD:H1 D=none){F:Hp->Prop}
  (hF:Kb r (λvs=>∀H' xs B',zc H1 H' ->H' D=some (.lst xs)->zt B' xs vs->zc B' (zv B1 H1 H')->B' D=none->zc B1 B' ->F H') λc=>∀d H',zc H1 H' ->zc B1 H' ->E0 (Y.cl c) d H'):
  ∃W,(∃m,W 0 m [] (ja k js σ) (upd H1 D (.lst [])))/\wm J D tG (λσ H Q=>∃Y' ρ',Y'.cl=Y.cl/\zc Y.H0 Y'.H0/\tS Y' rE ft ρ' σ H Q) (λσ H Q=>∃Y' ρ',Y'.cl=Y.cl/\zc Y.H0 Y'.H0/\tS Y' rC fe ρ' σ H Q) (λ_ H' =>F H') W:=by
 refine⟨λi m ys σ' H' =>m=ts.length - i/\i<=ts.length/\ys.length<=i/\H' D=some (.lst ys)/\∃ρ' B' us,SI ⟨B1,H1,E0,Y.cl,[]⟩ B' ρ' σ' H' /\Q0 ρ' /\zc B1 B' /\B' D=none/\zt B' ys us/\((zz g ft fe (ts.drop i) ρ').bind λws=> .ok (us++ws))=r,
  ⟨ts.length,by simp,bR _,bR _,zj,_,B1,[],I.block (H3:=H1) k js _ hD _,Wk k js ρ,zc.refl _,I.sB.free hD,.nil,by rw[dg,ev];cases r <;> rfl⟩, ?_⟩
 rintro i m ys σ' H' ⟨rfl,hi,hyl,hDl,ρ',B',us,I',no',s1',bD,r',ew⟩
 refine⟨hDl, ?_⟩;obtain⟨hgo,hyld,hstop⟩:=rI' B' H' s1' I'.sB;have tD:∀H2,zc H' H2->zv B' H' H2 D=none:=λH2 s=>by rw[zE hDl];exact bD
 by_cases hlt:i < ts.length
 ·refine .inr ⟨hgo i hlt,λx H2 y=> ?_⟩;obtain⟨s2,r2⟩:=hyld i _ x H2 (aF hlt) y;rw[bi hlt]at ew;unfold zz at ew;have I2:=I'.grow s2;refine hG _ _ ρ' σ' H2 x _ _ I2 r2 ?_;cases eg:g _ ρ' with
  | bad=>rw[eg]at ew;subst ew;exact hF
  | ex c=>exact(hN.2 _ _ _ eg).elim
  | ok ρ1=>
   rw[eg]at ew;have no1:=hN.1 _ _ _ no' eg;intro σ1 J1;refine⟨⟨B1,H1,E0,Y.cl,[]⟩,ρ1,rfl,I.sH,_,J1, ?_⟩;have ew1:((ft ρ1).bind (λk=>if k=true then (fe ρ1).bind λv=>(zz g ft fe _ ρ1).bind λvs=> .ok _ else zz g ft fe _ ρ1)).bind (λws=> .ok _)=r:=ew
   cases ef:ft ρ1 with
   | bad=>rw[ef]at ew1;subst ew1;exact hF
   | ex c=>
    rw[ef]at ew1;subst ew1;exact λd H' a b=>hF d H' a ((s1'.trans (zv.ge I'.sB s2)).trans b)
   | ok kk=>
    rw[ef]at ew1;intro b H3 s3 eb;have eb' :=eb;subst eb';have ew2:=ew1;have J2:=J1.grow s3;have hD3:=s3 _ _ (s2 _ _ hDl);have bD3:zv (zv B' H' H2) H2 H3 D=none:=by rw[zE (s2 _ _ hDl)];exact tD H2 s2
    have sB3:=(zv.ge I'.sB s2).trans (zv.ge I2.sB s3);cases b with
    | false=>exact⟨ts.length - (i+1),by omega,rfl,hlt,by omega,hD3,ρ1,_,us,J2,no1,s1'.trans sB3,bD3,r'.mono sB3,ew2⟩
    | true=>
     refine⟨⟨B1,H1,E0,Y.cl,[]⟩,ρ1,rfl,I.sH,_,J2, ?_⟩;have ew3:=ew2;cases ee:fe ρ1 with
     | bad=>rw[ee]at ew3;subst ew3;exact hF
     | ex c=>
      rw[ee]at ew3;subst ew3;exact λd H' a b=>hF d H' a ((s1'.trans sB3).trans b)
     | ok v=>
      rw[ee]at ew3;have ew4:=ew3;have ew5:(zz g ft fe (ts.drop (i+1)) ρ1).bind (λws=> .ok ((us++[v])++ws))=r:=by
       rw[← ew4];cases zz g ft fe _ ρ1 with
       | ok ws=>show R.ok _=R.ok _;rw[a_];rfl
       | _=>rfl
      intro w H4 s4 rw4;have hD4:=s4 _ _ hD3;have J3:=J2.grow s4;have bD4:zv (zv (zv B' H' H2) H2 H3) H3 H4 D=none:=by rw[zE hD3];exact bD3
      have sB4:=sB3.trans (zv.ge J2.sB s4);refine⟨hD4,ar (eD hyl hlt) (Z2 hl),ts.length - (i+1),by omega,rfl,hlt,by rw[aa,cM];omega,zj,ρ1,_,us++[v], ?_,no1,s1'.trans sB4,bD4,(r'.mono sB4).append (.cons rw4 .nil),ew5⟩
      exact J3.acc bD4 hD (λj ts' e=>((no1 j _ e).1 ts' rfl).elim) (λj x e=>(no1 j x e).2) _
 ·have e:i=ts.length:=by omega
  subst e;refine .inl ⟨hstop _ (ag _), ?_⟩;rw[cR]at ew;have ew' :R.ok _=r:=ew;rw[aK]at ew';subst ew';refine hF H' ys B' I'.sH hDl r' (λb o h=> ?_) bD s1';cases q:H1 b with
  | none=>rw[zD q];exact I'.sB b o h
  | some u=>
   rw[zE q];have z:B' b=B1 b:=I'.old b u q;rw[← z];exact h
end
noncomputable def xD (scope sc0:Scope):Bool:=(scope.kind == .function) && scope.names.all (λx=>scope.names.lookup x.1 == some x.2) &&
 scope.names.all (λx=>x.2 != .free || sc0.names.lookup x.1 == some .cell || sc0.names.lookup x.1 == some .free)
theorem Vs {X:Cx}{scope:Scope}(sc0:Scope)(h0:X.env.scope=sc0)(h:xD scope sc0=true):CSd X scope:=by
 unfold xD at h;simp only[ah,aY]at h;obtain⟨⟨h1,h3⟩,h4⟩:=h;refine⟨eq_of_beq h1,λx hx=>eq_of_beq (h3 x hx),λx hx hf=> ?_⟩;have:=h4 x hx;rw[hf]at this;show X.env.scope.names.lookup x.1=_\/X.env.scope.names.lookup x.1=_;rw[h0];simpa using this
end PV
namespace PV
open PySem PySem.Spec PyProof.Rows L2
structure Fn (K:a6) (mg:Str->Option Value) (x:Str) (st:Stmt) (ps:List Str) (f:Addr) (fd:FuncData):Prop where
 F:Fun K x x st f fd
 b:L2.Binds K fd ps []
 m:mg x=some (.ref f)
noncomputable abbrev FE (K:a6)(mg:Str->Option Value)(x:Str)(st:Stmt)(ps:List Str):Prop:=∃f fd,Fn K mg x st ps f fd
structure Zz where
 P:Program
 w:World
 K:a6
 mg:Str->Option Value
 base:Heap
 cl:Nat->Value
structure QQ (x:Str) (CX:CXT) (k:Nat) (sp:Sp) (Z:Zz):Prop where
 ex:∃st ps f fd,Fn Z.K Z.mg x st ps f fd/\W8 Z.P Z.w Z.K Z.mg Z.base CX k f fd ps sp
abbrev qP (Z:Zz)(x:Str)(n k:Nat)(c:List T->R T):Prop:=QQ x CX0 k (spP Z.cl n c) Z
abbrev qX (Z:Zz)(x:Str)(n k:Nat)(c:List T->R T):Prop:=QQ x (CX1 Z.P Z.w) k (spP Z.cl n c) Z
def oP (m:Nat)(b:En->RS):List T->R T:=λts=>zC (b (en0 m ts))
def oC (m:Nat)(b:En->RS):Nat->R T:=λc=>zC (b (enC m c))
section
variable {P:Program}{w:World}{K:a6}{mg:Str->Option Value}{base:Heap}{cl:Nat->Value}{x:Str}{CX:CXT}{k c:Nat}{sp:Sp}{G:Prop}{as:List Str}
theorem QQ.go (O:QQ x CX k sp ⟨P,w,K,mg,base,cl⟩)(h:∀st ps f fd,Fn K mg x st ps f fd->W8 P w K mg base CX k f fd ps sp->G):G:=by
 obtain⟨⟨st,ps,f,fd,C,F⟩⟩:=O;exact h st ps f fd C F
end
section
variable {Z:Zz}{x y:Str}{st:Stmt}{ps:List Str}{c k n m j:Nat}{fb:En->RS}{fm:En->R (T×En)}
abbrev Sc (N ps:List Str)(st:Stmt):Prop:=zX N ps (z6 st)
theorem okP (C:FE Z.K Z.mg x st ps)(N:List Str) (hb:∀(f:Addr) (cdv:Value) (A:Around) (outer:List Env) (s:Shared) (H:Hp) (E:XK) (Y:Fx),Y.cl=Z.cl->True->Z1 k (A.deeper (envOfC x (z6 st) s.heap.objs.size f cdv))->N.Nodup->True->
   jo (zU CX0 Z.P Z.w Z.K Z.mg Z.base N x (z6 st) f cdv A outer s H E).nox Y (zq st) fb)
  (S:Sc N ps st:=by refine⟨rfl,rfl,rfl, ?_,rfl, ?_, ?_⟩ <;> decide+kernel) (hn:n=ps.length:=by rfl) (hm:m=N.length:=by rfl):qP Z x n (k+1) (oP m fb):=by
 obtain⟨f,fd,C⟩:=C;subst hm;exact⟨_,_,f,fd,C,XR C.F S hn (λcdv A outer s H E Y hy hr=>hb f cdv A outer s H E Y hy trivial hr S.nd trivial) λ_ _=>rfl⟩
theorem okR (C:FE Z.K Z.mg x st ps)(N:List Str) (hb:∀(f:Addr) (cdv:Value) (A:Around) (outer:List Env) (s:Shared) (H:Hp) (E:XK) (Y:Fx),Y.cl=Z.cl->Y.E=E->Z1 k (A.deeper (envOfC x (z6 st) s.heap.objs.size f cdv))->N.Nodup->zO (CX1 Z.P Z.w) (zU (CX1 Z.P Z.w) Z.P Z.w Z.K Z.mg Z.base N x (z6 st) f cdv A outer s H E) Y.E->
   jo (zU (CX1 Z.P Z.w) Z.P Z.w Z.K Z.mg Z.base N x (z6 st) f cdv A outer s H E) Y (zq st) fb)
  (S:Sc N ps st:=by refine⟨rfl,rfl,rfl, ?_,rfl, ?_, ?_⟩ <;> decide+kernel) (hn:n=ps.length:=by rfl) (hm:m=N.length:=by rfl):qX Z x n (k+1) (oP m fb):=by
 obtain⟨f,fd,C⟩:=C;subst hm;exact⟨_,_,f,fd,C,Vf C.F S hn (λcdv A outer s H E Y hy hE hr=>hb f cdv A outer s H E Y hy hE hr S.nd (hE ▸ qA)) λ_ _=>rfl⟩
variable {as:List Str}
theorem okB (C:FE Z.K Z.mg x st ps)(hn:n=ps.length:=by rfl):qP Z x n k (λ_=> .bad):=by
 obtain⟨f,fd,C⟩:=C;exact⟨_,_,f,fd,C,λvs H Q E h=>by rw[← hn];exact spP.len vs H Q E h,λA outer s H args us vs Q E _ _ _ _ ⟨B,ts,_,_,_,q⟩=>q.elim⟩
end
section
variable {X:Cx}{Y:Fx}{cl:Nat->Value}{k j n:Nat}{g:List T->R T}{x:Str}{a:Expr}{es:List Expr}{ga:En->R (List T)}{p pos:Pos}
theorem cZ (hy:Y.cl=cl)(O:QQ x CX0 j (spP cl n g) ⟨X.prog,X.w,X.K,X.mg,X.base,cl⟩)(hr:Z1 k X.A)(ha:jl X Y (a :: es) ga)(hj:j<=k:=by omega)(gl:Gl X x:=by rfl)(hd:(x == ("__debug__":Str))=false:=by decide)
  (hs:starEach (a :: es) X.env=(false,eval a X.env) :: starEach es X.env:=by exact zw rfl) (hz:((backTo pos (starEach es X.env)).any λx=>x.fst)=false:=by exact zS rfl):Snd X Y (.Call (.Name x p) (a :: es) [] pos) (z8 n g ga):=
 O.go λ_ _ _ _ C F=>Q3 hy F hr hj gl C.m C.F.kp C.b ha hd hs hz
theorem cX (hy:Y.cl=cl)(hp:zO (CX1 X.prog X.w) X Y.E)(O:QQ x (CX1 X.prog X.w) j (spP cl n g) ⟨X.prog,X.w,X.K,X.mg,X.base,cl⟩)(hr:Z1 k X.A)(ha:jl X Y (a :: es) ga)(hj:j<=k:=by omega)(gl:Gl X x:=by rfl)(hd:(x == ("__debug__":Str))=false:=by decide)
  (hs:starEach (a :: es) X.env=(false,eval a X.env) :: starEach es X.env:=by exact zw rfl) (hz:((backTo pos (starEach es X.env)).any λx=>x.fst)=false:=by exact zS rfl):Snd X Y (.Call (.Name x p) (a :: es) [] pos) (z8 n g ga):=
 O.go λ_ _ _ _ C F=>Q4 hy hp F hr hj gl C.m C.F.kp C.b ha hd hs hz
end
noncomputable def nms (N:List Str)(js:List Nat):List Str:=js.map λj=>N.getD j ""
noncomputable def ndB:List Str->Bool
 | []=>true
 | x :: r=> !(r.contains x) && ndB r
theorem Wq:∀{l:List Str},ndB l=true->l.Nodup
 | [],_=> .nil
 | x :: r,h=>by
  rw[ndB,ah]at h;exact cu.mpr ⟨by simpa using h.1,Wq h.2⟩
def xE (N N' :List Str)(sc0 scope:Scope)(k:Nat)(js:List Nat):Bool:=(yD scope sc0 && U7 N N' scope sc0 k js) && ndB N'
section
variable {cl:Nat->Value}{X:Cx}{Y:Fx}{x y:Str}{p p' p2:Pos}{kk:Nat}{iter elt:Expr}{ifs:List Expr}{scope:Scope}{js:List Nat}{fi:En->R (List T)}{ft:En->R Bool}{fe:En->R T}
theorem cr1 (hy:Y.cl=cl)(h:xE X.N (x :: nms X.N js) X.env.scope scope 1 js=true)(hx:((relabel scope X.env).names.lookup x == some .local)=true)(cm:X.calm=true)(it:wj X Y (.Name x p) iter fi)(tt:∀Y',Y'.cl=cl->Wj X scope (x :: nms X.N js) λXC=>jb XC Y' ifs ft)
  (el:∀Y',Y'.cl=cl->Yz X scope (x :: nms X.N js) Y'.E λXC=>Snd XC Y' elt fe) (hs:∀x,foldedSetIterable iter X.env x=pure x:=by intro _;rfl):U3 X Y (.Name x p) iter elt ifs scope (x :: nms X.N js) 1 js fi (JZ 0) (Z4 0) ft fe:=by
 subst hy;rw[xE,ah]at h;have hx:(relabel scope X.env).names.lookup x=some .local:=eq_of_beq hx;exact Ve _ _ _ rfl rfl h.1 cm it (λ_ _ _ _ _ _=>j7 (Wq h.2) rfl (.inl hx) (.inr hx)) (JC 0) (JD 0) tt el hs
end
end PV
namespace L2
open PySem PySem.Spec PyProof.Rows
end L2
namespace PV
open PySem PySem.Spec PyProof.Rows L2 PySem.W
end PV
namespace PV
open PySem PySem.Spec PyProof.Rows L2
end PV
namespace PV
open PySem PySem.Spec PyProof.Rows L2 PySem.W
noncomputable abbrev qlT (x:Str):Str:=x++".<locals>."++"<lambda>"
end PV
namespace PV
open PySem PySem.Spec PyProof.Rows L2
end PV
namespace PV
open PySem PySem.Spec PyProof.Rows L2 PySem.W
structure QCM (x:Str) (k:Nat) (gx:Nat->R T) (Z:Zz):Prop where
 ex:∃st y f fd,Fn Z.K Z.mg x st [y] f fd/\FnM Z.P Z.w Z.K Z.mg Z.base k f fd [y] (spC Z.cl gx)
section
variable {Z:Zz}{x:Str}{st:Stmt}
theorem KW {q:Str}{k m:Nat}{fb:En->RS}(C:FE Z.K Z.mg x st [q])(N:List Str) (hb:∀(f:Addr) (cdv:Value) (A:Around) (outer:List Env) (s:Shared) (H:Hp) (_:True) (Y:Fx),Y.cl=Z.cl->True->Zl k (A.deeper (envOfC x (z6 st) s.heap.objs.size f cdv))->N.Nodup->True->
   jo (cxM Z.P Z.w Z.K Z.mg Z.base N x (z6 st) f cdv A outer s H) Y (zq st) fb)
  (S:Sc N [q] st:=by refine⟨rfl,rfl,rfl, ?_,rfl, ?_, ?_⟩ <;> decide+kernel) (h1:1<=N.length:=by decide) (hm:m=N.length:=by rfl):QCM x (k+1) (oC m fb) Z:=by
 obtain⟨f,fd,C⟩:=C;subst hm;exact⟨_,_,f,fd,C,Qh C.F S h1 (λcdv A outer s H Y hy hr=>hb f cdv A outer s H trivial Y hy trivial hr S.nd trivial) λ_=>rfl⟩
end
end PV
namespace L2
open PySem PySem.Spec PyProof.Rows
end L2
namespace PV
open PySem PySem.Spec PyProof.Rows L2 PySem.W
end PV
namespace L2
open PySem PySem.Spec PyProof.Rows PySem.W
end L2
namespace PV
open PySem PySem.Spec PyProof.Rows L2 PySem.W
end PV
namespace PV
open PySem PySem.Spec PyProof.Rows L2 PySem.W PySem.Calls
end PV
namespace PV
open PySem PySem.Spec PyProof.Rows L2 PySem.W
def QX (f:En->RS):En->RS:=λρ=>f (frz ρ)
end PV
namespace L2
open PySem PySem.Spec PyProof.Rows
end L2
namespace PV
open PySem PySem.Spec PyProof.Rows L2 PySem.W
end PV
namespace PV
open PySem PySem.Spec PyProof.Rows L2 PySem.W PySem.Calls
end PV
namespace PV
open PySem PySem.Spec PyProof.Rows L2 PySem.W
end PV
namespace PV
open PySem PySem.Spec PyProof.Rows L2 PySem.W PySem.Calls
end PV
namespace PV
open PySem PySem.Spec PyProof.Rows L2 PySem.W
section
variable {X:Cx}{Y:Fx}{ib is jf iw iy:Nat}{b s f wo wy pl:Str}{fi fw fs ft fp:En->R T}{gp:List T->R T}{cl:Nat->Value}
 {p1 p2 p3 p4 p5 p6 p7 p8 p9 p10 p11 p12 p13 p14 p15 p16 p17 p18 p19 p20 p21 p22 p23 p24 p25 p26 p27 p28 p29 p30 p31 p32 p33 p34 p35 p36 p37 p38 p39 p40 p41 p42 p43 p44 p45 p46 p47 p48 p49 p50 p51:Pos} {k1 k2 k3 k4 k5 c1 c2 kP kr:Nat} {EI EW ES ET EP:Expr}
end
end PV
namespace PySem
open Sem (wp)
noncomputable def Ctx.Cal (Γ:Ctx):Prop:=∃x∈Γ.below,x.1.isCaller=true
theorem Ctx.Cal.enter {Γ:Ctx}(h:Γ.Cal)(c:Code)(hd:Option Value)(p:Pos):(Γ.enter c hd p).Cal:=
 let ⟨x,hx,e⟩:=h;⟨x,a8 _ hx,e⟩
def wpC {α:Type}(M:Model)(A:Around)(t:Sem α)(Q:α->Shared->Prop)(E:Value->Shared->Prop)(s:Shared):Prop:=
 ∀Γ p,Γ.In A->Γ.Cal->wp M Γ t (λa _ s' =>Q a s') (λe _ s' =>E e s') p s
def zH (M:Model)(A:Around)(c:Code)(R:Result->Shared->Prop)(s:Shared):Prop:=
 ∀Γ p,Γ.code=c->Γ.Below A->Γ.Cal->wpCode M Γ R p s
section
variable {α β:Type}{M:Model}{A:Around}{E:Value->Shared->Prop}{s:Shared}{env:Env}
theorem zy {t:Sem α}{Q:α->Shared->Prop}(h:wpAny M A t Q E s):wpC M A t Q E s:=λΓ p hΓ _=>h Γ p hΓ
theorem Wr {c:Code}{R:Result->Shared->Prop}(h:codeAny M A c R s):zH M A c R s:=λΓ p hc hΓ _=>h Γ p hc hΓ
theorem zT {t:Sem α}{Q Q' :α->Shared->Prop}{E' :Value->Shared->Prop}(h:wpC M A t Q E s)(hQ:∀a s,Q a s->Q' a s)(hE:∀e s,E e s->E' e s):wpC M A t Q' E' s:=
 λΓ p hΓ hc=>ba M Γ t (λa _ s=>hQ a s) (λe _ s=>hE e s) p s (h Γ p hΓ hc)
theorem zd {t:Sem α}{Q Q' :α->Shared->Prop}(h:wpC M A t Q E s)(hQ:∀a s,Q a s->Q' a s):wpC M A t Q' E s:=zT h hQ λ_ _ x=>x
theorem zf {m:Sem α}{f:α->Sem β}{Q:β->Shared->Prop}(h:wpC M A m (λa s' =>wpC M A (f a) Q E s') E s):wpC M A (m >>= f) Q E s:=λΓ p hΓ hc=>by
 rw[bT];exact ba M Γ m (λa p' s' h' =>h' Γ p' hΓ hc) (λ_ _ _ h' =>h') p s (h Γ p hΓ hc)
theorem z7 {m:Sem α}{f:α->Sem β}{Q:β->Shared->Prop}(h:wpAny M A m (λa s' =>wpC M A (f a) Q E s') E s):wpC M A (m >>= f) Q E s:=zf (zy h)
theorem zp {a:α}{Q:α->Shared->Prop}(h:Q a s):wpC M A (pure a) Q E s:=λ_ _ _ _=>h
theorem Z5 {m:Sem α}{k:Value->Sem Unit}{Q:α->Shared->Prop}(h:wpC M A m Q (λe s' =>wpAny M A (k e) (λ_ s'' =>E e s'') E s') s):wpC M A (m.onRaise k) Q E s:=λΓ p hΓ hc=>by
 rw[Sem.wp_onRaise];exact ba M Γ m (λ_ _ _ h' =>h') (λe p' s' h' =>h' Γ p' hΓ) p s (h Γ p hΓ hc)
theorem jU {m:Sem α}{Q:Except Value α->Shared->Prop}(h:wpC M A m (λa=>Q (.ok a)) (λe=>Q (.error e)) s):wpC M A m.attempt Q E s:=λΓ p hΓ hc=>by
 rw[Sem.wp_attempt];exact h Γ p hΓ hc
theorem zP {vs:List Value}{m:Sem α}{Q:α->Shared->Prop}(h:wpC M A m Q E s):wpC M A (holding vs m) Q E s:=λΓ p hΓ hc=>by
 rw[dj];exact h Γ p hΓ hc
theorem wz {c:Code}{Q:Value->Shared->Prop}(hc:zH M A c (λr s' =>match r with | .ok (.ret v)=>Q v s' | .ok _=>False | .error e=>E e s') s):wpC M A (runValue c) Q E s:=λΓ p hΓ hl=>by
 rw[fq];exact hc _ p rfl (hΓ.enter c none p (by intro x;cases x)) (hl.enter _ _ _)
theorem ZY {f:Value}{pos:List Value}{kw:List (Str×Value)}{Q:Value->Shared->Prop}(hc:zH M A (.call f ⟨pos,kw⟩) (λr s' =>match r with | .ok (.ret v)=>Q v s' | .ok _=>False | .error e=>E e s') s):wpC M A (call f pos kw) Q E s:=wz hc
theorem zY {c:Code}{R R' :Result->Shared->Prop}(h:zH M A c R s)(hR:∀r s,R r s->R' r s):zH M A c R' s:=λΓ p hc hΓ hl=>wpCode_mono hR (h Γ p hc hΓ hl)
theorem zn {c:Code}{R:Result->Shared->Prop}(h:wpC M (A.under c) (M.den c) (λfin s' =>match fin with | .done f=>R (.ok f) s' | .again c' =>c'.quiet=true/\zH M A c' R s') (λe s' =>R (.error e) s') s):zH M A c R s:=λΓ p hc hΓ hl=>by
 rw[wpCode_iff_wp,hc];refine ba M Γ _ (λfin p' s' h' => ?_) (λ_ _ _ h' =>h') p s (h Γ p (hc ▸ hΓ.in) hl);cases fin with
 | done f=>exact h'
 | again c' =>exact⟨h'.1,h'.2 (Γ.goto c') p' rfl (hΓ.goto c') hl⟩
theorem WX {c:Code}{R:Result->Shared->Prop}(hq:c.quiet=true)(I:Nat->Shared->Prop)
  (turn:∀n s,I n s->wpC M (A.under c) (M.den c) (λfin s' =>match fin with | .done f=>R (.ok f) s' | .again c' =>c' =c/\∃m,m < n/\I m s') (λe s' =>R (.error e) s') s)
  (n:Nat) (h:I n s):zH M A c R s:=by
 induction n using fu generalizing s with
 | ind n ih=>
  refine zn (zd (turn n s h) λfin s' hf=> ?_);cases fin with
  | done f=>exact hf
  | again c' =>obtain⟨rfl,m,hm,hI⟩:=hf;exact⟨hq,ih m hm hI⟩
theorem wA {m:Sem α}{Q:α->Shared->Prop}(h:wpC M A m Q (notedBy M A env E) s):wpC M A (m.onRaise λx=>do noteFrame x env;theTreesLotGoes x) Q E s:=
 Z5 (zT h (λ_ _ q=>q) λ_ _ hx=>a4 (aB hx (λ_ _ e=>wpAny_theTreesLotGoes e) λ_ _ e=>e))
theorem Uj {l op r pos}{Q:Value->Shared->Prop}(h:wpC M A (eval l env) (λa s₁=>wpC M A (eval r env) (λb s₂=>wpAny M A (binaryOp op a b) Q E s₂) E s₁) E s):wpC M A (eval (.BinOp l op r pos) env) Q E s:=λΓ p hΓ hc=>by
 simp only[eval_BinOp,bT,dj,bM,dU];exact ba M Γ _ (λa p₁ s₁ h₁=>ba M Γ _ (λb _ s₂ h₂=>h₂ Γ _ hΓ) (λ_ _ _ h' =>h') _ _ (h₁ Γ p₁ hΓ hc)) (λ_ _ _ h' =>h') _ _ (h Γ p hΓ hc)
theorem wB {l op r pos}{Q:Value->Shared->Prop}(h:wpC M A (eval l env) (λa s₁=>wpC M A (eval r env) (λb s₂=>wpAny M A (compareOp op a b) Q E s₂) E s₁) E s)(hm:behindInMarks op r=false):wpC M A (eval (.Compare l [op] [r] pos) env) Q E s:=λΓ p hΓ hc=>by
 simp only[eval_Compare1,markedBehindIn_of_false hm,bT,dj,bM,dU];exact ba M Γ _ (λa p₁ s₁ h₁=>ba M Γ _ (λb _ s₂ h₂=>h₂ Γ _ hΓ) (λ_ _ _ h' =>h') _ _ (h₁ Γ p₁ hΓ hc)) (λ_ _ _ h' =>h') _ _ (h Γ p hΓ hc)
theorem ZK {l op r pos whole}{Q:Bool->Shared->Prop}(h:wpC M A (eval l env) (λa s₁=>wpC M A (eval r env) (λb s₂=>wpAny M A (compareOp op a b) (λc s₃=>wpAny M A (truthy c) Q E s₃) E s₂) E s₁) E s)
  (hm:behindInMarks op r=false):wpC M A (isTrue (.Compare l [op] [r] pos) env whole) Q E s:=λΓ p hΓ hc=>by
 simp only[isTrue_Compare1,markedBehindIn_of_false hm,bT,dj,bM,dU];exact ba M Γ _ (λa p₁ s₁ h₁=>ba M Γ _ (λb _ s₂ h₂=>ba M Γ _ (λc p₃ s₃ h₃=>h₃ Γ p₃ hΓ) (λ_ _ _ h' =>h') _ _ (h₂ Γ _ hΓ)) (λ_ _ _ h' =>h') _ _ (h₁ Γ p₁ hΓ hc)) (λ_ _ _ h' =>h') _ _ (h Γ p hΓ hc)
theorem JI {x:Sem Value}{rest:List (Bool×Sem Value)}{Q:List Value->Shared->Prop}(h:wpC M A x (λv s₁=>wpC M A (spliced rest) (λvs s₂=>Q (v :: vs) s₂) E s₁) E s):wpC M A (spliced ((false,x) :: rest)) Q E s:=by
 rw[spliced];refine zf (zd h λv s₁ h₁=> ?_);simp only[bK,if_false];exact zf (zp (zf (zP (zd h₁ λvs s₂ h₂=>zp h₂))))
theorem wC {f:Value}{x:Sem Value}{rest:List (Bool×Sem Value)}{Q:Args->Shared->Prop}(h:wpC M A (spliced ((false,x) :: rest)) (λvs s' =>Q ⟨vs,[]⟩ s') E s):wpC M A (evalArgs f true ((false,x) :: rest) []) Q E s:=by
 unfold evalArgs;show wpC M A (spliced ((false,x) :: rest) >>= _) Q E s;refine zf (zd h λvs s' h' =>zy ?_);exact aV (a4 (aq (a4 (aq (aq h')))))
theorem zN {id:Str}{p pos:Pos}{args:List Expr}{keywords:List Keyword}{Q:Value->Shared->Prop}
  (h:wpAny M A (eval (.Name id p) env) (λf s₁=>wpC M A (callWith pos f [] (backTo pos (starEach args env)) (backToKw pos (keywordEach keywords env))) Q E s₁) E s):wpC M A (eval (.Call (.Name id p) args keywords pos) env) Q E s:=by
 rw[arm_eval_Call_Name'];exact z7 h
theorem ZC {pos:Pos}{T:String}{e:Expr}{rest:List Expr}{Q:Value->Shared->Prop}(h:wpC M A (spliced (backTo pos (starEach (e :: rest) env))) (λvs s₁=>wpC M A (call (.type T) vs) Q E s₁) E s)
  (he:starEach (e :: rest) env=(false,eval e env) :: starEach rest env) (hplain:(backTo pos (starEach rest env)).any (·.1)=false):wpC M A (callWith pos (.type T) [] (backTo pos (starEach (e :: rest) env)) []) Q E s:=by
 rw[he]at h ⊢;have hp:((backTo pos ((false,eval e env) :: starEach rest env)).any (·.1))=false:=by show (false || (backTo pos (starEach rest env)).any (·.1))=false;rw[hplain];rfl
 unfold callWith;refine zf (zP (zd (wC (Q:=λa s₁=>wpC M A (call (.type T) a.pos a.kw) Q E s₁) h) λa s₁ h₁=>z7 (aJ ?_)));simp only[hp,List.any_nil,Bool.or_false];refine zf (zp ?_);exact zf (zd h₁ λr s₂ hr=>zy (a4 (aV (cV (aq hr)))))
end
end PySem
namespace PySem
open Sem (wp)
open PySem.W
section
variable {M:Model}{A:Around}{E:Value->Shared->Prop}{s:Shared}{env:Env}
theorem ZL {K:Frag}{pos:Pos}{f:Value}{Q:Value->Shared->Prop}{e:Expr}{rest:List Expr}(hk:keepIn K f=true)
  (h:wpC M A (spliced (backTo pos (starEach (e :: rest) env))) (λvs s₁=>K.In s₁.heap/\wpC M A (call f vs) Q E s₁) E s)
  (he:starEach (e :: rest) env=(false,eval e env) :: starEach rest env) (hplain:(backTo pos (starEach rest env)).any (·.1)=false):wpC M A (callWith pos f [] (backTo pos (starEach (e :: rest) env)) []) Q E s:=by
 rw[he]at h ⊢;have hp:(((backTo pos ((false,eval e env) :: starEach rest env)).any (·.1)) || ([]:List (Option Str×Sem Value)).any (·.1.isNone))=false:=by show ((false || (backTo pos (starEach rest env)).any (·.1)) || false)=false;rw[hplain];rfl
 unfold callWith;refine zf (zP (zd (wC (Q:=λa s₁=>K.In s₁.heap/\wpC M A (call f a.pos a.kw) Q E s₁) h) λa s₁ h₁=>z7 (aJ ?_)));obtain⟨k,hk',L⟩:=keeps_K (M:=M) hk _ h₁.1;simp only[hp];refine z7 (L.here ?_);have tail:∀{t:Sem Value},wpC M A t Q E s₁->wpC M A (t >>= λr=>holding [r] point >>= λ_=>pure r) Q E s₁:=
  λht=>zf (zd ht λr s₂ hr=>zy (a4 (aV (cV (aq hr)))))
 have marked (mk:Value):wpC M A (callMarked mk f ([]++a.pos) a.kw) Q E s₁:=by
  intro Γ p hΓ hc;have:=h₁.2 Γ p hΓ hc;unfold callMarked;rw[Sem.wp_keep];exact this
 rcases hk' with rfl | rfl | rfl <;> dsimp only <;> first | exact tail h₁.2 | (split <;> first | exact tail h₁.2 | exact tail (marked _))
theorem ZM {st rest}{Q:Flow->Shared->Prop}(h:wpC M A (exec st env) (λf s' =>match f with | .next=>wpC M A (execs rest env) Q E s' | f=>Q f s') E s):wpC M A (execs (st :: rest) env) Q E s:=by
 rw[execs_cons];refine zf (zd h λf s' h' => ?_);cases f <;> first | exact h' | exact zp h'
theorem Qk {e pos}{Q:Flow->Shared->Prop}(h:wpC M A (eval e env) (λv=>Q (.ret v)) E s):wpC M A (exec (.Return (some e) pos) env) Q E s:=λΓ p hΓ hc=>by
 simp only[exec_Return_some,bT,bM,Sem.wp_pure'];exact h Γ _ hΓ hc
theorem Uk {x pos' value pos}{Q:Flow->Shared->Prop}(h:wpC M A (eval value env) (λv s₁=>wpAny M A (storeName env x v) (λ_=>Q .next) E s₁) E s)(hs:swapsWith value (some (.Name x pos')) pos.line env=pure false):
  wpC M A (exec (.Assign [.Name x pos'] value pos) env) Q E s:=λΓ p hΓ hc=>by
 simp only[exec_Assign_Name env x pos' value pos hs,bT,bM,Sem.wp_bindName,Sem.wp_pure'];exact ba M Γ _ (λv _ s₁ h₁=>h₁ Γ _ hΓ) (λ_ _ _ h' =>h') _ _ (h Γ _ hΓ hc)
theorem IfC {test body orelse pos}{Q:Flow->Shared->Prop}(h:wpC M A (isTrue test env (eval test env)) (λb s₂=>if b then wpC M A (execs body env) Q E s₂ else wpC M A (execs orelse env) Q E s₂) E s):wpC M A (exec (.If test body orelse pos) env) Q E s:=λΓ p hΓ hc=>by
 simp only[exec_If,bT,bM];refine ba M Γ _ (λb p₂ s₂ h₂=> ?_) (λ_ _ _ h' =>h') _ _ (h Γ _ hΓ hc);cases b <;> exact h₂ Γ p₂ hΓ hc
end
section
variable {prog:Program}{w:World}{A:Around}{E:Value->Shared->Prop}{R:Result->Shared->Prop}{s:Shared}
theorem WY {body env} (h:wpC (model prog w) (A.deeper env) (execs body env) (λf s' =>R (.ok (.ret (match f with | .ret v=>v | _=> .none))) s')
   (λe s' =>wpAny (model prog w) (A.deeper env) (leaving env e) (λ_ s'' =>R (.error e) s'') (λe' s'' =>R (.error e') s'') s') s):zH (model prog w) A (.func body env) R s:=by
 refine zn ?_;show wpC _ (A.deeper env) (do point;match ← (execs body env).onRaise (leaving env) with | .ret v=>ret v | _=>ret .none) _ _ s
 refine z7 (cV (zf (Z5 (zd h λf s' h' => ?_))));cases f <;> exact zp h'
theorem WZ {body env} (h:wpC (model prog w) (A.deeper env) (eval body env) (λv s' =>R (.ok (.ret v)) s')
   (λe s' =>wpAny (model prog w) (A.deeper env) (leaving env e) (λ_ s'' =>R (.error e) s'') (λe' s'' =>R (.error e') s'') s') s):zH (model prog w) A (.expr body env) R s:=by
 refine zn ?_;show wpC _ (A.deeper env) (do point;ret (← (eval body env).onRaise (leaving env))) _ _ s
 exact z7 (cV (zf (Z5 (zd h λf s' h' =>zp h'))))
theorem ZN {a:Addr}{args:Args}{o:Obj}{fd:FuncData}{body:List Stmt}(hroom:A.depth < recursionLimit)(ho:s.heap.get? a=some o)
  (hd' :o.data= .func fd) (hco:fd.scope.isCoroutine=false) (hgen:fd.scope.isGenerator=false) (hbody:fd.body= .stmts body) (hcd:s.heap.CodeRec fd.code fd.qualname)
  (h:wpAny (model prog w) A.in1 (bindArgs fd args) (λbinds s₁=>wpAny (model prog w) A.in1 (newFunctionEnv fd.scope fd.globals fd.closure binds (fd.qualname++".<locals>.") (some a) fd.code none fd.builtins)
    (λenv s₂=>s₂.heap.NoLimit/\zH (model prog w) A (.func body env) R s₂) (λe s' =>R (.error e) s') s₁) (λe s' =>R (.error e) s') s):zH (model prog w) A (.call (.ref a) args) R s:=by
 refine zn ?_;show wpC _ A.in1 (callAny (.ref a) args) _ _ s;simp only[callAny];refine zy (a4 (wpAny_load ho ?_));obtain⟨c,oc,vs,tq,hc,hoc,hdc,hq⟩:=hcd;simp only[hd',callFunction,hco,hgen,hbody,hc];rw[hc]at h;refine a4 (m:=field (.ref c) 1) (bo hoc hdc hq (a4 (aq ?_)));exact a4 (aB h (λbinds s₁ h₁=>a4 (aB h₁ (λenv s₂ h₂=>a4 (wpAny_enterFrame h₂.1 hroom (aq (And.intro rfl h₂.2)))) λ_ _ h' =>h')) λ_ _ h' =>h')
end
end PySem
namespace L2
open PySem PySem.Spec PyProof.Rows
def PEC (X:Cx)(e:Expr)(t:TE):Prop:=
 ∀(pins:List (Addr×Obj)) (s:Shared) (σ:St) (H:Hp) (Q:VK),Inv X pins σ H s->t σ H Q->wpC (model X.prog X.w) X.A (eval e X.env) (EP X pins σ Q) X.xe s
def PTC (X:Cx)(e:Expr)(t:TT):Prop:=
 ∀(pins:List (Addr×Obj)) (s:Shared) (σ:St) (H:Hp) (Q:Bool->Hp->Prop),Inv X pins σ H s->t σ H Q->wpC (model X.prog X.w) X.A (isTrue e X.env (eval e X.env)) (TP X pins σ Q) X.xe s
def PAC (X:Cx)(es:List Expr)(t:TA):Prop:=
 ∀(pos:Pos) (pins:List _) (s:Shared) (σ:St) (H:Hp) (Q:List V->Hp->Prop),Inv X pins σ H s->t σ H Q->wpC (model X.prog X.w) X.A (spliced (backTo pos (starEach es X.env))) (AP X pins σ Q) X.xe s
def PSC (X:Cx)(st:Stmt)(t:TS):Prop:=
 ∀(pins:List (Addr×Obj)) (s:Shared) (σ:St) (H:Hp) (D:Ends),Inv X pins σ H s->t D σ H->wpC (model X.prog X.w) X.A (exec st X.env) (SP X pins D) X.xe s
def wY (X:Cx)(st:List Stmt)(t:TS):Prop:=
 ∀(pins:List (Addr×Obj)) (s:Shared) (σ:St) (H:Hp) (D:Ends),Inv X pins σ H s->t D σ H->wpC (model X.prog X.w) X.A (execs st X.env) (SP X pins D) X.xe s
section
variable {X:Cx}{e a b:Expr}{es:List Expr}{st:Stmt}{rest:List Stmt}{te ta tb:TE}{t u:TS}{g:TA}{pos:Pos}
theorem PEC.imp {t t' :TE}(h:PEC X e t)(i:∀σ H Q,t' σ H Q->t σ H Q):PEC X e t' :=λpins s σ H Q I q=>h _ s σ H Q I (i σ H Q q)
theorem PTC.imp {t t' :TT}(h:PTC X e t)(i:∀σ H Q,t' σ H Q->t σ H Q):PTC X e t' :=λpins s σ H Q I q=>h _ s σ H Q I (i σ H Q q)
theorem PAC.imp {t t' :TA}(h:PAC X es t)(i:∀σ H Q,t' σ H Q->t σ H Q):PAC X es t' :=λpos pins s σ H Q I q=>h pos _ s σ H Q I (i σ H Q q)
theorem PSC.imp {t t' :TS}(h:PSC X st t)(i:∀D σ H,t' D σ H->t D σ H):PSC X st t' :=λpins s σ H D I q=>h _ s σ H D I (i D σ H q)
theorem wY.imp {t t' :TS}(h:wY X rest t)(i:∀D σ H,t' D σ H->t D σ H):wY X rest t' :=λpins s σ H D I q=>h _ s σ H D I (i D σ H q)
theorem PE.c (h:PE X e te):PEC X e te:=λpins s σ H Q I q=>zy (h pins s σ H Q I q)
theorem PT.c {t:TT}(h:PT X e t):PTC X e t:=λpins s σ H Q I q=>zy (h pins s σ H Q I q)
theorem PA.c (h:PA X es g):PAC X es g:=λpos pins s σ H Q I q=>zy (h pos pins s σ H Q I q)
theorem PS.c (h:PS X st t):PSC X st t:=λpins s σ H D I q=>zy (h pins s σ H D I q)
theorem PSs.c (h:PSs X rest t):wY X rest t:=λpins s σ H D I q=>zy (h pins s σ H D I q)
theorem Ws (ha:PEC X e te)(hr:PAC X es g)(hs:starEach (e :: es) X.env=(false,eval e X.env) :: starEach es X.env):PAC X (e :: es) (vt te g):=by
 intro pos pins s σ H Q I h;rw[hs];refine JI (zd (ha _ s σ H _ I h) λu s1 ⟨x,H1,I1,r1,q1⟩=> ?_);exact zd (hr pos _ s1 σ H1 _ I1 q1) λus s2 ⟨xs,H2,I2,r2,q2⟩=>⟨x :: xs,H2,I2,.cons r1 r2,q2⟩
theorem Vt {op:Operator}{r:R2}(ho:OpR X (binaryOp op) r)(ha:PEC X a ta)(hb:PEC X b tb):PEC X (.BinOp a op b pos) (tOp r ta tb):=by
 intro pins s σ H Q I h;refine Uj (zd (ha _ s σ H _ I h) λv s1 ⟨x,H1,I1,r1,q1⟩=> ?_);refine zd (hb _ s1 σ H1 _ I1 q1) λu s2 ⟨y,H2,I2,r2,q2⟩=> ?_;exact ho _ s2 σ H2 x y v u Q I2 r1 r2 q2
theorem u1 {T:String}{r:List V->Hp->VK->Prop}{x:Str}{p:Pos}(hc:Zy X (.type T) r)(hg:Gl X x)(hm:X.mg x=none)(hv:bootBuiltins x=some (.type T))(ha:PAC X (e :: es) g)(hn:x ≠ "__name__")(hdb:(x == ("__debug__":Str))=false)
  (he:starEach (e :: es) X.env=(false,eval e X.env) :: starEach es X.env) (hpl:(backTo pos (starEach es X.env)).any (·.1)=false):PEC X (.Call (.Name x p) (e :: es) [] pos) (tCB r g):=by
 intro pins s σ H Q I h;refine zN (jk I hg hm hv ?_ hn hdb);exact ZC (zd (ha pos _ s σ H _ I h) λus s1 ⟨vs,H1,I1,r1,q1⟩=>zy (hc _ s1 σ H1 vs us Q I1 r1 q1)) he hpl
theorem Ul (h1:PSC X st t)(h2:wY X rest u):wY X (st :: rest) (K0 t u):=by
 intro pins s σ H D I h;refine ZM (zd (h1 _ s σ H _ I h) λf s1 q=> ?_);cases f with
 | next=>
  obtain⟨σ',H',I',q⟩:=q;exact h2 _ s1 σ' H' D I' q
 | ret v=>exact q
 | brk=>exact q
 | cont=>exact q
theorem JJ (h1:PSC X st t):wY X [st] t:=by
 intro pins s σ H D I h;refine ZM (zd (h1 _ s σ H D I h) λf s1 q=> ?_);cases f with
 | next=>exact zy (bG q)
 | ret v=>exact q
 | brk=>exact q
 | cont=>exact q
theorem Um (he:PEC X e te):PSC X (.Return (some e) pos) (xY te):=by
 intro pins s σ H D I h;exact Qk (zd (he _ s σ H _ I h) λv s1 ⟨x,H1,I1,r1,q1⟩=>⟨x,σ,H1,I1,r1,q1⟩)
theorem Vu {c:Expr}{a b:List Stmt}{tc:TT}(hc:PTC X c tc)(ha:wY X a t)(hb:wY X b u):PSC X (.If c a b pos) (K1 tc t u):=by
 intro pins s σ H D I h;refine IfC (zd (hc _ s σ H _ I h) λd s1 ⟨H1,I1,q1⟩=> ?_);cases d with
 | true=>exact ha _ s1 σ H1 D I1 q1
 | false=>exact hb _ s1 σ H1 D I1 q1
theorem Ql {i:Nat}{x:Str}{pos' :Pos}(hN:X.N.Nodup)(hi:X.N[i]? =some x)(hx:Loc X.env.scope x)(he:PEC X e te)(hs:swapsWith e (some (.Name x pos')) pos.line X.env=pure false)(hf:X.fn x=true\/X.env.scope.names.lookup x=some .local):
  PSC X (.Assign [.Name x pos'] e pos) (K3 te (JZ i)):=by
 intro pins s σ H D I h;refine Uk (zd (he _ s σ H _ I h) λv s1 ⟨y,H1,I1,r1,q1⟩=> ?_) hs;exact ZS I1 hN hi hx r1 (λs2 I2=>⟨_,H1,I2,q1⟩) hf
end
structure Zm (P:Program) (w:World) (K:a6) (mg:Str->Option Value) (base:Heap) (CX:CXT) (k:Nat) (f:Addr) (fd:FuncData) (ps:List Str) (sp:Sp):Prop where
 len:∀vs H Q E,sp vs H Q E->vs.length=ps.length
 run:∀(A:Around) (outer:List Env) (s:Shared) (H:Hp) (args:Args) (us:List Value) (vs:List V) (Q:VK) (E:XK),Z1 k A->uj P w K mg base A outer s H->BindsTo s fd args (ps.zip us)->zM vs us->sp vs H Q E->
  zH (model P w) A (.call (.ref f) args) (CR CX outer P w H s Q E) s
section
variable {P:Program}{w:World}{K:a6}{mg:Str->Option Value}{base:Heap}{CX:CXT}{k:Nat}{f:Addr}{fd:FuncData}{ps:List Str}{sp:Sp}
theorem W8.c (F:W8 P w K mg base CX k f fd ps sp):Zm P w K mg base CX k f fd ps sp:=⟨F.len,λA o s H a us vs Q E h1 h2 h3 h4 h5=>Wr (F.run A o s H a us vs Q E h1 h2 h3 h4 h5)⟩
theorem Qm {X:Cx}{E:XK}{ds:List Value}{dvs:List V}{pins:List (Addr×Obj)}{σ:St}{H:Hp}{s:Shared}{Q:VK}{us:List Value}{vs:List V}(F:Zm X.prog X.w X.K X.mg X.base CX k f fd ps sp)(hr:Z1 k X.A)(hb:Binds X.K fd ps ds)(hd:zM dvs ds)(hx:zO CX X E)
  (I:Inv X pins σ H s) (r:zM vs us) (h:sp (vs++dvs) H Q E):wpC (model X.prog X.w) X.A (call (.ref f) us) (EP X pins σ Q) X.xe s:=by
 have r2:=r.append hd;have hl:(us++ds).length=ps.length:=by rw[← r2.length];exact F.len _ _ _ _ h
 refine ZY (zY (F.run X.A _ s H _ _ _ Q E hr I.env0 (hb s us I.kIn hl) r2 h) λr s' hq=> ?_);cases r with
 | error e=>exact hx _ σ H s e s' I hq
 | ok fl=>
  cases fl with
  | ret u=>exact I.after hq
  | next=>exact aP hq
  | brk=>exact aP hq
  | cont=>exact aP hq
theorem yP {X:Cx}{E:XK}{ds:List Value}{dvs:List V}{x:Str}{p pos:Pos}{e:Expr}{es:List Expr}{t:TA}(F:Zm X.prog X.w X.K X.mg X.base CX k f fd ps sp)(hr:Z1 k X.A)(hg:Gl X x)(hm:X.mg x=some (.ref f))(hk:bB X.K (.ref f)=true)(hb:Binds X.K fd ps ds)(hd:zM dvs ds)(hx:zO CX X E)
  (ha:PAC X (e :: es) t) (hdb:(x == ("__debug__":Str))=false) (he:starEach (e :: es) X.env=(false,eval e X.env) :: starEach es X.env) (hpl:(backTo pos (starEach es X.env)).any (·.1)=false):PEC X (.Call (.Name x p) (e :: es) [] pos) (vw sp dvs E t):=by
 intro pins s σ H Q I h;refine zN (Zj I hg hm ?_ hdb);refine ZL hk (zd (ha pos _ s σ H _ I h) λus s1 ⟨vs,H1,I1,r,q⟩=>⟨I1.kIn, ?_⟩) he hpl;exact Qm F hr hb hd hx I1 r q
theorem Uo {name qual:Str}{params:Arguments}{body:List Stmt}{scope:Scope}{dV kV doc pm cdv ct oc:Value}{an od:Option Addr}
  {osl:Array (Option Value)} {N:List Str} (lk:K.lookup f=some ⟨oc,od,.func (bu name qual params body scope dV kV doc pm an cdv ct),osl⟩) (hcd:cG K cdv qual=true) (S:zX N ps scope)
  (len:∀vs H Q E,sp vs H Q E->vs.length=ps.length)
  (hbody:∀(A:Around) (outer:List Env) (s:Shared) (H:Hp) (vs:List V) (Q:VK) (E:XK),Z1 k (A.deeper (envOfC qual scope s.heap.objs.size f cdv))->sp vs H Q E->
   ∃t,wY (zU CX P w K mg base N qual scope f cdv A outer s H E) body t/\t { nx:=λ_ H' =>Q .non H',rt:=Q } (start N vs) H):
  Zm P w K mg base CX (k+1) f (bu name qual params body scope dV kV doc pm an cdv ct) ps sp:=by
 refine⟨len,λA outer s H args us vs Q E hr e0 hb r hsp=> ?_⟩;have hl:=len _ _ _ _ hsp;have KX:=e0.mod.kin.keeps λb o e=>(e0.bs b o e).1;have lim:=e0.mod.nolimit.keeps λb o e=>(e0.bs b o e).1;have hkind:∀y∈ps.zip us,scope.names.lookup y.1=some _\/(scope.names.lookup y.1=some _/\((cellsFrom (s.heap.objs.size+1) _ []).lookup y.1).isSome=true):=λ⟨n,v⟩ hy=>by
  rcases S.par n (cw hy).1 with q | q
  ·exact .inl q
  ·exact .inr ⟨q,cF _ _ _ (.inl q)⟩
 refine ZN hr.depth (KX _ _ lk) rfl S.co S.gen rfl (eA KX hcd) (hb _ _ _ _ ?_);refine wpAny_newFunctionEnv_cells S.kind hkind λenv he s1 x=> ?_;subst he;refine⟨lim.keeps x.toInCall.keep,WY ?_⟩;obtain⟨t,ht,hq⟩:=hbody A _ s H vs Q E (hr.deeper _) hsp;have I:Inv (zU CX P w K mg _ N _ _ f cdv A _ s H E) [] _ H s1:=jE S hr.hd e0 hl r x;refine zT (ht [] s1 _ H _ I hq) (λfl s' hs=> ?_) λe s' hs=>hs;have fin:∀{σ' :St} {H' :Hp} {v:V} {u:Value},Inv (zU CX P w K mg base N qual scope f cdv A outer s H E) [] σ' H' s' ->zR v u->Q v H' ->CE _ P w H s Q u s' :=
  λ{σ' H' v u} J rv q=>⟨v,H',J.os,J.bare,J.base,J.hok,rv,q⟩
 cases fl with
 | ret u=>
  obtain⟨v,σ',H',J,rv,q⟩:=hs;exact fin J rv q
 | next=>
  obtain⟨σ',H',J,q⟩:=hs;exact fin (v:=V.non) J rfl q
 | brk=>
  obtain⟨_,_,_,q⟩:=hs;exact aP q
 | cont=>
  obtain⟨_,_,_,q⟩:=hs;exact aP q
end
end L2
namespace PV
open PySem PySem.Spec PyProof.Rows L2 PySem.W
structure ZD (X:Cx) (Y:Fx) (e:Expr) (f:En->R T):Prop where
 mk ::
 go:∀ρ,PEC X e (tS Y rC f ρ)
structure Up (X:Cx) (Y:Fx) (es:List Expr) (f:En->R (List T)):Prop where
 mk ::
 go:∀ρ,PAC X es (tS Y rCs f ρ)
structure Qn (X:Cx) (Y:Fx) (e:Expr) (f:En->R Bool):Prop where
 mk ::
 go:∀ρ,PTC X e (tS Y rE f ρ)
structure Je (X:Cx) (Y:Fx) (e:Stmt) (f:En->RS):Prop where
 mk ::
 go:∀ρ,PSC X e (tSS Y f ρ)
structure jV (X:Cx) (Y:Fx) (e:List Stmt) (f:En->RS):Prop where
 mk ::
 go:∀ρ,wY X e (tSS Y f ρ)
section
variable {X:Cx}{Y:Fx}{a b cc:Expr}{es:List Expr}{fa fb:En->R T}{ga:En->R (List T)}{st:Stmt}{sts sts' :List Stmt}{f g:En->RS}{pos p:Pos}
theorem Snd.c (h:Snd X Y a fa):ZD X Y a fa:=⟨λρ=>(h ρ).c⟩
theorem jl.c (h:jl X Y es ga):Up X Y es ga:=⟨λρ=>(h ρ).c⟩
theorem Jx.c {g:En->R Bool}(h:Jx X Y a g):Qn X Y a g:=⟨λρ=>(h ρ).c⟩
theorem ZA.c (h:ZA X Y st f):Je X Y st f:=⟨λρ=>(h ρ).c⟩
theorem jo.c (h:jo X Y sts f):jV X Y sts f:=⟨λρ=>(h ρ).c⟩
theorem Uq (h:ZD X Y a fa)(hs:Up X Y es ga)(hq:starEach (a :: es) X.env=(false,eval a X.env) :: starEach es X.env:=by exact zw rfl):Up X Y (a :: es) (z0 fa ga):= .mk λρ=>
 PAC.imp (Ws (h.go ρ) (hs.go ρ) hq) λσ H Q ⟨B,I,q⟩=>step I q λt v H1 _ s1 r1 I1 q1=>step I1 q1 λts vs H2 _ s2 r2 I2 q2=>Zf I2 q2 (.cons (r1.mono (zv.ge I1.sB s2)) r2)
theorem YE (ha:ZD X Y a fa)(hb:ZD X Y b fb):ZD X Y (.BinOp a .Add b pos) (z9 zl fa fb):= .mk λρ=>
 PEC.imp (Vt uP (ha.go ρ) (hb.go ρ)) λσ H Q ⟨B,I,q⟩=>step I q λt v H1 _ s1 r1 I1 q1=>step I1 q1 λt' v' H2 _ s2 r2 I2 q2=>
  ⟨_,t,t',I2.sB,r1.mono (zv.ge I1.sB s2),r2,q2⟩
theorem Wt (gl:Gl X "tuple")(mg:X.mg "tuple"=none)(ha:ZD X Y a fa)(hs:St1 X a:=by exact st1 rfl):ZD X Y (.Call (.Name "tuple" p) [a] [] pos) (ap1 qR fa):= .mk λρ=>
 PEC.imp (u1 ZT gl mg (PyProof.Rows.Boot.«tuple») (Ws (ha.go ρ) zK.c hs) (by decide) (by decide) hs rfl) λσ H Q ⟨B,I,q⟩=>step I q λt v H1 _ s1 r1 I1 q1=>vV v t _ H1 Q r1 I1.sB q1
theorem yQ {cl:Nat->Value}{k j n:Nat}{f:Addr}{fd:FuncData}{ps:List Str}{g:List T->R T}{x:Str}(hy:Y.cl=cl)(hp:zO (CX1 X.prog X.w) X Y.E)(F:Zm X.prog X.w X.K X.mg X.base (CX1 X.prog X.w) j f fd ps (spP cl n g))(hr:Z1 k X.A)(hj:j<=k)(gl:Gl X x)
  (mg:X.mg x=some (.ref f)) (kp:bB X.K (.ref f)=true) (bd:L2.Binds X.K fd ps []) (ha:Up X Y (a :: es) ga) (hd:(x == ("__debug__":Str))=false:=by decide)
  (hs:starEach (a :: es) X.env=(false,eval a X.env) :: starEach es X.env:=by exact zw rfl) (hz:((backTo pos (starEach es X.env)).any λx=>x.fst)=false:=by exact zS rfl):ZD X Y (.Call (.Name x p) (a :: es) [] pos) (z8 n g ga):= .mk λρ=>by
 subst hy;refine PEC.imp (yP F (hr.mono hj) gl mg kp bd .nil hp (ha.go ρ) hd hs hz) λσ H Q ⟨B,I,q⟩=>step I q λts vs H1 _ s1 r1 I1 q1=> ?_;split at q1
 ·rename_i hn;rw[aK];refine⟨_,ts,hn,I1.sB,r1, ?_⟩;revert q1;cases g ts with
  | bad=>exact λq1=>q1
  | ex c=>exact λq1 d H' s sB=>q1 d H' (I1.sH.trans s) sB
  | ok t=>exact λq1=>q1
 ·exact q1.elim
theorem Wu (h:Je X Y st f):jV X Y [st] f:= .mk λρ=>JJ (h.go ρ)
theorem zr (h1:Je X Y st f)(h2:jV X Y sts g):jV X Y (st :: sts) (zu f g):= .mk λρ=>by
 refine wY.imp (Ul (u:=λD σ H=>∃ρ',tSS Y g ρ' D σ H) (h1.go ρ) ?_) ?_
 ·intro pins s σ H D I ⟨ρ',q⟩;exact h2.go ρ' _ s σ H D I q
 ·intro D σ H ⟨B,I,q⟩;refine⟨B,I, ?_⟩;unfold zu at q;cases e:f ρ with
  | nx ρ' =>
   rw[e]at q;intro σ' H' B' s' I';exact⟨ρ',B',I',PoS.up s' q⟩
  | rt t=>rw[e]at q;exact q
  | rf t=>rw[e]at q;exact q
  | bk ρ' =>rw[e]at q;exact q
  | ct ρ' =>rw[e]at q;exact q
  | ex c=>rw[e]at q;exact q
  | bad=>rw[e]at q;exact q
theorem Ur {i:Nat}{x:Str}{p' :Pos}(hN:X.N.Nodup)(hi:X.N[i]? =some x)(hx:L2.Loc X.env.scope x)(ha:ZD X Y a fa)(hs:swapsWith a (some (.Name x p')) pos.line X.env=pure false:=by rfl)
  (hf:X.fn x=true\/X.env.scope.names.lookup x=some .local:=by first | exact .inl rfl | exact .inr rfl | assumption):Je X Y (.Assign [.Name x p'] a pos) (zZ i fa):= .mk λρ=>
 PSC.imp (Ql hN hi hx (ha.go ρ) hs hf) λD σ H ⟨B,I,q⟩=>Jb I q λt v H1 _ s1 r1 I1 q1=>q1 _ _ _ (zc.refl _) (I1.setV i r1)
theorem Wv (ha:ZD X Y a fa):Je X Y (.Return (some a) pos) (zI fa):= .mk λρ=>
 PSC.imp (Um (ha.go _)) λD σ H ⟨B,I,q⟩=>by
  refine⟨_,I.frz, ?_⟩;unfold zI at q;cases e:fa _ with
  | bad=>rw[e]at q;exact q
  | ex c=>
   rw[e]at q;exact λd H' s0 sG=>q d H' s0 (I.up.trans sG)
  | ok t=>
   rw[e]at q;intro v H' s r;have J:=I.frz;exact q v H' (I.sH.trans s) (r.mono (Ys J.sH J.old s J.sB))
theorem Qo {gc:En->R Bool}(hc:Qn X Y cc gc)(h1:jV X Y sts f)(h2:jV X Y sts' g):Je X Y (.If cc sts sts' pos) (ifS gc f g):= .mk λρ=>
 PSC.imp (Vu (hc.go ρ) (h1.go ρ) (h2.go ρ)) λD σ H ⟨B,I,q⟩=>Jb I q λt v H1 _ s1 r1 I1 q1=>by
  have r1' :=r1;subst r1';cases v with
  | true=>exact⟨_,I1,q1⟩
  | false=>exact⟨_,I1,q1⟩
end
section
variable {P:Program}{w:World}{K:a6}{mg:Str->Option Value}{base:Heap}{N:List Str}{qual:Str}{scope:Scope}{f:Addr}{cd:Value}{A:Around}{outer:List Env}{s:Shared}{H:Hp}{E:XK}{Y:Fx}
theorem Qp {cl:Nat->Value}{x qual:Str}{st:Stmt}{f:Addr}{fd:FuncData}{N ps:List Str}{k n:Nat}{fb:En->RS}{g:List T->R T}(F:Fun K x qual st f fd)(S:zX N ps (z6 st))(hn:n=ps.length)
  (hb:∀(cdv:Value) (A:Around) (outer:List Env) (s:Shared) (H:Hp) (E:XK) (Y:Fx),Y.cl=cl->Y.E=E->Z1 k (A.deeper (envOfC qual (z6 st) s.heap.objs.size f cdv))->
   jV (zU (CX1 P w) P w K mg base N qual (z6 st) f cdv A outer s H E) Y (zq st) fb)
  (hg:∀ts,ts.length=n->g ts=zC (fb (en0 N.length ts))):Zm P w K mg base (CX1 P w) (k+1) f fd ps (spP cl n g):=by
 subst hn;obtain⟨oc,od,kV,doc,pm,an,cdv,ct,osl,rfl,lk,hcd⟩:=F.ex;refine Uo lk hcd S spP.len λA outer s H vs Q E hr ⟨B,ts,hl,sB,r,q⟩=> ?_;refine⟨_,(hb cdv A _ s H E ⟨B,H,E,cl,[]⟩ rfl rfl hr).go _,B,SI.start sB r, ?_⟩;rw[hg ts hl]at q;revert q;cases fb _ with
 | rt t=>exact λq v H' s r=>q v H' s r
 | rf t=>exact λq a xs H' B' s0 n e r _ l=>q _ H' s0 (.lst (by rw[zD n];exact e) (r.mono l))
 | nx ρ=>exact λq σ' H' B' s' I' =>q _ H' I'.sH .non
 | bk ρ=>exact λq=>q.elim
 | ct ρ=>exact λq=>q.elim
 | ex c=>exact λq=>q
 | bad=>exact λq=>q
end
end PV
namespace PySem
open PySem PySem.Calls PySem.NumText PyProof.Rows PySem.W
theorem wD {α:Type}{M:Model}{A:Around}{E:Value->Shared->Prop}{s:Shared}{c:Prop}[Decidable c]{a b:Sem α}{Q:α->Shared->Prop}(hc:c)(h:wpC M A a Q E s):wpC M A (if c then a else b) Q E s:=by rw[if_pos hc];exact h
theorem Vv {M:Model}{A:Around}{E:Value->Shared->Prop}{s:Shared}{Q:Unit->Shared->Prop}{own:List String}{e:Value}(h:Q () s):wpC M A (markTheRefusal own e) Q E s:=by
 intro Γ p hΓ ⟨y,hy,hc⟩;have:pythonCodeMadeTheCall own (((Γ.code,p) :: Γ.below).map (·.1))=false:=by
  have:(((Γ.code,p) :: Γ.below).map (·.1)).any Code.isCaller=true:=List.any_eq_true.mpr ⟨y.1,cJ.mpr ⟨y,a8 _ hy,rfl⟩,hc⟩;show (!(((Γ.code,p) :: Γ.below).map (·.1)).any Code.isCaller && _ && _)=false;rw[this];rfl
 show fB M Γ (if pythonCodeMadeTheCall own (((Γ.code,p) :: Γ.below).map (·.1))=true then _ else _) _ _ p s
 rw[this];exact h
set_option maxHeartbeats 1000000 in
theorem k9 {prog:Program}{w:World}{A:Around}{E:Value->Shared->Prop}{s:Shared}{Q:Fin->Shared->Prop}{x:Str}{u:Tok}(hz:(reprText x).length<=sizeLine)(hl:x.length<=640)(hn:intText? x=none)(hh:A.handled=none)(h:∀h' tk ea m,Heap.MadeExc s.heap h' ea "ValueError" [m]->E (.ref ea) { s with heap:=h',toks:=tk }):wpC (model prog w) A (Builtin.«int.__new__» ⟨[.type "int",.str x u],[]⟩) Q E s:=by
 have f1:=F.conv_sub_int;have f2:=F.madeHere_int;have f3:=KIN.str_int;have f4:=KIN.str_idx;have f5:=KIN.str_trunc;have f6:typeOf (.str x u)=pure (.type "str"):=rfl;refine z7 ?_;refine aq ?_;simp only[f1,f2,pure_bind,Bool.not_true,bK,if_false];refine zf (m:=(int_private% "intFromObject") (.str x u)) (zT (Q:=λ_ _=>False) (E:=E) ?_ (λ_ _ z=>z.elim) λ_ _ z=>z);refine z7 ?_
 repeat (any_goals (first | assumption | wp_step))
 refine z7 ?_
 repeat (any_goals (first | assumption | wp_step))
 rw[if_neg (by decide)]
 refine z7 ?_
 repeat (any_goals (first | assumption | wp_step))
 refine z7 ?_
 repeat (any_goals (first | assumption | wp_step))
 show wpC (model prog w) A ((int_private% "intFromText") (.str x u) (numTextOf x) 10) _ E s;have hs:(numSeenOf x).length<=640:=ay (seen_length x) hl;have rd:=read0 x hs;rw[hn]at rd;refine wD hs (zf (zp ?_));dsimp only;have tail:wpC (model prog w) A (do
   rule "int.__new__.invalid-literal"
   let shown ← match ← (int_private% "bytesOf?") (.str x u) with
    | some b=>do pyRepr (← mkBytes (b.extract 0 200))
    | none=>pyRepr (.str x u)
   let m ← mkStr (((s!"invalid literal for int() with base {10}: ":String)++⟨shown.cps.extract 0 200⟩:Str))
   let refusal ← newExc (.type "ValueError") [m]
   markTheRefusal ["int.__new__"] refusal
   (raiseNew refusal:Sem Value)) (λ_ _=>False) E s:=by
  refine z7 (wpAny_rule ?_);refine z7 ?_
  repeat (any_goals (first | assumption | wp_step))
  show wpC (model prog w) A (pyRepr (.str x u) >>= λshown=>mkStr _ >>= λm=>newExc (Value.type "ValueError") [m] >>= λrefusal=>markTheRefusal ["int.__new__"] refusal >>= λ_=>(raiseNew refusal:Sem Value)) (λ_ _=>False) E s;refine z7 (wpAny_pyRepr_str ?_ hz);refine z7 (wpAny_mkStr ?_ ?_)
  ·refine z7 (wpAny_newExc_plain plainExc_ValueError (λh' e hm=> ?_));refine zf (Vv ?_);exact zy (wpAny_raiseNew_none hh (h h' _ e _ hm))
  ·rw[strLen_append];have h1:(⟨(reprText x).cps.extract 0 200⟩:Str).length<=200:=by show ((reprText x).cps.extract 0 200).size<=200;rw[Array.size_extract];omega
   have h2:(aS (toString "invalid literal for int() with base "++toString 10++toString ": ")).length<=200:=by rw[ofString_length];decide+kernel
   exact ay (Nat.add_le_add h2 h1) (by decide)
 rcases rd with ⟨n,z,_⟩ | ⟨_,e | ⟨i,e,ne⟩⟩
 ·cases z
 ·rw[show List.takeWhile (λx=>x != 0) (numTextOf x)=numSeenOf x from rfl,e];dsimp only;refine z7 ?_
  repeat (any_goals (first | assumption | wp_step))
 ·rw[show List.takeWhile (λx=>x != 0) (numTextOf x)=numSeenOf x from rfl,e];dsimp only;rw[if_neg ne];exact tail
section
variable {prog:Program}{w:World}{A:Around}{E:Value->Shared->Prop}{R:Result->Shared->Prop}{s:Shared}
theorem ZZ {id:String}{args:Args}{b:Builtin}(hb:entryFor table id=some b)
  (h:wpC (model prog w) (A.under (.builtin id args)) (b args) (λfin s' =>match fin with | .done f=>R (.ok f) s' | .again c' =>c'.quiet=true/\zH (model prog w) A c' R s') (λe s' =>R (.error e) s') s):zH (model prog w) A (.builtin id args) R s:=by
 refine zn ?_;show wpC _ _ (match entryFor table id with | some b=>b args | none=>unsupported ((withoutEnding? id "#data").getD id)) _ _ s
 rw[hb];exact h
theorem j0 {id:String}{args:Args}{b:Builtin}(hq:plainId id=true)(hb:entryFor table id=some b)(hc:checkBuiltinCall id args=pure ())
  (h:wpC (model prog w) A.in1 (b args) (λfin s' =>match fin with | .done f=>R (.ok f) s' | .again c' =>c'.quiet=true/\zH (model prog w) A c' R s') (λe s' =>R (.error e) s') s):zH (model prog w) A (.call (.builtin id) args) R s:=by
 refine zn ?_;show wpC _ A.in1 (do checkBuiltinCall id args;again (.builtin id args)) _ _ s
 rw[hc];exact zf (zp (zp (And.intro (plainId_quiet hq args) (ZZ hb (by rw[Around.under_plainId hq args];exact h)))))
theorem Us {Q:Value->Shared->Prop}{x:Str}{u:Tok}(hz:(reprText x).length<=sizeLine)(hl:x.length<=640)(hn:intText? x=none)(hh:A.handled=none)
  (h:∀h' tk ea m,Heap.MadeExc s.heap h' ea "ValueError" [m]->E (.ref ea) { s with heap:=h',toks:=tk }):wpC (model prog w) A (call (.type "int") [.str x u]) Q E s:=by
 have ft:=F.called_int;obtain⟨c,tl,hmro⟩:=ft.mro;have hmade:=ft.made;have hct:=F.typeCall_int_1 (.str x u);have h1:=ft.notType;have h2:=ft.canCreate;refine ZY (zn ?_);show wpC _ _ (callAny (.type "int") _) _ _ _;refine zp (And.intro (eF _ (by decide+kernel)) (ZZ F.entry_type_call ?_))
 rw[Around.under_plain (weight_type_call_type _ _ []) rfl];unfold Builtin.«type.__call__»;simp only[h1,h2,hct,hmro,hmade,pure_bind,bK,if_false,eV];refine zf (zP (ZY (j0 ft.plain F.entry_int_new (F.newCall_int_1 _) ?_)));exact k9 hz hl hn hh h
end
end PySem
namespace PySem
open Sem (wp)
open PySem.W PyProof.Rows
section
variable {prog:Program}{w:World}{A:Around}{E:Value->Shared->Prop}{s:Shared}{env:Env}
theorem Kc {body orelse:List Stmt}{h₀:ExceptHandler}{hs:List ExceptHandler}{pos:Pos}{Q:Flow->Shared->Prop}
  (h:wpC (model prog w) A (execs body env) (λf s₁=>match f with | .next=>wpC (model prog w) A (execs orelse env) Q E s₁ | f=>Q f s₁)
   (λe s₁=>wpAny (model prog w) A (noteFrame e env) (λ_ s₂=>wpAny (model prog w) A (setFlight e none) (λ_ s₃=>wpAny (model prog w) A (handleBy e env (h₀ :: hs)) Q E s₃) E s₂) E s₁) s):
  wpC (model prog w) A (exec (.Try body (h₀ :: hs) orelse [] pos) env) Q E s:=by
 rw[arm_exec_Try];refine z7 (aJ ?_);unfold tryStmt;simp only[List.isEmpty_nil,if_true,eV,Bool.false_and,bK,if_false];refine zf (jU (zT h (λf s₁ h₁=> ?_) λe s₁ h₁=> ?_))
 ·cases f <;> first | exact h₁ | exact zp h₁
 ·exact zy (a4 (aB h₁ (λ_ _ h₂=>a4 h₂) λ_ _ x=>x))
end
section
variable {M:Model}{A:Around}{E:Value->Shared->Prop}{s:Shared}
noncomputable def EvA (base:Heap)(l:List Env)(e:Addr)(h:Heap):Prop:=base.StaysIn h/\base.get? e=none/\h.FunFrames base l/\∃oe vs T oT ts,h.get? e=some oe/\oe.cls= .type "ValueError"/\oe.data= .fields vs/\vs[1]? =some (.ref T)/\vs[2]? =some .none/\base.get? T=none/\T ≠ e/\h.get? T=some oT/\oT.data= .fields ts/\3 < ts.size
theorem ka {base h0:Heap}{env:Env}{outer:List Env}{L e:Addr}{m:Value}{Q:Unit->Shared->Prop}(hfr:A.frames=some (env :: outer))(hl:h0.FunFrames base (env :: outer))(hf:env.frame=some L)(kb0:base.StaysIn h0)(hx:Heap.MadeExc h0 s.heap e "ValueError" [m])
  (h:∀h',EvA base (env :: outer) e h' ->h0.UpToSlots h' ->Q () { s with heap:=h' }):wpAny M A (noteFrame (.ref e) env) Q E s:=by
 obtain⟨t,he,htn,ht⟩:=hx.there;have hl:s.heap.FunFrames base (env :: outer):=hl.of_keeps λb o hb _=>⟨o,hx.keeps b o hb,rfl⟩;have hkb:base.StaysIn s.heap:=λb o hb=>hx.keeps b o (kb0 b o hb);have hen:base.get? e=none:=by
  cases q:base.get? e with
  | none=>rfl
  | some o=>have:=kb0 e o q;rw[hx.new]at this;cases this
 have hene:e ∉ (env :: outer).filterMap (·.frame):=λhm=>by
  obtain⟨_,o,ho,hnf⟩:=hl.mem hm;rw[he]at ho;cases ho;exact hnf _ rfl
 unfold noteFrame;simp only[hf];refine a4 (bo he rfl (x:= .none) rfl ?_);rw[if_neg (by decide)]
 refine a4 (wpAny_frameOf_fun hfr hl hf λh₁ hs₁=> ?_);refine a4 (wpAny_entryPlaceOf λpl hpl=> ?_);unfold EntryCells.newEntry newFields;refine a4 (bQ ?_ (hpl.sizeOk5 _ _ _ _ _));have he₁:=(hs₁.2.1 e hene).trans he;have kb₁:base.StaysIn h₁:=λb o hbo=>(hs₁.2.1 b λhm=>by rw[(hl.mem hm).1]at hbo;cases hbo).trans (hkb b o hbo)
 generalize hT:({ cls:= .type "traceback",dict:=none,data:= .fields _ }:Obj)=oT;have he₂:=a7 (h:=h₁) oT he₁;have hTe:h₁.objs.size ≠ e:=ce (a9 he₁);refine wpAny_setField he₂ rfl (show 1 < 6 by decide) (h _ ?_ ?_)
 ·have keep:∀b o,b ≠ e->h₁.get? b=some o->((h₁.push oT).update e (aW (·.setIfInBounds 1 (Value.ref h₁.objs.size)))).get? b=some o:=λb o hbe hb=>by
   rw[aH _ _ (bq hbe)];exact a7 _ hb
  have hT₃:=(aH (h₁.push oT) (aW (·.setIfInBounds 1 (Value.ref h₁.objs.size))) (bq hTe)).trans (ao h₁ (by rw[← hT];rfl))
  have he₃:=bz (aW (·.setIfInBounds 1 (Value.ref h₁.objs.size))) he₂ rfl;refine⟨λb o hbo=>keep b o (λq=>by rw[q,hen]at hbo;cases hbo) (kb₁ b o hbo),hen,hl.of_keeps λb o hb hnf=> ?_,_,_,h₁.objs.size,_,_,he₃,rfl,rfl,rfl,rfl,kb₁.fresh,hTe,hT₃,by rw[← hT], ?_⟩
  ·obtain⟨sl,hs⟩:=hs₁.2.2 b o hb;exact⟨_,keep b _ (λq=>by rw[q,he]at hb;cases hb;exact hnf _ rfl) hs,rfl⟩
  ·rcases hpl with rfl | ⟨_,_,_,_,_,_,_,rfl⟩ <;> simp
 ·intro b o hb hnf;obtain⟨sl,hs⟩:=hs₁.2.2 b o (hx.keeps b o hb);refine⟨sl, ?_⟩;rw[aH _ _ (λq=>by rw[← q,hx.new]at hb;cases hb)]
  exact a7 _ hs
theorem Ke {base:Heap}{l:List Env}{e:Addr}{Q:Unit->Shared->Prop}(x:EvA base l e s.heap)(h:∀h',EvA base l e h' ->s.heap.UpToSlots h' ->Q () { s with heap:=h' }):wpAny M A (setFlight (.ref e) none) Q E s:=by
 obtain⟨kb,en,fr,oe,vs,T,oT,ts,q1,q2,q3,q4,q5,q6,q7,q8,q9,q10⟩:=x;refine a4 (bo q1 q3 q4 ?_);refine wpAny_setField q8 q9 q10 ?_;have oth:∀b,b ≠ T->(s.heap.update T (aW (·.setIfInBounds 3 Value.none))).get? b=s.heap.get? b:=λb hb=>aH _ _ hb.symm;have nr:∀b o,s.heap.get? b=some o->(∀vs,o.data ≠ .fields vs)->b ≠ T:=λb o hb n q=>by subst q;rw[q8]at hb;cases hb;exact n ts q9
 refine h _ ⟨λb o hb=>(oth b λq=> ?_).trans (kb b o hb),en,fr.of_keeps λb o hb n=>⟨o,(oth b (nr b o hb n)).trans hb,rfl⟩,oe,vs,T,_,_,(oth e q7.symm).trans q1,q2,q3,q4,q5,q6,q7,bz _ q8 (dI (cx q9 _)),cx q9 _, ?_⟩ λb o hb n=>⟨o.slots,(oth b (nr b o hb n)).trans hb⟩
 ·subst q;rw[q6]at hb;cases hb
 ·simpa using q10
end
end PySem
namespace PySem
open PySem.W PyProof.Rows
section
variable {prog:Program}{w:World}{A:Around}{E:Value->Shared->Prop}{s:Shared}{env:Env}
variable {nm q:Str}{C N:Addr}{bs bm:List Value}{hdct:Bool}{sn:List Str}{sub:List Value}{ab:Bool}{col:Option Bool}{dd:Option Addr}{k0 k1 k2 k3 k5:Option Value}{newId:String}
theorem yR:entryFor table "proto.unchain"=some Builtin.«proto.unchain»:=entryFor_of_tree (by kernel_rfl)
theorem u2 {x:Sem Value}{e1:Addr}{j:Nat}{p pos:Pos}{Q:Flow->Shared->Prop}(hbase:bm.contains (.type "BaseException")=true)(hh:A.handled=some (.ref e1))
  (h:wpAny (model prog w) A x (λv s₁=>∃e t,v= .ref e/\s₁.heap.get? C=some (excClassObj nm q C N bs bm hdct sn sub ab col dd k0 k1 k2 k3 k5 newId)/\
   s₁.heap.get? e=some { cls:= .ref C,data:= .fields #[.ref t,.none,.none,.none,.bool false,.none] }/\e ≠ e1/\(∃oe vs,s₁.heap.get? e1=some oe/\oe.data= .fields vs/\vs[2]? =some .none)/\
   ∀h',(∀b,b ≠ e->h'.get? b=s₁.heap.get? b)->h'.get? e=some { cls:= .ref C,data:= .fields #[.ref t,.none,.ref e1,.none,.bool true,.none] }->E (.ref e) { s₁ with heap:=h' }) E s):
  wpAny (model prog w) A (raiseStmt env (some x) (some (do let v ← eval (.Constant .none j p) env;standAt pos;pure v))) Q E s:=by
 have hcB:(Value.ref C :: bm).contains (.type "BaseException")=true:=by rw[List.contains_cons,hbase,Bool.or_true]
 unfold raiseStmt;refine a4 (aB h (λv s₁ h₁=> ?_) λ_ _ x=>x);obtain⟨e,t,rfl,hC,he,hne,⟨oe,vs,he1,hd1,h12⟩,hE⟩:=h₁;obtain⟨hp,g,d,tk,os⟩:=s₁
 repeat (first | with_reducible refine wpAny_loadPart_at he ?_ | with_reducible refine wpAny_loadPart_at hC ?_ | (with_reducible refine wpAny_isSubtype_exc hC ?_;rw[hcB]) | wp_step)
 have heC:e ≠ C:=λz=>by subst z;rw[hC]at he;cases he
 have hC2:∀f f',((hp.update e f).update e f').get? C=some (excClassObj nm q C N bs bm hdct sn sub ab col dd k0 k1 k2 k3 k5 newId):=λf f' =>by rw[aH _ _ heC,aH _ _ heC];exact hC
 refine wpAny_loadPart_at (hC2 _ _) ?_
 repeat (first | with_reducible refine wpAny_loadPart_at (hC2 _ _) ?_ | wp_step)
 have he3:((hp.update e (aW λx=>x.setIfInBounds 3 Value.none)).update e (aW λx=>x.setIfInBounds 4 (Value.bool true))).get? e=some { cls:= .ref C,data:= .fields #[.ref t,.none,.none,.none,.bool true,.none] }:=
  bz (aW λx=>x.setIfInBounds 4 (Value.bool true)) (bz (aW λx=>x.setIfInBounds 3 Value.none) he rfl) rfl
 have oth:∀b,b ≠ e->((hp.update e (aW λx=>x.setIfInBounds 3 Value.none)).update e (aW λx=>x.setIfInBounds 4 (Value.bool true))).get? b=hp.get? b:=λb hb=>by rw[aH _ _ hb.symm,aH _ _ hb.symm]
 generalize (hp.update e (aW λx=>x.setIfInBounds 3 Value.none)).update e (aW λx=>x.setIfInBounds 4 (Value.bool true))=h2 at he3 oth ⊢;unfold raiseNew;refine a4 (wpAny_handled ?_);rw[hh];dsimp only;rw[if_pos (by rw[bne_iff_ne];intro z;exact hne (Value.ref.inj z).symm)]
 refine a4 (aV (wpAny_runValue (codeAny_builtin yR ?_)));unfold Builtin.«proto.unchain»;refine a4 (bo ((oth e1 hne.symm).trans he1) hd1 h12 ?_);refine wpAny_ite_true rfl (aq ?_);show wpAny (model prog w) A (updateField e 2 (Value.ref e1) >>= λ_=>throw (Value.ref e)) Q E _;refine a4 ?_;unfold updateField;refine a4 (wpAny_load he3 ?_);dsimp only;rw[if_pos (by show 2 < 6;decide)]
 refine wpAny_update he3 (wpAny_throw (hE _ (λb hb=> ?_) ?_))
 ·exact(aH _ _ hb.symm).trans (oth b hb)
 ·exact bz (aW λx=>x.setIfInBounds 2 (Value.ref e1)) he3 rfl
theorem u6 {B Bn nid initId inN:String}{bmB bmN:List Value}(Fn:ExcBaseFacts Bn newId inN bmN)(hBn:bmB.contains (.type Bn)=true)(F:ExcBaseFacts B nid initId bmB){mN:Str->Option Value}{x:Str}{np cpos p pos:Pos}{args:List Expr}{j:Nat}{e1:Addr}{Q:Flow->Shared->Prop}
  (hbase:bm.contains (.type "BaseException")=true) (hh:A.handled=some (.ref e1)) (hplain:(backTo cpos (starEach args env)).any (·.1)=false) (hni:mN "__init__"=none)
  (h:wpAny (model prog w) A (eval (.Name x np) env) (λf s₁=>f= .ref C/\wpAny (model prog w) A (evalArgs (.ref C) true (backTo cpos (starEach args env)) [])
   (λa s₂=>a.kw=[]/\a.pos.length<=sizeLine/\s₂.heap.get? C=some (excClassObj nm q C N bs bm hdct sn sub ab col dd k0 k1 k2 k3 k5 newId)/\s₂.heap.Ns N mN/\OwnTail s₂.heap bmB bm/\(∃oe vs,s₂.heap.get? e1=some oe/\oe.data= .fields vs/\vs[2]? =some .none)/\
    ∀h1 h' e t,Heap.MadeExcOf s₂.heap h1 e (.ref C) a.pos->(∀b,b ≠ e->h'.get? b=h1.get? b)->h'.get? e=some { cls:= .ref C,data:= .fields #[.ref t,.none,.ref e1,.none,.bool true,.none] }->E (.ref e) { s₂ with heap:=h' }) E s₁) E s):
  wpAny (model prog w) A (exec (.Raise (some (.Call (.Name x np) args [] cpos)) (some (.Constant .none j p)) pos) env) Q E s:=by
 rw[arm_exec_Raise];refine a4 (aJ (u2 (C:=C) (nm:=nm) (q:=q) (N:=N) (bs:=bs) (bm:=bm) (hdct:=hdct) (sn:=sn) (sub:=sub) (ab:=ab) (col:=col) (dd:=dd) (k0:=k0) (k1:=k1) (k2:=k2) (k3:=k3) (k5:=k5) (newId:=newId) hbase hh (a4 (aB (wpAny_Call_ofName (aB h (λf s₁ h₁=> ?_) λ_ _ x=>x)) (λv s₃ h₃=>a4 (aJ (aq h₃))) λ_ _ x=>x))));obtain⟨rfl,h₁⟩:=h₁;unfold callWith;refine a4 (aV (aB h₁ (λa s₂ h₂=>a4 (aJ ?_)) λ_ _ x=>x));obtain⟨apos,akw⟩:=a;obtain⟨hkw,hlen,hC,hn,T,⟨oe,vs,x1,x2,x3⟩,h₂⟩:=h₂;obtain rfl:akw=[]:=hkw;obtain⟨hp,g,d,tk,os⟩:=s₂;simp only[hplain];refine a4 (wpAny_keeperOf_exc hC ?_);refine a4 (wpAny_call_exc_subU (hrest:=hlen) Fn hBn F T hC hn hni λh' e hm=>a4 (aV (cV (aq ?_))));obtain⟨t,ht,_,_⟩:=hm.there;exact⟨e,t,rfl,hm.keeps _ _ hC,ht,λz=>(by subst z;rw[hm.new]at x1;cases x1),⟨oe,vs,hm.keeps _ _ x1,x2,x3⟩,λh2 o2 e2=>h₂ h' h2 e t hm o2 e2⟩
end
end PySem
namespace L2
open PySem PySem.Spec PyProof.Rows PySem.W
section
variable {X:Cx}{pins:List (Addr×Obj)}{σ:St}{H:Hp}{s:Shared}{h' :Heap}{tk:Nat}
theorem Inv.slotsX (I:Inv X pins σ H s)(k:(hideAll s.heap (frs X.stack)).StaysIn h')(sl:s.heap.UpToSlots h'):Inv X pins σ H { s with heap:=h',toks:=tk }:=by
 have hokB:HOk X.prog X.w H (hideAll s.heap (frs X.stack)):=λa o e=>(I.hok a o e).stay (λb u hb q=>hideAll_get _ q λz=>by
   have:=I.stkFree b z;rcases hb with rfl | hb
   ·rw[e]at this;cases this
   ·rw[hb]at this;cases this) (λ_ q=>q) λ_ _ q=>q
 have kp:∀b o,s.heap.get? b=some o->b ∉ frs X.stack->h'.get? b=some o:=λb o e hb=>k b o (hideAll_get _ e hb);have slot:∀b o,s.heap.get? b=some o->b∈frs X.stack->∃sl,h'.get? b=some { o with slots:=sl }:=λb o e hb=>by
  obtain⟨_,o2,e2,nf⟩:=I.frNf b hb;rw[e]at e2;cases e2;exact sl b o e nf
 refine I.call' (ch:=[]) rfl ⟨λb o e _ hb _=>kp b o e hb,λb o e _ hb _=>slot b o e hb,λ_ _ _ n _=>n,λb o e _=> ?_,λ_ _ e=>e,λ_ _ _ e=>e,λ_ _ _ e=>e⟩ (hokB.kept k) I.bare (λb z=>nomatch z)
 by_cases hb:b∈frs X.stack
 ·obtain⟨sl,e'⟩:=slot b o e hb;exact⟨_,e'⟩
 ·exact⟨o,kp b o e hb⟩
end
section
variable {P:Program}{w:World}{K:Frag}{mg:Str->Option Value}{base:Heap}{N:List Str}{qual:Str}{scope:Scope}{f:Addr}{cd:Value}{A:Around}{outer:List Env}{s:Shared}{H:Hp}{E:XK}
theorem kd:isSubtype (.type "ValueError") (.type "BaseException")=pure true:=by rw[isSubtype_type];kernel_rfl
theorem KY:isSubtype (.type ((Manifest.find? "ValueError").elim "type" λx=>x.metatype)) (.type "tuple")=pure false:=by rw[isSubtype_type];kernel_rfl
theorem ke:isSubtype (.type "ValueError") (.type "ValueError")=pure true:=by rw[isSubtype_type];kernel_rfl
theorem Vw:bootBuiltins "ValueError"=some (.type "ValueError"):=by decide+kernel
theorem Qq {x n y m:Str}{C:Addr}{bm bmN:List Value}{Bn Bb newId nid initId inN:String}{i j a1 a2:Nat}{p1 p2 p3 p4 p5 p6 p7 p8 p9 p10 p11 p12 p13:Pos}(O:OwnCls x C bm newId mg base)(Fn:ExcBaseFacts Bn newId inN bmN)(hBn:bm.contains (.type Bn)=true)(FB:ExcBaseFacts Bb nid initId bm)
  (hN:N.Nodup) (hi:N[i]? =some n) (hx:Loc scope n) (hj:N[j]? =some y) (hy:Vis scope y)
  (gi:Gl (zU (CX1 P w) P w K mg base N qual scope f cd A outer s H E) "int") (mi:mg "int"=none) (gv:Gl (zU (CX1 P w) P w K mg base N qual scope f cd A outer s H E) "ValueError") (mv:mg "ValueError"=none)
  (hg:Gl (zU (CX1 P w) P w K mg base N qual scope f cd A outer s H E) x)
  (hs:swapsWith (.Call (.Name "int" p2) [.Name y p3] [] p4) (some (.Name n p1)) p5.line (envOfC qual scope s.heap.objs.size f cd)=pure false:=by rfl)
  (hd:(x == ("__debug__":Str))=false:=by decide) (hdy:(y == ("__debug__":Str))=false:=by decide) (hcd:(y == ("__classdict__":Str))=false:=by decide):
  PSC (zU (CX1 P w) P w K mg base N qual scope f cd A outer s H E)
   (.Try [.Assign [.Name n p1] (.Call (.Name "int" p2) [.Name y p3] [] p4) p5] [.ExceptHandler (some (.Name "ValueError" p6)) none [.Raise (some (.Call (.Name x p7) [.Constant (.str m) a1 p8] [] p9)) (some (.Constant .none a2 p10)) p11] p12] [] [] p13)
   (λD σ H1=>∃z,σ[j]? =some (some (.str z))/\(reprText z).length<=sizeLine/\z.length<=640/\match dk z with
    | some k=>D.nx (σ.set i (some (.int k))) H1
    | none=>E (.ref C) none H1):=by
 intro pins s1 σ H1 D I ⟨z,hσ,hz,hl,hw⟩;obtain⟨tl,N',nm,q,bs,hdct,sn,sub,ab,col,dd,k0,k1,k2,k3,k5,mN,hC,hN',hni,T⟩:=O.obj;have fr:(A.deeper (envOfC qual scope s.heap.objs.size f cd)).frames=some (envOfC qual scope s.heap.objs.size f cd :: outer):=I.ok.frames;have hst:starEach [.Name y p3] (envOfC qual scope s.heap.objs.size f cd)=[(false,eval (.Name y p3) _)]:=rfl;have pa:∀xe:Value->Shared->Prop,wpAny (model P w) (A.deeper (envOfC qual scope s.heap.objs.size f cd)) (spliced (backTo p4 (starEach [.Name y p3] (envOfC qual scope s.heap.objs.size f cd)))) (AP (PV.XE (zU (CX1 P w) P w K mg base N qual scope f cd A outer s H E) xe) pins σ (λvs H' =>vs=[.str z]/\H' =H1)) xe s1:=λxe=>
  zo (X:=PV.XE (zU (CX1 P w) P w K mg base N qual scope f cd A outer s H E) xe) (W6 hj hy hdy hcd) zK hst p4 _ s1 σ H1 (λvs H' =>vs=[.str z]/\H' =H1) (PV.wl I) ⟨_,hσ,rfl,rfl⟩
 refine Kc (ZM (Uk (zN (jk I gi mi PyProof.Rows.boot_int ?_)) hs));refine ZC (zd (zy (pa _)) λus s2 ⟨vs,H2,I2,r,e1,e2⟩=> ?_) hst rfl;subst e1 e2;have I2:=PV.Wi I2;cases r with
 | cons r1 r2=>
  cases r2;obtain⟨tk,rfl⟩:=r1;cases hn:dk z with
  | some k=>
   rw[hn]at hw;refine zy (KIN.call_text hn hl (ZS (v:= .int k) (I2.tok _) hN hi hx ⟨_,rfl⟩ (λs3 I3=> ?_) (.inl rfl)));exact zy (bG (zy (bG ⟨_,_,I3,hw⟩)))
  | none=>
   rw[hn]at hw;refine Us hz hl hn (I.ok.hd rfl) λh1 tk1 ea mm hm=> ?_;have hin:∀env∈(zU (CX1 P w) P w K mg base N qual scope f cd A outer s H E).stack,∀b,env.frame=some b->b∈frs _:=λenv he b hb=>bI.mpr ⟨env,he,hb⟩;refine ka (base:=hideAll s2.heap (frs (zU (CX1 P w) P w K mg base N qual scope f cd A outer s H E).stack)) fr (funFrames_hide I2.stack hin) rfl (λb o q=>of_hideAll _ q) hm λh2 v2 sl2=> ?_;refine Ke v2 λh3 v3 sl3=> ?_;have I3:=I2.slotsX (tk:=tk1) v3.1 (sl2.trans sl3);refine wpAny_handleBy_builtin (X:="ValueError") (T:="ValueError") (b:=true) kd KY ke ?_;have ea_ok:∀{h:Heap},EvA (hideAll s2.heap (frs (zU (CX1 P w) P w K mg base N qual scope f cd A outer s H E).stack)) (envOfC qual scope s.heap.objs.size f cd :: outer) ea h->∃oe vs,h.get? ea=some oe/\oe.data= .fields vs/\vs[2]? =some .none:=λ⟨_,_,_,oe,vs,_,_,_,q1,_,q3,_,q5,_⟩=>⟨oe,vs,q1,q3,q5⟩;refine jk (X:=(zU (CX1 P w) P w K mg base N qual scope f cd A outer s H E).mark' (.ref ea)) (I3.mark' _) gv mv Vw ⟨rfl, ?_, ?_⟩
   ·obtain⟨_,_,_,oe,vs,_,_,_,q1,q2,_⟩:=v3;exact⟨oe,q1,q2⟩
   refine Ke v3 λh4 v4 sl4=> ?_;have I4:=I2.slotsX (tk:=tk1) v4.1 (sl2.trans (sl3.trans sl4));refine wpAny_execs_cons (u6 (C:=C) (nm:=nm) (q:=q) (N:=N') (bs:=bs) (hdct:=hdct) (sn:=sn) (sub:=sub) (ab:=ab) (col:=col) (dd:=dd) (k0:=k0) (k1:=k1) (k2:=k2) (k3:=k3) (k5:=k5) Fn hBn FB (T.hasType FB.hasBase) rfl rfl hni (Zj (X:=(zU (CX1 P w) P w K mg base N qual scope f cd A outer s H E).mark' (.ref ea)) (I4.mark' _) hg O.bound ⟨rfl, ?_⟩ hd));refine cU (ei (e9 (k:=a1) (pos:=p8) (eM ⟨rfl,(show 1<=sizeLine by decide), ?_⟩)))
   have I5:=I4.tok (tk1+1);refine⟨I5.bk _ _ hC,hN'.keeps I5.bk,T.keeps I5.bk,ea_ok v4,λh5 h6 e t hm5 o6 e6=> ?_⟩;have hb5:∀b,(hideAll h4 (frs (zU (CX1 P w) P w K mg base N qual scope f cd A outer s H E).stack)).get? b ≠ none->b ≠ e:=λb z q=>by
    subst q;cases q2:(hideAll h4 (frs (zU (CX1 P w) P w K mg base N qual scope f cd A outer s H E).stack)).get? b with
    | none=>exact z q2
    | some o=>have:=of_hideAll _ q2;rw[hm5.new]at this;cases this
   have sl6:h5.UpToSlots h6:=λb o hb nf=>⟨o.slots,(o6 b λq=>by subst q;obtain⟨_,z,_⟩:=hm5.there;rw[z]at hb;cases hb;exact nf _ rfl).trans hb⟩
   have fr6:h6.FunFrames (hideAll h4 (frs (zU (CX1 P w) P w K mg base N qual scope f cd A outer s H E).stack)) (envOfC qual scope s.heap.objs.size f cd :: outer):=
    (funFrames_hide I5.stack hin).of_keeps λb o hb nf=>by
     obtain⟨sl,z⟩:=sl6 b o (hm5.keeps b o hb) nf;exact⟨_,z,rfl⟩
   have kb6:(hideAll h4 (frs (zU (CX1 P w) P w K mg base N qual scope f cd A outer s H E).stack)).StaysIn h6:=λb o hb=>(o6 b (hb5 b (by rw[hb];simp))).trans (hm5.keeps b o (of_hideAll _ hb))
   have en:(hideAll h4 (frs (zU (CX1 P w) P w K mg base N qual scope f cd A outer s H E).stack)).get? e=none:=by
    cases q2:(hideAll h4 (frs (zU (CX1 P w) P w K mg base N qual scope f cd A outer s H E).stack)).get? e with
    | none=>rfl
    | some o=>exact absurd rfl (hb5 e (by rw[q2];simp))
   unfold notedBy noteFrame;simp only[show (zU (CX1 P w) P w K mg base N qual scope f cd A outer s H E).env.frame=some s.heap.objs.size from rfl];refine a4 (bo e6 rfl (x:= .none) rfl ?_);rw[if_neg (by decide)]
   refine wpAny_entryW (a0:= .ref t) fr fr6 rfl e6 kb6 en rfl (show 1 < 6 by decide) rfl λh7 ⟨n1,n2,n3,n4⟩=> ?_
   have fa7:ym (hideAll h4 (frs (zU (CX1 P w) P w K mg base N qual scope f cd A outer s H E).stack)) (envOfC qual scope s.heap.objs.size f cd :: outer) e (.ref C) (.ref t) h7:=⟨n1,en,n2,_,n3⟩;obtain⟨oe,vs,T',oT,ts,q1,q2,q3,q4,q5⟩:=id n3;refine a4 (bo q1 q3 q4 ?_);refine wpAny_ite_false rfl ?_;refine Jj fa7 λh8 fa8 sl8=> ?_;refine Wd fr rfl fa8 λh9 fl9 sl9=> ?_;exact⟨e,.ref C,.ref t,_,_,rfl,Jw.made (s:=⟨h4,_,_,_,_⟩) I5 rfl rfl rfl hm5 fl9 (sl6.trans (Heap.UpToSlots.trans n4 (sl8.trans sl9))),hw⟩
end
end L2
namespace PySem
open Sem (wp)
section
variable {M:Model}{A:Around}{E:Value->Shared->Prop}{s:Shared}{env:Env}
theorem Ut {c:Code}{h:Option Value}{Q:Flow->Shared->Prop}(hc:zH M (A.mark h) c (λr s' =>match r with | .ok f=>Q f s' | .error e=>E e s') s)(hnb:h ≠ some byPass):wpC M A (run c h) Q E s:=
 λΓ p hΓ hl=>by rw[Sem.wp_run];exact hc _ p rfl (hΓ.enter c h p hnb) (hl.enter _ _ _)
theorem yS {α:Type}{c:Prop}[Decidable c]{pos:Pos}{k:PUnit->Sem α}{Q:α->Shared->Prop}(h:wpC M A (k ()) Q E s):wpC M A (if c then (standAt pos >>= k) else k ()) Q E s:=by
 split
 ·exact z7 (aJ h)
 ·exact h
theorem Z6 {e:Expr}{scope:Scope}{pos:Pos}{newAcc first:Sem Value}{g:Comprehension}{gs:List Comprehension}{cl:List (Str×Addr)}{use:Option (Value->Sem Unit)}{Q:Value->Shared->Prop}
  (hcl:clausesOf e=g :: gs) (hs:∀x,foldedSetIterable g.iter env x=pure x) (hclos:closureFor scope env=pure cl) (hkind:scope.kind= .function) (hnames:∀x∈scope.names,x.2= .local->scope.names.lookup x.1=some .local)
  (h:wpAny M A first (λx s₁=>wpAny M A (pyIter x) (λit s₂=>wpAny M A newAcc (λacc s₃=>wpAny M A (newFunctionEnv scope env.globals cl [] env.qual none .none (some env)) (λcenv s₄=>
    zH M A (.compStart e 0 it acc { cenv with scope:=relabel scope env }) (compPost M A E use Q acc cenv.locals) s₄) E s₃) E s₂) E s₁) E s):wpC M A (comprehension e scope env pos newAcc false first use) Q E s:=by
 unfold comprehension;rw[hclos,hcl];refine z7 (aB h (λx s₁ h₁=>z7 (aJ (z7 (wpAny_of_eq (hs x) (z7 (aV (aB h₁ (λit s₂ h₂=> ?_) λ_ _ h' =>h'))))))) λ_ _ h' =>h');refine yS (z7 (aB h₂ (λacc s₃ h₃=>z7 (aq (z7 (aB h₃ (λcenv s₄ h₄=> ?_) λ_ _ h' =>h')))) λ_ _ h' =>h'));dsimp only;have hv:∀x∈(scope.names.filter λx=>(x.2 == .local || x.2 == .cell) && x.1 != (".0":Str)).reverse,x.2= .local->Env.kindOf { cenv with scope:=relabel scope env } x.1=some .local:=λx hx hl=>lookup_relabel_local (hnames x (cr.mp (List.mem_reverse.mp hx)).1 hl)
 have hv' :∀x∈(scope.names.filter λx=>(x.2 == .local || x.2 == .cell) && x.1 != (".0":Str)).reverse.drop 1++(scope.names.filter λx=>(x.2 == .local || x.2 == .cell) && x.1 != (".0":Str)).reverse.take 1,x.2= .local->Env.kindOf { cenv with scope:=relabel scope env } x.1=some .local:=λx hx hl=>by
  rcases bc.mp hx with h1 | h1
  ·exact hv x (List.mem_of_mem_drop h1) hl
  ·exact hv x (List.mem_of_mem_take h1) hl
 refine zP (zf (jU (zP (Ut (zY h₄ λr s' hr=> ?_) (by intro x;cases x)))))
 cases r with
 | ok f=>
  cases use with
  | none=>
   obtain⟨m,hn,hr⟩:=hr;exact zy (a4 (aV (wpAny_comp_letGo (cenv:={ cenv with scope:=relabel scope env }) hkind _ s' m hv hn λh' m' _ hs' =>aq (hr h' hs'))))
  | some u=>
   refine zy (a4 (wpAny_rule (a4 (aV (aB hr (λ_ s'' hr' => ?_) λ_ _ h' =>h')))));obtain⟨m,hn,hr'⟩:=hr';exact a4 (wpAny_comp_letGo (cenv:={ cenv with scope:=relabel scope env }) hkind _ s'' m hv' hn λh' m' _ hs' =>aq (hr' h' hs'))
 | error x=>
  have hr' :∃m,s'.heap.Ns cenv.locals m/\∀h',cC cenv.locals s'.heap h' ->∀cenv' :Env,cenv'.locals=cenv.locals->wpAny M A (passOn "comprehension.variables-let-go" x cenv' :Sem Value) (λ_ _=>False) E { s' with heap:=h' }:=by cases use <;> exact hr
  obtain⟨m,hn,hr⟩:=hr';exact zy (a4 (aV (wpAny_comp_letGo (cenv:={ cenv with scope:=relabel scope env }) hkind _ s' m hv hn λh' m' _ hs' =>aB (hr h' hs' _ rfl) (λ_ _ f=>f.elim) λ_ _ y=>y)))
end
section
variable {prog:Program}{w:World}{A:Around}{R:Result->Shared->Prop}{s:Shared}
theorem Z3 {elt target iter ifs rest scope pos it acc env}(h0:zH (model prog w) A (.compLoop (.ListComp elt (⟨target,iter,ifs,0⟩ :: rest) scope pos) 0 it acc env) R s)
  (h:wpAny (model prog w) A (pyIter it) (λit' s' =>zH (model prog w) A (.compLoop (.ListComp elt (⟨target,iter,ifs,0⟩ :: rest) scope pos) 0 it' acc env) R s') (notedBy (model prog w) A env λx s' =>R (.error x) s') s):
  zH (model prog w) A (.compStart (.ListComp elt (⟨target,iter,ifs,0⟩ :: rest) scope pos) 0 it acc env) R s:=by
 refine zn ?_;show wpC _ _ ((compStart (.ListComp elt (⟨target,iter,ifs,0⟩ :: rest) scope pos) 0 it acc env).onRaise (λx=>do noteFrame x env;standAt theWindowsPlace)) _ _ s
 refine Z5 (zT (E:=notedBy (model prog w) A env λx s' =>R (.error x) s') ?_ (λ_ _ q=>q) λ_ _ hx=>a4 (aB hx (λ_ _ e=>aJ e) λ_ _ e=>e));unfold compStart;refine zy ?_;show wpAny _ _ (ask >>= _) _ _ s;refine a4 (wpAny_askSetting (wpAny_ite ?_));split
 ·first
   | exact a4 (aq (aq (And.intro rfl h0)))
   | exact aq (And.intro rfl h0)
 ·exact a4 (wpAny_rule (a4 (aJ (a4 (aB h (λit' s' h' =>aq (And.intro rfl h')) λ_ _ x=>x)))))
end
end PySem
namespace PV
open PySem PySem.Spec PyProof.Rows L2
theorem Jp {X:Cx}{R:Result->Shared->Prop}(hx:∀e s',X.xe e s' ->notedBy (model X.prog X.w) X.A X.env (λe s' =>R (.error e) s') e s')(hc:X.calm=true){tg iter elt:Expr}{ifs:List Expr}{scope:Scope}{pos:Pos}{J:It}{fp:List Addr}{it:Addr}{tn:Nat->Heap->Prop}(TJ:uv X.prog X.w X.K tg J fp it tn)
  {g:TG} {tt:TT} {te:TE} (hg:PG X tg g) (ht:PIf X ifs tt) (he:PEC X elt te) {D:Addr} {fin:Sg->Hp->Prop} (W:Nat->Nat->List V->Sg->Hp->Prop) (turn:wm J D g tt te fin W)
  (hR:∀s σ H,L2.Inv X [] σ H s->fin σ H->R (.ok .next) s) {m0:Nat} {σ0:Sg} {H0:Hp} {s0:Shared} (w0:W 0 m0 [] σ0 H0) (I0:L2.Inv X [] σ0 H0 s0) (t0:tn 0 s0.heap) (f0:∀b∈fp,J6 X [] H0 b):
  zH (model X.prog X.w) X.A (.compLoop (.ListComp elt [⟨tg,iter,ifs,0⟩] scope pos) 0 (.ref it) (.ref D) X.env) R s0:=by
 have stat:∀{H' :Hp},(∀b∈fp,H' b=none)->∀b∈fp,J6 X [] H' b:=λhn b hb=>⟨hn b hb,(f0 b hb).2⟩;refine WX rfl (λn s' =>∃i ys σ' H',L2.Inv X [] σ' H' s' /\tn i s'.heap/\(∀b∈fp,H' b=none)/\W i n ys σ' H') (λn s3 h3=> ?_) m0 ⟨0,[],σ0,H0,I0,t0,λb hb=>(f0 b hb).1,w0⟩;obtain⟨i,ys,σ3,H3,I3,st3,fr3,w3⟩:=h3;show wpC _ X.A ((compTurn _ 0 _ _ _).onRaise (λx=>do noteFrame x _;theTreesLotGoes x)) _ _ s3
 refine wA ?_;obtain⟨hD,h⟩:=turn i n ys σ3 H3 w3;rcases h with ⟨stop,qn⟩ | ⟨go,next⟩
 ·refine z7 (aJ (z7 (thn (TJ.done X rfl rfl rfl hc i [] s3 σ3 H3 _ I3 (stat fr3) st3 stop) λr s4 ⟨hr,I4⟩=> ?_)));subst hr;exact zp (hR s4 σ3 H3 I4 qn)
 ·refine z7 (aJ (z7 (thn (TJ.item X rfl rfl rfl hc i [] s3 σ3 H3 _ I3 (stat fr3) st3 go) λr s4 ⟨u,hr,h4⟩=> ?_)));subst hr;refine z7 (thn h4 λ_ s5 ⟨x,H5,I5,r5,y5,st5,fr5⟩=> ?_);have I5' :=I5.pinned (stat fr5) (TJ.obj _ _ st5);refine z7 (jN hx (thn (hg _ s5 σ3 H5 x u _ I5' r5 (next x H5 y5)) λ_ s6 ⟨σ6,H6,I6,q6⟩=> ?_));have again:∀{σ7:Sg} {H7:Hp} {s7:Shared} {ys' :List V},L2.Inv X _ σ7 H7 s7->(∃m',m' < n/\W (i+1) m' ys' σ7 H7)->∃m,m < n/\∃i ys σ' H',L2.Inv X [] σ' H' s7/\tn i _/\(∀b∈fp,H' b=none)/\W i m ys σ' H' :=λ{σ7 H7 s7 ys'} I7 ⟨m',hm,w7⟩=>by
   refine⟨m',hm,i+1,ys',σ7,H7,I7.unpinned,TJ.keep _ _ _ st5 λb hb o e=>(I7.pin _ (am _ (am _ (zQ hb e)))).1,λb hb=> ?_,w7⟩;obtain⟨o,e,d⟩:=TJ.obj _ _ st5 b hb;exact(I7.pin _ (am _ (am _ (zQ hb e)))).2.1
  refine z7 (jN hx (thn (ht _ s6 σ6 H6 _ I6 q6) λk s7 ⟨H7,I7,q7⟩=> ?_));cases k with
  | false=>exact zp ⟨rfl,again I7 q7⟩
  | true=>
   refine zf (zf (zT (he _ s7 σ6 H7 _ I7 q7) (λv s8 ⟨y,H8,I8,r8,hD8,hlen,q8⟩=> ?_) hx));refine z7 (jN hx (thn (jG _ s8 σ6 H8 (.ref D) [y] _ [v] (λ_ H9=>∃m',m' < n/\W _ m' _ σ6 H9) I8 rfl (.cons r8 .nil) ⟨D,ys,y,rfl,rfl,hD8,hlen,q8⟩) λw s9 ⟨_,H9,I9,_,q9⟩=> ?_));exact zp (zp ⟨rfl,again I9 q9⟩)
section
variable {X:Cx}
theorem Uu {E:XK}(hp:uJ X E){tg iter elt:Expr}{ifs:List Expr}{scope:Scope}{pos pos' :Pos}{N' :List Str}{k:Nat}{js:List Nat}{wi:TI}{g:TG}{tt:TT}{te:TE}{use:Option (Value->Sem Unit)}(S:CSc X scope)(CP:yy X scope N' k js)(hc:X.calm=true)
  (hi:PI X tg iter wi) (hg:Wj X scope N' λXC=>PG XC tg g) (ht:Wj X scope N' λXC=>PIf XC ifs tt) (he:Yz X scope N' E λXC=>PEC XC elt te) {pins:List (Addr×Obj)} {σ:Sg} {H:Hp} {s:Shared} {Q:Value->Shared->Prop} {F:Addr->Hp->Prop} (I:L2.Inv X pins σ H s)
  (h:wi σ H λJ H1=>∀D,H1 D=none->∃W,(∃m,W 0 m [] (ja k js σ) (upd H1 D (.lst [])))/\wm J D g tt te (λ_ H' =>F D H') W)
  (hQ:∀D C H' s',L2.Inv X pins σ H' s' ->F D H' ->H' C=none->(X.s₀.heap.objs.size<=C)->C ≠ X.env.locals->(∀x c,X.env.cells.lookup x=some c->c ≠ C)->(∀p∈X.pn++pins,p.1 ≠ C)->(∃m,s'.heap.Ns C m)->compPost (model X.prog X.w) X.A X.xe use Q (.ref D) C (.ok .next) s')
  (hs:∀x,foldedSetIterable iter X.env x=pure x:=by intro _;rfl):
  wpC (model X.prog X.w) X.A (comprehension (.ListComp elt [⟨tg,iter,ifs,0⟩] scope pos) scope X.env pos' (newList []) false (eval iter X.env) use) Q X.xe s:=by
 obtain⟨cl,ecl,hcl,hcf⟩:=JA (scope:=scope) (env:=X.env) λx hx hf=>I.ok.has x.1 (S.fre x hx hf);refine Z6 rfl hs ecl S.kind S.loc ?_;refine thn (hi pins s σ H _ I h) λv s1 h1=>thn h1 λitv s2 h2=> ?_;obtain⟨it,fp,tn,J,H2,e,I2,TJ,st2,f2,q2⟩:=h2;subst e;refine bQ ?_;have hD:=I2.hok.fresh (ag _);have I3:L2.Inv X pins σ (upd H2 s2.heap.objs.size (.lst [])) { s2 with heap:=s2.heap.push { cls:= .type "list",data:= .seq _ } }:=
  I2.laid (t' :=s2.toks) (λb u e=>a7 _ e) (ag _) ⟨bR _,[],_,.nil,ao _ rfl⟩
 obtain⟨W,⟨m0,w0⟩,turn⟩:=q2 s2.heap.objs.size hD;have f3:∀b∈fp,J6 X pins (upd H2 s2.heap.objs.size (.lst [])) b:=λb hb=>by
  obtain⟨o,eo,_⟩:=TJ.obj _ _ st2 b hb;exact⟨by rw[za (aA (a9 eo))];exact(f2 b hb).1,(f2 b hb).2⟩
 have o3:∀b∈fp,∃o,(s2.heap.push { cls:= .type "list",data:= .seq ([]:List Value).toArray }).get? b=some o:=λb hb=>by
  obtain⟨o,eo,_⟩:=TJ.obj _ _ st2 b hb;exact⟨o,a7 _ eo⟩
 refine wpAny_newFunctionEnv S.nocell (by intro y hy;simp at hy) (λh4 hns4 hsb4=> ?_) S.kind
 generalize hG:s2.heap.push _=G3 at I3 o3 hns4 hsb4 ⊢;have s3e:∃s3:Shared,s3={ s2 with heap:=G3 }:=⟨_,rfl⟩;obtain⟨s3,es3⟩:=s3e;have hh3:s3.heap=s2.heap.push { cls:= .type "list",data:= .seq ([]:List Value).toArray }:=by rw[es3,hG]
 have hg3:G3=s3.heap:=by rw[es3]
 rw[← es3]at I3;rw[hg3]at hns4 hsb4 o3;have k4:=λb o e=>hsb4.extBut b o (aA (a9 e)) (a7 _ e);have IC:=wk (N' :=N') (cl:=cl) (fp:=fp) (σ' :=ja k js σ) (tk:=s3.toks+([]:List (Str×Value)).length) I3 S hc hcl hcf f3 o3 hns4 k4 (by unfold ja;simp[CP.len]) (λi x v h1 h2=>by
  unfold ja at h2
  by_cases hik:i < k
  ·rw[aL (by simpa using hik),aw,if_pos hik]at h2
   cases h2
  ·have hk' :k<=i:=by omega
   rw[aG (by simpa using hk'),aR,av]at h2
   cases ej:js[i - k]? with
   | none=>rw[ej]at h2;cases h2
   | some j=>
    rw[ej]at h2;obtain⟨y,e1,e2,e3,e4,e5⟩:=CP.cap (i - k) j ej;have:k+(i - k)=i:=by omega
    rw[this,h1]at e1;cases e1;refine⟨j,e2, ?_,e3,e4,e5⟩;have h2' :some ((σ[j]?).getD none)=some (some v):=h2;cases ez:σ[j]? with
    | none=>rw[ez]at h2';cases h2'
    | some z=>rw[ez]at h2';exact congrArg some (ak h2'))
 have TC:uv _ _ _ tg J fp it tn:=TJ;have t4:tn 0 h4:=TJ.keep _ _ _ st2 λb hb o e=>k4 b o (by rw[hh3];exact a7 _ e)
 have fC:∀b∈fp,J6 (cxC X scope N' cl s3.heap.objs.size s3 (upd H2 s2.heap.objs.size (.lst [])) fp pins) [] _ b:=λb hb=>by
  obtain⟨q0,q1,q2,q3,q4,q5⟩:=f3 b hb;obtain⟨o,eo⟩:=o3 b hb;refine⟨q0,aA (a9 eo),λhb' => ?_,.inl hb,λx c e=>q4 x c (hcl _ _ e),λp hp=> ?_⟩
  ·rcases aj.mp (I3.stkSub b hb') with z | z
   ·exact q1 z
   ·exact q2 z
  ·exact q5 p (by
    have:=hp;rwa[aK]at this)
 have fin:∀(s5:Shared) (σ5:Sg) (H5:Hp),L2.Inv (cxC X scope N' cl s3.heap.objs.size s3 (upd H2 s2.heap.objs.size (.lst [])) fp pins) [] σ5 H5 s5->F s2.heap.objs.size H5->compPost (model X.prog X.w) X.A X.xe use Q _ s3.heap.objs.size (.ok .next) s5:=λs5 σ5 H5 I5 q5=>by
  have J5:=I3.call' (ch:=fp) I5.os I5.base I5.hok I5.bare λb hb=>by
   obtain⟨q0,q1,q2,q3,q4,q5⟩:=f3 b hb;exact⟨q3,q1,q4,q5⟩
  refine hQ _ _ H5 s5 J5 q5 I5.free I3.sz (ce I3.lt) (λx c e z=> ?_) (λp hp z=> ?_) (let ⟨m,hm,_⟩:=I5.loc;⟨m,hm⟩)
  ·obtain⟨v',o,eo,_⟩:=I3.cell x c e;exact absurd (a9 eo) (by rw[z];exact aN _)
  ·exact absurd (a9 (I3.pin p hp).1) (by rw[z];exact aN _)
 have pass:zO (CX1 X.prog X.w) (XE (cxC X scope N' cl s3.heap.objs.size s3 (upd H2 s2.heap.objs.size (.lst [])) fp pins) (notedBy (model X.prog X.w) X.A (compEnvC scope cl s3.heap.objs.size X.env) λe s' =>compPost (model X.prog X.w) X.A X.xe use Q (.ref s2.heap.objs.size) s3.heap.objs.size (.error e) s')) E:=by
  intro pins1 σ1 H1 s1 e s' I1 c1;have J1:=I3.call' I1.os I1.base I1.hok I1.bare λb hb=>by
   obtain⟨q0,q1,q2,q3,q4,q5⟩:=f3 b hb;exact⟨q3,q1,q4,q5⟩
  obtain⟨m1,hm1,_⟩:=I1.loc;refine thn (hp pins σ H1 s1 e s' _ m1 _ _ J1 hm1 I1.free I3.sz (λz=> ?_) rfl c1) λ_ s'' q=> ?_
  ·obtain⟨_,o,eo,_⟩:=I3.stack.mem z;exact absurd (a9 eo) (aN _)
  ·cases use <;> exact q
 have loop:=Jp (X:=XE (cxC X scope N' cl _ s3 _ fp _) (notedBy _ X.A _ λe s' =>compPost _ X.A _ use Q _ _ _ s')) (iter:=iter) (scope:=scope) (pos:=pos) (λ_ _ z=>z) hc TC (V9 rfl (hg _ _ _ _ _ _)) (Yy rfl (ht _ _ _ _ _ _)) (he _ _ _ _ _ _ _ pass) W turn (λs5 σ5 H5 I5=>fin s5 σ5 H5 (Wi I5)) w0 (wl IC) t4 fC;rw[es3]at loop;exact Z3 loop (TJ.self _ _ _ _ _ t4 loop)
end
section
variable {X:Cx}{Y:Fx}{tg iter elt:Expr}{ifs:List Expr}{scope:Scope}{pos pos' :Pos}{N' :List Str}{k:Nat}{js:List Nat}{fi:En->R (List T)}{tG:TG}{g:T->En->R En}{ft:En->R Bool}{fe:En->R T}
structure wZ (X:Cx) (Y:Fx) (tg iter elt:Expr) (ifs:List Expr) (scope:Scope) (N' :List Str) (k:Nat) (js:List Nat) (fi:En->R (List T)) (tG:TG) (g:T->En->R En) (ft:En->R Bool) (fe:En->R T):Prop where
 sc:CSc X scope
 cp:yy X scope N' k js
 cm:X.calm=true
 it:wj X Y tg iter fi
 gt:Wj X scope N' λXC=>PG XC tg tG
 gk:GOk tG g
 gn:GNo g
 tt:∀Y',Y'.cl=Y.cl->Wj X scope N' λXC=>jb XC Y' ifs ft
 el:∀Y',Y'.cl=Y.cl->Yz X scope N' Y'.E λXC=>ZD XC Y' elt fe
 hs:∀x,foldedSetIterable iter X.env x=pure x
theorem JK (hp:uJ X Y.E)(C:wZ X Y tg iter elt ifs scope N' k js fi tG g ft fe):ZD X Y (.ListComp elt [⟨tg,iter,ifs,0⟩] scope pos) (jO fi g ft fe k js):= .mk λρ=>by
 intro pins s σ H Q I ⟨B,J,q⟩;refine Uu hp (F:=λD H' =>Q (.ref D) H') (te:=λσ H Q=>∃Y' ρ',Y'.cl=Y.cl/\Y'.E=Y.E/\tS Y' rC fe ρ' σ H Q) (tt:=λσ H Q=>∃Y' ρ',Y'.cl=Y.cl/\tS Y' rE ft ρ' σ H Q) C.sc C.cp C.cm (C.it ρ) C.gt
  (λcl Cx' s3 H3 fp pins pins' s σ H Q I ⟨Y',ρ',ey,q⟩=>C.tt Y' ey cl Cx' s3 H3 fp _ ρ' _ s σ H Q I q) (λcl Cx' s3 H3 fp pins xe hp pins' s σ H Q I ⟨Y',ρ',ey,eE,q⟩=>(C.el Y' ey cl Cx' s3 H3 fp _ xe (eE ▸ hp)).go ρ' _ s σ H Q I q) I ?_ ?_ C.hs
 ·refine step J q λts it' H1 _ s1 r1 J1 q1=> ?_;intro D hD;unfold U4 at q1;split at q1
  ·rename_i hl;refine Jl C.gk C.gn J1 r1 hl rfl hD ?_;revert q1;cases zz g ft fe ts _ with
   | bad=>exact λq1=>q1
   | ex c=>exact λq1 d H' a b=>q1 d H' (J1.sH.trans a) b
   | ok vs=>
    intro q1 H' xs B' s' e' r' l' b' sb';refine(show Po Y rC _ H1 _ Q from q1) _ H' s' ?_;exact .lst (by rw[zD hD];exact e') (r'.mono l')
  ·exact q1.elim
 ·intro D Cc H' s' I' q' hC h0 hL hcell hpin hns;obtain⟨m,hm⟩:=hns;refine⟨m,hm,λh' hsb=>⟨.ref D,H', ?_,rfl,q'⟩⟩;exact I'.turned (λb o hb e=>hsb.extBut b o hb e) hC (bq hL).symm (.inr h0) hcell hpin
end
end PV
namespace PySem.W
open PySem PySem.Calls PyProof.Rows
abbrev WalkC (q:Program)(loose:List Str)(XP:(Str->Option Value)->Heap->Prop)(YP:World->Heap->Prop)(r:RowW)(d:DefRec)(kwd:List (Str×Expr)):Prop:=
 ∀(w:World) (s₀ s₁:Shared) (mg mb:Str->Option Value),Ground q loose r.records XP w s₀ mg mb s₁.heap->YP w s₁.heap->∀(a:Addr) (o:Obj) (pm cd doc dV kV:Value),s₁.heap.get? a=some o->
  o.data= .func { docDef d.name d.params d.body d.scope pm cd doc with defaults:=dV,kwdefaults:=kV }->s₁.heap.CodeRec cd d.name->Dflts mg s₁.heap d.params kwd dV kV->mg d.name=some (.ref a)->s₁.gens= #[]->
  ∀(args:List WData) (vals:List Value) (as:List Addr),r.claim.pre args=true->WData.layableAll args=true->ReadsAllW r.records (classAt s₀.heap) s₁.heap vals args as->WellAll w.params s₁.heap vals args->(∀a∈as,(a == sysModules)=false)->
   zH (model r.prog w) callerA (.call (.ref a) ⟨vals,[]⟩) (λres s' =>match res with
    | .ok (.ret v)=>GoodWG r.claim (classAt s₀.heap) (ExcName.means s₀.heap) args s₁ (.ok (.ret v)) s'
    | .ok _=>False
    | .error e=>GoodWG r.claim (classAt s₀.heap) (ExcName.means s₀.heap) args s₁ (.error e) s') s₁
noncomputable abbrev Γ0:Ctx:=⟨.builtin "claim.caller" {},none,none,[],none⟩
theorem yT {prog:Program}{w:World}{t:Sem Fin}{s:Shared}{R:Result->Shared->Prop}(hreg:s.asleep)
  (h:fB (model prog w) Γ0 t (λfin _ s' =>∃f,fin= .done f/\(R (.ok f) s' /\leftWithCleanup s'.gens=false)) (λe _ s' =>R (.error e) s' /\leftWithCleanup s'.gens=false) default s):
  ∃n r s' s'',runN (denote table) prog w n s ⟨t,.builtin "claim.caller" {},default,[]⟩= .halted (outcomeOf r) s' /\
   schedN (denote table) prog w n (.single s ⟨t,.builtin "claim.caller" {},default,[]⟩)= .halted (outcomeOf r) s' /\s'.forget=s''.forget/\R r s'' :=by
 obtain⟨n,r,s₁,s₂,hs,hn,hfo,hR⟩:=wp_halts_full (M:=model prog w) (R:=R) hreg (ba _ _ _ (λfin p' s' h' =>by obtain⟨f,rfl,hf⟩:=h';exact hf) (λ_ _ _ h' =>h') _ _ h)
 exact⟨n,r,s₂,s₁,hn,hs,hfo,hR⟩
theorem yU {prog:Program}{w:World}{s:Shared}{mg:Str->Option Value}{name:Str}{a:Addr}{vs:List Value}{Q:Fin->Shared->Prop}{E:Value->Shared->Prop}(hg:s.heap.Ns mainGlobals mg)(hf:mg name=some (.ref a))
  (h:zH (model prog w) callerA (.call (.ref a) ⟨vs,[]⟩) (λres s' =>match res with | .ok (.ret v)=>Q (.done (.ret v)) s' | .ok _=>False | .error e=>E e s') s):
  fB (model prog w) Γ0 (do match ← nsGet mainNs name with | some f=>do ret (← PySem.call f vs) | none=>unsupported "claim.caller:no-such-global") (λfin _ s' =>Q fin s') (λe _ s' =>E e s') default s:=by
 have hq:∀p,fB (model prog w) Γ0 (do ret (← PySem.call (.ref a) vs)) (λfin _ s' =>Q fin s') (λe _ s' =>E e s') p s:=λp=>by
  rw[bT];show fB _ _ (runValue _) _ _ _ _;rw[fq];refine wpCode_mono (λr s' hr=> ?_) (h _ p rfl (caller_in.enter _ none p (by intro x;cases x)) ⟨_,ac,rfl⟩)
  cases r with
  | error e=>exact hr
  | ok fl=>
   cases fl with
   | ret v=>exact hr
   | next=>exact hr.elim
   | brk=>exact hr.elim
   | cont=>exact hr.elim
 have:=wpAny_nsGet (M:=model prog w) (A:=callerA) (E:=λ_ _=>False) (Q:=λv s' =>v=some (.ref a)/\s' =s) hg (name:=name) ⟨hf,rfl⟩ Γ0 default caller_in;rw[bT];refine ba _ _ _ (λv p s' ⟨e1,e2⟩=> ?_) (λ_ _ _ z=>z.elim) _ _ this;subst e1 e2;exact hq p
theorem wE {l:OpenLaw}{n:Nat}{q:Program}{loose:List Str}{XP:(Str->Option Value)->Heap->Prop}{YP:World->Heap->Prop}{d:DefRec}(hn:l.most=some n)(hdf:d.params.defaults=[])
  (call:∀(w:World) (s₀ s₁:Shared) (mg mb:Str->Option Value) (fa:Addr) (o:Obj) (pm cd doc:Value) (a:Addr) (vs:List Value) (ns:List Int),Ground q loose [] XP w s₀ mg mb s₁.heap->YP w s₁.heap->
   s₁.heap.get? fa=some o->o.data= .func (docDef d.name d.params d.body d.scope pm cd doc)->s₁.heap.CodeRec cd d.name->mg d.name=some (.ref fa)->
   s₁.heap.get? a=some { cls:= .type "list",data:= .seq vs.toArray }->IntsAre vs ns->ns.length<=n->s₁.gens= #[]->
   zH (model l.prog w) callerA (.call (.ref fa) ⟨[.ref a],[]⟩) (λr s' =>r= .ok (.ret (.bool true))/\OldK s₁.heap s'.heap/\s'.os=s₁.os/\AllBare s'.gens) s₁):WalkC q loose XP YP l.row.toRowW d []:=by
 intro w s₀ s₁ mg mb G Y fa o pm cd doc dV kV ho hd hcd hD hmg hg args vals as hpre hlay hrd hwl hlo;obtain rfl:dV= .none:=Dflts.none hD hdf;obtain rfl:kV= .none:=Dflts.noKw hD;obtain⟨a,vs,ns,rfl,rfl,hobj,hints,hlen⟩:=Att.script_of hn hpre hwl;refine zY (call w _ _ mg mb fa o pm cd doc a vs ns G Y ho (fd_plain hd) hcd hmg hobj hints hlen hg) λr s' hq=> ?_;obtain⟨rfl,h2,h3,h4⟩:=hq;exact⟨.inl ⟨.bool _,.bool _,[],rfl,λ_=>rfl,.bool _,Att.post_true l _,λ_=>⟨List.Pairwise.nil,λ_ hm=>(nomatch hm)⟩⟩,h2,h3,h4⟩
theorem u7 {c:ClaimW}{tree:List Value->Sem Fin}{w:World}{s:Shared}{free:Addr->Prop}{gens:Prop}{kept:Heap->Prop}(hz:s.asleep)(hgens:s.gens= #[])
  (hspec:∀args,c.pre args=true->WData.layableAll args=true->∀ord:List DictEntry->List DictEntry,(∀l,(ord l).Perm l)->∃vs s₁,layAllW c.records (classAt s.heap) w.params ord args s=some (vs,s₁)/\
    fB (model c.prog w) Γ0 (tree vs) (λfin _ s' =>∃f,fin= .done f/\(c.Ends s args vs s₁ (.ok f) s' /\s'.os=s.os/\AllBare s'.gens/\kept s'.heap)) (λe _ s' =>c.Ends s args vs s₁ (.error e) s' /\s'.os=s.os/\AllBare s'.gens/\kept s'.heap) default s₁):
  c.CallFrom (λvs=>⟨tree vs,.builtin "claim.caller" {},default,[]⟩) w free gens kept s:=by
 intro args hpre hlay ord hord;obtain⟨vs,s₁,hlaid,hcode⟩:=hspec args hpre hlay ord hord;have hal:=layAllW_rest _ _ _ hlaid;obtain⟨k,r,s',s'',hrun,hsched,hfo,hcase,hos,hkp⟩:=yT (prog:=c.prog) (w:=w) (t:=tree vs) (s:=s₁) (R:=λr s' =>c.Ends s args vs s₁ r s' /\s'.os=s.os/\kept s'.heap) (Shared.asleep_of_life hal.2.2.2 hz)
  (ba _ _ _ (by
   rintro fin _ s' ⟨f,e,h1,h2,h3,h4⟩
   exact⟨f,e,⟨h1,h2,h4⟩,leftWithCleanup_false_of_bare h3⟩) (by
   rintro e _ s' ⟨h1,h2,h3,h4⟩
   exact⟨⟨h1,h2,h4⟩,leftWithCleanup_false_of_bare h3⟩) _ _ hcode)
 obtain⟨eh,_,_,eo,_⟩:=Shared.forget_eq hfo;have hcase:=hcase.congr eh;have hkp:kept s'.heap:=by first | exact eh ▸ hkp | (rw[eh]at hkp;exact hkp) | (rw[← eh]at hkp;exact hkp)
 rw[← eo]at hos;have hlife:s'.heap.life=s.heap.life:=(runN_life _ _ _ hrun).trans hal.2.2.2;refine⟨vs,s₁,hlaid,k,_,s',hsched, ?_,(λ_ i x hx=>by rw[hgens]at hx;simp at hx),hkp,by rw[hlife],Shared.rest_eq hos⟩
 rcases hcase with ⟨v,rfl,d1,d2,d3,d4,d5⟩ | ⟨e,ob,cls,rfl,d1,d2,d3,d4,d5⟩
 ·exact .inl ⟨v,rfl,d1,d2,d3,λb o y _=>d4 b o y,d5⟩
 ·exact .inr ⟨e,ob,cls,rfl,d1,d2,d3,d4,λb o y _=>d5 b o y⟩
theorem _root_.CH.PySem.W.holds_open {r:OpenRow}{q:Program}{loose:List Str}{Xt:Shared->Bool}{XP:(Str->Option Value)->Heap->Prop}{α:Type}{Yf:Shared->α}{Ya:World->α}{YP:World->Heap->Prop}{d:DefRec}{kwd:List (Str×Expr)}{N:Nat}
  (left:LeftO r.prog q loose Xt Yf Ya N) (hY:∀w s,Yf s=Ya w->YP w s.heap) (hYk:∀w h h',YP w h->(∀b o,h.get? b=some o->h'.get? b=some o)->YP w h')
  (hX:∀s,Xt s=true->XP (s.heap.nsMap mainGlobals) s.heap) (hXk:∀mg h h',XP mg h->(∀b o,h.get? b=some o->h'.get? b=some o)->XP mg h')
  (hdef:defOf q r.name=some (d,kwd)) (hp:r.prog.theDef r.name=some (d.params,d.body,d.scope)) (hk:kwWritten? d.params.kwonlyargs d.params.kw_defaults=some kwd) (hRf:∀s,Xt s=true->RecFacts r.records s.heap) (hwr:(!r.writes || r.records.isEmpty)=true)
  (k1:r.wellSaid=true) (ok:(chainsOk q && opensWell r.prog && (frees r.toRowW && r.within.isEmpty))=true) (hb:r.prog.bare) (hw:r.toRowW.promised)
  (call:WalkC q loose XP YP r.toRowW d kwd):r.Holds:=by
 refine⟨k1,hw, ?_⟩;obtain⟨ok,k5⟩:=cW.mp ok;obtain⟨hch,o1⟩:=cW.mp ok;obtain⟨k5,k6⟩:=cW.mp k5;obtain⟨hsame,hu,ha,hap,hm⟩:=frees_parts k5;refine⟨⟨hb,o1,by show r.makers.map _=[];rw[hm];rfl⟩,hw.witness,λw=>⟨(left.behind hX hch w).1,λs' hs' => ?_⟩⟩
 obtain⟨s₀,hf,hg0,s,hT,hz,hgens,hg,G00,y⟩:=(left.behind (XP:=λmg h=>XP mg h/\RecFacts r.records h) (λs hs=>⟨hX s hs,hRf s hs⟩) hch w).2 s' hs';have G0:Ground q loose [] XP w s (s.heap.nsMap mainGlobals) (s.heap.nsMap builtinsNs) s.heap:=⟨G00.T,G00.B,G00.D,G00.TE,G00.TD,G00.W,G00.X.1,G00.cls,G00.has,G00.apart,G00.once,G00.K⟩;have RF:=G00.X.2;have hT' :=hT;refine⟨s₀,hf,hg0,s,hT,λn hn=> ?_,RF.1,RF.2.1, ?_⟩
 ·obtain rfl:n=r.name:=by split at hn <;> simp_all
  exact pinned_of_view hg G0 hdef hp hk
 have hgens:s.gens= #[]:=Array.eq_empty_of_size_eq_zero (beq_iff_eq.mp hgens);have G:Ground q loose r.records XP w s _ _ s.heap:=RF.ground G0;refine u7 (c:=r.claim) hz hgens λargs hpre hlay ord hord=> ?_;obtain⟨⟨vs,s₁⟩,hlaid⟩:=bU.mp (layAllW_isSome (P:=w.params) (ord:=ord) G.has args r.args s (pre_splitW hpre).1);have keeps:=layAllW_keeps _ _ _ hlaid;have hal:=layAllW_rest _ _ _ hlaid;obtain⟨as,hrd,hin,hold⟩:=reads_layAllW hord _ _ _ hlaid hlay s₁.heap (λ_ _ e=>e);have L:Laid r.records w s s₁ args vs as:=⟨⟨ord,hord,hlaid⟩,hrd,hin,hold,keeps,hal.1.trans hgens,hal.2.2.1⟩;have G₁:=G.keeps hXk keeps;obtain⟨a,o,pm,cd,doc,dV,kV,h1,h2,h3,h4,h5⟩:=G₁.fn hdef;have hi:=ident_freeW hu ha hap;have hwi:r.claim.within=[]:=List.isEmpty_iff.mp k6;refine⟨vs,s₁,hlaid,yU G₁.T.g h1 (zY (call w s s₁ _ _ G₁ (hYk _ _ _ (hY w s y) keeps) a o pm cd doc dV kV h2 h3 h4 h5 (defOf_name hdef ▸ h1) L.gens args vs as hpre hlay L.reads L.well (L.low G.low)) λres s' g=> ?_)⟩;cases res with
 | error e=>exact have z:=GoodWG.laid (c:=r.claim) hsame hwi hi L g;⟨z.1,z.2.1,z.2.2,λq=>⟨namesKept_of hT' hg _ keeps g.2.1.old,noTable hwr q⟩⟩
 | ok fl=>
  cases fl with
  | ret v=>exact have z:=GoodWG.laid (c:=r.claim) hsame hwi hi L g;⟨_,rfl,z.1,z.2.1,z.2.2,λq=>⟨namesKept_of hT' hg _ keeps g.2.1.old,noTable hwr q⟩⟩
  | next=>exact g.elim
  | brk=>exact g.elim
  | cont=>exact g.elim
end PySem.W
namespace L2
open PySem PySem.Spec PyProof.Rows PySem.W
theorem u8 {P:Program}{w:World}{K:Frag}{mg mb:Str->Option Value}{CX:CXT}{k:Nat}{fa a c Pt:Addr}{fd:FuncData}{x q:Str}{sp:Sp}{s₁:Shared}{vs:List Value}{ns:List Int}
  (KX:K.In s₁.heap) (hns:s₁.heap.Ns mainGlobals mg) (hb:s₁.heap.Ns builtinsNs mb) (hbb:∀x:Str,x ≠ "__name__"->mb x=bootBuiltins x) (hlim:s₁.heap.NoLimit) (hg:s₁.gens= #[])
  (ha:s₁.heap.get? a=some { cls:= .type "list",data:= .seq vs.toArray }) (hi:IntsAre vs ns) (hl:ns.length<=sizeLine) (hr:Z1 k callerA)
  (hbt:s₁.heap.BuiltinsAt mg Pt) (hPt:s₁.heap.get? Pt=some (tabObj #[])) (hKP:K.lookup Pt=none) (hC:codeHdIn K c Pt=true) (hKa:K.lookup a=none)
  (F:∀base:Heap,K.In base->base.BuiltinsAt mg Pt->Zm P w K mg base CX k fa fd [x] sp) (hbind:∀(s:Shared) (u:Value),BindsTo s fd ⟨[u],[]⟩ [(x,u)])
  (hsp:∀(H:Hp) (o:Obj),H a=some (.frz o (.lst (ns.map V.int)))->H Pt=some (.tbl #[] q)->sp [.ref a] H (λv _=>v= .bl true) λ_ _ _=>False)
  (hCX:∀H e s',CX [] H s₁ (λ_ _ _=>False) e s' ->False):
  zH (model P w) callerA (.call (.ref fa) ⟨[.ref a],[]⟩) (λr s' =>r= .ok (.ret (.bool true))/\OldK s₁.heap s'.heap/\s'.os=s₁.os/\AllBare s'.gens) s₁:=by
 have rv:=we hi;have hne:Pt ≠ a:=λz=>by rw[z,ha]at hPt;cases hPt
 obtain⟨H,hH⟩:∃H:Hp,H=upd (upd (λ_=>none) Pt (.tbl #[] q)) a (.frz { cls:= .type "list",data:= .seq vs.toArray } (.lst (ns.map V.int))):=⟨_,rfl⟩;have h1:H a=some (.frz { cls:= .type "list",data:= .seq vs.toArray } (.lst (ns.map V.int))):=by rw[hH,zj]
 have h2:H Pt=some (.tbl #[] q):=by rw[hH,za hne,zj]
 have h3:∀b,b ≠ a->b ≠ Pt->H b=none:=λb n1 n2=>by rw[hH,za n1,za n2]
 have hok:HOk P w H _:=λb o e=>by
  by_cases b1:b=a
  ·subst b1;rw[h1]at e;cases e;exact⟨ha,by rw[aD];exact hl,vs,_,rv,ha⟩
  ·by_cases b2:b=Pt
   ·subst b2;rw[h2]at e;cases e;exact⟨#[],hPt,trivial,λp cv z=>by cases z⟩
   ·rw[h3 b b1 b2]at e;cases e
 have noD:∀{b:Addr} {o:Obj} {es:Array _} {ep:Nat},s₁.heap.get? b=some o->o.data= .dict es ep->H b=none:=λ{b o es ep} e d=>h3 b (λz=>by rw[z,ha]at e;cases e;cases d) λz=>by rw[z,hPt]at e;cases e;cases d
 have nsK:∀{b:Addr} {m:Str->Option _},s₁.heap.Ns b m->(QS _ H).Ns b m:=λ{b m} ⟨o,es,ep,e,d,r⟩=>⟨o,es,ep,Js e (noD e d),d,r⟩;have hKb:=λb o e=>Js (KX b o e) (h3 b (λz=>by rw[z,hKa]at e;cases e) λz=>by rw[z,hKP]at e;cases e)
 have hM:Mod K mg _:=⟨hKb,nsK hns,⟨mb,nsK hb,hbb⟩,let ⟨mc,h1,h2⟩:=hlim;⟨mc,nsK h1,h2⟩⟩;have hBT:(QS s₁.heap H).BuiltinsAt mg Pt:=by
  obtain⟨bm,o,b1,b2,b3,b4,b5,b6,b7,b8⟩:=hbt;exact⟨bm,o,b1,b2,b3,b4,Js b5 (h3 bm (λz=>by rw[z,ha]at b5;cases b5;cases b8) b4),b6,b7,b8⟩
 have e0:uj P w K mg _ callerA [] _ H:=⟨rfl,hM,λb o e=>qc e,eT (uo _ _),trivial,λb hb=>absurd (show b∈([]:List _) from hb) (by simp),hok,.of_eq hg⟩
 refine zY ((F _ hKb hBT).run _ [] _ H _ _ [.ref a] _ _ hr e0 (hbind _ _) (.cons rfl .nil) (hsp H _ h1 h2)) λr s' h=> ?_;cases r with
 | error e=>exact(hCX H e s' h).elim
 | ok fl=>
  cases fl with
  | next=>exact aP h
  | brk=>exact aP h
  | cont=>exact aP h
  | ret u=>
   obtain⟨v,H',os,bare,un,hok',r',qv⟩:=h;have q' :=qv;subst q';obtain rfl:u=Value.bool _:=r';refine⟨rfl,⟨λb o e=> ?_,λb o e=>un.there b o e (by simp)⟩,os,bare⟩
   by_cases b1:b=a
   ·subst b1;have z2:=un.frzs b _ _ h1;obtain⟨e2,_⟩:=hok' b _ z2;rw[ha]at e;cases e;exact .inl e2
   ·by_cases b2:b=Pt
    ·subst b2;obtain⟨more,e2,_⟩:=hok' b _ (un.tbls b _ _ h2);rw[hPt]at e;cases e;exact .inr (.inl ⟨((codeHd_of_K KX hC).tab hPt).isCodeTable,rfl, #[],more,rfl,e2⟩)
    ·exact .inl (un.keep b o e (h3 b b1 b2) (by intro z;exact absurd (show b∈([]:List _) from z) (by simp)) (by simp))
theorem walk_ofTC {l:OpenLaw}{n k:Nat}{q:Program}{loose:List Str}{XP:(Str->Option Value)->Heap->Prop}{YP:World->Heap->Prop}{d:DefRec}{K:Params->Frag}{ts:List Addr}{CX:World->CXT}{sp:World->Addr->Sp}{x nm:Str}
  (hn:l.most=some n) (hn2:n<=sizeLine) (hdf:d.params.defaults=[]) (hr:Z1 k callerA)
  (hY:∀(w:World) (h:Heap),YP w h->(K w.params).In h/\∀P∈ts,h.get? P=some (tabObj #[])) (hKa:∀(w:World) (a:Addr) (o:Obj),(K w.params).lookup a=some o->o.cls ≠ .type "list")
  (F:∀(w:World) (mg:Str->Option Value) (fa:Addr) (h:Heap),(K w.params).In h->h.Ns mainGlobals mg->mg d.name=some (.ref fa)->(∀P∈ts,h.get? P=some (tabObj #[]))->
   ∃(fd:FuncData) (c Pt:Addr),(∀(s:Shared) (u:Value),BindsTo s fd ⟨[u],[]⟩ [(x,u)])/\h.get? Pt=some (tabObj #[])/\(K w.params).lookup Pt=none/\codeHdIn (K w.params) c Pt=true/\
    ∀base:Heap,(K w.params).In base->base.BuiltinsAt mg Pt->Zm l.prog w (K w.params) mg base (CX w) k fa fd [x] (sp w Pt))
  (hsp:∀(w:World) (H:Hp) (a Pt:Addr) (o:Obj) (ns:List Int),ns.length<=n->H a=some (.frz o (.lst (ns.map V.int)))->H Pt=some (.tbl #[] nm)->sp w Pt [.ref a] H (λv _=>v= .bl true) λ_ _ _=>False)
  (hCX:∀(w:World) (H:Hp) (s:Shared) (e:Value) (s' :Shared),CX w [] H s (λ_ _ _=>False) e s' ->False):
  WalkC q loose XP YP l.row.toRowW d []:=by
 refine wE hn hdf λw s₀ s₁ mg mb fa o pm cd doc a vs ns G Y ho hd hcd hmg hobj hints hlen hg=> ?_;obtain⟨KX,hT⟩:=hY w _ Y;obtain⟨fd,c,Pt,hb,hPt,hKP,hC,hF⟩:=F w mg fa _ KX G.T.g hmg hT;obtain⟨bm,ob,b1,b2,b3,b4,b5,b6⟩:=G.T.bmain;have hbP:bm ≠ Pt:=λz=>by rw[z,hPt]at b3;cases b3;cases b4
 have hbG:bm ≠ mainGlobals:=λz=>by
  obtain⟨o,es,ep,e,hd,_⟩:=G.T.g;rw[z,e]at b3;cases b3;rw[hd]at b6;cases b6
 refine u8 KX G.T.g G.T.b G.T.builtins G.T.nolimit hg hobj hints (ay hlen hn2) hr ⟨bm,ob,b1,b2,hbG,hbP,b3,b4,b5,b6⟩ hPt hKP hC ?_ hF hb (λH o h1 h2=>hsp w H a Pt o ns hlen h1 h2) λH e s' =>hCX w H _ e s';cases hk:(K _).lookup a with
 | none=>rfl
 | some o2=>
  have e:=KX a o2 hk;rw[hobj]at e;cases e;exact(hKa w a _ hk rfl).elim
end L2
namespace PySem
open PySem.W PyProof.Rows
section
variable {M:Model}{A:Around}{E:Value->Shared->Prop}{s:Shared}{env:Env}
theorem wF {pos:Pos}{q:Addr}{Q:Value->Shared->Prop}(X:FnAt q s.heap)(h:wpC M A (call (.ref q) []) Q E s):wpC M A (callWith pos (.ref q) [] (backTo pos (starEach [] env)) []) Q E s:=by
 unfold callWith;refine zf (zP (zy (evalArgs_nil3 (z7 (aJ ?_)))));obtain⟨k,hk',L⟩:=keeps_F (M:=M) _ X;simp only[show ((backTo pos (starEach [] env)).any (·.1) || ([]:List (Option Str×Sem Value)).any (·.1.isNone))=false from rfl]
 refine z7 (L.here ?_);have tail:∀{t:Sem Value},wpC M A t Q E s->wpC M A (t >>= λr=>holding [r] point >>= λ_=>pure r) Q E s:=
  λht=>zf (zd ht λr s₂ hr=>zy (a4 (aV (cV (aq hr)))))
 have marked (mk:Value):wpC M A (callMarked mk (.ref q) [] []) Q E s:=by
  intro Γ p hΓ hc;have:=h Γ p hΓ hc;unfold callMarked;rw[Sem.wp_keep];exact this
 rcases hk' with rfl | rfl | rfl <;> dsimp only <;> first | exact tail h | (split <;> first | exact tail h | exact tail (marked _))
end
section
variable {prog:Program}{w:World}{A:Around}{R:Result->Shared->Prop}{s:Shared}
theorem jW {a:Addr}{args:Args}{o:Obj}{fd:FuncData}{body:Expr}(hroom:A.depth < recursionLimit)(ho:s.heap.get? a=some o)
  (hd' :o.data= .func fd) (hco:fd.scope.isCoroutine=false) (hgen:fd.scope.isGenerator=false) (hbody:fd.body= .expr body) (hcd:s.heap.CodeRec fd.code fd.qualname)
  (h:wpAny (model prog w) A.in1 (bindArgs fd args) (λbinds s₁=>wpAny (model prog w) A.in1 (newFunctionEnv fd.scope fd.globals fd.closure binds (fd.qualname++".<locals>.") (some a) fd.code none fd.builtins)
    (λenv s₂=>s₂.heap.NoLimit/\zH (model prog w) A (.expr body env) R s₂) (λe s' =>R (.error e) s') s₁) (λe s' =>R (.error e) s') s):zH (model prog w) A (.call (.ref a) args) R s:=by
 refine zn ?_;show wpC _ A.in1 (callAny (.ref a) args) _ _ s;simp only[callAny];refine zy (a4 (wpAny_load ho ?_));obtain⟨c,oc,vs,tq,hc,hoc,hdc,hq⟩:=hcd;simp only[hd',callFunction,hco,hgen,hbody,hc];rw[hc]at h;refine a4 (m:=field (.ref c) 1) (bo hoc hdc hq (a4 (aq ?_)));exact a4 (aB h (λbinds s₁ h₁=>a4 (aB h₁ (λenv s₂ h₂=>a4 (wpAny_enterFrame h₂.1 hroom (aq (And.intro rfl h₂.2)))) λ_ _ h' =>h')) λ_ _ h' =>h')
end
end PySem
namespace L2
open PySem PySem.Spec PyProof.Rows PySem.W
section
variable {X:Cx}{pins:List (Addr×Obj)}{σ:St}{H:Hp}{s:Shared}
theorem Ww {CX:CXT}{k:Nat}{f:Addr}{fd:FuncData}{ps:List Str}{sp:Sp}{E:XK}{Q:VK}{us:List Value}{vs:List V}(I:Inv X pins σ H s)(F:Zm X.prog X.w X.K X.mg (ya s H (frs X.stack)) CX k f fd ps sp)(hr:Z1 k X.A)(hb:Binds X.K fd ps [])(hx:zO CX X E)
  (r:zM vs us) (h:sp vs H Q E):wpC (model X.prog X.w) X.A (call (.ref f) us) (EP X pins σ Q) X.xe s:=by
 have hl:us.length=ps.length:=by rw[← r.length];exact F.len _ _ _ _ h
 have hb' :=hb s us I.kIn (by rw[aK];exact hl)
 rw[aK]at hb';refine ZY (zY (F.run X.A _ s H _ us vs Q E hr I.big hb' r h) λr s' hq=> ?_);cases r with
 | error e=>exact hx _ σ H s e s' I hq
 | ok fl=>
  cases fl with
  | ret u=>exact I.after hq
  | next=>exact aP hq
  | brk=>exact aP hq
  | cont=>exact aP hq
end
section
variable {P:Program}{w:World}{K:Frag}{mg:Str->Option Value}{base:Heap}{N:List Str}{q:Str}{scope:Scope}{f:Addr}{cd:Value}{clos:List (Str×Addr)}{A:Around}{outer:List Env}{s:Shared}{H:Hp}{E:XK}
theorem Wx {k:Nat}{params:Arguments}{body:Expr}{pm ctv:Value}{c' :Addr}{σ:St}{Q:VK}{te:TE}(S:LSc scope)(hr:Z1 (k+1) A)(e0:uj P w K mg base A outer s H)(C:Wo base H scope clos N σ)
  (hf:H f=some (.frz (yM q params body scope clos pm ctv c') (.own f))) (hc:jS H q c') (hp:bindArgs (kla_fn "<lambda>" q params body scope clos pm (.ref c') ctv) ⟨[],[]⟩=pure [])
  (hb:PEC (cxL P w K mg base N q scope f (.ref c') clos A outer s H E) body te) (ht:te σ H Q):
  zH (model P w) A (.call (.ref f) ⟨[],[]⟩) (CR (CX1 P w) outer P w H s Q E) s:=by
 have lim:=e0.mod.nolimit.keeps λb o e=>(e0.bs b o e).1;refine jW hr.depth (e0.hok f _ hf).1 rfl S.co S.gen rfl (hc.rec e0.hok) ?_;rw[hp];refine aq (wpAny_newFunctionEnv S.nocell (λy hy=>by simp at hy) (λh1 hns hsb=> ?_) S.kind)
 have hk:=λb o e=>hsb.extBut b o (aA (a9 e)) (a7 _ e);refine⟨lim.keeps hk, ?_⟩;have I:=Qg (q:=q) (f:=f) (cd:= .ref c') (E:=E) (tk:=s.toks+([]:List (Str×Value)).length) S hr.hd e0 C hns hk;exact WZ (zT (hb [] _ σ H Q I ht) (λv s' ⟨x,H',J,r,q⟩=>⟨x,H',J.os,J.bare,J.base,J.hok,r,q⟩) λ_ _ z=>z)
end
def YF (X:Cx)(E:XK)(i:Nat)(f:Addr)(o:Obj):TE:=λσ H Q=>σ[i]? =some (some (.ref f))/\H f=some (.frz o (.own f))/\
 ∀s,uj X.prog X.w X.K X.mg X.base X.A X.stack s H->zH (model X.prog X.w) X.A (.call (.ref f) ⟨[],[]⟩) (CR (CX1 X.prog X.w) X.stack X.prog X.w H s Q E) s
theorem yV {X:Cx}{E:XK}{i:Nat}{x:Str}{p pos:Pos}{f c' :Addr}{q:Str}{params:Arguments}{body:Expr}{scope:Scope}{clos:List (Str×Addr)}{pm ctv:Value}(hv:PE X (.Name x p) (yd i))(hx:zO (CX1 X.prog X.w) X E):
  PEC X (.Call (.Name x p) [] [] pos) (YF X E i f (yM q params body scope clos pm ctv c')):=by
 intro pins s σ H Q I ⟨hσ,hf,run⟩;refine zN (thn (hv _ s σ H (λv H' =>v= .ref f/\H' =H) I ⟨_,hσ,rfl,rfl⟩) λu s1 ⟨v,H1,I1,r,e1,e2⟩=> ?_);subst e1 e2;obtain rfl:u=Value.ref f:=r;refine wF ⟨_,_,_,_,(I1.hok f _ hf).1⟩ ?_;refine ZY (zY (run s1 I1.env0) λr s' hq=> ?_);cases r with
 | error e=>exact hx _ σ H1 s1 e s' I1 hq
 | ok fl=>
  cases fl with
  | ret u=>exact I1.after hq
  | next=>exact aP hq
  | brk=>exact aP hq
  | cont=>exact aP hq
theorem yW {X:Cx}{tb:XK->TS}{th:TE}{body:List Stmt}{c n:Str}{C:Addr}{cp hp rp pos:Pos}{i:Nat}{e2:Expr}
  (hX:X.stack=X.env :: X.outer) (hf:X.env.frame=some X.env.locals) (hN:X.N.Nodup) (hi:X.N[i]? =some n) (hl:X.env.scope.names.lookup n=some .local) (hg:Gl X c) (hm:X.mg c=some (.ref C))
  (hb:∀(E' :XK) (pn:List (Addr×Obj)) (xe:Value->Shared->Prop),zO (CX1 X.prog X.w) (X.try' pn xe) E' ->wY (X.try' pn xe) body (tb E'))
  (he:∀ea,PE (X.mark' (.ref ea)) e2 th) (hdc:(c == ("__debug__":Str))=false:=by decide):
  PSC X (.Try body [.ExceptHandler (some (.Name c cp)) (some n) [.Return (some e2) rp] hp] [] [] pos)
   (λD σ H=>∃E' :XK,(∀(cls:Value) (d:Option Addr) (H' :Hp) (ea:Addr) (σ' :St),E' cls d H' ->exmOne X.K cls (.ref C)=some true/\(H' ea=none->σ'.length=σ.length->σ.length=X.N.length->th (σ'.set i (some (.ref ea))) (upd H' ea (.ext (uI cls ea))) D.rt))/\tb E' D σ H):=by
 intro pins s σ H D I ⟨E',hE,hw⟩;have pass:zO (CX1 X.prog X.w) (X.try' (X.pn++pins) λe s1=>wpAny (model X.prog X.w) X.A (noteFrame e X.env) (λ_ s2=>wpAny (model X.prog X.w) X.A (setFlight e none) (λ_ s3=>wpAny (model X.prog X.w) X.A (handleBy e X.env [.ExceptHandler (some (.Name c cp)) (some n) [.Return (some e2) rp] hp]) (SP X pins D) X.xe s3) X.xe s2) X.xe s1) E' :=by
  intro pins' σ' H1 s1 e s' I1 ⟨ea,cls,a0,B,H',he',L,hw'⟩;subst he';have I0:=I1.untry;have fr:X.A.frames=some (X.env :: X.outer):=by rw[← hX];exact I0.ok.frames
  refine wpAny_looks_onW fr hf (hX ▸ L.fly) λh1 held sl1=> ?_;refine wpAny_landsW held λh2 fl2 sl2=> ?_;rw[← hX]at fl2;have sl12:=sl1.trans sl2;have I2:=I0.caught L fl2 sl12;obtain⟨hm1,hD⟩:=hE cls _ H' ea σ' hw';refine WO hm1 ?_;refine Zj (I2.mark' _) hg hm ⟨rfl,I2.kIn,fl2.there, ?_⟩ hdc;refine lands_againW fl2 λh3 fl3 sl3=> ?_;have I3:=I0.caughtX L fl3 (sl12.trans sl3);have hlen:=I0.len;refine ZS (X:=X.mark' (.ref ea)) (I3.mark' _) hN hi (.inl hl) (v:= .ref ea) rfl (λs4 I4=> ?_) (.inr hl);have hs1:=uu (Yk (pos:=rp) (he ea));have hr:=hs1 _ s4 _ _ { nx:=λ_ _=>False,rt:=D.rt } I4 (hD L.fresh (hlen.trans I.len.symm) I.len);refine aB hr (λf s5 h5=> ?_) λ_ _ z=>z;cases f with
  | next=>obtain⟨_,_,_,z⟩:=h5;exact z.elim
  | brk=>obtain⟨_,_,_,z⟩:=h5;exact z.elim
  | cont=>obtain⟨_,_,_,z⟩:=h5;exact z.elim
  | ret u=>
   obtain⟨v,σ5,H5,I5,r5,q5⟩:=h5;refine qB (I5.unmark I.ok.hd) hN hi hl λs6 I6=> ?_;exact⟨v,_,_,I6,r5,q5⟩
 have hr:=hb E' _ _ pass [] s σ H D (I.try' _) hw;refine Kc (zT hr (λf s1 h1=> ?_) λ_ _ z=>z);have h1:=h1.untry;cases f with
 | next=>exact zy (bG h1)
 | brk=>exact h1
 | cont=>exact h1
 | ret u=>exact h1
section
variable {P:Program}{w:World}{K:a6}{mg:Str->Option Value}{base:Heap}
theorem Fun.okC {x qual:Str}{st:Stmt}{f:Addr}{fd:FuncData}{N ps:List Str}{k:Nat}{sp:Sp}(F:Fun K x qual st f fd)(S:zX N ps (z6 st))(len:∀vs H Q E,sp vs H Q E->vs.length=ps.length)
  (hbody:∀(cdv:Value) (A:Around) (outer:List Env) (s:Shared) (H:Hp) (vs:List V) (Q:VK) (E:XK),Z1 k (A.deeper (envOfC qual (z6 st) s.heap.objs.size f cdv))->sp vs H Q E->
   ∃t,wY (zU CX0 P w K mg base N qual (z6 st) f cdv A outer s H E).nox (zq st) t/\t { nx:=λ_ H' =>Q .non H',rt:=Q } (start N vs) H):Zm P w K mg base CX0 (k+1) f fd ps sp:=by
 obtain⟨oc,od,kV,doc,pm,an,cdv,ct,osl,rfl,lk,hcd⟩:=F.ex;refine Uo lk hcd S len λA outer s H vs Q E hr hsp=> ?_;obtain⟨t,h,q⟩:=hbody cdv A _ s H vs Q E hr hsp;exact⟨t,λpins s σ H D I hw=>zT (h _ s σ H D (I.wish _) hw) (λ_ _ q=>q.unwish) λ_ _ z=>aP z,q⟩
end
end L2
namespace PV
open PySem PySem.Spec PyProof.Rows L2 PySem.W
def KZ (P:Program)(w:World)(K:Frag)(mg:Str->Option Value)(base:Heap)(cl:Nat->Value)(ok:Nat->Bool)(gx:Nat->R T)(k:Nat)(f:Addr)(o:Obj)(B:Hp)(r:R T):Sp:=λvs H Q E=>vs=[V.ref f]/\H f=some (.frz o (.own f))/\zc B H/\Po ⟨B,H,E,cl,[]⟩ rC B H (jy ok gx r) Q/\
 ∀(A:Around) (outer:List Env) (s:Shared) (E' :XK) (Q' :VK),Z1 (k+1) A->uj P w K mg base A outer s H->Po ⟨B,H,E',cl,[]⟩ rC B H r Q' ->zH (model P w) A (.call (.ref f) ⟨[],[]⟩) (CR (CX1 P w) outer P w H s Q' E') s
def W0 (P:Program)(w:World)(K:Frag)(mg:Str->Option Value)(cl:Nat->Value)(ok:Nat->Bool)(gx:Nat->R T)(k:Nat)(ft:Addr)(fdt:FuncData)(d:Str):Prop:=
 ∀(base:Heap) (f c' :Addr) (q:Str) (params:Arguments) (body:Expr) (scope:Scope) (clos:List (Str×Addr)) (pm ctv:Value) (B:Hp) (r:R T),K.In base->Zm P w K mg base CX0 (k+2) ft fdt [d] (KZ P w K mg base cl ok gx k f (yM q params body scope clos pm ctv c') B r)
section
variable {X:Cx}{Y:Fx}
theorem Qr {cl:Nat->Value}{ok:Nat->Bool}{gx:Nat->R T}{kE k:Nat}{x d q:Str}{c P ft:Addr}{fdt:FuncData}{params:Arguments}{body:Expr}{scope:Scope}{lp p pos:Pos}{js:List Nat}{fe:En->R T}(hy:Y.cl=cl)(L:Lm X c P q)(hT:Y.H0 P=some (.tbl #[] q))(hfn:∀x,X.fn x=true)
  (O:W0 X.prog X.w X.K X.mg cl ok gx kE ft fdt d) (hr:Z1 k X.A) (hj:kE+2<=k) (gl:Gl X x) (mg:X.mg x=some (.ref ft)) (kp:keepIn X.K (.ref ft)=true) (bd:L2.Binds X.K fdt [d] [])
  (N' N:List Str) (sc0:Scope) (hN:X.N=N) (h0:X.env.scope=sc0) (hck:(yD scope sc0 && U7 N N' scope sc0 0 js)=true) (hco:scope.isCoroutine=false) (hge:scope.isGenerator=false)
  (hb:∀(base:Heap) (A:Around) (outer:List Env) (s:Shared) (H:Hp) (E:XK) (f c' :Addr) (clos:List (Str×Addr)) (Y' :Fx),X.K.In base->Y'.cl=cl->Y'.E=E->Z1 kE (A.deeper (envX q scope s.heap.objs.size f (.ref c') clos))->ZD (cxL X.prog X.w X.K X.mg base N' q scope f (.ref c') clos A outer s H E) Y' body fe)
  (hp:∀(clos:List (Str×Addr)) (pm cd ctv:Value),bindArgs (kla_fn "<lambda>" q params body scope clos pm cd ctv) ⟨[],[]⟩=pure []:=by intros;rfl) (hdef:defaultsOf params X.env=([],[]):=by rfl) (hd:(x == ("__debug__":Str))=false:=by decide):
  ZD X Y (.Call (.Name x p) [.Lambda params body scope lp] [] pos) (jT js ok gx fe):= .mk λρ=>by
 intro pins s σ H Q I ⟨B,J,po⟩;subst hy;rw[ah]at hck;have CS:=Wm sc0 h0 hck.1;have CP:=jR N sc0 hN h0 hck.2;have S:LSc _:=⟨CS.kind,hco,hge,CS.nocell⟩;obtain⟨clos,ecl,hcl,hcf⟩:=JA λx hx hf=>I.ok.has x.1 (CS.fre x hx hf);refine zN (Zj I gl mg ?_ hd);have hP:=J.sH _ _ hT;have hpa:=zo (YB (body:=body) (pos:=lp) L hdef ecl) zK (st1 rfl) pos _ s σ H (λvs H1=>∃f c' pm ctv,vs=[V.ref f]/\zc H H1/\H1 f=some (.frz (yM q _ _ _ _ pm ctv c') (.own f))/\jS H1 q c') I ⟨hP,λf c' pm ctv H' s1 hf hc=>⟨f,c',pm,ctv,rfl,s1,hf,hc⟩⟩;refine ZL kp (zd (zy hpa) λus s1 ⟨vs,H1,I1,r,f,c',pm,ctv,e,sm,hf,hc⟩=>⟨I1.kIn, ?_⟩) (st1 rfl) rfl;subst e;have J1:=J.grow sm;refine Ww (E:=Y.E) I1 (O _ f c' q _ _ _ _ pm ctv _ (fe (Jd 0 js ρ)) I1.big.mod.kin) (hr.mono hj) bd Q2 r ⟨rfl,hf,J1.sB, ?_,λA outer s2 E' Q' hrm e0 q' => ?_⟩
 ·have po:Po Y rC B H (jy ok gx _) Q:=po;revert po;cases jy ok gx _ with
  | bad=>exact λz=>z
  | ex c2=>exact λz d H' a b=>z d H' ((J.sH.trans sm).trans a) ((zv.ge J.sB sm).trans b)
  | ok t=>exact λz b H2 s2 rb=>z b H2 (sm.trans s2) (by rw[← zv.trans sm s2];exact rb)
 ·refine Wx (te:=tS _ rC fe _) S hrm e0 (Vr I1 hfn hcl hcf CP) hf hc (hp _ pm _ ctv) ?_ ⟨_,J1.blockS 0 js E' (zc.refl _),q'⟩;exact(hb _ A _ s2 H1 E' f c' _ ⟨zv B H H1,H1,E',Y.cl,[]⟩ e0.mod.kin rfl rfl (hrm.deeper _)).go _
end
section
variable {P:Program}{w:World}{K:a6}{mg:Str->Option Value}{base:Heap}
theorem Qs {cl:Nat->Value}{x qual q:Str}{st:Stmt}{f c Pt:Addr}{fd:FuncData}{N ps:List Str}{k n:Nat}{fb:En->RS}{g:List T->R T}(F:Fun K x qual st f fd)(hc:fd.code= .ref c)(S:zX N ps (z6 st))(hn:n=ps.length)
  (hb:∀(A:Around) (outer:List Env) (s:Shared) (H:Hp) (E:XK) (Y:Fx),Y.cl=cl->Y.E=E->Y.H0 Pt=some (.tbl #[] q)->Z1 k (A.deeper (envOfC qual (z6 st) s.heap.objs.size f (.ref c)))->
   jV (zU (CX1 P w) P w K mg base N qual (z6 st) f (.ref c) A outer s H E) Y (zq st) fb)
  (hg:∀ts,ts.length=n->g ts=zC (fb (en0 N.length ts))):Zm P w K mg base (CX1 P w) (k+1) f fd ps (YC cl n g Pt q):=by
 subst hn;obtain⟨oc,od,kV,doc,pm,an,cdv,ct,osl,rfl,lk,hcd⟩:=F.ex;obtain rfl:cdv= .ref c:=hc;refine Uo lk hcd S (λvs H Q E z=>spP.len vs H Q E z.2) λA outer s H vs Q E hr ⟨hT,B,ts,hl,sB,r,q⟩=> ?_;refine⟨_,(hb A _ s H E ⟨B,H,E,cl,[]⟩ rfl rfl hT hr).go _,B,SI.start sB r, ?_⟩;rw[hg ts hl]at q;revert q;cases fb _ with
 | rt t=>exact λq v H' s r=>q v H' s r
 | rf t=>exact λq a xs H' B' s0 n e r _ l=>q _ H' s0 (.lst (by rw[zD n];exact e) (r.mono l))
 | nx ρ=>exact λq σ' H' B' _ I=>q _ H' I.sH .non
 | ex c=>exact λq=>q
 | bk ρ=>exact λq=>q.elim
 | ct ρ=>exact λq=>q.elim
 | bad=>exact λq=>q
end
end PV
namespace PySem
open PySem.W PyProof.Rows
section
variable {M:Model}{A:Around}{E:Value->Shared->Prop}{s:Shared}{env:Env}
theorem W1 {c:Code}{R:Result->Shared->Prop}(hq:c.quiet=true)(I:Nat->Shared->Prop)
  (turn:∀n s,I n s->wpC M (A.under c) (M.den c) (λfin s' =>match fin with | .done f=>R (.ok f) s' | .again c' =>(c' =c/\∃m,m < n/\I m s')\/(c'.quiet=true/\zH M A c' R s')) (λe s' =>R (.error e) s') s)
  (n:Nat) (h:I n s):zH M A c R s:=by
 induction n using fu generalizing s with
 | ind n ih=>
  refine zn (zd (turn n s h) λfin s' hf=> ?_);cases fin with
  | done f=>exact hf
  | again c' =>
   rcases hf with ⟨rfl,m,hm,hI⟩ | hf
   ·exact⟨hq,ih m hm hI⟩
   ·exact hf
theorem Qt {c:Code}{Q:Flow->Shared->Prop}(hc:zH M A c (λr s' =>match r with | .ok f=>Q f s' | .error e=>cameBackBy M A env E e s') s):wpC M A (runOwn c env none) Q E s:=by
 unfold runOwn;exact Z5 (Ut hc (by intro x;cases x))
theorem g6 {target iter body orelse pos}{Q:Flow->Shared->Prop}(h:wpAny M A (eval iter env) (λx s₁=>wpAny M A (pyIter x) (λit s₂=>zH M A (.forLoop target it body orelse env) (λr s' =>match r with | .ok f=>Q f s' | .error e=>cameBackBy M A env E e s') s₂) E s₁) E s)
  (hs:∀x,foldedSetIterable iter env x=pure x):wpC M A (exec (.For target iter body orelse pos) env) Q E s:=by
 rw[exec_For];exact z7 (aJ (z7 (aB h (λx s₁ h₁=>z7 (wpAny_of_eq (hs x) (z7 (aJ (z7 (aV (aB h₁ (λit s₂ h₂=>Qt h₂) λ_ _ h' =>h'))))))) λ_ _ h' =>h')))
end
section
variable {prog:Program}{w:World}{A:Around}{E:Value->Shared->Prop}{s:Shared}
theorem JL {R:Result->Shared->Prop}{target it body orelse env}(I:Nat->Shared->Prop)
  (turn:∀n s,I n s->wpAny (model prog w) A (pyNext it) (λr s₁=>match r with
   | none=>wpAny (model prog w) A (execs orelse env) (λf s₃=>R (.ok f) s₃) (notedBy (model prog w) A env λe s' =>R (.error e) s') s₁
   | some v=>wpAny (model prog w) A (letOwnedTupleGo target it v) (λ_ s₁' =>wpAny (model prog w) A (assign target env v) (λ_ s₂=>wpC (model prog w) A (execs body env) (λf s₃=>match f with
      | .next | .cont=>∃m,m < n/\I m s₃
      | .brk=>R (.ok .next) s₃
      | .ret v=>R (.ok (.ret v)) s₃) (notedBy (model prog w) A env λe s' =>R (.error e) s') s₂) (notedBy (model prog w) A env λe s' =>R (.error e) s') s₁') (notedBy (model prog w) A env λe s' =>R (.error e) s') s₁) (notedBy (model prog w) A env λe s' =>R (.error e) s') s)
  (n:Nat) (h:I n s):zH (model prog w) A (.forLoop target it body orelse env) R s:=by
 refine W1 rfl I (λn s hI=> ?_) n h;show wpC _ A ((forTurn target it body orelse env).onRaise (λx=>do noteFrame x env;theTreesLotGoes x)) _ _ s
 refine wA ?_;simp only[forTurn];refine z7 (aJ (z7 (wpAny_onRaise (aB (turn n s hI) (λr s₁ h₁=> ?_) λ_ _ h' =>aJ h'))));cases r with
 | none=>exact zp (.inr ⟨rfl,Wr (codeAny_block h₁)⟩)
 | some v=>
  refine z7 (aB h₁ (λ_ s₁' h₁' => ?_) λ_ _ h' =>h');refine z7 (aB h₁' (λ_ s₂ h₂=>zf (zd h₂ λf s₃ h₃=> ?_)) λ_ _ h' =>h');cases f with
  | next=>exact zp (.inl ⟨rfl,h₃⟩)
  | cont=>exact zp (.inl ⟨rfl,h₃⟩)
  | brk=>exact zp h₃
  | ret v=>exact zp h₃
end
end PySem
namespace L2
open PySem PySem.Spec PyProof.Rows
section
variable {X:Cx}{tg:Expr}
theorem Qu {iter:Expr}{body:List Stmt}{wi:TI}{g:TG}{tb:TS}{pos:Pos}(hp:PassesOwn (model X.prog X.w) X.A X.env X.xe)(hc:X.calm=true)(hi:PI X tg iter wi)(hg:PG X tg g)(hb:wY X body tb)
  (hs:∀x,foldedSetIterable iter X.env x=pure x:=by intro _;rfl):PSC X (.For tg iter body [] pos) (K4 wi g tb):=by
 intro pins s σ H D I h;refine g6 (thn (hi _ s σ H _ I h) λv s1 h1=>thn h1 λitv s2 h2=> ?_) hs;obtain⟨it,fp,tn,J,H2,e,I2,T,st2,f2,W,⟨m0,w0⟩,turn⟩:=h2;subst e;have stat:∀{H' :Hp},(∀b∈fp,H' b=none)->∀b∈fp,J6 X _ H' b:=λhn b hb=>⟨hn b hb,(f2 b hb).2⟩;refine JL (λn s' =>∃i σ' H',Inv X _ σ' H' s' /\tn i s'.heap/\(∀b∈fp,H' b=none)/\W i n σ' H') ?_ m0 ⟨0,σ,H2,I2,st2,λb hb=>(f2 b hb).1,w0⟩
 rintro n s3 ⟨i,σ3,H3,I3,st3,fr3,w3⟩
 rcases turn i n σ3 H3 w3 with ⟨stop,qn⟩ | ⟨go,N,hN,step⟩
 ·refine bx hp (thn (T.done X rfl rfl rfl hc i _ s3 σ3 H3 _ I3 (stat fr3) st3 stop) λr s4 ⟨hr,I4⟩=> ?_);subst hr;exact bG ⟨σ3,H3,I4,qn⟩
 ·refine bx hp (thn (T.item X rfl rfl rfl hc i _ s3 σ3 H3 _ I3 (stat fr3) st3 go) λr s4 ⟨u,hr,h4⟩=> ?_);subst hr;refine bx hp (thn h4 λ_ s5 ⟨x,H5,I5,r5,y5,st5,fr5⟩=> ?_);have I5' :=I5.pinned (stat fr5) (T.obj _ _ st5);refine bx hp (thn (hg _ s5 σ3 H5 x u _ I5' r5 (step x H5 y5)) λ_ s6 ⟨σ6,H6,I6,q6⟩=> ?_);refine zT (hb _ s6 σ6 H6 _ I6 q6) (λf s7 q7=> ?_) hp;have again:∀{σ7:St} {H7:Hp},Inv X (pins++w4 fp _) σ7 H7 s7->N σ7 H7->∃m,m < n/\∃i σ' H',Inv X _ σ' H' s7/\tn i _/\(∀b∈fp,H' b=none)/\W i m σ' H' :=λ{σ7 H7} I7 n7=>by
   obtain⟨m',hm,w7⟩:=hN σ7 H7 n7;refine⟨m',hm,i+1,σ7,H7,I7.unpinned,T.keep _ _ _ st5 λb hb o e=>(I7.pin _ (am _ (am _ (zQ hb e)))).1,λb hb=> ?_,w7⟩;obtain⟨o,e,d⟩:=T.obj _ _ st5 b hb;exact(I7.pin _ (am _ (am _ (zQ hb e)))).2.1
  cases f with
  | next=>obtain⟨σ7,H7,I7,n7⟩:=q7;exact again I7 n7
  | cont=>obtain⟨σ7,H7,I7,n7⟩:=q7;exact again I7 n7
  | brk=>obtain⟨σ7,H7,I7,q7⟩:=q7;exact⟨σ7,H7,I7.unpinned,q7⟩
  | ret v=>obtain⟨x7,σ7,H7,I7,r7,q7⟩:=q7;exact⟨x7,σ7,H7,I7.unpinned,r7,q7⟩
end
section
variable {X:Cx}{a b:Expr}{ta tb:TE}{pos:Pos}
theorem yX {op:CmpOp}{r:R2}(ho:OpR X (compareOp op) r)(ha:PEC X a ta)(hb:PEC X b tb)(h1:behindInMarks op b=false):PEC X (.Compare a [op] [b] pos) (tOp r ta tb):=by
 intro pins s σ H Q I h;refine wB (zd (ha _ s σ H _ I h) λv s1 ⟨x,H1,I1,r1,q1⟩=> ?_) h1;refine zd (hb _ s1 σ H1 _ I1 q1) λu s2 ⟨y,H2,I2,r2,q2⟩=> ?_;exact ho _ s2 σ H2 x y v u Q I2 r1 r2 q2
theorem yY {op:CmpOp}{r:R2}(ho:OpR X (compareOp op) r)(ha:PEC X a ta)(hb:PEC X b tb)(hm:behindInMarks op b=false):PTC X (.Compare a [op] [b] pos) (qi (tOp r ta tb)):=by
 intro pins s σ H Q I h;refine ZK (zd (ha _ s σ H _ I h) λv s1 ⟨x,H1,I1,r1,q1⟩=>zd (hb _ s1 σ H1 _ I1 q1) λu s2 ⟨y,H2,I2,r2,q2⟩=>
  thn (ho _ s2 σ H2 x y v u _ I2 r1 r2 q2) λc s3 ⟨z,H3,I3,r3,k,e,q3⟩=> ?_) hm
 subst e;cases r3;exact aZ ⟨H3,I3,q3⟩
end
end L2
namespace PV
open PySem PySem.Spec PyProof.Rows L2 PySem.W
section
variable {X:Cx}{Y:Fx}{a b c d tg:Expr}{fa fb fc fd:En->R T}{pos p:Pos}
theorem Vx {iter:Expr}{sts:List Stmt}{fi:En->R (List T)}{g:T->En->R En}{fb:En->RS}(hp:PassesOwn (model X.prog X.w) X.A X.env X.xe)(hc:X.calm=true)(hi:wj X Y tg iter fi)(hg:V6 X Y tg g)(hb:jV X Y sts fb)
  (hs:∀x,foldedSetIterable iter X.env x=pure x:=by intro _;rfl):Je X Y (.For tg iter sts [] pos) (Yx fi g fb):= .mk λρ=>by
 obtain⟨tG,hG,hG'⟩:=hg;refine PSC.imp (Qu (tb:=λD σ H=>∃ρ',tSS Y fb ρ' D σ H) hp hc (hi ρ) hG (λpins s σ H D I ⟨ρ',q⟩=>hb.go ρ' _ s σ H D I q) hs) λD σ H ⟨B,I,q⟩=> ?_;refine Jb I q λts J H1 _ s1 r1 I1 q1=> ?_;refine⟨λi m σ' H' =>m=ts.length - i/\i<=ts.length/\∃ρ' B',SI Y B' ρ' σ' H' /\zc _ B' /\PoS Y B' (Jc g fb (ts.drop i) ρ') D,⟨ts.length,by simp,bR _,ρ,_,I1,zc.refl _,q1⟩, ?_⟩
 rintro i m σ' H' ⟨rfl,hi,ρ',B',I',sB',q'⟩
 obtain⟨hgo,hyld,hstop⟩:=r1 B' H' sB' I'.sB
 by_cases hlt:i < ts.length
 ·refine .inr ⟨hgo i hlt,λσ2 H2=>∃ρ2 B2,SI Y B2 ρ2 σ2 H2/\zc _ B2/\PoS Y B2 _ D,λσ2 H2 ⟨ρ2,B2,I2,s2,q2⟩=>⟨ts.length - (i+1),by omega,rfl,hlt,ρ2,B2,I2,s2,q2⟩,λx H2 y=> ?_⟩
  obtain⟨s2,r2⟩:=hyld i _ x H2 (aF hlt) y;rw[bi hlt]at q';unfold Jc at q';refine hG' _ ρ' σ' H2 x _ _ (I'.grow s2) r2 ?_;cases eg:g _ ρ' with
  | bad=>rw[eg]at q';exact q'
  | ex c=>rw[eg]at q';exact q'
  | ok ρ1=>
   rw[eg]at q';intro σ1 J1;refine⟨ρ1,_,J1, ?_⟩;have q2:=PoS.up (zv.ge I'.sB s2) q';dsimp only at q2;have s3:=sB'.trans (zv.ge I'.sB s2);revert q2;cases fb ρ1 with
   | nx ρ2=>exact λq2 σ3 H3 B3 s4 I3=>⟨ρ2,B3,I3,s3.trans s4,PoS.up s4 q2⟩
   | ct ρ2=>exact λq2 σ3 H3 B3 s4 I3=>⟨ρ2,B3,I3,s3.trans s4,PoS.up s4 q2⟩
   | bk ρ2=>exact λq2=>q2
   | rt t=>exact λq2=>q2
   | rf t=>exact λq2=>q2
   | ex c=>exact λq2=>q2
   | bad=>exact λq2=>q2
 ·have e:i=ts.length:=by omega
  subst e;rw[cR]at q';exact .inl ⟨hstop _ (ag _),q' σ' H' B' (zc.refl _) I'⟩
end
section
variable {X:Cx}
theorem u9 {tg iter elt:Expr}{ifs:List Expr}{scope:Scope}{pos pos' :Pos}{N' :List Str}{k:Nat}{js:List Nat}{wi:TI}{g:TG}{tt:TT}{te:TE}{use:Option (Value->Sem Unit)}(S:CSd X scope)(CP:yy X scope N' k js)(hc:X.calm=true)
  (hi:PI X tg iter wi) (hg:Ui X scope N' λXC=>PG XC tg g) (ht:Ui X scope N' λXC=>PIf XC ifs tt) (he:Ui X scope N' λXC=>PEC XC elt te) {pins:List (Addr×Obj)} {σ:Sg} {H:Hp} {s:Shared} {Q:Value->Shared->Prop} {F:Addr->Hp->Prop} (I:L2.Inv X pins σ H s)
  (h:wi σ H λJ H1=>∀D,H1 D=none->∃W,(∃m,W 0 m [] (ja k js σ) (upd H1 D (.lst [])))/\wm J D g tt te (λ_ H' =>F D H') W)
  (hQ:∀D C H' s',L2.Inv X pins σ H' s' ->F D H' ->H' C=none->(X.s₀.heap.objs.size<=C)->C ≠ X.env.locals->(∀x c,X.env.cells.lookup x=some c->c ≠ C)->(∀p∈X.pn++pins,p.1 ≠ C)->(∃m,s'.heap.Ns C m)->compPost (model X.prog X.w) X.A X.xe use Q (.ref D) C (.ok .next) s')
  (hs:∀x,foldedSetIterable iter X.env x=pure x:=by intro _;rfl):
  wpC (model X.prog X.w) X.A (comprehension (.ListComp elt [⟨tg,iter,ifs,0⟩] scope pos) scope X.env pos' (newList []) false (eval iter X.env) use) Q X.xe s:=by
 obtain⟨cl,ecl,hcl,hcf⟩:=JA (scope:=scope) (env:=X.env) λx hx hf=>I.ok.has x.1 (S.fre x hx hf);refine Z6 rfl hs ecl S.kind (λx hx hl=>by rw[S.can x hx,hl]) ?_
 refine thn (hi pins s σ H _ I h) λv s1 h1=>thn h1 λitv s2 h2=> ?_;obtain⟨it,fp,tn,J,H2,e,I2,TJ,st2,f2,q2⟩:=h2;subst e;refine bQ ?_;have hD:=I2.hok.fresh (ag _);have I3:L2.Inv X pins σ (upd H2 s2.heap.objs.size (.lst [])) { s2 with heap:=s2.heap.push { cls:= .type "list",data:= .seq _ } }:=
  I2.laid (t' :=s2.toks) (λb u e=>a7 _ e) (ag _) ⟨bR _,[],_,.nil,ao _ rfl⟩
 obtain⟨W,⟨m0,w0⟩,turn⟩:=q2 s2.heap.objs.size hD;have f3:∀b∈fp,J6 X pins (upd H2 s2.heap.objs.size (.lst [])) b:=λb hb=>by
  obtain⟨o,eo,_⟩:=TJ.obj _ _ st2 b hb;exact⟨by rw[za (aA (a9 eo))];exact(f2 b hb).1,(f2 b hb).2⟩
 have o3:∀b∈fp,∃o,(s2.heap.push { cls:= .type "list",data:= .seq ([]:List Value).toArray }).get? b=some o:=λb hb=>by
  obtain⟨o,eo,_⟩:=TJ.obj _ _ st2 b hb;exact⟨o,a7 _ eo⟩
 have t3:tn 0 (s2.heap.push { cls:= .type "list",data:= .seq ([]:List Value).toArray }):=TJ.keep _ _ _ st2 λb hb o e=>a7 _ e;refine Qi ?_;generalize hD' :s2.heap.objs.size=D at*;generalize hH:upd H2 D (.lst [])=H3 at*;generalize hG:({ s2 with heap:=s2.heap.push _ }:Shared)=s3 at*;have hg3:s2.heap.push { cls:= .type "list",data:= .seq ([]:List Value).toArray }=s3.heap:=by rw[← hG]
 rw[hg3]at o3 t3;have k4:∀b o,s3.heap.get? b=some o->(pushCells (s3.heap.push { cls:= .type "dict",data:= .dict #[] }) scope.names).get? b=some o:=λb o e=>pushCells_keeps _ _ b o (a7 _ e);have IC:=WV (N' :=N') (cl:=cl) (fp:=fp) (σ' :=ja k js σ) (tk:=s3.toks) I3 S hc hcl hcf f3 o3 (dS ..) (λb o e=>a7 _ e) rfl ((Heap.Ns.new _ _).keeps (pushCells_keeps _ _)) k4 (by unfold ja;simp[CP.len]) (λi x v h1 h2=>by
  unfold ja at h2
  by_cases hik:i < k
  ·rw[aL (by simpa using hik),aw,if_pos hik]at h2
   cases h2
  ·have hk' :=by omega
   rw[aG (by simpa using hk'),aR,av]at h2
   cases ej:js[i - k]? with
   | none=>rw[ej]at h2;cases h2
   | some j=>
    rw[ej]at h2;obtain⟨y,e1,e2,e3,e4,e5⟩:=CP.cap _ j ej;have:k+(i - k)=i:=by omega
    rw[this,h1]at e1;cases e1;refine⟨j,e2, ?_,e3,e4,e5⟩;have h2' :some ((σ[j]?).getD _)=some _:=h2;cases ez:σ[j]? with
    | none=>rw[ez]at h2';cases h2'
    | some z=>rw[ez]at h2';exact congrArg _ (ak h2'))
 generalize hXD:cxD X _ N' cl _ s3 H3 fp _=XD at IC;have TC:uv XD.prog XD.w XD.K tg J fp it tn:=by rw[← hXD];exact TJ
 have t4:=TJ.keep _ _ _ t3 λb hb o e=>k4 b o e;have fC:∀b∈fp,J6 XD [] H3 b:=λb hb=>by
  obtain⟨q0,q1,q2,q3,q4,q5⟩:=f3 b hb;obtain⟨o,eo⟩:=o3 b hb;rw[← hXD];refine⟨q0,aA (a9 eo),λhb' => ?_,.inl hb,λx c e=> ?_,λp hp=> ?_⟩
  ·rcases aj.mp (I3.stkSub b hb') with z | z
   ·exact q1 z
   ·exact q2 z
  ·rcases Wp _ _ _ e with ⟨_,z⟩ | z
   ·exact λq=>absurd (a9 eo) (by rw[← q];exact dC.mpr (c7 z))
   ·exact q4 x c (hcl _ _ z)
  ·exact q5 p (by
    have:=hp;rwa[aK]at this)
 have fin:∀(s5:Shared) (σ5:Sg) (H5:Hp),L2.Inv XD [] σ5 H5 s5->F D H5->compPost _ X.A _ use Q _ _ _ s5:=λs5 σ5 H5 I5 q5=>by
  subst hXD;have J5:=I3.call' I5.os I5.base I5.hok I5.bare λb hb=>by
   obtain⟨q0,q1,q2,q3,q4,q5⟩:=f3 b hb;exact⟨q3,q1,q4,q5⟩
  refine hQ _ _ H5 s5 J5 q5 I5.free I3.sz (ce I3.lt) (λx c e z=> ?_) (λp hp z=> ?_) (let ⟨m,hm,_⟩:=I5.loc;⟨m,hm⟩)
  ·obtain⟨v',o,eo,_⟩:=I3.cell x c e;exact absurd (a9 eo) (by rw[z];exact aN _)
  ·exact absurd (a9 (I3.pin p hp).1) (by rw[z];exact aN _)
 have hxe:XD.xe=λ_ _=>False:=by rw[← hXD];rfl
 have loop:=Jp (iter:=iter) (scope:=scope) (pos:=pos) (λ_ _ z=>by rw[hxe]at z;exact z.elim) (by rw[← hXD];exact hc) TC (hXD ▸ hg cl _ _ _ _ _) (hXD ▸ ht cl _ _ _ _ _) (hXD ▸ he cl _ _ _ _ _) W turn fin w0 IC t4 fC
 subst hXD;exact Z3 loop (TJ.self _ _ _ _ _ t4 loop)
end
section
variable {X:Cx}{Y:Fx}
theorem yZ {cl:Nat->Value}{ok:Nat->Bool}{gx:Nat->R T}{kE k:Nat}{x d q:Str}{c P ft:Addr}{fdt:FuncData}{params:Arguments}{body:Expr}{scope:Scope}{lp p pos:Pos}{js:List Nat}{fe:En->R T}(hy:Y.cl=cl)(L:Lm X c P q)(hT:Y.H0 P=some (.tbl #[] q))(hfn:(scope.names.all λx=>x.2 != .free || X.fn x.1)=true)
  (O:W0 X.prog X.w X.K X.mg cl ok gx kE ft fdt d) (hr:Z1 k X.A) (hj:kE+2<=k) (gl:Gl X x) (mg:X.mg x=some (.ref ft)) (kp:keepIn X.K (.ref ft)=true) (bd:L2.Binds X.K fdt [d] [])
  (N' N:List Str) (sc0:Scope) (hN:X.N=N) (h0:X.env.scope=sc0) (hck:(yD scope sc0 && U7 N N' scope sc0 0 js)=true) (hco:scope.isCoroutine=false) (hge:scope.isGenerator=false)
  (hb:∀(base:Heap) (A:Around) (outer:List Env) (s:Shared) (H:Hp) (E:XK) (f c' :Addr) (clos:List (Str×Addr)) (Y' :Fx),X.K.In base->Y'.cl=cl->Y'.E=E->Z1 kE (A.deeper (envX q scope s.heap.objs.size f (.ref c') clos))->ZD (cxL X.prog X.w X.K X.mg base N' q scope f (.ref c') clos A outer s H E) Y' body fe)
  (hp:∀(clos:List (Str×Addr)) (pm cd ctv:Value),bindArgs (kla_fn "<lambda>" q params body scope clos pm cd ctv) ⟨[],[]⟩=pure []:=by intros;rfl) (hdef:defaultsOf params X.env=([],[]):=by rfl) (hd:(x == ("__debug__":Str))=false:=by decide):
  ZD X Y (.Call (.Name x p) [.Lambda params body scope lp] [] pos) (jT js ok gx fe):= .mk λρ=>by
 intro pins s σ H Q I ⟨B,J,po⟩;subst hy;rw[ah]at hck;have CS:=Wm sc0 h0 hck.1;have CP:=jR N sc0 hN h0 hck.2;have S:LSc _:=⟨CS.kind,hco,hge,CS.nocell⟩;obtain⟨clos,ecl,hcl,hcf,hcd⟩:=yO λx hx hf=>I.ok.has x.1 (CS.fre x hx hf);refine zN (Zj I gl mg ?_ hd);have hP:=J.sH _ _ hT;have hpa:=zo (YB (body:=body) (pos:=lp) L hdef ecl) zK (st1 rfl) pos _ s σ H (λvs H1=>∃f c' pm ctv,vs=[V.ref f]/\zc H H1/\H1 f=some (.frz (yM q _ _ _ _ pm ctv c') (.own f))/\jS H1 q c') I ⟨hP,λf c' pm ctv H' s1 hf hc=>⟨f,c',pm,ctv,rfl,s1,hf,hc⟩⟩;refine ZL kp (zd (zy hpa) λus s1 ⟨vs,H1,I1,r,f,c',pm,ctv,e,sm,hf,hc⟩=>⟨I1.kIn, ?_⟩) (st1 rfl) rfl;subst e;have J1:=J.grow sm;refine Ww (E:=Y.E) I1 (O _ f c' q _ _ _ _ pm ctv _ (fe (Jd 0 js ρ)) I1.big.mod.kin) (hr.mono hj) bd Q2 r ⟨rfl,hf,J1.sB, ?_,λA outer s2 E' Q' hrm e0 q' => ?_⟩
 ·have po:Po Y rC B H (jy ok gx _) Q:=po;revert po;cases jy ok gx _ with
  | bad=>exact λz=>z
  | ex c2=>exact λz d H' a b=>z d H' ((J.sH.trans sm).trans a) ((zv.ge J.sB sm).trans b)
  | ok t=>exact λz b H2 s2 rb=>z b H2 (sm.trans s2) (by rw[← zv.trans sm s2];exact rb)
 ·refine Wx (te:=tS _ rC fe _) S hrm e0 (Qj I1 (λx c e=>by
   have:=aY.mp hfn _ (hcd x c e);simpa using this) hcl hcf CP) hf hc (hp _ pm _ ctv) ?_ ⟨_,J1.blockS 0 js E' (zc.refl _),q'⟩
  exact(hb _ A _ s2 H1 E' f c' _ ⟨zv B H H1,H1,E',Y.cl,[]⟩ e0.mod.kin rfl rfl (hrm.deeper _)).go _
end
section
variable {X:Cx}{Y:Fx}{tg iter elt:Expr}{ifs:List Expr}{scope:Scope}{pos pos' :Pos}{N' :List Str}{k:Nat}{js:List Nat}{fi:En->R (List T)}{tG:TG}{g:T->En->R En}{ft:En->R Bool}{fe:En->R T}
structure JM (X:Cx) (Y:Fx) (tg iter elt:Expr) (ifs:List Expr) (scope:Scope) (N' :List Str) (k:Nat) (js:List Nat) (fi:En->R (List T)) (tG:TG) (g:T->En->R En) (ft:En->R Bool) (fe:En->R T):Prop where
 sc:CSd X scope
 cp:yy X scope N' k js
 cm:X.calm=true
 it:wj X Y tg iter fi
 gt:Ui X scope N' λXC=>PG XC tg tG
 gk:GOk tG g
 gn:GNo g
 tt:∀Y',Y'.cl=Y.cl->zc Y.H0 Y'.H0->Ui X scope N' λXC=>jb XC Y' ifs ft
 el:∀Y',Y'.cl=Y.cl->zc Y.H0 Y'.H0->Ui X scope N' λXC=>ZD XC Y' elt fe
 hs:∀x,foldedSetIterable iter X.env x=pure x
theorem Y0 (C:JM X Y tg iter elt ifs scope N' k js fi tG g ft fe):ZD X Y (.ListComp elt [⟨tg,iter,ifs,0⟩] scope pos) (ZH fi g ft fe k js):= .mk λρ=>by
 intro pins s σ H Q I ⟨B,J,q⟩;refine u9 (F:=λD H' =>Q (.ref D) H') (te:=λσ H Q=>∃Y' ρ',Y'.cl=Y.cl/\zc _ _/\tS Y' rC fe ρ' σ H Q) (tt:=λσ H Q=>∃Y' ρ',Y'.cl=Y.cl/\zc _ _/\tS Y' rE ft ρ' σ H Q) C.sc C.cp C.cm (C.it ρ) C.gt
  (λcl Cx' s3 H3 fp pins pins' s σ H Q I ⟨Y',ρ',ey,eS,q⟩=>C.tt Y' ey eS cl Cx' s3 H3 fp _ ρ' _ s σ H Q I q) (λcl Cx' s3 H3 fp pins pins' s σ H Q I ⟨Y',ρ',ey,eS,q⟩=>(C.el Y' ey eS cl Cx' s3 H3 fp _).go ρ' _ s σ H Q I q) I ?_ ?_ C.hs
 ·refine step J q λts it' H1 _ s1 r1 J1 q1=> ?_;intro D hD;unfold JB at q1;split at q1
  ·rename_i hl;cases ev:zz g ft fe ts _ with
   | bad=>rw[ev]at q1;exact q1.elim
   | ex c=>rw[ev]at q1;exact q1.elim
   | ok vs=>
    rw[ev]at q1;refine WW (E0:=λ_ _ _=>False) C.gk C.gn J1 r1 hl ev hD λH' xs B' s' e' r' l' b' sb' => ?_;refine(show Po Y rC _ H1 _ Q from q1) _ H' s' ?_;exact .lst (by rw[zD hD];exact e') (r'.mono l')
  ·exact q1.elim
 ·intro D Cc H' s' I' q' hC h0 hL hcell hpin hns;obtain⟨m,hm⟩:=hns;refine⟨m,hm,λh' hsb=>⟨.ref D,H', ?_,rfl,q'⟩⟩;exact I'.turned (λb o hb e=>hsb.extBut b o hb e) hC (bq hL).symm (.inr h0) hcell hpin
end
theorem Y1 {X:Cx}{Y:Fx}{tg iter elt:Expr}{ifs:List Expr}{scope:Scope}{k:Nat}{js:List Nat}{fi:En->R (List T)}{tG:TG}{g:T->En->R En}{ft:En->R Bool}{fe:En->R T}(N' :List Str)(N:List Str)(sc0:Scope)(hN:X.N=N)(h0:X.env.scope=sc0)
  (h:(xD scope sc0 && U7 N N' scope sc0 k js)=true) (cm:X.calm=true) (it:wj X Y tg iter fi) (gt:Ui X scope N' λXC=>PG XC tg tG) (gk:GOk tG g) (gn:GNo g) (tt:∀Y',Y'.cl=Y.cl->zc Y.H0 Y'.H0->Ui X scope N' λXC=>jb XC Y' ifs ft)
  (el:∀Y',Y'.cl=Y.cl->zc Y.H0 Y'.H0->Ui X scope N' λXC=>ZD XC Y' elt fe) (hs:∀x,foldedSetIterable iter X.env x=pure x:=by intro _;rfl):JM X Y tg iter elt ifs scope N' k js fi tG g ft fe:=by
 rw[ah]at h;exact⟨Vs sc0 h0 h.1,jR N sc0 hN h0 h.2,cm,it,gt,gk,gn,tt,el,hs⟩
structure ua (X:Cx) (Y:Fx) (e:Expr) (f:En->R T):Prop where
 mk ::
 go:∀ρ,PEC X e (tS Y rB f ρ)
section
variable {X:Cx}{Y:Fx}{a:Expr}{fa:En->R T}
theorem ZV.c (h:ZV X Y a fa):ua X Y a fa:=⟨λρ=>(h ρ).c⟩
theorem ZD.b (h:ZD X Y a fa):ua X Y a fa:= .mk λρ=>PEC.imp (h.go ρ) λσ H Q ⟨B,I,q⟩=>⟨B,I,by
 revert q;cases fa ρ with
 | bad=>exact λq=>q
 | ex c=>exact λq=>q
 | ok a=>exact λq b H' s r=>q b H' s (r.mono (zv.le I.sB s))⟩
end
section
variable {X:Cx}{Y:Fx}{a b:Expr}{fa fb:En->R T}{pos p p' :Pos}
theorem Vy {op:CmpOp}{g:T->T->R Bool}(nx:Nx g)(ho:OpR X (compareOp op) (wO g))(ha:ua X Y a fa)(hb:ua X Y b fb)(hm:behindInMarks op b=false):ZD X Y (.Compare a [op] [b] pos) (Jk g fa fb):= .mk λρ=>
 PEC.imp (yX ho (ha.go ρ) (hb.go ρ) hm) λσ H Q ⟨B,I,q⟩=>step I q λt v H1 _ s1 r1 I1 q1=>step I1 q1 λt' v' H2 _ s2 r2 I2 q2=>by
  cases e:g t t' with
  | bad=>rw[e]at q2;exact q2.elim
  | ex c=>exact absurd e (nx _ _ _)
  | ok b=>rw[e]at q2;exact⟨t,t',b,r1.mono s2,r2,e,Zf I2 q2 (.bl b)⟩
theorem Vz {op:CmpOp}{g:T->T->R Bool}(nx:Nx g)(ho:OpR X (compareOp op) (wO g))(ha:ua X Y a fa)(hb:ua X Y b fb)(hm:behindInMarks op b=false):Qn X Y (.Compare a [op] [b] pos) (zB g fa fb):= .mk λρ=>
 PTC.imp (yY ho (ha.go ρ) (hb.go ρ) hm) λσ H Q ⟨B,I,q⟩=>step I q λt v H1 _ s1 r1 I1 q1=>step I1 q1 λt' v' H2 _ s2 r2 I2 q2=>by
  cases e:g t t' with
  | bad=>rw[e]at q2;exact q2.elim
  | ex c=>exact absurd e (nx _ _ _)
  | ok b=>rw[e]at q2;exact⟨t,t',b,r1.mono s2,r2,e,b,rfl,Zf I2 q2 rfl⟩
end
def VA (i j c:Nat):En->RS:=λρ=>match ρ[j]? with
 | some (.vl (.str z))=>if (decide (z.length<=640) && z.cps.all (· < 4294967296))=true then match dk z with
  | some k=> .nx (ρ.set i (.vl (.int k)))
  | none=> .ex c
  else .bad
 | _=> .bad
section
variable {P:Program}{w:World}{K:Frag}{mg:Str->Option Value}{base:Heap}{N:List Str}{qual:Str}{scope:Scope}{f:Addr}{cd:Value}{A:Around}{outer:List Env}{s:Shared}{H:Hp}{E:XK}{Y:Fx}
theorem VB {x n y m:Str}{C:Addr}{bm bmN:List Value}{Bn Bb newId nid initId inN:String}{i j c a1 a2:Nat}{p1 p2 p3 p4 p5 p6 p7 p8 p9 p10 p11 p12 p13:Pos}(O:OwnCls x C bm newId mg base)(Fn:ExcBaseFacts Bn newId inN bmN)(hBn:bm.contains (.type Bn)=true)(FB:ExcBaseFacts Bb nid initId bm)
  (hY:Y.E=E) (hc:Y.cl c= .ref C) (hN:N.Nodup) (hi:N[i]? =some n) (hx:Loc scope n) (hj:N[j]? =some y) (hy:Vis scope y)
  (gi:Gl (zU (CX1 P w) P w K mg base N qual scope f cd A outer s H E) "int") (mi:mg "int"=none) (gv:Gl (zU (CX1 P w) P w K mg base N qual scope f cd A outer s H E) "ValueError") (mv:mg "ValueError"=none) (hg:Gl (zU (CX1 P w) P w K mg base N qual scope f cd A outer s H E) x)
  (hs:swapsWith (.Call (.Name "int" p2) [.Name y p3] [] p4) (some (.Name n p1)) p5.line (envOfC qual scope s.heap.objs.size f cd)=pure false:=by rfl)
  (hd:(x == ("__debug__":Str))=false:=by decide) (hdy:(y == ("__debug__":Str))=false:=by decide) (hcd:(y == ("__classdict__":Str))=false:=by decide):
  Je (zU (CX1 P w) P w K mg base N qual scope f cd A outer s H E) Y
   (.Try [.Assign [.Name n p1] (.Call (.Name "int" p2) [.Name y p3] [] p4) p5] [.ExceptHandler (some (.Name "ValueError" p6)) none [.Raise (some (.Call (.Name x p7) [.Constant (.str m) a1 p8] [] p9)) (some (.Constant .none a2 p10)) p11] p12] [] [] p13) (VA i j c):= .mk λρ=>by
 subst hY;refine PSC.imp (Qq O Fn hBn FB hN hi hx hj hy gi mi gv mv hg hs hd hdy hcd) λD σ H1 ⟨B,I,q⟩=> ?_;unfold VA at q;split at q
 ·rename_i z e;obtain⟨v,e1,r⟩:=I.vl j _ e;cases r;split at q
  ·rename_i hz;rw[ah,decide_eq_true_eq,eG]at hz;refine⟨z,e1,ay (PySem.StrLaws.reprText_len z λxx hx=> ?_) (ay (Nat.add_le_add_right (Nat.mul_le_mul_left 10 hz.1) 2) (by decide)),hz.1, ?_⟩
   ·have:=of_decide_eq_true (hz.2 xx (by simpa using hx))
    exact this
   ·cases hk:dk z with
    | some k=>rw[hk]at q;exact q _ _ B (zc.refl _) (I.setV i (.int _))
    | none=>
     rw[hk]at q;have:=q none H1 I.sH I.sB;rw[hc]at this;exact this
  ·exact q.elim
 ·exact q.elim
end
structure QQC (x:Str) (CX:CXT) (k:Nat) (sp:Sp) (Z:Zz):Prop where
 ex:∃st ps f fd,Fn Z.K Z.mg x st ps f fd/\Zm Z.P Z.w Z.K Z.mg Z.base CX k f fd ps sp
abbrev qXC (Z:Zz)(x:Str)(n k:Nat)(c:List T->R T):Prop:=QQC x (CX1 Z.P Z.w) k (spP Z.cl n c) Z
structure QTC (x:Str) (k:Nat) (ok:Nat->Bool) (gx:Nat->R T) (Z:Zz):Prop where
 ex:∃st d f fd,Fn Z.K Z.mg x st [d] f fd/\W0 Z.P Z.w Z.K Z.mg Z.cl ok gx k f fd d
section
variable {P:Program}{w:World}{K:a6}{mg:Str->Option Value}{base:Heap}{cl:Nat->Value}{x:Str}{CX:CXT}{k:Nat}{sp:Sp}{G:Prop}
theorem QQ.c {Z:Zz}(O:QQ x CX k sp Z):QQC x CX k sp Z:=by
 obtain⟨⟨st,ps,f,fd,C,F⟩⟩:=O;exact⟨st,ps,f,fd,C,F.c⟩
theorem QQC.go (O:QQC x CX k sp ⟨P,w,K,mg,base,cl⟩)(h:∀st ps f fd,Fn K mg x st ps f fd->Zm P w K mg base CX k f fd ps sp->G):G:=by
 obtain⟨⟨st,ps,f,fd,C,F⟩⟩:=O;exact h st ps f fd C F
end
section
variable {Z:Zz}{x:Str}{st:Stmt}{ps:List Str}{k n m:Nat}{fb:En->RS}
theorem xF (C:FE Z.K Z.mg x st ps)(N:List Str) (hb:∀(f:Addr) (cdv:Value) (A:Around) (outer:List Env) (s:Shared) (H:Hp) (E:XK) (Y:Fx),Y.cl=Z.cl->Y.E=E->Z1 k (A.deeper (envOfC x (z6 st) s.heap.objs.size f cdv))->N.Nodup->zO (CX1 Z.P Z.w) (zU (CX1 Z.P Z.w) Z.P Z.w Z.K Z.mg Z.base N x (z6 st) f cdv A outer s H E) Y.E->
   jV (zU (CX1 Z.P Z.w) Z.P Z.w Z.K Z.mg Z.base N x (z6 st) f cdv A outer s H E) Y (zq st) fb)
  (S:Sc N ps st:=by refine⟨rfl,rfl,rfl, ?_,rfl, ?_, ?_⟩ <;> decide+kernel) (hn:n=ps.length:=by rfl) (hm:m=N.length:=by rfl):qXC Z x n (k+1) (oP m fb):=by
 obtain⟨f,fd,C⟩:=C;subst hm;exact⟨_,_,f,fd,C,Qp C.F S hn (λcdv A outer s H E Y hy hE hr=>hb f cdv A outer s H E Y hy hE hr S.nd (hE ▸ qA)) λ_ _=>rfl⟩
theorem Kf (C:FE Z.K Z.mg x st ps)(hn:n=ps.length:=by rfl):qXC Z x n k (λ_=> .bad):=by
 obtain⟨f,fd,C⟩:=C;subst hn;exact⟨_,_,f,fd,C,⟨λvs H Q E ⟨B,ts,hl,_,r,_⟩=>by rw[r.length,hl],λA o s H a us vs Q E _ _ _ _ ⟨_,_,_,_,_,q⟩=>q.elim⟩⟩
theorem kf {ok:Nat->Bool}{gx:Nat->R T}{j i:Nat}{d n cn lc:Str}{C:Addr}{N:List Str}{dp cp rp np hp lp ep lcp rp2 tp:Pos}(F:FE Z.K Z.mg x st [d])(hmc:Z.mg cn=some (.ref C))(hok:∀c,ok c=true->exmOne Z.K (Z.cl c) (.ref C)=some true)(FL:∀b,Z.K.In b->QCM lc j gx { Z with base:=b })
  (S:Sc N [d] st) (hst:zq st=[.Try [.Return (some (.Call (.Name d dp) [] [] cp)) rp] [.ExceptHandler (some (.Name cn np)) (some n) [.Return (some (.Call (.Name lc lp) [.Name n ep] [] lcp)) rp2] hp] [] [] tp])
  (h0:N[0]? =some d) (hd:(z6 st).names.lookup d=some .local) (hi:N[i]? =some n) (hl:(z6 st).names.lookup n=some .local) (hi0:i ≠ 0) (hgc:(z6 st).names.lookup cn=some .globalImplicit)
  (hgl:(z6 st).names.lookup lc=some .globalImplicit) (hj:j<=k+1:=by omega)
  (h1:(d == ("__debug__":Str))=false:=by decide) (h2:(d == ("__classdict__":Str))=false:=by decide) (h3:(n == ("__debug__":Str))=false:=by decide) (h4:(n == ("__classdict__":Str))=false:=by decide) (h5:(lc == ("__debug__":Str))=false:=by decide) (h6:(cn == ("__debug__":Str))=false:=by decide):
  QTC x k ok gx Z:=by
 obtain⟨ft,fdt,F⟩:=F;refine⟨_,_,ft,fdt,F, ?_⟩;intro base f c' q params body scope clos pm ctv B r KB;obtain⟨⟨stl,y,fl,fdl,CL,FM⟩⟩:=FL base KB;refine Fun.okC F.F S (λvs H Q E ⟨e,_⟩=>by rw[e];rfl) λcdv A outer s H vs Q E hr ⟨e,hf,sB,po,run⟩=> ?_
 subst e;rw[hst];have he:∀ea,PE ((zU CX0 Z.P Z.w Z.K Z.mg base N x (z6 st) ft cdv A outer s H E).nox.mark' (.ref ea)) (.Call (.Name lc lp) [.Name n ep] [] lcp) (λσ H Q=>∃v,σ[i]? =some (some v)/\spC Z.cl gx [v] H Q λ_ _ _=>False):=λea=>
  PE.imp (yN FM ((hr.m.mono hj).mark _) hgl CL.m CL.F.kp CL.b (zo (W6 hi (.inl hl) h3 h4) zK (st1 rfl)) h5 (st1 rfl)) λσ H Q ⟨v,e,z⟩=>⟨v,e,z⟩
 refine⟨_,JJ (yW (tb:=λE' =>xY (YF _ E' 0 f _)) (i:=i) (C:=C) rfl rfl S.nd hi hl hgc hmc (λE' pn xe hp=>JJ (Um (yV (f:=f) (c' :=c') (q:=q) (params:=params) (body:=body) (scope:=scope) (clos:=clos) (pm:=pm) (ctv:=ctv) (W6 h0 (.inl hd) h1 h2) hp))) he h6), ?_⟩;refine⟨λcls _ H' =>∃c,cls=Z.cl c/\ok c=true/\zc H H' /\zc B H' /\Po ⟨B,H,E,Z.cl,[]⟩ rC B H (nx1 (gx c)) Q,λcls d H' ea σ' ⟨c,e1,e2,s1,s2,q1⟩=> ?_,by unfold L2.start;rfl,hf,λs2 e0=>run _ _ s2 _ _ hr e0 ?_⟩
 ·subst e1;refine⟨hok c e2,λhea hl' hX' =>⟨.ref ea,aU (by rw[hl',hX'];exact(aT.mp hi).1),upd B ea _,ea,c,rfl, ?_,zj, ?_⟩⟩
  ·intro b o hb
   by_cases z:b=ea
   ·subst z;rw[zj]at hb ⊢;exact hb
   ·rw[za z]at hb ⊢;exact s2 b o hb
  ·have s3:zc H (upd H' ea (.ext (uI (Z.cl c) ea))):=s1.trans (zc.new hea _);have hHe:=s1.free hea;revert q1;cases gx c with
   | bad=>exact λz=>z
   | ex c2=>exact λz=>z.elim
   | ok t=>
    intro z b H3 s4 rb;refine z b H3 (s3.trans s4) (rb.mono λa o ha=> ?_);cases hH:upd H' ea _ a with
    | none=>
     rw[zD hH]at ha;cases hHa:H a with
     | none=>rw[zD hHa];exact ha
     | some u=>have:=s3 a u hHa;rw[hH]at this;cases this
    | some u=>
     rw[zE hH]at ha
     by_cases ze:a=ea
     ·subst ze;rw[zD hHe];rw[zj]at ha hH;rw[← ha,s4 _ _ zj]
     ·rw[za ze]at ha;rw[zE (sB a o ha)];exact ha
 ·revert po;unfold jy;cases r with
  | ok t=>exact λpo=>po
  | bad=>exact λpo=>po
  | ex c=>
   intro po;dsimp only at po;split at po
   ·rename_i hc;exact λd H' a b=>⟨c,rfl,hc,a,b,po⟩
   ·exact po.elim
end
section
variable {X:Cx}{Y:Fx}{cl:Nat->Value}{k j n:Nat}{g:List T->R T}{x:Str}{a:Expr}{es:List Expr}{ga:En->R (List T)}{p pos:Pos}
theorem cXC (hy:Y.cl=cl)(hp:zO (CX1 X.prog X.w) X Y.E)(O:QQC x (CX1 X.prog X.w) j (spP cl n g) ⟨X.prog,X.w,X.K,X.mg,X.base,cl⟩)(hr:Z1 k X.A)(ha:Up X Y (a :: es) ga)(hj:j<=k:=by omega)(gl:Gl X x:=by rfl)(hd:(x == ("__debug__":Str))=false:=by decide)
  (hs:starEach (a :: es) X.env=(false,eval a X.env) :: starEach es X.env:=by exact zw rfl) (hz:((backTo pos (starEach es X.env)).any λx=>x.fst)=false:=by exact zS rfl):ZD X Y (.Call (.Name x p) (a :: es) [] pos) (z8 n g ga):=
 O.go λ_ _ _ _ C F=>yQ hy hp F hr hj gl C.m C.F.kp C.b ha hd hs hz
end
section
variable {X:Cx}{Y:Fx}{cl:Nat->Value}{ok:Nat->Bool}{gx:Nat->R T}{kE k:Nat}{x q:Str}{c P:Addr}{params:Arguments}{body:Expr}{scope:Scope}{lp p pos:Pos}{js:List Nat}{fe:En->R T}
theorem tdC (hy:Y.cl=cl)(O:QTC x kE ok gx ⟨X.prog,X.w,X.K,X.mg,X.base,cl⟩)(L:Lm X c P q)(hT:Y.H0 P=some (.tbl #[] q))(hfn:∀x,X.fn x=true)(hr:Z1 k X.A)(hj:kE+2<=k)(gl:Gl X x)
  (N' N:List Str) (sc0:Scope) (hN:X.N=N) (h0:X.env.scope=sc0) (hck:(yD scope sc0 && U7 N N' scope sc0 0 js)=true) (hco:scope.isCoroutine=false) (hge:scope.isGenerator=false)
  (hb:∀(base:Heap) (A:Around) (outer:List Env) (s:Shared) (H:Hp) (E:XK) (f c' :Addr) (clos:List (Str×Addr)) (Y' :Fx),X.K.In base->Y'.cl=cl->Y'.E=E->Z1 kE (A.deeper (envX q scope s.heap.objs.size f (.ref c') clos))->ZD (cxL X.prog X.w X.K X.mg base N' q scope f (.ref c') clos A outer s H E) Y' body fe)
  (hp:∀(clos:List (Str×Addr)) (pm cd ctv:Value),bindArgs (kla_fn "<lambda>" q params body scope clos pm cd ctv) ⟨[],[]⟩=pure []:=by intros;rfl) (hdef:defaultsOf params X.env=([],[]):=by rfl) (hd:(x == ("__debug__":Str))=false:=by decide):
  ZD X Y (.Call (.Name x p) [.Lambda params body scope lp] [] pos) (jT js ok gx fe):=by
 obtain⟨⟨st,d,f,fd,C,O⟩⟩:=O;exact Qr hy L hT hfn O hr hj gl C.m C.F.kp C.b N' N sc0 hN h0 hck hco hge hb hp hdef hd
theorem g7 (hy:Y.cl=cl)(O:QTC x kE ok gx ⟨X.prog,X.w,X.K,X.mg,X.base,cl⟩)(L:Lm X c P q)(hT:Y.H0 P=some (.tbl #[] q))(hfn:scope.names.all (λx=>x.2 != .free || X.fn x.1)=true)(hr:Z1 k X.A)(hj:kE+2<=k)(gl:Gl X x)
  (N' N:List Str) (sc0:Scope) (hN:X.N=N) (h0:X.env.scope=sc0) (hck:(yD scope sc0 && U7 N N' scope sc0 0 js)=true) (hco:scope.isCoroutine=false) (hge:scope.isGenerator=false)
  (hb:∀(base:Heap) (A:Around) (outer:List Env) (s:Shared) (H:Hp) (E:XK) (f c' :Addr) (clos:List (Str×Addr)) (Y' :Fx),X.K.In base->Y'.cl=cl->Y'.E=E->Z1 kE (A.deeper (envX q scope s.heap.objs.size f (.ref c') clos))->ZD (cxL X.prog X.w X.K X.mg base N' q scope f (.ref c') clos A outer s H E) Y' body fe)
  (hp:∀(clos:List (Str×Addr)) (pm cd ctv:Value),bindArgs (kla_fn "<lambda>" q params body scope clos pm cd ctv) ⟨[],[]⟩=pure []:=by intros;rfl) (hdef:defaultsOf params X.env=([],[]):=by rfl) (hd:(x == ("__debug__":Str))=false:=by decide):
  ZD X Y (.Call (.Name x p) [.Lambda params body scope lp] [] pos) (jT js ok gx fe):=by
 obtain⟨⟨st,d,f,fd,C,O⟩⟩:=O;exact yZ hy L hT hfn O hr hj gl C.m C.F.kp C.b N' N sc0 hN h0 hck hco hge hb hp hdef hd
end
section
variable {Z:Zz}{x:Str}{st:Stmt}{ps:List Str}{k n m:Nat}{fb:En->RS}{f c:Addr}{fd:FuncData}{Pt:Addr}
theorem kg (C:Fn Z.K Z.mg x st ps f fd)(ec:fd.code= .ref c)(hd:codeHdIn Z.K c Pt=true)(hBT:Z.base.BuiltinsAt Z.mg Pt)(N:List Str) (hb:∀(A:Around) (outer:List Env) (s:Shared) (H:Hp) (E:XK) (Y:Fx),Lm (zU (CX1 Z.P Z.w) Z.P Z.w Z.K Z.mg Z.base N x (z6 st) f (.ref c) A outer s H E) c Pt (qlT x)->Y.H0 Pt=some (.tbl #[] (qlT x))->Y.cl=Z.cl->Y.E=E->Z1 k (A.deeper (envOfC x (z6 st) s.heap.objs.size f (.ref c)))->N.Nodup->zO (CX1 Z.P Z.w) (zU (CX1 Z.P Z.w) Z.P Z.w Z.K Z.mg Z.base N x (z6 st) f (.ref c) A outer s H E) Y.E->
   jV (zU (CX1 Z.P Z.w) Z.P Z.w Z.K Z.mg Z.base N x (z6 st) f (.ref c) A outer s H E) Y (zq st) fb)
  (S:Sc N ps st:=by refine⟨rfl,rfl,rfl, ?_,rfl, ?_, ?_⟩ <;> decide+kernel) (hn:n=ps.length:=by rfl) (hm:m=N.length:=by rfl):Zm Z.P Z.w Z.K Z.mg Z.base (CX1 Z.P Z.w) (k+1) f fd ps (YC Z.cl n (oP m fb) Pt (qlT x)):=by
 subst hm;exact Qs C.F ec S hn (λA outer s H E Y hy hE hT hr=>hb A outer s H E Y ⟨rfl,hd,hBT,rfl⟩ hT hy hE hr S.nd (hE ▸ qA)) λ_ _=>rfl
end
end PV
namespace PV
open PySem PySem.Spec PyProof.Rows L2
theorem Qv {X:Cx}{Y:Fx}{tg iter elt:Expr}{ifs:List Expr}{scope:Scope}{k:Nat}{js:List Nat}{fi:En->R (List T)}{tG:TG}{g:T->En->R En}{ft:En->R Bool}{fe:En->R T}(N' :List Str)(N:List Str)(sc0:Scope)(hN:X.N=N)(h0:X.env.scope=sc0)
  (h:(yD scope sc0 && U7 N N' scope sc0 k js)=true) (cm:X.calm=true) (it:wj X Y tg iter fi) (gt:Wj X scope N' λXC=>PG XC tg tG) (gk:GOk tG g) (gn:GNo g) (tt:∀Y',Y'.cl=Y.cl->Wj X scope N' λXC=>jb XC Y' ifs ft)
  (el:∀Y',Y'.cl=Y.cl->Yz X scope N' Y'.E λXC=>ZD XC Y' elt fe) (hs:∀x,foldedSetIterable iter X.env x=pure x:=by intro _;rfl):wZ X Y tg iter elt ifs scope N' k js fi tG g ft fe:=by
 rw[ah]at h;exact⟨Wm sc0 h0 h.1,jR N sc0 hN h0 h.2,cm,it,gt,gk,gn,tt,el,hs⟩
section
variable {cl:Nat->Value}{X:Cx}{Y:Fx}{x y:Str}{p p' p2:Pos}{kk:Nat}{iter elt:Expr}{ifs:List Expr}{scope:Scope}{js:List Nat}{fi:En->R (List T)}{ft:En->R Bool}{fe:En->R T}
theorem kh (hy:Y.cl=cl)(h:xE X.N (x :: nms X.N js) X.env.scope scope 1 js=true)(hx:((relabel scope X.env).names.lookup x == some .local)=true)(cm:X.calm=true)(it:wj X Y (.Name x p) iter fi)(tt:∀Y',Y'.cl=cl->Wj X scope (x :: nms X.N js) λXC=>jb XC Y' ifs ft)
  (el:∀Y',Y'.cl=cl->Yz X scope (x :: nms X.N js) Y'.E λXC=>ZD XC Y' elt fe) (hs:∀x,foldedSetIterable iter X.env x=pure x:=by intro _;rfl):wZ X Y (.Name x p) iter elt ifs scope (x :: nms X.N js) 1 js fi (JZ 0) (Z4 0) ft fe:=by
 subst hy;rw[xE,ah]at h;have hx:(relabel scope X.env).names.lookup x=some .local:=eq_of_beq hx;exact Qv _ _ _ rfl rfl h.1 cm it (λ_ _ _ _ _ _=>j7 (Wq h.2) rfl (.inl hx) (.inr hx)) (JC 0) (JD 0) tt el hs
end
section
variable {cl:Nat->Value}{X:Cx}{Y:Fx}{x:Str}{p:Pos}{iter elt:Expr}{ifs:List Expr}{scope:Scope}{js:List Nat}{fi:En->R (List T)}{ft:En->R Bool}{fe:En->R T}
theorem g8 (hc:scope.names.lookup x=some .cell)(hy:Y.cl=cl)(h:((xD scope X.env.scope && U7 X.N (x :: nms X.N js) scope X.env.scope 1 js) && ndB (x :: nms X.N js))=true)(hx:((relabel scope X.env).names.lookup x == some .cell)=true)(cm:X.calm=true)(it:wj X Y (.Name x p) iter fi)(tt:∀Y',Y'.cl=cl->zc Y.H0 Y'.H0->Ui X scope (x :: nms X.N js) λXC=>jb XC Y' ifs ft)
  (el:∀Y',Y'.cl=cl->zc Y.H0 Y'.H0->Ui X scope (x :: nms X.N js) λXC=>ZD XC Y' elt fe) (hs:∀x,foldedSetIterable iter X.env x=pure x:=by intro _;rfl):JM X Y (.Name x p) iter elt ifs scope (x :: nms X.N js) 1 js fi (JZ 0) (Z4 0) ft fe:=by
 subst hy;rw[ah]at h;have h1:(relabel scope X.env).names.lookup x=some .cell:=eq_of_beq hx;exact Y1 _ _ _ rfl rfl h.1 cm it (λ_ _ _ _ _ _=>j7 (Wq h.2) rfl (.inr h1) (.inl (by show (scope.names.lookup x == some .cell)=true;rw[hc];rfl))) (JC 0) (JD 0) tt el hs
end
theorem Uv {X:Cx}{Y:Fx}{st:Stmt}{f:En->RS}(h:Je X Y st f):Je X Y st (QX f):= .mk λρ=>
 PSC.imp (h.go (frz ρ)) λD σ H ⟨B,I,q⟩=>⟨_,I.frz,PoS.up I.up q⟩
end PV
namespace G
open PySem PySem.Spec PyProof.Rows L2 PV
noncomputable def okX (c:Nat):Bool:=[0,1,2,3,4,5,6].contains c
noncomputable def jd (c:Nat):Bool:=c == 0
noncomputable def ZO (c:Nat):Bool:=c == 1
noncomputable def je (c:Nat):Bool:=c == 2
noncomputable def ZP (c:Nat):Bool:=c == 3
noncomputable def jX (c:Nat):Bool:=c == 4
noncomputable def jg (c:Nat):Bool:=c == 5
noncomputable def jh (c:Nat):Bool:=c == 6
noncomputable def Zb (_:Nat):Bool:=true
def b_8 (c_8:List T->R T):En->RS:=
  zu (ifS (zB inC (z9 ixT (vE 0) (cE (.int 0))) (J9 (z0 (cE (.str "no")) (z0 (cE (.str "all")) (z0 (cE (.str "some")) (zb)))))) (zI (z9 zl (z9 zl (z9 zl (z9 ixT (vE 0) (cE (.int 0))) (cE (.str "("))) (ap1 (wq ", ") (ZH (jP (slE (vE 0) (zh (cE (.int 1))) (noO))) (Z4 0) (Zw) (z8 1 c_8 (z0 (vE 0) (zb))) 1 []))) (cE (.str ")")))) (nxS))
  (zI (ap1 (wq " ") (ZH (jP (vE 0)) (Z4 0) (Zw) (ap1 WT (vE 0)) 1 [])))
def S_8:Nat->Nat->List T->R T
 | 0,_=>λ_=> .bad
 | n+1,_=>λts=>zC (b_8 (S_8 n 0) (en0 1 ts))
abbrev f_8 (n:Nat):List T->R T:=S_8 n 0
def b_c:En->RS:=
  zu (ifS (zB ltC (vB 1) (ap1 Z7 (vB 0))) (zI (z9 ixT (vE 0) (vE 1))) (nxS))
  (zu (ifS (zB eqC (vB 0) (ju (zb))) (zI (cE (.int 0))) (nxS))
  (zI (z9 zl (z9 j6 (z9 ixT (vE 0) (z9 Zv (vE 1) (ap1 Z7 (vB 0)))) (cE (.int 31))) (vE 1))))
def f_c:List T->R T:=λts=>zC (b_c  (en0 2 ts))
def b_9 (c_c:List T->R T):En->RS:=
  zu (zZ 3 (z9 Zv (z9 j6 (z9 zl (z8 2 c_c (z0 (vE 0) (z0 (vE 1) (zb)))) (z9 j6 (cE (.int 6151)) (z9 zl (vE 1) (cE (.int 1))))) (cE (.int 40692))) (cE (.int 2147483399))))
  (zI (z9 Zv (z9 Zv (z9 zl (z9 j6 (vE 3) (vE 3)) (z9 jL (vE 3) (cE (.int 31)))) (cE (.int 2147483629))) (vE 2)))
def f_9:List T->R T:=λts=>zC (b_9 (f_c) (en0 4 ts))
def b_3 (c_9:List T->R T)(c_3:List T->R T):En->RS:=
  zu (zZ 3 (z8 3 c_9 (z0 (vE 0) (z0 (vE 1) (z0 (cE (.int 9)) (zb))))))
  (zu (ifS (uS (zB gtC (vB 2) (cE (.int 1))) (zB gtC (vB 3) (cE (.int 5)))) (zu (zZ 4 (z8 3 c_3 (z0 (vE 0) (z0 (z9 zl (z9 j6 (cE (.int 2)) (vE 1)) (cE (.int 11))) (z0 (z9 jA (vE 2) (cE (.int 1))) (zb))))))
  (zu (ifS (zB eqC (vB 3) (cE (.int 6))) (zI (J9 (z0 (cE (.str "no")) (z0 (vE 4) (zb))))) (nxS))
  (zI (J9 (z0 (z9 ixT (ju (z0 (cE (.str "all")) (z0 (cE (.str "some")) (zb)))) (z9 jA (vE 3) (cE (.int 7)))) (z0 (vE 4) (z0 (z8 3 c_3 (z0 (vE 0) (z0 (z9 zl (z9 j6 (cE (.int 2)) (vE 1)) (cE (.int 24))) (z0 (z9 jA (vE 2) (cE (.int 1))) (zb))))) (zb)))))))) (nxS))
  (zu (zZ 5 (z9 jA (z8 3 c_9 (z0 (vE 0) (z0 (z9 zl (vE 1) (cE (.int 1))) (z0 (cE (.int 9)) (zb))))) (cE (.int 4))))
  (zu (ifS (zB ltC (z9 Zv (vE 3) (cE (.int 6))) (cE (.int 2))) (zI (J9 (z0 (cE (.str "sum")) (z0 (vE 5) (z0 (z9 jA (z9 zl (vE 5) (z8 3 c_9 (z0 (vE 0) (z0 (z9 zl (vE 1) (cE (.int 2))) (z0 (cE (.int 5)) (zb)))))) (cE (.int 1))) (zb)))))) (nxS))
  (zu (ifS (zB eqC (z9 Zv (vE 3) (cE (.int 6))) (cE (.int 2))) (zI (J9 (z0 (cE (.str "size")) (z0 (z8 3 c_9 (z0 (vE 0) (z0 (z9 zl (vE 1) (cE (.int 1))) (z0 (cE (.int 3)) (zb))))) (z0 (z8 3 c_9 (z0 (vE 0) (z0 (z9 zl (vE 1) (cE (.int 2))) (z0 (cE (.int 4)) (zb))))) (zb)))))) (nxS))
  (zu (ifS (zB eqC (z9 Zv (vE 3) (cE (.int 6))) (cE (.int 3))) (zI (J9 (z0 (cE (.str "word")) (z0 (z9 ixT (ju (z0 (cE (.str "a")) (z0 (cE (.str "b")) (z0 (cE (.str "ab")) (z0 (cE (.str "zz")) (zb)))))) (z8 3 c_9 (z0 (vE 0) (z0 (z9 zl (vE 1) (cE (.int 1))) (z0 (cE (.int 4)) (zb)))))) (zb))))) (nxS))
  (zI (ifE (zB eqC (z9 Zv (vE 3) (cE (.int 6))) (cE (.int 4))) (J9 (z0 (cE (.str "rising")) (zb))) (J9 (z0 (cE (.str "unlike")) (zb))))))))))
def S_3:Nat->Nat->List T->R T
 | 0,_=>λ_=> .bad
 | n+1,_=>λts=>zC (b_3 (f_9) (S_3 n 0) (en0 6 ts))
abbrev f_3 (n:Nat):List T->R T:=S_3 n 0
def b_i:En->RS:=
  zu (zZ 3 (z9 Zv (vE 1) (z9 zl (ap1 Z7 (vB 0)) (cE (.int 1)))))
  (zu (zZ 4 (z9 ixT (vE 2) (z9 Zv (z9 jL (vE 1) (cE (.int 1000))) (ap1 Z7 (vB 2)))))
  (zu (zZ 5 (z9 zl (z9 zl (vE 3) (cE (.int 1))) (z9 Zv (z9 jL (vE 1) (cE (.int 7))) (cE (.int 9)))))
  (zu (zZ 6 (z9 Zv (z9 jL (vE 1) (cE (.int 100000))) (cE (.int 8))))
  (zu (ifS (zB ltC (vB 6) (cE (.int 2))) (zI (z9 zl (z9 zl (Zg (vE 0) (noO) (zh (vE 3))) (vE 4)) (Zg (vE 0) (zh (vE 3)) (noO)))) (nxS))
  (zu (ifS (zB eqC (vB 6) (cE (.int 2))) (zI (z9 zl (Zg (vE 0) (noO) (zh (vE 3))) (Zg (vE 0) (zh (z9 zl (vE 3) (cE (.int 1)))) (noO)))) (nxS))
  (zu (ifS (zB ltC (vB 6) (cE (.int 5))) (zI (z9 zl (z9 zl (Zg (vE 0) (noO) (zh (vE 3))) (vE 4)) (Zg (vE 0) (zh (z9 zl (vE 3) (cE (.int 1)))) (noO)))) (nxS))
  (zu (ifS (zB eqC (vB 6) (cE (.int 5))) (zI (z9 zl (Zg (vE 0) (noO) (zh (vE 3))) (Zg (vE 0) (zh (vE 5)) (noO)))) (nxS))
  (zu (ifS (zB eqC (vB 6) (cE (.int 6))) (zI (z9 zl (Zg (vE 0) (noO) (zh (vE 5))) (Zg (vE 0) (zh (vE 3)) (noO)))) (nxS))
  (zI (z9 ixT (ju (z0 (z9 zl (vE 0) (cE (.str " "))) (z0 (z9 zl (cE (.str " ")) (vE 0)) (z0 (z9 zl (Zg (vE 0) (zh (vE 3)) (noO)) (Zg (vE 0) (noO) (zh (vE 3)))) (z0 (cE (.str "")) (z0 (z9 zl (vE 0) (vE 0)) (zb))))))) (z9 Zv (vE 1) (cE (.int 5)))))))))))))
def f_i:List T->R T:=λts=>zC (b_i  (en0 7 ts))
def b_a:En->RS:=
  zu (zZ 1 (ju (z0 (jx 0 okX jX) (z0 (jx 0 okX jh) (z0 (jx 0 okX jd) (z0 (jx 0 okX je) (zb)))))))
  (zu (zZ 1 (z9 zl (vE 1) (ju (z0 (jx 0 okX jg) (z0 (jx 0 okX ZO) (z0 (jx 0 okX ZP) (zb)))))))
  (zu (ifS (orT (zB neC (xB XT (vB 1) (cE (.bl true))) (cE (.int 1))) (Jz (jm (jx 0 okX Zb)))) (zI (cE (.str "wrong"))) (nxS))
  (zI (z9 ixT (ju (z0 (cE (.str "ended")) (z0 (cE (.str "no back")) (z0 (cE (.str "no kind")) (z0 (cE (.str "no rule")) (z0 (cE (.str "no text")) (z0 (cE (.str "no worth")) (z0 (cE (.str "too many")) (zb))))))))) (xB XU (vB 1) (cE (.bl true)))))))
def f_a:Nat->R T:=λc=>zC (b_a  (enC 2 c))
def b_l:En->RS:=
  zI (wT (ap1 (uT "int") (vB 0)) (Ka (ap1 (uT "bool") (vB 0))))
def f_l:List T->R T:=λts=>zC (b_l  (en0 1 ts))
def b_d (c_l:List T->R T):En->RS:=
  zI (wT (z8 1 c_l (z0 (vE 0) (zb))) (chE leC leC (vO (cE (.int 50))) (vB 0) (cE (.int 50))))
def f_d:List T->R T:=λts=>zC (b_d (f_l) (en0 1 ts))
def b_h:En->RS:=
  zu (ifS (orT (Jz (jm (ap1 (uT "str") (vB 0)))) (Jz (chT leC leC (cE (.int 1)) (ap1 Z7 (vB 0)) (cE (.int 3))))) (zI (cE (.bl false))) (nxS))
  (zI (ap1 XG (ZH (jP (vE 0)) (Z4 0) (Zw) (chE leC leC (cE (.str "a")) (vB 0) (cE (.str "z"))) 1 [])))
def f_h:List T->R T:=λts=>zC (b_h  (en0 1 ts))
def b_5 (c_h:List T->R T)(c_5:List T->R T)(c_d:List T->R T):En->RS:=
  zu (ifS (orT (zB eqC (vB 1) (cE (.int 0))) (orT (Jz (jm (ap1 (uT "tuple") (vB 0)))) (zB eqC (ap1 Z7 (vB 0)) (cE (.int 0))))) (zI (cE (.bl false))) (nxS))
  (zu (ifS (orT (zB eqC (z9 ixT (vE 0) (cE (.int 0))) (cE (.str "sum"))) (zB eqC (z9 ixT (vE 0) (cE (.int 0))) (cE (.str "size")))) (zI (wT (Jk eqC (ap1 Z7 (vB 0)) (cE (.int 3))) (wT (z8 1 c_d (z0 (z9 ixT (vE 0) (cE (.int 1))) (zb))) (z8 1 c_d (z0 (z9 ixT (vE 0) (cE (.int 2))) (zb)))))) (nxS))
  (zu (ifS (zB eqC (z9 ixT (vE 0) (cE (.int 0))) (cE (.str "word"))) (zI (wT (Jk eqC (ap1 Z7 (vB 0)) (cE (.int 2))) (z8 1 c_h (z0 (z9 ixT (vE 0) (cE (.int 1))) (zb))))) (nxS))
  (zu (ifS (orT (zB eqC (z9 ixT (vE 0) (cE (.int 0))) (cE (.str "rising"))) (zB eqC (z9 ixT (vE 0) (cE (.int 0))) (cE (.str "unlike")))) (zI (Jk eqC (ap1 Z7 (vB 0)) (cE (.int 1)))) (nxS))
  (zu (ifS (zB eqC (z9 ixT (vE 0) (cE (.int 0))) (cE (.str "no"))) (zI (wT (Jk eqC (ap1 Z7 (vB 0)) (cE (.int 2))) (z8 2 c_5 (z0 (z9 ixT (vE 0) (cE (.int 1))) (z0 (z9 jA (vE 1) (cE (.int 1))) (zb)))))) (nxS))
  (zu (ifS (orT (zB eqC (z9 ixT (vE 0) (cE (.int 0))) (cE (.str "all"))) (zB eqC (z9 ixT (vE 0) (cE (.int 0))) (cE (.str "some")))) (zI (wT (Jk eqC (ap1 Z7 (vB 0)) (cE (.int 3))) (wT (z8 2 c_5 (z0 (z9 ixT (vE 0) (cE (.int 1))) (z0 (z9 jA (vE 1) (cE (.int 1))) (zb)))) (z8 2 c_5 (z0 (z9 ixT (vE 0) (cE (.int 2))) (z0 (z9 jA (vE 1) (cE (.int 1))) (zb))))))) (nxS))
  (zI (cE (.bl false))))))))
def S_5:Nat->Nat->List T->R T
 | 0,_=>λ_=> .bad
 | n+1,_=>λts=>zC (b_5 (f_h) (S_5 n 0) (f_d) (en0 2 ts))
abbrev f_5 (n:Nat):List T->R T:=S_5 n 0
def b_2 (c_5:List T->R T):En->RS:=
  zI (z8 2 c_5 (z0 (vE 0) (z0 (cE (.int 3)) (zb))))
def f_2:List T->R T:=λts=>zC (b_2 (f_5 8) (en0 1 ts))
def b_j (c_2:List T->R T):En->RS:=
  ifS (Jz (jm (z8 1 c_2 (z0 (vE 0) (zb))))) (ZB 2) (nxS)
def f_j:List T->R T:=λts=>zC (b_j (f_2) (en0 1 ts))
def b_b:En->RS:=
  zI (orE (Jk eqC (vB 0) (cE (.str "no"))) (orE (Jk eqC (vB 0) (cE (.str "all"))) (Jk eqC (vB 0) (cE (.str "some")))))
def f_b:List T->R T:=λts=>zC (b_b  (en0 1 ts))
def b_6 (c_6:List T->R T)(c_b:List T->R T):En->RS:=
  zu (ifS (jm (z8 1 c_b (z0 (z9 ixT (vE 0) (cE (.int 0))) (zb)))) (zI (z9 zl (z9 zl (z9 zl (z9 ixT (vE 0) (cE (.int 0))) (cE (.str "("))) (ap1 (wq ", ") (ZH (jP (slE (vE 0) (zh (cE (.int 1))) (noO))) (Z4 0) (Zw) (z8 1 c_6 (z0 (vE 0) (zb))) 1 []))) (cE (.str ")")))) (nxS))
  (zI (ap1 (wq " ") (ZH (jP (vE 0)) (Z4 0) (Zw) (ap1 WT (vE 0)) 1 [])))
def S_6:Nat->Nat->List T->R T
 | 0,_=>λ_=> .bad
 | n+1,_=>λts=>zC (b_6 (S_6 n 0) (f_b) (en0 1 ts))
abbrev f_6 (n:Nat):List T->R T:=S_6 n 0
def b_1 (c_j:List T->R T)(c_6:List T->R T):En->RS:=
  zu (uZ (z8 1 c_j (z0 (vE 0) (zb))))
  (zI (z8 1 c_6 (z0 (vE 0) (zb))))
def f_1:List T->R T:=λts=>zC (b_1 (f_j) (f_6 8) (en0 1 ts))
def b_m:En->RS:=
  ifS (Jz (jm (ap1 (uT "str") (vB 0)))) (ZB 5) (nxS)
def f_m:List T->R T:=λts=>zC (b_m  (en0 1 ts))
def b_k:En->RS:=
  zu (yx 2 (zb))
  (zu (zZ 3 (cE (.int 0)))
  (zu (zZ 4 (cE (.int 0)))
  (zu (Yx (Ue (vE 0)) (jw 5 6) (zu (ifS (zB Wn (vB 6) (cE (.str "([{"))) (zZ 4 (z9 zl (vE 4) (cE (.int 1)))) (nxS))
  (zu (ifS (zB Wn (vB 6) (cE (.str ")]}"))) (zZ 4 (z9 jA (vE 4) (cE (.int 1)))) (nxS))
  (ifS (uS (zB eqC (vB 4) (cE (.int 0))) (jm (Ub (vE 0) (vE 1) (vE 5)))) (zu (wU 2 (Zg (vE 0) (zh (vE 3)) (zh (vE 5))))
  (zZ 3 (z9 zl (vE 5) (ap1 Z7 (vB 1))))) (nxS)))))
  (zu (wU 2 (Zg (vE 0) (zh (vE 3)) (noO)))
  (zI (vE 2))))))
def f_k:List T->R T:=λts=>zC (b_k  (en0 7 ts))
def b_e:En->RS:=
  zu (ifS (orT (Jz (jm (smE QU (vE 0) (vE 1)))) (Jz (jm (smE QV (vE 0) (vE 2))))) (ZB 5) (nxS))
  (zI (Zg (vE 0) (zh (ap1 Z7 (vB 1))) (zh (vO (ap1 Z7 (vB 2))))))
def f_e:List T->R T:=λts=>zC (b_e  (en0 3 ts))
def b_g:En->RS:=
  zu (ifS (zB gtC (ap1 Z7 (vB 0)) (cE (.int 3))) (ZB 5) (nxS))
  (zu (VA 1 0 5)
  (zu (ifS (zB neC (ap1 WT (vE 1)) (vB 0)) (ZB 5) (nxS))
  (zI (vE 1))))
def f_g:List T->R T:=λts=>zC (b_g  (en0 2 ts))
def b_f (c_g:List T->R T):En->RS:=
  zu (ifS (orT (zB eqC (z9 ixT (vE 0) (cE (.int 0))) (cE (.str "sum"))) (zB eqC (z9 ixT (vE 0) (cE (.int 0))) (cE (.str "size")))) (zI (z9 zl (J9 (z0 (z9 ixT (vE 0) (cE (.int 0))) (zb))) (ap1 qR (jO (jP (slE (vE 0) (zh (cE (.int 1))) (noO))) (Z4 0) (Zw) (z8 1 c_g (z0 (vE 0) (zb))) 1 [])))) (nxS))
  (zI (ap1 qR (vE 0)))
def f_f:List T->R T:=λts=>zC (b_f (f_g) (en0 1 ts))
def b_4 (c_e:List T->R T)(c_k:List T->R T)(c_b:List T->R T)(c_4:List T->R T)(c_f:List T->R T):En->RS:=
  zu (ifS (zB eqC (vB 1) (cE (.int 0))) (ZB 5) (nxS))
  (zu (zZ 2 (smE Vh (vE 0) (cE (.str "("))))
  (zu (ifS (jm (z8 1 c_b (z0 (z9 ixT (vE 2) (cE (.int 0))) (zb)))) (zu (zZ 3 (z8 2 c_k (z0 (z8 3 c_e (z0 (vE 0) (z0 (z9 zl (z9 ixT (vE 2) (cE (.int 0))) (cE (.str "("))) (z0 (cE (.str ")")) (zb))))) (z0 (cE (.str ", ")) (zb)))))
  (zI (z9 zl (J9 (z0 (z9 ixT (vE 2) (cE (.int 0))) (zb))) (ap1 qR (jO (jP (vE 3)) (Z4 0) (Zw) (z8 2 c_4 (z0 (vE 0) (z0 (z9 jA (vE 1) (cE (.int 1))) (zb)))) 1 [1]))))) (nxS))
  (zI (z8 1 c_f (z0 (smE QW (vE 0) (cE (.str " "))) (zb))))))
def S_4:Nat->Nat->List T->R T
 | 0,_=>λ_=> .bad
 | n+1,_=>λts=>zC (b_4 (f_e) (f_k) (f_b) (S_4 n 0) (f_f) (en0 4 ts))
abbrev f_4 (n:Nat):List T->R T:=S_4 n 0
def b_7 (c_2:List T->R T)(c_m:List T->R T)(c_4:List T->R T):En->RS:=
  zu (uZ (z8 1 c_m (z0 (vE 0) (zb))))
  (zu (zZ 1 (z8 2 c_4 (z0 (vE 0) (z0 (cE (.int 3)) (zb)))))
  (zu (ifS (Jz (jm (z8 1 c_2 (z0 (vE 1) (zb))))) (ZB 5) (nxS))
  (zI (vE 1))))
def f_7:List T->R T:=λts=>zC (b_7 (f_2) (f_m) (f_4 8) (en0 2 ts))
def b_0 (c_c:List T->R T)(c_9:List T->R T)(c_3:List T->R T)(c_a:Nat->R T)(c_i:List T->R T)(c_8:List T->R T)(c_1:List T->R T)(c_7:List T->R T):En->RS:=
  zu (zZ 1 (z8 1 c_8 (z0 (z8 3 c_3 (z0 (vE 0) (z0 (cE (.int 10)) (z0 (cE (.int 3)) (zb))))) (zb))))
  (zu (yx 2 (z0 (vE 1) (zb)))
  (zu (Yx (qY (cE (.int 8))) (Z4 3) (zu (zZ 4 (z9 zl (z9 j6 (z8 2 c_c (z0 (vE 0) (z0 (z9 zl (cE (.int 1700)) (vE 3)) (zb)))) (cE (.int 7919))) (z8 3 c_9 (z0 (vE 0) (z0 (z9 zl (cE (.int 1720)) (vE 3)) (z0 (cE (.int 999983)) (zb)))))))
  (zu (wU 2 (z8 3 c_i (z0 (vE 1) (z0 (vE 4) (z0 (cE (.str "0123- ,abnoword()")) (zb))))))
  (zu (zZ 5 (z8 3 c_9 (z0 (vE 0) (z0 (z9 zl (cE (.int 1740)) (vE 3)) (z0 (ap1 Z7 (vB 1)) (zb))))))
  (zu (zZ 6 (z9 zl (cE (.int 1)) (z8 3 c_9 (z0 (vE 0) (z0 (z9 zl (cE (.int 1760)) (vE 3)) (z0 (cE (.int 6)) (zb)))))))
  (zu (wU 2 (z9 zl (Zg (vE 1) (noO) (zh (vE 5))) (Zg (vE 1) (zh (z9 zl (vE 5) (vE 6))) (noO))))
  (wU 2 (z9 zl (Zg (vE 1) (noO) (zh (z9 zl (vE 5) (vE 6)))) (Zg (vE 1) (zh (vE 5)) (noO))))))))))
  (zu (QX (Yx (jP (vE 2)) (Z4 7) (zu (zZ 8 (jT [7] okX c_a (z8 1 c_1 (z0 (z8 1 c_7 (z0 (vE 0) (zb))) (zb)))))
  (ifS (uS (zB neC (vB 8) (vB 7)) (zB neC (vB 8) (cE (.str "no text")))) (zI (cE (.bl false))) (nxS)))))
  (zu (yx 9 (z0 (cE (.str "rising")) (z0 (cE (.str "unlike")) (z0 (cE (.str "word a")) (z0 (cE (.str "sum -50 50")) (z0 (cE (.str "size 5 -5")) (z0 (cE (.str "no(no(rising))")) (zb))))))))
  (zu (Wh 9 (ju (z0 (cE (.str "all(some(rising, unlike), word no)")) (zb))))
  (zu (QX (ifS (zB neC (jO (jP (vE 9)) (Z4 0) (Zw) (z8 1 c_1 (z0 (z8 1 c_7 (z0 (vE 0) (zb))) (zb))) 1 []) (vB 9)) (zI (cE (.bl false))) (nxS)))
  (zu (yx 10 (z0 (cE (.str "")) (z0 (cE (.str "risen")) (z0 (cE (.str "word")) (z0 (cE (.str "word ")) (z0 (cE (.str "word A")) (z0 (cE (.str "word abcd")) (z0 (cE (.str "word a b")) (z0 (cE (.str "sum")) (z0 (cE (.str "sum 1")) (z0 (cE (.str "sum 1 2 3")) (zb))))))))))))
  (zu (Wh 10 (ju (z0 (cE (.str "sum 01 2")) (z0 (cE (.str "sum -0 2")) (zb)))))
  (zu (Wh 10 (ju (z0 (cE (.str "sum 51 52")) (z0 (cE (.str "size  1 2")) (z0 (cE (.str "no")) (z0 (cE (.str "no()")) (z0 (cE (.str "no(rising")) (z0 (cE (.str "no rising")) (z0 (cE (.str "all(rising)")) (zb))))))))))
  (zu (Wh 10 (ju (z0 (cE (.str "all(rising,unlike)")) (z0 (cE (.str "some(rising, )")) (zb)))))
  (zu (Wh 10 (ju (z0 (cE (.str "all(rising, unlike, rising)")) (z0 (cE (.str "no(no(no(rising)))")) (z0 (cE (.str "rising ")) (z0 (cE (.str " rising")) (z0 (cE (.str "rising\n")) (z0 (cE .non) (zb)))))))))
  (zu (Wh 10 (ju (z0 (cE (.int 5)) (z0 (J9 (z0 (cE (.str "rising")) (zb))) (z0 (cE (.str "no(rising))")) (zb))))))
  (zI (Jk eqC (ZH (jP (vE 10)) (Z4 0) (Zw) (jT [0] okX c_a (z8 1 c_7 (z0 (vE 0) (zb)))) 1 []) (z9 j6 (ju (z0 (cE (.str "no text")) (zb))) (cE (.int 30)))))))))))))))))
def f_0:List T->R T:=λts=>zC (b_0 (f_c) (f_9) (f_3 8) (f_a) (f_i) (f_8 8) (f_1) (f_7) (en0 11 ts))
end G
namespace G
open PySem L2 PV
noncomputable abbrev scr (ns:List Int):T:= .fz (ns.map T.int)
theorem Uw (ns:List Int)(k:Int)(h0:0<=k):∃c,f_c [scr ns,.int k]= .ok (.int c):=by
 have e1:f_c [scr ns,.int k]=zC (if decide (k < ((ns.map T.int).length))=true then (atT (ns.map T.int) k).s (λt=> .rt t) else
   match (eqC (scr ns) (.lst [])).s (λb=>if b=true then RS.rt (.int 0) else .nx [.vl (scr ns),.vl (.int k)]) with
   | .nx ρ' =>zI (z9 zl (z9 j6 (z9 ixT (vE 0) (z9 Zv (vE 1) (ap1 Z7 (vB 0)))) (cE (.int 31))) (vE 1)) ρ'
   | r=>r):=by
  show zC (match (if decide _=true then (atT _ k).s (λt=>RS.rt t) else .nx _) with
   | .nx ρ' =>_
   | r=>r)=_
  cases decide (k < ((ns.map _).length:Int)) with
  | true=>
   unfold atT;cases atI _ k <;> rfl
  | false=>rfl
 rw[e1,aD]
 by_cases hk:k < (ns.length)
 ·obtain⟨v,hv⟩:∃v,ns[k.toNat]? =some v:=⟨ns[k.toNat]'(by omega),aF (by omega)⟩
  have ea:atI (ns.map T.int) k=some (.int v):=by
   have:k=((k.toNat):Int):=by omega
   rw[this];exact Zt (by rw[av,hv];rfl)
  rw[decide_eq_true hk];exact⟨v,by unfold atT;rw[ea];rfl⟩
 ·rw[decide_eq_false hk];cases ns with
  | nil=>exact⟨0,rfl⟩
  | cons x xs=>
   have hm0:=fv k (show (((x :: xs).length):Int) ≠ 0 by simp only[ae];omega)
   have hm1:=eH k (show (0) < (((x :: xs).length):Int) by simp only[ae];omega)
   obtain⟨v,hv⟩:∃v,(x :: xs)[(k % (((x :: xs).length):Int)).toNat]? =some v:=⟨_,aF (by omega)⟩
   have ea:atI ((x :: xs).map T.int) (k % (((x :: xs).length):Int))=some (.int v):=by
    have e:k % (((x :: xs).length):Int)=(((k % (((x :: xs).length):Int)).toNat:Nat):Int):=by omega
    rw[e];exact Zt (by rw[av,hv];rfl)
   have cm:wQ v 31:= .inr ⟨by decide,by decide⟩
   have hp:(0:Int) < (((x :: xs).map T.int).length):=by simp only[aD,ae];omega
   refine⟨v*31+k, ?_⟩;show zC (((((if 0 < (((x :: xs).map _).length:Int) then R.ok _ else .bad).bind λy=>ixT _ y).bind λa=>j6 a _).bind λa=>zl a _).s λt=> .rt t)=_
   rw[if_pos hp];show zC ((((atT _ _).bind λa=>j6 a _).bind λa=>zl a _).s λt=> .rt t)=_;rw[aD];unfold atT;rw[ea];show zC ((((if wQ v 31 then R.ok _ else .bad)).bind λa=>zl a _).s λt=> .rt t)=_
   rw[if_pos cm];rfl
theorem Zn (ns:List Int)(k m:Int)(h0:0<=k)(hm:0 < m):∃p,f_9 [scr ns,.int k,.int m]= .ok (.int p)/\0<=p/\p < m:=by
 obtain⟨c,hc⟩:=Uw ns k h0;have cm2:wQ (c+6151*(k+1)) 40692:= .inr ⟨by decide,by decide⟩
 generalize hd:(c+6151*(k+1))*40692 % 2147483399=d;have cm3:wQ d d:= .inl ⟨by omega,by omega⟩
 refine⟨(d*d+d / 31) % 2147483629 % m, ?_,fv _ (by omega),eH _ hm⟩
 have e1:f_9 [scr ns,.int k,.int m]=zC (match ((((((f_c _).bind λx=>(j6 (.int 6151) (.int _)).bind λy=>zl x y).bind λx=>j6 x _).bind λx=>Zv x _)).s λt=>RS.nx _) with
   | .nx ρ' =>zI _ ρ'
   | r=>r):=rfl
 rw[e1,hc];show zC (match ((((if wQ _ _ then R.ok _ else .bad)).bind λx=>Zv x _).s λt=>RS.nx _) with
   | .nx ρ' =>_
   | r=>r)=_
 rw[if_pos cm2];show zC (zI _ _)=_;rw[hd];show zC (((((if wQ d d then R.ok _ else .bad).bind λx=>zl x _).bind λx=>Zv x _).bind λx=>Zv x _).s λt=>RS.rt t)=_
 rw[if_pos cm3];show zC ((if 0 < m then R.ok _ else .bad).s λt=>RS.rt t)=_
 rw[if_pos hm];rfl
theorem Ux {ft:En->R Bool}{fe:En->R T}:∀(ts:List T) (ρ:En) (x:Sl),zz (Z4 0) ft fe ts (ρ.set 0 x)=zz (Z4 0) ft fe ts ρ
 | [],_,_=>rfl
 | t :: ts,ρ,x=>by
  unfold zz Z4;rw[List.set_set]
theorem jp {ft:En->R Bool}{fe:En->R T}{p:T->Bool}{h:T->T}:∀(ts:List T) (ρ:En),(∀t∈ts,ft (ρ.set 0 (.vl t))= .ok (p t)/\(p t=true->fe (ρ.set 0 (.vl t))= .ok (h t)))->zz (Z4 0) ft fe ts ρ= .ok ((ts.filter p).map h)
 | [],_,_=>rfl
 | t :: ts,ρ,H=>by
  obtain⟨h1,h2⟩:=H t ac;have ih:=jp ts ρ λu hu=>H u (a8 _ hu);have e:zz (Z4 0) ft fe (t :: ts) ρ=(ft _).bind λk=>if k=true then (fe _).bind λv=>(zz _ ft fe ts _).bind λvs=> .ok _ else zz _ ft fe ts _:=rfl
  rw[e,h1,Ux,ih];show (if p t=true then _ else _)=_
  cases hp:p t with
  | true=>rw[h2 hp,List.filter_cons_of_pos hp];rfl
  | false=>rw[if_neg aE,List.filter_cons_of_neg (by rw[hp];exact aE)]
theorem jY {fe:En->R T}{h:T->T}(ts:List T)(ρ:En)(H:∀t∈ts,fe (ρ.set 0 (.vl t))= .ok (h t)):zz (Z4 0) Zw fe ts ρ= .ok (ts.map h):=by
 have:=jp (ft:=Zw) ts ρ λt ht=>⟨rfl,λ_=>H t ht⟩;rw[this,List.filter_eq_self.mpr (λ_ _=>rfl)]
theorem Uy {fe:En->R T}{h:T->T}{k:Nat}{js:List Nat}{ρ:En}(ts:List T)(hl:ts.length<=bnd)(H:∀t∈ts,fe ((Jd k js ρ).set 0 (.vl t))= .ok (h t)):JB (Z4 0) Zw fe k js ρ ts= .ok (ts.map h):=by
 unfold JB;rw[if_pos hl,jY ts _ H];rfl
theorem Wy (p:T->Bool):∀ts:List T,y8 (ts.map λt=>T.bl (p t))=some (ts.all p)
 | []=>rfl
 | t :: ts=>by
  show (match y8 (ts.map λt=>T.bl _) with | some j=>some _ | none=>none)=_
  rw[Wy p ts];rfl
noncomputable def isW:T->Bool
 | .int _=>true
 | _=>false
theorem Wz (t:T):f_l [t]= .ok (.bl (isW t)):=by cases t <;> rfl
noncomputable def Zp (c:Nat):Bool:=decide (97<=c) && decide (c<=122)
def jq:T->Bool
 | .str x=>decide (1<=x.length) && decide (x.length<=3) && x.cps.toList.all Zp
 | _=>false
theorem YG (a b:Nat):decide ([a] < [b])=decide (a < b):=by
 by_cases h:a < b
 ·rw[decide_eq_true h];exact decide_eq_true (List.Lex.rel h)
 ·rw[decide_eq_false h];refine decide_eq_false λz=> ?_;cases z with
  | rel h' =>exact h h'
  | cons h' =>cases h'
theorem Qw (c:Nat)(ρ:En):chE leC leC (cE (.str "a")) (vB 0) (cE (.str "z")) ((Sl.vl (.str ⟨#[c]⟩)) :: ρ)= .ok (.bl (Zp c)):=by
 have e1:leC (.str "a") (.str ⟨#[c]⟩)= .ok (decide (97<=c)):=by
  show R.ok (!decide ([c] < [97]))=_;rw[YG]
  by_cases h:c < 97
  ·rw[decide_eq_true h,decide_eq_false (by omega)];rfl
  ·rw[decide_eq_false h,decide_eq_true (by omega)];rfl
 have e2:leC (.str ⟨#[c]⟩) (.str "z")= .ok (decide (c<=122)):=by
  show R.ok (!decide ([122] < [c]))=_;rw[YG]
  by_cases h:122 < c
  ·rw[decide_eq_true h,decide_eq_false (by omega)];rfl
  ·rw[decide_eq_false h,decide_eq_true (by omega)];rfl
 show (leC (.str "a") (.str _)).bind (λk=>if k=true then (leC (.str _) (.str "z")).bind λk' =>R.ok (T.bl k') else R.ok _)=_
 rw[e1,e2];unfold Zp;cases decide (97<=c) <;> rfl
def Qx:T->Prop
 | .str x=>x.length<=bnd
 | _=>True
theorem Uz (t:T)(ht:Qx t):f_h [t]= .ok (.bl (jq t)):=by
 cases t with
 | str x=>
  have hx:=ht;have e0:Z7 (.str x)= .ok _:=if_pos hx;have ec:JB (Z4 0) Zw (chE leC leC (cE (.str "a")) (vB 0) (cE (.str "z"))) 1 [] [.vl (.str x)] (Zk x)= .ok (x.cps.toList.map λc=>T.bl (Zp c)):=by
   have hs:(Zk x).length<=bnd:=by unfold Zk;rw[aD];exact hx
   have:=Uy (h:=λt=>match t with | .str y=>T.bl (Zp (y.cps.toList.headD 0)) | t=>t) (k:=1) (js:=[]) (ρ:=[.vl (.str x)]) _ hs λt ht=>by
    obtain⟨c,_,rfl⟩:=cJ.mp ht;exact Qw c []
   rw[this];unfold Zk;rw[bS];rfl
  have ea:y8 (x.cps.toList.map λc=>T.bl (Zp c))=some (x.cps.toList.all Zp):=by
   have:=Wy (λt=>match t with | .str y=>Zp (y.cps.toList.headD 0) | _=>true) (Zk x)
   unfold Zk at this;rw[bS,eQ]at this;exact this
  have e1:f_h [.str x]=zC (match ((((Z7 (.str x)).bind λy=>(leC _ y).bind λk=>if k=true then leC y _ else .ok _).bind λb=> .ok _).s λk=>if k=true then RS.rt _ else .nx _) with
    | .nx ρ' =>zI _ ρ'
    | r=>r):=rfl
  rw[e1,e0];have c1:decide ((1:Int)<=(x.length))=decide (1<=x.length):=by
   by_cases h:1<=x.length
   ·rw[decide_eq_true h];exact decide_eq_true (by omega)
   ·rw[decide_eq_false h];exact decide_eq_false (by omega)
  have c2:decide ((x.length:Int)<=(3))=decide (x.length<=3):=by
   by_cases h:x.length<=3
   ·rw[decide_eq_true h];exact decide_eq_true (by omega)
   ·rw[decide_eq_false h];exact decide_eq_false (by omega)
  show zC (match ((((if decide _=true then R.ok _ else .ok _)).bind λb=> .ok _).s λk=>if k=true then RS.rt _ else .nx _) with
    | .nx ρ' =>_
    | r=>r)=_
  rw[c1,c2];show _=R.ok (T.bl (decide _ && decide _ && x.cps.toList.all _));cases decide (1<=x.length) with
  | false=>rfl
  | true=>
   cases decide (x.length<=3) with
   | false=>rfl
   | true=>
    show zC ((((JB _ _ _ 1 [] [.vl _] _).bind λvs=> .ok _).bind XG).s λt=> .rt t)=_;rw[ec];show zC ((match y8 (x.cps.toList.map λc=>T.bl _) with | some k=>R.ok _ | none=> .bad).s λt=> .rt t)=_
    rw[ea];rfl
 | _=>rfl
theorem bOk {α β:Type}(a:α)(f:α->R β):(R.ok a).bind f=f a:=rfl
theorem YH {α:Type}(a:α)(f:α->RS):(R.ok a).s f=f a:=rfl
theorem VC (f:En->R T)(ρ:En):zI f ρ=(f (frz ρ)).s λt=> .rt t:=rfl
theorem zV {g:List T->R T}{f:En->R T}{ρ:En}:z8 1 g (z0 f zb) ρ=(f ρ).bind λx=>g [x]:=by
 unfold z8 z0 zb;cases f ρ <;> rfl
theorem j3 {g:List T->R T}{f f' :En->R T}{ρ:En}:z8 2 g (z0 f (z0 f' zb)) ρ=(f ρ).bind λx=>(f' ρ).bind λy=>g [x,y]:=by
 unfold z8 z0 zb;cases f ρ with
 | ok a=>cases f' ρ <;> rfl
 | ex c=>rfl
 | bad=>rfl
theorem UA {g:List T->R T}{f f' f'' :En->R T}{ρ:En}:z8 3 g (z0 f (z0 f' (z0 f'' zb))) ρ=(f ρ).bind λx=>(f' ρ).bind λy=>(f'' ρ).bind λz=>g [x,y,z]:=by
 unfold z8 z0 zb;cases f ρ with
 | ok a=>
  cases f' ρ with
  | ok b=>cases f'' ρ <;> rfl
  | ex c=>rfl
  | bad=>rfl
 | ex c=>rfl
 | bad=>rfl
def Kg (r k:R T):R T:=r.bind λx=>match x with
 | .bl true=>k
 | .bl false=> .ok (.bl false)
 | _=> .bad
theorem wG (f g:En->R T)(ρ:En):wT f g ρ=Kg (f ρ) (g ρ):=rfl
theorem jZ (a:Bool)(k:R T):Kg (.ok (.bl a)) k=if a=true then k else .ok (.bl false):=by cases a <;> rfl
theorem v0 {t:T}{ρ:En}:vE 0 (.vl t :: ρ)= .ok t:=rfl
theorem v1 {t:T}{a:Sl}{ρ:En}:vE 1 (a :: .vl t :: ρ)= .ok t:=rfl
theorem w0 {t:T}{ρ:En}:vB 0 (.vl t :: ρ)= .ok t:=rfl
theorem w1 {t:T}{a:Sl}{ρ:En}:vB 1 (a :: .vl t :: ρ)= .ok t:=rfl
theorem Zq {t:T}{ρ:En}:cE t ρ= .ok t:=rfl
theorem zm {g:T->T->R T}{f f' :En->R T}{ρ:En}:z9 g f f' ρ=(f ρ).bind λx=>(f' ρ).bind λy=>g x y:=rfl
theorem VD {g g' :T->T->R Bool}{fa fb fc:En->R T}{ρ:En}:chE g g' fa fb fc ρ=(fa ρ).bind λx=>(fb ρ).bind λy=>(g x y).bind λk=>if k=true then (fc ρ).bind λz=>(g' y z).bind λk' => .ok (.bl k') else .ok (.bl false):=rfl
theorem J0 {g:T->R T}{f:En->R T}{ρ:En}:ap1 g f ρ=(f ρ).bind g:=rfl
theorem Y2 {i j:Int}:leC (.int i) (.int j)= .ok (decide (i<=j)):=rfl
theorem JN {g:T->T->R Bool}{f f' :En->R T}{ρ:En}:Jk g f f' ρ=(f ρ).bind λx=>(f' ρ).bind λy=>(g x y).bind λb=> .ok (.bl b):=rfl
theorem Y3 {xs:List T}:Z7 (.tup xs)= .ok (.int xs.length):=rfl
mutual
noncomputable def sOk:T->Prop
 | .str x=>x.length<=bnd
 | .tup xs=>yb xs
 | .lst xs=>yb xs
 | .fz xs=>yb xs
 | _=>True
noncomputable def yb:List T->Prop
 | []=>True
 | t :: ts=>sOk t/\yb ts
end
theorem WA:∀{ts:List T} {t:T},yb ts->t∈ts->sOk t
 | u :: ts,t,h,hm=>by
  have h' :=by simpa only[yb] using h
  rcases aj.mp hm with rfl | hm
  ·exact h'.1
  ·exact WA h'.2 hm
theorem sOk.str {t:T}(h:sOk t):Qx t:=by
 cases t with
 | str x=>
  have h' :=by simpa only[sOk] using h
  exact h'
 | _=>trivial
theorem Qy {xs:List T}(h:sOk (.tup xs)):yb xs:=by simpa only[sOk] using h
theorem UB (f g:En->RS)(ρ:En):zu f g ρ=match f ρ with | .nx ρ' =>g ρ' | r=>r:=rfl
theorem VE (g:En->R Bool)(f1 f2:En->RS)(ρ:En):ifS g f1 f2 ρ=(g ρ).s λk=>if k=true then f1 ρ else f2 ρ:=rfl
theorem UC (f g:En->R Bool)(ρ:En):orT f g ρ=(f ρ).bind λx=>if x=true then .ok true else g ρ:=rfl
theorem jr (f:En->R Bool)(ρ:En):Jz f ρ=(f ρ).bind λx=> .ok (!x):=rfl
theorem Zh (f:En->R T)(ρ:En):jm f ρ=(f ρ).bind tru:=rfl
theorem j4 (k:Bool):tru (.bl k)= .ok k:=rfl
theorem YI (i:Nat)(f:En->R T)(ρ:En):zZ i f ρ=(f ρ).s λt=> .nx (ρ.set i (.vl t)):=rfl
theorem Zc {g:T->T->R Bool}{f f' :En->R T}{ρ:En}:zB g f f' ρ=(f ρ).bind λx=>(f' ρ).bind λy=>g x y:=rfl
theorem Qz {fi:En->R (List T)}{g:T->En->R En}{ft:En->R Bool}{fe:En->R T}{k:Nat}{js:List Nat}{ρ:En}:ZH fi g ft fe k js ρ=(fi ρ).bind λts=>(JB g ft fe k js ρ ts).bind λvs=> .ok (.lst vs):=rfl
noncomputable def isS (w:Str):T->Bool
 | .str s=>s == w
 | _=>false
theorem eqS (h:T)(w:Str):eqC h (.str w)= .ok (isS w h):=by cases h <;> rfl
theorem eqI (i j:Int):eqC (.int i) (.int j)= .ok (i == j):=rfl
theorem at0 {h:T}{r:List T}:ixT (.tup (h :: r)) (.int 0)= .ok h:=by
 show atT _ 0=_;unfold atT;rw[show atI _ 0=some h from Zt rfl]
theorem at1 {h a:T}{r:List T}:ixT (.tup (h :: a :: r)) (.int 1)= .ok a:=by
 show atT _ 1=_;unfold atT;rw[show atI _ 1=some a from Zt rfl]
theorem at2 {h a b:T}{r:List T}:ixT (.tup (h :: a :: b :: r)) (.int 2)= .ok b:=by
 show atT _ 2=_;unfold atT;rw[show atI _ 2=some b from Zt rfl]
theorem VF {f:En->R T}{ρ:En}:vO f ρ=(f ρ).bind λx=>match x with | .int i=> .ok (.int (-i)) | _=> .bad:=rfl
theorem ZE {i j:Int}:jA (.int i) (.int j)= .ok (.int (i - j)):=rfl
noncomputable def inR (lo hi:Int):T->Bool
 | .int i=>decide (lo<=i) && decide (i<=hi)
 | _=>false
theorem ltI (i j:Int):ltC (.int i) (.int j)= .ok (decide (i < j)):=rfl
theorem v2 {t:T}{a b:Sl}{ρ:En}:vE 2 (a :: b :: .vl t :: ρ)= .ok t:=rfl
theorem v3 {t:T}{a b c:Sl}{ρ:En}:vE 3 (a :: b :: c :: .vl t :: ρ)= .ok t:=rfl
theorem w2 {t:T}{a b:Sl}{ρ:En}:vB 2 (a :: b :: .vl t :: ρ)= .ok t:=rfl
theorem w3 {t:T}{a b c:Sl}{ρ:En}:vB 3 (a :: b :: c :: .vl t :: ρ)= .ok t:=rfl
theorem ji (f g:En->R Bool)(ρ:En):uS f g ρ=(f ρ).bind λx=>if x=true then g ρ else .ok false:=rfl
theorem QA (t:T):uT "tuple" t= .ok (.bl (match t with | .tup _=>true | _=>false)):=by cases t <;> rfl
theorem wH {xs:List T}{k:Nat}{t:T}(h:xs[k]? =some t):ixT (.lst xs) (.int k)= .ok t:=by
 show atT xs k=_;unfold atT;rw[Zt h]
theorem WB (i j:Int):zl (.int i) (.int j)= .ok (.int (i+j)):=rfl
theorem xG {f g:En->R T}{ρ:En}{x y:T}(hf:f ρ= .ok x)(hg:g ρ= .ok y):J9 (z0 f (z0 g zb)) ρ= .ok (.tup [x,y]):=by
 unfold J9 z0 zb;rw[hf,hg];rfl
theorem xH {f g h:En->R T}{ρ:En}{x y z:T}(hf:f ρ= .ok x)(hg:g ρ= .ok y)(hh:h ρ= .ok z):J9 (z0 f (z0 g (z0 h zb))) ρ= .ok (.tup [x,y,z]):=by
 unfold J9 z0 zb;rw[hf,hg,hh];rfl
theorem VG (c:Int)(j:Int)(hc:wQ c j):j6 (.int c) (.int j)= .ok (.int (c*j)):=by
 show (if wQ c j then R.ok _ else .bad)=_
 rw[if_pos hc]
theorem Kh {f:En->R T}{ρ:En}{x:T}(hf:f ρ= .ok x):J9 (z0 f zb) ρ= .ok (.tup [x]):=by
 unfold J9 z0 zb;rw[hf];rfl
theorem QB {t:T}(h:∀xs,t ≠ .tup xs):uT "tuple" t= .ok (.bl false):=by
 cases t with
 | tup xs=>exact(h xs rfl).elim
 | _=>rfl
inductive Kd where
 | whole (lo hi:Int)
 | pick (cs:List (Str×Int))
 | row (ks:List Kd)
 | many (k:Kd) (lo hi:Nat)
noncomputable def g9 (c:Str×Int):T:= .tup [.str c.1,.int c.2]
mutual
noncomputable def Kd.t:Kd->T
 | .whole lo hi=> .tup [.str "whole",.int lo,.int hi]
 | .pick cs=> .tup [.str "pick",.tup (cs.map g9)]
 | .row ks=> .tup [.str "row",.tup (Kd.ts ks)]
 | .many k lo hi=> .tup [.str "many",k.t,.int (lo:Int),.int (hi:Int)]
noncomputable def Kd.ts:List Kd->List T
 | []=>[]
 | k :: ks=>k.t :: Kd.ts ks
end
noncomputable def VH (made:List (List T)):List (List T)->List (List T)
 | []=>made
 | ls :: r=>VH (made.flatMap λa=>ls.map λx=>a++[x]) r
abbrev Ki (ls:List (List T)):List T:=(VH [[]] ls).map T.tup
mutual
noncomputable def Kd.all:Kd->List T
 | .whole lo hi=>(bF (hi+1 - lo).toNat).map λ(i:Nat)=>T.int (lo+(i:Int))
 | .pick cs=>cs.map λc=>T.str c.1
 | .row ks=>Ki (Kd.alls ks)
 | .many k lo hi=>(bF (hi+1 - lo)).flatMap λi=>Ki (au (lo+i) k.all)
noncomputable def Kd.alls:List Kd->List (List T)
 | []=>[]
 | k :: ks=>k.all :: Kd.alls ks
end
theorem z5 {f g:En->RS}{ρ ρ' :En}(h:f ρ= .nx ρ'):zu f g ρ=g ρ' :=by rw[UB,h]
theorem cs0 {x w:Str}{r:List T}{ρ:En}:zB eqC (z9 ixT (vE 0) (cE (.int 0))) (cE (.str w)) (.vl (.tup (.str x :: r)) :: ρ)= .ok (x == w):=by
 rw[Zc,zm,v0,bOk,Zq,bOk,at0,Zq,bOk];rfl
theorem yc {a b:T}{r:List T}{ρ:En}:z9 ixT (vE 0) (cE (.int 1)) (.vl (.tup (a :: b :: r)) :: ρ)= .ok b:=by
 rw[zm,v0,bOk,Zq,bOk,at1]
theorem QY {a b c:T}{r:List T}{ρ:En}:z9 ixT (vE 0) (cE (.int 2)) (.vl (.tup (a :: b :: c :: r)) :: ρ)= .ok c:=by
 rw[zm,v0,bOk,Zq,bOk,at2]
theorem ZQ {g:En->R Bool}{f1 f2:En->RS}{ρ:En}(h:g ρ= .ok true):ifS g f1 f2 ρ=f1 ρ:=by rw[VE,h,YH,if_pos rfl]
theorem Kj {g:En->R Bool}{f1 f2:En->RS}{ρ:En}(h:g ρ= .ok false):ifS g f1 f2 ρ=f2 ρ:=by rw[VE,h,YH,if_neg aE]
theorem zg {g:En->R Bool}{f1:En->RS}{ρ:En}(h:g ρ= .ok false):ifS g f1 nxS ρ= .nx ρ:=by rw[Kj h];rfl
theorem Z0 {i:Nat}{f:En->R T}{ρ:En}{t:T}(h:f ρ= .ok t):zZ i f ρ= .nx (ρ.set i (.vl t)):=by rw[YI,h,YH]
theorem zi {f:En->R T}{ρ:En}{t:T}(h:f (frz ρ)= .ok t):zI f ρ= .rt t:=by rw[VC,h,YH]
theorem wI {g:T->En->R En}{fb:En->RS}{t:T}{ts:List T}{ρ ρ1 ρ2:En}(hg:g t ρ= .ok ρ1)(hb:fb ρ1= .nx ρ2):Jc g fb (t :: ts) ρ=Jc g fb ts ρ2:=by
 rw[Jc,hg];dsimp only;rw[hb]
theorem zA {f g:En->RS}{ρ:En}{t:T}(h:f ρ= .rt t):zu f g ρ= .rt t:=by rw[UB,h]
theorem VI (a b:Nat):((a:Int) == (b:Int))=(a == b):=by
 by_cases h:a=b
 ·subst h;simp
 ·rw[beq_eq_false_iff_ne.mpr h,beq_eq_false_iff_ne];omega
abbrev en2 (a b:T):En:=[.vl a,.vl b]
theorem Zr {f g:En->RS}{ρ:En}{c:Nat}(h:f ρ= .ex c):zu f g ρ= .ex c:=by rw[UB,h]
theorem VJ {xs:List T}{j:Nat}{v:T}(h:xs[j]? =some v):atT xs (j:Int)= .ok v:=by unfold atT;rw[Zt h]
theorem Jv (k:Kd)(m:Nat):((au m k).map λk=>k.all.length)=au m k.all.length:=by rw[List.map_replicate]
theorem VL {n c:Nat}(h:1<=c):Zv (.int (n:Int)) (.int (c:Int))= .ok (.int ((n % c:Nat):Int)):=by
 unfold Zv;dsimp only;rw[if_pos (by omega)];rfl
theorem Z8 {f:T->T->Option Bool}:∀(xs:List T),(∀x∈xs,f x x=some true)->eqL f xs xs=some true
 | [],_=>rfl
 | x :: xs,h=>by
  unfold eqL;rw[h x ac,Z8 xs λz hz=>h z (a8 _ hz)];rfl
theorem UD {f:En->R T}{ρ:En}{t:T}(h:f ρ= .ok t):uZ f ρ= .nx ρ:=by unfold uZ;rw[h,YH]
theorem VM {i j:Int}:gtC (.int i) (.int j)= .ok (decide (j < i)):=rfl
inductive W:Nat->T->Prop where
 | int (d:Nat) (i:Int):W d (.int i)
 | str (d:Nat) (s:Str):W d (.str s)
 | tup {d:Nat} {xs:List T} (h:xs.length<=3) (r:∀x∈xs,W d x):W (d+1) (.tup xs)
theorem UE (xs:List T):cut xs (some ((1:Nat):Int)) none=xs.drop 1:=by
 unfold cut;rw[HT.sIx_nat,HT.sIx_none]
 by_cases h:1<=xs.length
 ·rw[Nat.min_eq_left h,cK (by rw[dt];omega)]
 ·have:xs=[]:=bp.mp (by omega)
  subst this;rfl
def inB (xs:List T)(x:T):Bool:=(qM (λy=>eqF 30 y x) xs).getD false
def un (ps:List T):Bool:= !(ps.zipIdx.any λp=>inB (ps.take p.2) p.1)
inductive Ru where
 | sum (a b:Int) | size (a b:Int) | word (w:Str) | rising | unlike | no (r:Ru) | all (r s:Ru) | some (r s:Ru)
def Ru.t:Ru->T
 | .sum a b=> .tup [.str "sum",.int a,.int b]
 | .size a b=> .tup [.str "size",.int a,.int b]
 | .word w=> .tup [.str "word",.str w]
 | .rising=> .tup [.str "rising"]
 | .unlike=> .tup [.str "unlike"]
 | .no r=> .tup [.str "no",r.t]
 | .all r s=> .tup [.str "all",r.t,s.t]
 | .some r s=> .tup [.str "some",r.t,s.t]
inductive J7:Nat->Ru->Prop where
 | sum {d:Nat} {a b:Int} (ha: -50<=a/\a<=50) (hb: -50<=b/\b<=50):J7 (d+1) (.sum a b)
 | size {d:Nat} {a b:Int} (ha: -50<=a/\a<=50) (hb: -50<=b/\b<=50):J7 (d+1) (.size a b)
 | word {d:Nat} {w:Str} (h:jq (.str w)=true):J7 (d+1) (.word w)
 | rising {d:Nat}:J7 (d+1) .rising
 | unlike {d:Nat}:J7 (d+1) .unlike
 | no {d:Nat} {r:Ru} (h:J7 d r):J7 (d+1) (.no r)
 | all {d:Nat} {r s:Ru} (h:J7 d r) (h' :J7 d s):J7 (d+1) (.all r s)
 | some {d:Nat} {r s:Ru} (h:J7 d r) (h' :J7 d s):J7 (d+1) (.some r s)
theorem jB {i:Int}(h: -50<=i/\i<=50):f_d [.int i]= .ok (.bl true):=by
 show zC (b_d f_l [.vl (.int i)])=_;rw[b_d,zi (t:= .bl true)]
 ·rfl
 ·show wT _ _ [.vl (.int i)]=_;rw[wG,zV,v0,bOk,Wz,jZ,if_pos (show isW (.int i)=true from rfl),VD,VF,Zq,bOk];show ((R.ok (T.int (-50))).bind _)=_;rw[bOk,w0,bOk,Y2,decide_eq_true h.1,bOk,if_pos rfl,bOk,Y2,decide_eq_true h.2];rfl
theorem Zs {x w:Str}{r:List T}{ρ:En}(b:Bool)(h:(x == w)=b):zB eqC (z9 ixT (vE 0) (cE (.int 0))) (cE (.str w)) (.vl (.tup (.str x :: r)) :: ρ)= .ok b:=by rw[cs0,h]
theorem jt {f g:En->R Bool}{ρ:En}{b:Bool}(h:f ρ= .ok false)(h' :g ρ= .ok b):orT f g ρ= .ok b:=by rw[UC,h,bOk,if_neg aE,h']
theorem YJ {f g:En->R Bool}{ρ:En}(h:f ρ= .ok true):orT f g ρ= .ok true:=by rw[UC,h,bOk,if_pos rfl]
theorem Jf {f g:En->R T}{ρ:En}{r:R T}(h:f ρ= .ok (.bl true))(h' :g ρ=r):wT f g ρ=r:=by rw[wG,h,jZ,if_pos rfl,h']
theorem YK {xs:List T}{ρ:En}{n:Int}(h:((xs.length:Int) == n)=true):Jk eqC (ap1 Z7 (vB 0)) (cE (.int n)) (.vl (.tup xs) :: ρ)= .ok (.bl true):=by
 rw[JN,J0,w0,bOk,Y3,bOk,Zq,bOk,eqI,h,bOk]
theorem Zo {xs:List T}{d:Nat}{x:T}:orT (zB eqC (vB 1) (cE (.int 0))) (orT (Jz (jm (ap1 (uT "tuple") (vB 0)))) (zB eqC (ap1 Z7 (vB 0)) (cE (.int 0)))) (en2 (.tup (x :: xs)) (.int ((d+1:Nat):Int)))= .ok false:=by
 refine jt ?_ (jt ?_ ?_)
 ·rw[Zc,w1,bOk,Zq,bOk,eqI,beq_eq_false_iff_ne.mpr (by omega)]
 ·rw[jr,Zh,J0,w0,bOk,QA,bOk,j4,bOk];rfl
 ·rw[Zc,J0,w0,bOk,Y3,bOk,Zq,bOk,eqI,beq_eq_false_iff_ne.mpr (by rw[ae];omega)]
theorem Y4 {w:Str}(h:jq (.str w)=true):Qx (.str w):=by
 have h:(decide (1<=w.length) && decide (w.length<=3) && w.cps.toList.all Zp)=true:=h;simp only[ah,decide_eq_true_eq]at h;show w.length<=bnd;exact ay h.1.2 (by decide)
theorem jj:∀(n d:Nat),d<=n->∀r:Ru,J7 d r->S_5 n 0 [r.t,.int (d:Int)]= .ok (.bl true)
 | 0,d,h,r,hr=>by
  have:d=0:=by omega
  subst this;cases hr
 | n+1,d,h,r,hr=>by
  show zC (b_5 f_h (S_5 n 0) f_d (en2 r.t (.int (d:Int))))=_;rw[b_5];cases hr with
  | @sum d a b ha hb=>
   rw[Ru.t,z5 (zg Zo),zA (t:= .bl true)]
   ·rfl
   ·rw[ZQ (YJ (Zs true (by decide)))]
    exact zi (Jf (YK rfl) (Jf (by show z8 1 _ _ (en2 _ _)=_;rw[zV,yc,bOk,jB ha]) (by show z8 1 _ _ (en2 _ _)=_;rw[zV,QY,bOk,jB hb])))
  | @size d a b ha hb=>
   rw[Ru.t,z5 (zg Zo),zA (t:= .bl true)]
   ·rfl
   ·rw[ZQ (jt (Zs false (by decide)) (Zs true (by decide)))]
    exact zi (Jf (YK rfl) (Jf (by show z8 1 _ _ (en2 _ _)=_;rw[zV,yc,bOk,jB ha]) (by show z8 1 _ _ (en2 _ _)=_;rw[zV,QY,bOk,jB hb])))
  | @word d w hw=>
   rw[Ru.t,z5 (zg Zo),z5 (zg (jt (Zs false (by decide)) (Zs false (by decide)))),zA (t:= .bl true)]
   ·rfl
   ·rw[ZQ (Zs true (by decide))]
    exact zi (Jf (YK rfl) (by show z8 1 _ _ (en2 _ _)=_;rw[zV,yc,bOk,Uz _ (Y4 hw),hw]))
  | rising=>
   rw[Ru.t,z5 (zg Zo),z5 (zg (jt (Zs false (by decide)) (Zs false (by decide)))),z5 (zg (Zs false (by decide))),zA (t:= .bl true)]
   ·rfl
   ·rw[ZQ (YJ (Zs true (by decide)))]
    exact zi (YK rfl)
  | unlike=>
   rw[Ru.t,z5 (zg Zo),z5 (zg (jt (Zs false (by decide)) (Zs false (by decide)))),z5 (zg (Zs false (by decide))),zA (t:= .bl true)]
   ·rfl
   ·rw[ZQ (jt (Zs false (by decide)) (Zs true (by decide)))]
    exact zi (YK rfl)
  | @no d r hr=>
   have ih:=jj n d (by omega) r hr
   rw[Ru.t,z5 (zg Zo),z5 (zg (jt (Zs false (by decide)) (Zs false (by decide)))),z5 (zg (Zs false (by decide))),z5 (zg (jt (Zs false (by decide)) (Zs false (by decide)))),zA (t:= .bl true)]
   ·rfl
   ·rw[ZQ (Zs true (by decide))]
    exact zi (Jf (YK rfl) (by show z8 2 _ _ (en2 _ _)=_;rw[j3,yc,bOk,zm,v1,bOk,Zq,bOk,ZE,bOk,show ((d+1:Nat):Int) - 1=(d:Int) by omega,ih]))
  | @all d r s hr hs=>
   have ih:=jj n d (by omega) r hr
   have ih' :=jj n d (by omega) s hs
   rw[Ru.t,z5 (zg Zo),z5 (zg (jt (Zs false (by decide)) (Zs false (by decide)))),z5 (zg (Zs false (by decide))),z5 (zg (jt (Zs false (by decide)) (Zs false (by decide)))),z5 (zg (Zs false (by decide))),zA (t:= .bl true)]
   ·rfl
   ·rw[ZQ (YJ (Zs true (by decide)))]
    exact zi (Jf (YK rfl) (Jf (by show z8 2 _ _ (en2 _ _)=_;rw[j3,yc,bOk,zm,v1,bOk,Zq,bOk,ZE,bOk,show ((d+1:Nat):Int) - 1=(d:Int) by omega,ih]) (by show z8 2 _ _ (en2 _ _)=_;rw[j3,QY,bOk,zm,v1,bOk,Zq,bOk,ZE,bOk,show ((d+1:Nat):Int) - 1=(d:Int) by omega,ih'])))
  | @some d r s hr hs=>
   have ih:=jj n d (by omega) r hr
   have ih' :=jj n d (by omega) s hs
   rw[Ru.t,z5 (zg Zo),z5 (zg (jt (Zs false (by decide)) (Zs false (by decide)))),z5 (zg (Zs false (by decide))),z5 (zg (jt (Zs false (by decide)) (Zs false (by decide)))),z5 (zg (Zs false (by decide))),zA (t:= .bl true)]
   ·rfl
   ·rw[ZQ (jt (Zs false (by decide)) (Zs true (by decide)))]
    exact zi (Jf (YK rfl) (Jf (by show z8 2 _ _ (en2 _ _)=_;rw[j3,yc,bOk,zm,v1,bOk,Zq,bOk,ZE,bOk,show ((d+1:Nat):Int) - 1=(d:Int) by omega,ih]) (by show z8 2 _ _ (en2 _ _)=_;rw[j3,QY,bOk,zm,v1,bOk,Zq,bOk,ZE,bOk,show ((d+1:Nat):Int) - 1=(d:Int) by omega,ih'])))
theorem wJ {r:Ru}(h:J7 3 r):f_j [r.t]= .ok .non:=by
 have e:f_2 [r.t]= .ok (.bl true):=by
  show zC (b_2 (f_5 8) [.vl r.t])=_;rw[b_2,zi (t:= .bl true)]
  ·rfl
  ·show z8 2 _ _ [.vl r.t]=_;rw[j3,v0,bOk,Zq,bOk];exact jj 8 3 (by omega) r h
 show zC (b_j f_2 [.vl r.t])=_;rw[b_j,Kj (by rw[jr,Zh,zV,v0,bOk,e,bOk,j4,bOk];rfl)]
 rfl
theorem ki {f g h:En->R T}{ρ:En}{i j k:Int}(hf:f ρ= .ok (.int i))(hg:g ρ= .ok (.int j))(hh:h ρ= .ok (.int k)):chE leC leC f g h ρ= .ok (.bl (decide (i<=j) && decide (j<=k))):=by
 rw[VD,hf,bOk,hg,bOk,Y2,bOk];cases decide (i<=j) with
 | true=>rw[if_pos rfl,hh,bOk,Y2,bOk,Bool.true_and]
 | false=>rw[if_neg aE,Bool.false_and]
theorem UF {f g:En->R T}{ρ:En}{a b:Bool}(h:f ρ= .ok (.bl a))(h' :g ρ= .ok (.bl b)):wT f g ρ= .ok (.bl (a && b)):=by
 rw[wG,h,h',jZ];cases a <;> rfl
theorem YL {f g:En->R T}{ρ:En}{a b:Bool}(h:f ρ= .ok (.bl a))(h' :g ρ= .ok (.bl b)):orE f g ρ= .ok (.bl (a || b)):=by
 unfold orE;rw[h,bOk];cases a with
 | true=>rfl
 | false=>exact h'
abbrev lr (ns:List Int)(k:Int)(d:Nat)(p:Int)(a b:Sl):En:=[.vl (scr ns),.vl (.int k),.vl (.int (d:Int)),.vl (.int p),a,b]
theorem UG {ns:List Int}{k:Int}{d:Nat}{p:Int}{a b:Sl}{j m q:Int}(h:f_9 [scr ns,.int (k+j),.int m]= .ok (.int q)):z8 3 f_9 (z0 (vE 0) (z0 (z9 zl (vE 1) (cE (.int j))) (z0 (cE (.int m)) (zb)))) (lr ns k d p a b)= .ok (.int q):=by
 rw[UA,v0,bOk,zm,v1,bOk,Zq,bOk,WB,bOk,Zq,bOk,h]
theorem JO (ns:List Int):∀(n d:Nat),d<=n->1<=d->∀k:Int,0<=k->∃r:Ru,S_3 n 0 [scr ns,.int k,.int (d:Int)]= .ok r.t/\J7 d r
 | 0,d,h,h1,k,hk=>by omega
 | n+1,d,h,h1,k,hk=>by
  obtain⟨p,hp,p0,p9⟩:=Zn ns k 9 hk (by omega)
  have e1:zZ 3 (z8 3 f_9 (z0 (vE 0) (z0 (vE 1) (z0 (cE (.int 9)) (zb))))) [.vl (scr ns),.vl (.int k),.vl (.int (d:Int)),.un,.un,.un]= .nx (lr ns k d p .un .un):=by
   rw[Z0 (t:= .int p)]
   ·rfl
   ·rw[UA,v0,bOk,v1,bOk,Zq,bOk,hp]
  have e:S_3 (n+1) 0 [scr ns,.int k,.int (d:Int)]=zC (b_3 f_9 (S_3 n 0) [.vl (scr ns),.vl (.int k),.vl (.int (d:Int)),.un,.un,.un]):=rfl;rw[e,b_3,z5 e1];have et:uS (zB gtC (vB 2) (cE (.int 1))) (zB gtC (vB 3) (cE (.int 5))) (lr ns k d p .un .un)= .ok (decide (1 < d) && decide (5 < p)):=by
   rw[ji,Zc,w2,bOk,Zq,bOk,VM,bOk,show decide ((1:Int) < (d:Int))=decide (1 < d) by rw[fx,decide_eq_true_eq,decide_eq_true_eq];omega]
   cases decide (1 < d) with
   | true=>rw[if_pos rfl,Zc,w3,bOk,Zq,bOk,VM,Bool.true_and]
   | false=>rfl
  by_cases hb:1 < d/\5 < p
  ·rw[decide_eq_true hb.1,decide_eq_true hb.2]at et;obtain⟨d,rfl⟩:∃d',d=d' +1:=⟨d - 1,by omega⟩
   obtain⟨r1,hr1,o1⟩:=JO ns n d (by omega) (by omega) (2*k+11) (by omega)
   obtain⟨r2,hr2,o2⟩:=JO ns n d (by omega) (by omega) (2*k+24) (by omega)
   have m2:j6 (.int 2) (.int k)= .ok (.int (2*k)):=VG _ _ (.inl ⟨by decide,by decide⟩)
   have e2:zZ 4 (z8 3 (S_3 n 0) (z0 (vE 0) (z0 (z9 zl (z9 j6 (cE (.int 2)) (vE 1)) (cE (.int 11))) (z0 (z9 jA (vE 2) (cE (.int 1))) (zb))))) (lr ns k (d+1) p .un .un)= .nx (lr ns k (d+1) p (.vl r1.t) .un):=by
    rw[Z0 (t:=r1.t)]
    ·rfl
    ·rw[UA,v0,bOk,zm,zm,Zq,bOk,v1,bOk,m2,bOk,Zq,bOk,WB,bOk,zm,v2,bOk,Zq,bOk,ZE,bOk,show ((d+1:Nat):Int) - 1=(d:Int) by omega,hr1]
   have c2:z8 3 (S_3 n 0) (z0 (vE 0) (z0 (z9 zl (z9 j6 (cE (.int 2)) (vE 1)) (cE (.int 24))) (z0 (z9 jA (vE 2) (cE (.int 1))) (zb)))) (lr ns k (d+1) p (.vl r1.t) .un)= .ok r2.t:=by
    rw[UA,v0,bOk,zm,zm,Zq,bOk,v1,bOk,m2,bOk,Zq,bOk,WB,bOk,zm,v2,bOk,Zq,bOk,ZE,bOk,show ((d+1:Nat):Int) - 1=(d:Int) by omega,hr2]
   by_cases h6:p=6
   ·subst h6;refine⟨.no r1, ?_,.no o1⟩;rw[zA (t:=(Ru.no r1).t)]
    ·rfl
    ·rw[ZQ et,z5 e2,zA (t:=(Ru.no r1).t)];rw[ZQ rfl,Ru.t];exact zi (xG rfl rfl)
   ·have h6' :zB eqC (vB 3) (cE (.int 6)) (lr ns k (d+1) p (.vl r1.t) .un)= .ok false:=by
     rw[Zc,w3,bOk,Zq,bOk,eqI,beq_eq_false_iff_ne.mpr h6]
    by_cases h7:p=7
    ·subst h7;refine⟨.all r1 r2, ?_,.all o1 o2⟩;rw[zA (t:=(Ru.all r1 r2).t)]
     ·rfl
     ·rw[ZQ et,z5 e2,z5 (zg h6'),Ru.t];exact zi (xH rfl rfl c2)
    ·have h8:p=8:=by omega
     subst h8;refine⟨.some r1 r2, ?_,.some o1 o2⟩;rw[zA (t:=(Ru.some r1 r2).t)]
     ·rfl
     ·rw[ZQ et,z5 e2,z5 (zg h6'),Ru.t];exact zi (xH rfl rfl c2)
  ·have et:uS (zB gtC (vB 2) (cE (.int 1))) (zB gtC (vB 3) (cE (.int 5))) (lr ns k d p .un .un)= .ok false:=by
    rw[et];congr 1
    rw[cO,decide_eq_false_iff_not,decide_eq_false_iff_not];omega
   obtain⟨d,rfl⟩:∃d',d=d' +1:=⟨d - 1,by omega⟩
   obtain⟨q,hq,q0,q9⟩:=Zn ns (k+1) 9 (by omega) (by omega)
   have e2:zZ 5 (z9 jA (z8 3 f_9 (z0 (vE 0) (z0 (z9 zl (vE 1) (cE (.int 1))) (z0 (cE (.int 9)) (zb))))) (cE (.int 4))) (lr ns k (d+1) p .un .un)= .nx (lr ns k (d+1) p .un (.vl (.int (q - 4)))):=by
    rw[Z0 (t:= .int (q - 4))]
    ·rfl
    ·rw[zm,UG hq,bOk,Zq,bOk,ZE]
   rw[z5 (zg et),z5 e2];have hm:∃m:Nat,m < 6/\z9 Zv (vE 3) (cE (.int 6)) (lr ns k (d+1) p .un (.vl (.int (q - 4))))= .ok (.int (m:Int)):=by
    obtain⟨w,rfl⟩:=Int.eq_ofNat_of_zero_le p0;exact⟨w % 6,Nat.mod_lt _ (by omega),by rw[zm,v3,bOk,Zq,bOk];exact VL (c:=6) (by omega)⟩
   obtain⟨m,m6,hm⟩:=hm;have t2:zB ltC (z9 Zv (vE 3) (cE (.int 6))) (cE (.int 2)) (lr ns k (d+1) p .un (.vl (.int (q - 4))))= .ok (decide (m < 2)):=by
    rw[Zc,hm,bOk,Zq,bOk,ltI];congr 1;rw[fx,decide_eq_true_eq,decide_eq_true_eq];omega
   have tk:∀j:Nat,zB eqC (z9 Zv (vE 3) (cE (.int 6))) (cE (.int (j:Int))) (lr ns k (d+1) p .un (.vl (.int (q - 4))))= .ok (m == j):=λj=>by
    rw[Zc,hm,bOk,Zq,bOk,eqI,VI]
   have tk2:zB eqC (z9 Zv (vE 3) (cE (.int 6))) (cE (.int 2)) (lr ns k (d+1) p .un (.vl (.int (q - 4))))= .ok (m == 2):=tk 2;have tk3:zB eqC (z9 Zv (vE 3) (cE (.int 6))) (cE (.int 3)) (lr ns k (d+1) p .un (.vl (.int (q - 4))))= .ok (m == 3):=tk 3;have tk4:zB eqC (z9 Zv (vE 3) (cE (.int 6))) (cE (.int 4)) (lr ns k (d+1) p .un (.vl (.int (q - 4))))= .ok (m == 4):=tk 4
   by_cases h2:m < 2
   ·obtain⟨u,hu,u0,u5⟩:=Zn ns (k+2) 5 (by omega) (by omega)
    refine⟨.sum (q - 4) (q - 4+u - 1), ?_,.sum ⟨by omega,by omega⟩ ⟨by omega,by omega⟩⟩
    rw[zA (t:=(Ru.sum (q - 4) (q - 4+u - 1)).t)]
    ·rfl
    ·rw[ZQ (by rw[t2,decide_eq_true h2]),Ru.t]
     refine zi (xH rfl rfl ?_);show z9 jA _ _ (lr ns k (d+1) p .un (.vl (.int (q - 4))))=_;rw[zm,zm,UG hu,show vE 5 (lr ns k (d+1) p .un (.vl (.int (q - 4))))= .ok (.int (q - 4)) from rfl,bOk,bOk,WB,bOk,Zq,bOk,ZE]
   rw[z5 (zg (by rw[t2,decide_eq_false h2]))]
   by_cases h3:m=2
   ·subst h3;obtain⟨q',hq',q'0,q'3⟩:=Zn ns (k+1) 3 (by omega) (by omega)
    obtain⟨u,hu,u0,u4⟩:=Zn ns (k+2) 4 (by omega) (by omega)
    refine⟨.size q' u, ?_,.size ⟨by omega,by omega⟩ ⟨by omega,by omega⟩⟩
    rw[zA (t:=(Ru.size q' u).t)]
    ·rfl
    ·rw[ZQ tk2,Ru.t];exact zi (xH rfl (UG hq') (UG hu))
   rw[z5 (zg (by rw[tk2,beq_eq_false_iff_ne.mpr h3]))]
   by_cases h4:m=3
   ·subst h4;obtain⟨q',hq',q'0,q'3⟩:=Zn ns (k+1) 4 (by omega) (by omega)
    have hw:∃w:Str,jq (.str w)=true/\ixT (.lst [.str "a",.str "b",.str "ab",.str "zz"]) (.int q')= .ok (.str w):=by
     have hq4:q' =0\/q' =1\/q' =2\/q' =3:=by omega
     rcases hq4 with rfl | rfl | rfl | rfl
     ·exact⟨"a",by decide,rfl⟩
     ·exact⟨"b",by decide,rfl⟩
     ·exact⟨"ab",by decide,rfl⟩
     ·exact⟨"zz",by decide,rfl⟩
    obtain⟨w,hw,hx⟩:=hw;refine⟨.word w, ?_,.word hw⟩;rw[zA (t:=(Ru.word w).t)]
    ·rfl
    ·rw[ZQ tk3,Ru.t];refine zi (xG rfl ?_);show z9 ixT _ _ (lr ns k (d+1) p .un (.vl (.int (q - 4))))=_;rw[zm,UG hq'];exact hx
   rw[z5 (zg (by rw[tk3,beq_eq_false_iff_ne.mpr h4]))]
   by_cases h5:m=4
   ·subst h5;refine⟨.rising, ?_,.rising⟩;rw[zi (t:=Ru.rising.t)]
    ·rfl
    ·show ifE _ _ _ (lr ns k (d+1) p .un (.vl (.int (q - 4))))=_;unfold ifE;rw[tk4,bOk];rfl
   ·refine⟨.unlike, ?_,.unlike⟩;rw[zi (t:=Ru.unlike.t)]
    ·rfl
    ·show ifE _ _ _ (lr ns k (d+1) p .un (.vl (.int (q - 4))))=_;unfold ifE;rw[tk4,bOk,beq_eq_false_iff_ne.mpr h5];rfl
def VN:List T->Bool
 | [a,b]=>inR (-50) 50 a && inR (-50) 50 b
 | _=>false
def xI:List T->Bool
 | [w]=>jq w
 | _=>false
noncomputable def xJ (k:T->Bool):List T->Bool
 | [r]=>k r
 | _=>false
noncomputable def xK (k:T->Bool):List T->Bool
 | [r,s]=>k r && k s
 | _=>false
def Y5 (k:T->Bool):T->Bool
 | .tup (.str s :: xs)=>if s="sum"\/s="size" then VN xs else if s="word" then xI xs else if s="rising"\/s="unlike" then xs.isEmpty else if s="no" then xJ k xs else if s="all"\/s="some" then xK k xs else false
 | _=>false
def isR:Nat->T->Bool
 | 0,_=>false
 | d+1,t=>Y5 (isR d) t
theorem WC (t:T):f_d [t]= .ok (.bl (inR (-50) 50 t)):=by
 show zC (b_d f_l [.vl t])=_;rw[b_d,zi (t:= .bl (inR (-50) 50 t))]
 ·rfl
 ·show wT _ _ [.vl t]=_;rw[wG,zV,v0,bOk,Wz,jZ];cases t with
  | int i=>
   rw[if_pos (show isW (.int i)=true from rfl)];exact ki (i:= -50) (j:=i) (k:=50) rfl rfl rfl
  | _=>rfl
theorem JP {ys:List T}{n:Int}{g:En->R T}{ρ:En}{b:Bool}(h:((ys.length:Int) == n)=true->g (.vl (.tup ys) :: ρ)= .ok (.bl b))(hf:((ys.length:Int) == n)=false->b=false):wT (Jk eqC (ap1 Z7 (vB 0)) (cE (.int n))) g (.vl (.tup ys) :: ρ)= .ok (.bl b):=by
 have e:Jk eqC (ap1 Z7 (vB 0)) (cE (.int n)) (.vl (.tup ys) :: ρ)= .ok (.bl ((ys.length:Int) == n)):=by rw[JN,J0,w0,bOk,Y3,bOk,Zq,bOk,eqI,bOk]
 rw[wG,e,jZ];cases hb:((ys.length:Int) == n) with
 | true=>rw[if_pos rfl,h hb]
 | false=>rw[if_neg aE,hf hb]
theorem rh0 {h:T}{w:Str}{r:List T}{ρ:En}:zB eqC (z9 ixT (vE 0) (cE (.int 0))) (cE (.str w)) (.vl (.tup (h :: r)) :: ρ)= .ok (isS w h):=by
 rw[Zc,zm,v0,bOk,Zq,bOk,at0,bOk,Zq,bOk,eqS]
theorem JQ {h:T}{w:Str}{r:List T}{ρ:En}(e:isS w h=false):zB eqC (z9 ixT (vE 0) (cE (.int 0))) (cE (.str w)) (.vl (.tup (h :: r)) :: ρ)= .ok false:=by rw[rh0,e]
theorem sne {s w:Str}(h:s ≠ w):isS w (.str s)=false:=beq_eq_false_iff_ne.mpr h
theorem YM {s:Str}:isS s (.str s)=true:=beq_self_eq_true s
theorem xL {xs:List T}{n:Nat}(h:((xs.length+1:Nat):Int) == ((n+1:Nat):Int)):xs.length=n:=by have:=beq_iff_eq.mp h;omega
theorem kl {n d:Nat}{t:T}{f:En->R T}{ρ:En}{k:T->Bool}{x:T}(hf:f ρ= .ok x)(h1:vE 1 ρ= .ok (.int ((d+1:Nat):Int)))(hx:S_5 n 0 [x,.int (d:Int)]= .ok (.bl (k x))):z8 2 (S_5 n 0) (z0 f (z0 (z9 jA (vE 1) (cE (.int 1))) (zb))) ρ= .ok (.bl (k x)):=by
 rw[j3,hf,bOk,zm,h1,bOk,Zq,bOk,ZE,bOk,show ((d+1:Nat):Int) - 1=(d:Int) by omega,hx]
theorem Y6 {n d:Nat}{k:T->Bool}(H:∀t,sOk t->S_5 n 0 [t,.int (d:Int)]= .ok (.bl (k t)))(t:T)(ht:sOk t):S_5 (n+1) 0 [t,.int ((d+1:Nat):Int)]= .ok (.bl (Y5 k t)):=by
 show zC (b_5 f_h (S_5 n 0) f_d (en2 t (.int ((d+1:Nat):Int))))=_;have first:zB eqC (vB 1) (cE (.int 0)) (en2 t (.int ((d+1:Nat):Int)))= .ok false:=by
  rw[Zc,w1,bOk,Zq,bOk,eqI,beq_eq_false_iff_ne.mpr (by omega)]
 have notup:(∀xs,t ≠ .tup xs)->zC (b_5 f_h (S_5 n 0) f_d (en2 t (.int ((d+1:Nat):Int))))= .ok (.bl false):=λhn=>by
  have:orT (zB eqC (vB 1) (cE (.int 0))) (orT (Jz (jm (ap1 (uT "tuple") (vB 0)))) (zB eqC (ap1 Z7 (vB 0)) (cE (.int 0)))) (en2 t (.int ((d+1:Nat):Int)))= .ok true:=by
   refine jt first (YJ ?_);rw[jr,Zh,J0,w0,bOk,QB hn,bOk,j4,bOk];rfl
  rw[b_5,zA (t:= .bl false)]
  ·rfl
  ·rw[ZQ this];rfl
 cases t with
 | tup ys=>
  cases ys with
  | nil=>
   have:orT (zB eqC (vB 1) (cE (.int 0))) (orT (Jz (jm (ap1 (uT "tuple") (vB 0)))) (zB eqC (ap1 Z7 (vB 0)) (cE (.int 0)))) (en2 (.tup []) (.int ((d+1:Nat):Int)))= .ok true:=jt first (jt rfl rfl);rw[b_5,zA (t:= .bl false)]
   ·rfl
   ·rw[ZQ this];rfl
  | cons h xs=>
   have hxs:=Qy ht;have hm:∀u∈xs,sOk u:=λu hu=>WA hxs (a8 _ hu);rw[b_5,z5 (zg Zo)];cases h with
   | str s=>
    show _=R.ok (T.bl (if s="sum"\/s="size" then VN xs else if s="word" then xI xs else if s="rising"\/s="unlike" then xs.isEmpty else if s="no" then xJ k xs else if s="all"\/s="some" then xK k xs else false))
    by_cases h1:s="sum"\/s="size"
    ·rw[if_pos h1,zA (t:= .bl (VN xs))]
     ·rfl
     ·rw[ZQ (by rcases h1 with rfl | rfl;exact YJ (by rw[rh0,YM]);exact jt (JQ (by decide)) (by rw[rh0,YM]))]
      refine zi (JP (λhl=> ?_) (λhl=> ?_))
      ·have:=xL (n:=2) hl
       match xs,this with
       | [a,b],_=>exact UF (by rw[zV,yc,bOk,WC]) (by show z8 1 _ _ (en2 _ _)=_;rw[zV,QY,bOk,WC])
      ·match xs,hl with
       | [],_=>rfl
       | [_],_=>rfl
       | _ :: _ :: _ :: _,_=>rfl
    rw[if_neg h1,z5 (zg (jt (JQ (sne λe=>h1 (.inl e))) (JQ (sne λe=>h1 (.inr e)))))]
    by_cases h2:s="word"
    ·rw[if_pos h2,zA (t:= .bl (xI xs))]
     ·rfl
     ·rw[ZQ (by rw[rh0,h2,YM])]
      refine zi (JP (λhl=> ?_) (λhl=> ?_))
      ·have:=xL (n:=1) hl
       match xs,this,hm with
       | [a],_,hm=>show z8 1 _ _ (en2 _ _)=_;rw[zV,yc,bOk,Uz _ (hm a ac).str];rfl
      ·match xs,hl with
       | [],_=>rfl
       | _ :: _ :: _,_=>rfl
    rw[if_neg h2,z5 (zg (JQ (sne h2)))]
    by_cases h3:s="rising"\/s="unlike"
    ·rw[if_pos h3,zA (t:= .bl xs.isEmpty)]
     ·rfl
     ·rw[ZQ (by rcases h3 with rfl | rfl;exact YJ (by rw[rh0,YM]);exact jt (JQ (by decide)) (by rw[rh0,YM]))]
      refine zi ?_;show Jk eqC _ _ (en2 _ _)=_;rw[JN,J0,w0,bOk,Y3,bOk,Zq,bOk,eqI,bOk];cases xs with
      | nil=>rfl
      | cons a r=>
       rw[beq_eq_false_iff_ne.mpr (by rw[ae,ae];omega)];rfl
    rw[if_neg h3,z5 (zg (jt (JQ (sne λe=>h3 (.inl e))) (JQ (sne λe=>h3 (.inr e)))))]
    by_cases h4:s="no"
    ·rw[if_pos h4,zA (t:= .bl (xJ k xs))]
     ·rfl
     ·rw[ZQ (by rw[rh0,h4,YM])]
      refine zi (JP (λhl=> ?_) (λhl=> ?_))
      ·have:=xL (n:=1) hl
       match xs,this,hm with
       | [a],_,hm=>exact kl (t:=a) (k:=k) yc rfl (H a (hm a ac))
      ·match xs,hl with
       | [],_=>rfl
       | _ :: _ :: _,_=>rfl
    rw[if_neg h4,z5 (zg (JQ (sne h4)))]
    by_cases h5:s="all"\/s="some"
    ·rw[if_pos h5,zA (t:= .bl (xK k xs))]
     ·rfl
     ·rw[ZQ (by rcases h5 with rfl | rfl;exact YJ (by rw[rh0,YM]);exact jt (JQ (by decide)) (by rw[rh0,YM]))]
      refine zi (JP (λhl=> ?_) (λhl=> ?_))
      ·have:=xL (n:=2) hl
       match xs,this,hm with
       | [a,b],_,hm=>exact UF (kl (t:=a) (k:=k) yc rfl (H a (hm a ac))) (kl (t:=b) (k:=k) QY rfl (H b (hm b (a8 _ ac))))
      ·match xs,hl with
       | [],_=>rfl
       | [_],_=>rfl
       | _ :: _ :: _ :: _,_=>rfl
    rw[if_neg h5,z5 (zg (jt (JQ (sne λe=>h5 (.inl e))) (JQ (sne λe=>h5 (.inr e)))))];rfl
   | _=>
    rw[z5 (zg (jt (JQ rfl) (JQ rfl))),z5 (zg (JQ rfl)),z5 (zg (jt (JQ rfl) (JQ rfl))),z5 (zg (JQ rfl)),z5 (zg (jt (JQ rfl) (JQ rfl)))];rfl
 | _=>rw[notup (λ_ h=>nomatch h)];rfl
theorem UH:∀(d n:Nat),d+1<=n->∀t,sOk t->S_5 n 0 [t,.int (d:Int)]= .ok (.bl (isR d t))
 | 0,n+1,_,t,_=>by
  show zC (b_5 f_h (S_5 n 0) f_d (en2 t (.int 0)))=_;rw[b_5,zA (t:= .bl false)]
  ·rfl
  ·rw[ZQ (YJ rfl)];rfl
 | d+1,n+1,h,t,ht=>Y6 (λt ht=>UH d n (by omega) t ht) t ht
theorem ub (t:T)(ht:sOk t):f_2 [t]= .ok (.bl (isR 3 t)):=by
 show zC (b_2 (f_5 8) [.vl t])=_;rw[b_2,zi (t:= .bl (isR 3 t))]
 ·rfl
 ·show z8 2 _ _ [.vl t]=_;rw[j3,v0,bOk,Zq,bOk];exact UH 3 8 (by omega) t ht
noncomputable def S (l:List Nat):Str:=⟨l.toArray⟩
theorem zJ (l:List Nat):(S l).cps.toList=l:=by simp[S]
theorem zG (l:List Nat):(S l).length=l.length:=by simp[S,fA]
theorem UI (a b:List Nat):S a++S b=S (a++b):=Str.ext' (by simp[S,Str.cps_append])
theorem xM (x:Str):S x.cps.toList=x:=Str.ext' (by simp[S])
theorem wK {a b:List Nat}(h:S a=S b):a=b:=by rw[← zJ a,h,zJ]
noncomputable def jn:List (List Nat)->List Nat
 | []=>[]
 | [x]=>x
 | x :: y :: r=>x++32 :: jn (y :: r)
theorem UJ:∀ls:List (List Nat),fD (S [32]) (ls.map S)=S (jn ls)
 | []=>rfl
 | [x]=>rfl
 | x :: y :: r=>by
  have h:=UJ (y :: r);show S x++S [32]++fD (S [32]) ((y :: r).map S)=_;rw[h,UI,UI];simp[jn]
theorem VO (l m:List Nat)(i:Nat):fE (S l) (S m) (S l).length i↔i+m.length<=l.length/\(l.drop i).take m.length=m:=by
 unfold fE;rw[bY,zG,zG,zJ,zJ,beq_iff_eq]
theorem VP (l:List Nat)(i j:Nat):cy (S l) i j=S ((l.drop i).take (j - i)):=by
 rw[← xM (cy (S l) i j),StrLaws.strSub_toList,zJ]
theorem km (c:Nat)(l:List Nat):bH (S (l++[c])) (S [c])=true:=by
 unfold bH;rw[bY,zG,zG,zJ,zJ];simp
theorem VQ {l:List Nat}{a b:Nat}(h1:a<=b)(h2:b<=l.length):bX (S l) (some (a:Int)) (some (b:Int))=S ((l.drop a).take (b - a)):=by
 have:=StrLaws.sliceText_nat (S l) h1 (by rw[zG];exact h2)
 rw[zJ]at this;exact this
theorem QC {l:List Nat}{a:Nat}(h:a<=l.length):bX (S l) (some (a:Int)) none=S (l.drop a):=by
 have:=StrLaws.sliceText_from (x:=S l) (i:=(a:Int)) ⟨by omega,by rw[zJ];omega⟩
 rw[zJ]at this;refine Eq.trans this ?_;show S _=S _;congr 1
 rw[show ((a:Int)).toNat=a by omega]
 exact cK (by simp)
def nl (i:Int):List Nat:=(Qb i).cps.toList
theorem gf (i:Int):Qb i=S (nl i):=(xM _).symm
def nOk (i:Int):Bool:=decide ((nl i).length<=3) && !(nl i).isEmpty && (nl i).all (λc=>c == 45 || (decide (48<=c) && decide (c<=57))) && decide (rdI (Qb i)=some i)
theorem kn:∀k < 101,nOk ((k:Nat) - 50:Int)=true:=by decide+kernel
theorem Y7 {i:Int}(h1: -50<=i)(h2:i<=50):(nl i).length<=3/\nl i ≠ []/\(∀c∈nl i,c=45\/(48<=c/\c<=57))/\rdI (Qb i)=some i:=by
 have:=kn (i+50).toNat (by omega)
 rw[show (((i+50).toNat:Nat) - 50:Int)=i by omega]at this
 unfold nOk at this;simp at this;exact⟨this.1.1.1,this.1.1.2,this.1.2,this.2⟩
def Ru.w:Ru->List (List Nat)
 | .sum a b=>[[115,117,109],nl a,nl b]
 | .size a b=>[[115,105,122,101],nl a,nl b]
 | .word w=>[[119,111,114,100],w.cps.toList]
 | .rising=>[[114,105,115,105,110,103]]
 | .unlike=>[[117,110,108,105,107,101]]
 | _=>[]
def Ru.x:Ru->List Nat
 | .no r=>[110,111,40]++r.x++[41]
 | .all r s=>[97,108,108,40]++(r.x++[44,32]++s.x)++[41]
 | .some r s=>[115,111,109,101,40]++(r.x++[44,32]++s.x)++[41]
 | .sum a b=>jn (Ru.w (.sum a b))
 | .size a b=>jn (Ru.w (.size a b))
 | .word w=>jn (Ru.w (.word w))
 | .rising=>jn (Ru.w .rising)
 | .unlike=>jn (Ru.w .unlike)
theorem WD {x:Str}(h:jq (.str x)=true):x.cps.toList.length<=3:=by
 have h:(decide (1<=x.length) && decide (x.length<=3) && x.cps.toList.all Zp)=true:=h;rw[ah,ah]at h;have:=of_decide_eq_true h.1.2;simpa[fA] using this
theorem Y8 {x:Str}(h:jq (.str x)=true):∀c∈x.cps.toList,97<=c/\c<=122:=by
 have h:(decide (1<=x.length) && decide (x.length<=3) && x.cps.toList.all Zp)=true:=h;rw[ah]at h;intro c hc;have:=aY.mp h.2 c hc;unfold Zp at this;simp at this;exact this
noncomputable def lb:Nat->Nat
 | 0=>0
 | d+1=>2*lb d+20
theorem uc {d:Nat}{r:Ru}(h:J7 d r):r.x.length<=lb d:=by
 induction h with
 | @sum d a b ha hb=>
  have:=(Y7 ha.1 ha.2).1;have:=(Y7 hb.1 hb.2).1;simp only[Ru.x,Ru.w,jn,lb,aa,ae,aI];omega
 | @size d a b ha hb=>
  have:=(Y7 ha.1 ha.2).1;have:=(Y7 hb.1 hb.2).1;simp only[Ru.x,Ru.w,jn,lb,aa,ae,aI];omega
 | word h=>
  have:=WD h;simp only[Ru.x,Ru.w,jn,lb,aa,ae,aI];omega
 | rising=>simp only[Ru.x,Ru.w,jn,lb,aa,ae,aI];omega
 | unlike=>simp only[Ru.x,Ru.w,jn,lb,aa,ae,aI];omega
 | no _ ih=>simp only[Ru.x,lb,aa,ae,aI];omega
 | all _ _ ih ih' =>simp only[Ru.x,lb,aa,ae,aI];omega
 | some _ _ ih ih' =>simp only[Ru.x,lb,aa,ae,aI];omega
theorem ud {d:Nat}(h:d<=3):lb d<=140:=by
 have:d=0\/d=1\/d=2\/d=3:=by omega
 rcases this with rfl | rfl | rfl | rfl <;> decide
theorem wL {i:Int}(h:i.natAbs < 1000000):txO (.int i)=some (S (nl i)):=by rw[← gf];exact if_pos h
theorem ue {f g:En->R T}{ρ:En}{a b:List Nat}(hf:f ρ= .ok (.str (S a)))(hg:g ρ= .ok (.str (S b)))(hl:a.length+b.length<=10000):z9 zl f g ρ= .ok (.str (S (a++b))):=by
 rw[zm,hf,bOk,hg,bOk,← UI];exact if_pos (by rw[zG,zG];have:bnd=16777216:=rfl;omega)
theorem YN:∀ls:List (List Nat),yC (ls.map λl=>T.str (S l))=some (ls.map S)
 | []=>rfl
 | l :: r=>by
  rw[bg];unfold yC;rw[YN r];rfl
theorem W2 {f:En->R T}{ρ:En}{ls:List (List Nat)}{p:Str}(hf:f ρ= .ok (.lst (ls.map λl=>T.str (S l))))(hb:(ls.map (·.length)).sum+ls.length*p.length<=10000):ap1 (wq p) f ρ= .ok (.str (fD p (ls.map S))):=by
 rw[J0,hf,bOk];show (match yC (ls.map λl=>T.str (S l)) with | some ys=>if (ys.map λ(y:Str)=>y.length).sum+ys.length*p.length<=16777216 then R.ok (T.str (Txt.join p ys)) else .bad | none=> .bad)=_
 rw[YN];dsimp only;have e:((ls.map S).map (·.length))=ls.map (·.length):=by
  rw[bS];exact List.map_congr_left λl _=>zG l
 rw[e,aD,if_pos (show (ls.map (·.length)).sum+ls.length*p.length<=16777216 by omega)]
 show R.ok (T.str (Builtin.Str.glued p (ls.map S)))=_;rw[StrLaws.glued_eq_join]
theorem WF {fi:En->R (List T)}{g:T->En->R En}{fe:En->R T}{k:Nat}{js:List Nat}{ρ:En}{ts vs:List T}(hi:fi ρ= .ok ts)(hl:ts.length<=100)(h:zz g Zw fe ts (Jd k js ρ)= .ok vs):ZH fi g Zw fe k js ρ= .ok (.lst vs):=by
 rw[Qz,hi,bOk];unfold JB;rw[if_pos (show ts.length<=bnd by have:bnd=16777216:=rfl;omega),h]
 rfl
theorem Y9 {fe:En->R T}{ex:En}:∀(qs:List (T×T)) (x:Sl),(∀q∈qs,fe (.vl q.1 :: ex)= .ok q.2)->zz (Z4 0) Zw fe (qs.map (·.1)) (x :: ex)= .ok (qs.map (·.2))
 | [],_,_=>rfl
 | q :: qs,x,h=>by
  have e:zz (Z4 0) Zw fe ((q :: qs).map (·.1)) (x :: ex)=(fe (.vl q.1 :: ex)).bind λv=>(zz (Z4 0) Zw fe (qs.map (·.1)) (.vl q.1 :: ex)).bind λvs=> .ok (v :: vs):=rfl;rw[e,h q ac,bOk,Y9 qs _ λq hq=>h q (a8 _ hq)];rfl
theorem itA {f:En->R T}{ρ:En}{ts:List T}(h:f ρ= .ok (.tup ts)):jP f ρ= .ok ts:=by
 show (f ρ).bind U5=_;rw[h];rfl
theorem itL {f:En->R T}{ρ:En}{ts:List T}(h:f ρ= .ok (.lst ts)):jP f ρ= .ok ts:=by
 show (f ρ).bind U5=_;rw[h];rfl
theorem Kk {f:En->R T}{ρ:En}{t:T}{x:Str}(h:f ρ= .ok t)(hx:txO t=some x):ap1 WT f ρ= .ok (.str x):=by
 rw[J0,h,bOk];unfold WT;rw[hx]
theorem VR (x:Str):f_b [.str x]= .ok (.bl ((x == "no") || ((x == "all") || (x == "some")))):=by
 show zC (zI (orE (Jk eqC (vB 0) (cE (.str "no"))) (orE (Jk eqC (vB 0) (cE (.str "all"))) (Jk eqC (vB 0) (cE (.str "some"))))) [.vl (.str x)])=_;rw[zi (t:= .bl ((x == "no") || ((x == "all") || (x == "some"))))]
 ·rfl
 ·exact YL rfl (YL rfl rfl)
noncomputable def opn (c:Nat):Bool:=decide (c∈[40,91,123])
noncomputable def cls (c:Nat):Bool:=decide (c∈[41,93,125])
abbrev pE (L:List Nat)(acc:List T)(b d:Int)(x y:Sl):En:=[.vl (.str (S L)),.vl (.str ", "),.ow acc,.vl (.int b),.vl (.int d),x,y]
abbrev j5:En->RS:=(zu (ifS (zB Wn (vB 6) (cE (.str "([{"))) (zZ 4 (z9 zl (vE 4) (cE (.int 1)))) (nxS))
  (zu (ifS (zB Wn (vB 6) (cE (.str ")]}"))) (zZ 4 (z9 jA (vE 4) (cE (.int 1)))) (nxS))
  (ifS (uS (zB eqC (vB 4) (cE (.int 0))) (jm (Ub (vE 0) (vE 1) (vE 5)))) (zu (wU 2 (Zg (vE 0) (zh (vE 3)) (zh (vE 5))))
  (zZ 3 (z9 zl (vE 5) (ap1 Z7 (vB 1))))) (nxS))))
def itm (L:List Nat):List T:=jQ (Zk (S L))
theorem JR {L:List Nat}{i c:Nat}{r:List Nat}(h:L.drop i=c :: r):(itm L).drop i=T.tup [.int (i:Nat),.str (S [c])] :: (itm L).drop (i+1):=by
 have hg:L[i]? =some c:=by
  have:(L.drop i)[0]? =some c:=by rw[h];rfl
  simpa using this
 have e:(itm L)[i]? =some (T.tup [.int (i:Nat),.str (S [c])]):=by
  unfold itm jQ Zk;rw[zJ,av,dQ,av,hg];simp[S]
 obtain⟨hi,e⟩:=aT.mp e;rw[bi hi,e]
theorem VS {ρ:En}{c:Nat}(h:vB 6 ρ= .ok (.str (S [c]))):zB Wn (vB 6) (cE (.str "([{")) ρ= .ok (opn c):=by
 show (R.bind (vB 6 ρ) λx=>R.bind (.ok (.str "([{")) λy=>Wn x y)=_;rw[h,bOk,bOk];show R.ok (!(bE "([{" ⟨#[c]⟩ 0 ((("([{":Str))).length 1).isEmpty)=_;rw[eW];rfl
theorem QD {ρ:En}{c:Nat}(h:vB 6 ρ= .ok (.str (S [c]))):zB Wn (vB 6) (cE (.str ")]}")) ρ= .ok (cls c):=by
 show (R.bind (vB 6 ρ) λx=>R.bind (.ok (.str ")]}")) λy=>Wn x y)=_;rw[h,bOk,bOk];show R.ok (!(bE ")]}" ⟨#[c]⟩ 0 (((")]}":Str))).length 1).isEmpty)=_;rw[eW];rfl
theorem ko {c:Nat}(h:opn c=true):cls c=false:=by
 unfold opn at h;unfold cls;simp at h ⊢;omega
theorem QE {f:En->RS}{acc:List T}{L:List Nat}{b d:Int}{i c:Nat}:zu (ifS (zB Wn (vB 6) (cE (.str "([{"))) (zZ 4 (z9 zl (vE 4) (cE (.int 1)))) nxS) (zu (ifS (zB Wn (vB 6) (cE (.str ")]}"))) (zZ 4 (z9 jA (vE 4) (cE (.int 1)))) nxS) f) (pE L acc b d (.vl (.int (i:Nat))) (.vl (.str (S [c]))))=f (pE L acc b (d+(if opn c then 1 else 0) - (if cls c then 1 else 0)) (.vl (.int (i:Nat))) (.vl (.str (S [c])))):=by
 cases ho:opn c with
 | true=>
  have hc:=ko ho;have e1:zZ 4 (z9 zl (vE 4) (cE (.int 1))) (pE L acc b d (.vl (.int (i:Nat))) (.vl (.str (S [c]))))= .nx (pE L acc b (d+1) (.vl (.int (i:Nat))) (.vl (.str (S [c])))):=rfl;rw[z5 ((ZQ (by rw[VS rfl,ho])).trans e1),z5 (zg (by rw[QD rfl,hc])),hc]
  simp
 | false=>
  rw[z5 (zg (by rw[VS rfl,ho]))]
  cases hc:cls c with
  | true=>
   have e1:zZ 4 (z9 jA (vE 4) (cE (.int 1))) (pE L acc b d (.vl (.int (i:Nat))) (.vl (.str (S [c]))))= .nx (pE L acc b (d - 1) (.vl (.int (i:Nat))) (.vl (.str (S [c])))):=rfl;rw[z5 ((ZQ (by rw[QD rfl,hc])).trans e1)]
   simp
  | false=>
   rw[z5 (zg (by rw[QD rfl,hc]))]
   simp
theorem QF {l m:List Nat}{i:Nat}:bP (S l) (S m) (i:Int)=(decide (i+m.length<=l.length) && ((l.drop i).take m.length == m)):=by
 unfold bP;have e:fromIndex (S l).length (i:Int)=i:=by
  unfold fromIndex;rw[if_neg (by omega)]
  omega
 rw[e,bY,zG,zG,zJ,zJ]
theorem kq {L:List Nat}{acc:List T}{b d:Int}{i c:Nat}{r:List Nat}(h:L.drop i=c :: r)(hn:(d == 0)=false\/c ≠ 44):uS (zB eqC (vB 4) (cE (.int 0))) (jm (Ub (vE 0) (vE 1) (vE 5))) (pE L acc b d (.vl (.int (i:Nat))) (.vl (.str (S [c]))))= .ok false:=by
 rw[ji];show (R.bind (.ok (d == 0)) _)=_;rw[bOk];cases hd:(d == 0) with
 | false=>rfl
 | true=>
  rw[if_pos rfl,Zh];show R.ok (bP (S L) (S [44,32]) (i:Int))=_;have hc:c ≠ 44:=by
   rcases hn with z | z
   ·rw[hd]at z;cases z
   ·exact z
  rw[QF,h];congr 1
  rw[cO]
  right
  rw[beq_eq_false_iff_ne];intro z;injection z with z1 z2;exact hc z1
theorem YO {L:List Nat}{acc:List T}{b d:Int}{i c:Nat}{r:List Nat}{x y:Sl}(h:L.drop i=c :: r)(hn:(d+(if opn c then 1 else 0) - (if cls c then 1 else 0) == 0)=false\/c ≠ 44):
  Jc (jw 5 6) j5 ((itm L).drop i) (pE L acc b d x y)=Jc (jw 5 6) j5 ((itm L).drop (i+1)) (pE L acc b (d+(if opn c then 1 else 0) - (if cls c then 1 else 0)) (.vl (.int (i:Nat))) (.vl (.str (S [c])))):=by
 rw[JR h];refine wI (ρ1:=pE L acc b d (.vl (.int (i:Nat))) (.vl (.str (S [c])))) rfl ?_;unfold j5;rw[QE];exact zg (kq h hn)
theorem ku {L:List Nat}{acc:List T}{b i:Nat}{r:List Nat}{x y:Sl}(h:L.drop i=44 :: 32 :: r)(hb:b<=i)(hl:L.length<=9000)(ha:acc.length < 1000):
  ∃x' y',Jc (jw 5 6) j5 ((itm L).drop i) (pE L acc (b:Nat) 0 x y)=Jc (jw 5 6) j5 ((itm L).drop (i+2)) (pE L (acc++[.str (S ((L.drop b).take (i - b)))]) ((i+2:Nat):Int) 0 x' y'):=by
 have hi:i+2<=L.length:=by
  have:=congrArg f9 h;simp at this;omega
 have h2:L.drop (i+1)=32 :: r:=by rw[← List.drop_drop,h];rfl
 have e1:Zg (vE 0) (zh (vE 3)) (zh (vE 5)) (pE L acc (b:Nat) 0 (.vl (.int (i:Nat))) (.vl (.str (S [44]))))= .ok (.str (S ((L.drop b).take (i - b)))):=by
  show (if (S L).length<=bnd then R.ok (T.str (bX (S L) (some (b:Int)) (some (i:Int)))) else .bad)=_
  rw[VQ hb (by omega),if_pos]
  rw[zG];have:bnd=16777216:=rfl;omega
 have e2:wU 2 (Zg (vE 0) (zh (vE 3)) (zh (vE 5))) (pE L acc (b:Nat) 0 (.vl (.int (i:Nat))) (.vl (.str (S [44]))))= .nx (pE L (acc++[.str (S ((L.drop b).take (i - b)))]) (b:Nat) 0 (.vl (.int (i:Nat))) (.vl (.str (S [44])))):=by
  show (R.s (Zg (vE 0) (zh (vE 3)) (zh (vE 5)) _) λt=>if acc.length < bnd then RS.nx _ else .bad)=_
  rw[e1,YH,if_pos (by have:bnd=16777216:=rfl;omega)];rfl
 have e3:uS (zB eqC (vB 4) (cE (.int 0))) (jm (Ub (vE 0) (vE 1) (vE 5))) (pE L acc (b:Nat) 0 (.vl (.int (i:Nat))) (.vl (.str (S [44]))))= .ok true:=by
  rw[ji];show (R.bind (.ok true) _)=_;rw[bOk,if_pos rfl,Zh];show R.ok (bP (S L) (S [44,32]) (i:Int))=_;rw[QF,h,decide_eq_true (show i+[44,32].length<=L.length from hi)];rfl
 have q1:Jc (jw 5 6) j5 ((itm L).drop i) (pE L acc (b:Nat) 0 x y)=Jc (jw 5 6) j5 ((itm L).drop (i+1)) (pE L (acc++[.str (S ((L.drop b).take (i - b)))]) ((i+2:Nat):Int) 0 (.vl (.int (i:Nat))) (.vl (.str (S [44])))):=by
  rw[JR h];refine wI (ρ1:=pE L acc (b:Nat) 0 (.vl (.int (i:Nat))) (.vl (.str (S [44])))) rfl ?_;unfold j5;rw[QE];have e0:(0:Int)+(if opn 44 then 1 else 0) - (if cls 44 then 1 else 0)=0:=by decide
  rw[e0,ZQ e3,z5 e2];rfl
 have q2:=YO (acc:=acc++[.str (S ((L.drop b).take (i - b)))]) (b:=((i+2:Nat):Int)) (d:=0) (x:= .vl (.int (i:Nat))) (y:= .vl (.str (S [44]))) h2 (.inr (by decide))
 have e0:(0:Int)+(if opn 32 then 1 else 0) - (if cls 32 then 1 else 0)=0:=by decide
 rw[e0]at q2;exact⟨_,_,q1.trans q2⟩
theorem UK {L:List Nat}{i:Nat}(h:L.length<=i):(itm L).drop i=[]:=by
 refine List.drop_eq_nil_of_le ?_;unfold itm jQ Zk;rw[zJ];simp;omega
theorem Kl:∀ls:List (List Nat),(ls.map (·.length)).sum<=(jn ls).length
 | []=>by simp
 | [w]=>by simp[jn]
 | w :: v :: r=>by
  have:=Kl (v :: r);simp only[jn,bg,List.sum_cons,aa,ae]at this ⊢;omega
inductive Lfs:Ru->List (T×List Nat)->Prop where
 | sum {a b:Int} (ha: -50<=a/\a<=50) (hb: -50<=b/\b<=50):Lfs (.sum a b) [(.str "sum",[115,117,109]),(.int a,nl a),(.int b,nl b)]
 | size {a b:Int} (ha: -50<=a/\a<=50) (hb: -50<=b/\b<=50):Lfs (.size a b) [(.str "size",[115,105,122,101]),(.int a,nl a),(.int b,nl b)]
 | word {w:Str} (h:jq (.str w)=true):Lfs (.word w) [(.str "word",[119,111,114,100]),(.str w,w.cps.toList)]
 | rising:Lfs .rising [(.str "rising",[114,105,115,105,110,103])]
 | unlike:Lfs .unlike [(.str "unlike",[117,110,108,105,107,101])]
theorem VT {r:Ru}{ps:List (T×List Nat)}(h:Lfs r ps):r.t= .tup (ps.map (·.1))/\r.x=jn (ps.map (·.2))/\r.w=ps.map (·.2)/\ps.length<=3/\(r.x).length<=20/\∀p∈ps,txO p.1=some (S p.2):=by
 have lit:∀(x:Str) (l:List Nat),x=S l->l.length<=6->txO (.str x)=some (S l):=λx l e h=>by
  subst e;exact if_pos (by rw[zG];omega)
 cases h with
 | sum ha hb=>
  have l1:=(Y7 ha.1 ha.2).1;have l2:=(Y7 hb.1 hb.2).1;refine⟨by rw[Ru.t];rfl,by rw[Ru.x];rfl,rfl,by simp,by simp only[Ru.x,Ru.w,jn,aa,ae,aI];omega,λp hp=> ?_⟩
  rcases aj.mp hp with rfl | hp
  ·exact lit _ _ rfl (by decide)
  ·rcases aj.mp hp with rfl | hp
   ·exact wL (by omega)
   ·rw[aQ.mp hp];exact wL (by omega)
 | size ha hb=>
  have l1:=(Y7 ha.1 ha.2).1;have l2:=(Y7 hb.1 hb.2).1;refine⟨by rw[Ru.t];rfl,by rw[Ru.x];rfl,rfl,by simp,by simp only[Ru.x,Ru.w,jn,aa,ae,aI];omega,λp hp=> ?_⟩
  rcases aj.mp hp with rfl | hp
  ·exact lit _ _ rfl (by decide)
  ·rcases aj.mp hp with rfl | hp
   ·exact wL (by omega)
   ·rw[aQ.mp hp];exact wL (by omega)
 | @word w hh=>
  have l1:=WD hh;refine⟨by rw[Ru.t];rfl,by rw[Ru.x];rfl,rfl,by simp,by simp only[Ru.x,Ru.w,jn,aa,ae,aI];omega,λp hp=> ?_⟩
  rcases aj.mp hp with rfl | hp
  ·exact lit _ _ rfl (by decide)
  ·rw[aQ.mp hp];exact lit _ _ (xM w).symm (show w.cps.toList.length<=6 by omega)
 | rising=>exact⟨by rw[Ru.t];rfl,by rw[Ru.x];rfl,rfl,by simp,by simp[Ru.x,Ru.w,jn],λp hp=>by rw[aQ.mp hp];exact lit _ _ rfl (by decide)⟩
 | unlike=>exact⟨by rw[Ru.t];rfl,by rw[Ru.x];rfl,rfl,by simp,by simp[Ru.x,Ru.w,jn],λp hp=>by rw[aQ.mp hp];exact lit _ _ rfl (by decide)⟩
theorem QG {r:Ru}{ps:List (T×List Nat)}(h:Lfs r ps):ap1 (wq " ") (ZH (jP (vE 0)) (Z4 0) Zw (ap1 WT (vE 0)) 1 []) [.vl r.t]= .ok (.str (S r.x)):=by
 obtain⟨e1,e2,_,e3,e4,e5⟩:=VT h;have c:ZH (jP (vE 0)) (Z4 0) Zw (ap1 WT (vE 0)) 1 [] [.vl r.t]= .ok (.lst ((ps.map (·.2)).map λl=>T.str (S l))):=by
  have l:=Y9 (fe:=ap1 WT (vE 0)) (ex:=[]) (ps.map λp=>(p.1,T.str (S p.2))) .un λq hq=>by
   obtain⟨p,hp,rfl⟩:=cJ.mp hq;exact Kk rfl (e5 p hp)
  rw[bS,bS]at l;rw[WF (ts:=ps.map (·.1)) (itA (by rw[e1];rfl)) (by rw[aD];omega) l,bS];rfl
 have s:=Kl (ps.map (·.2));rw[← e2]at s;have:=W2 (p:=" ") c (by
  rw[show ((" ":Str)).length=1 from rfl,aD];omega)
 rw[this,e2];show R.ok (T.str (fD (S [32]) _))=_;rw[UJ]
abbrev uf (c:List T->R T):En->R T:=ap1 (wq ", ") (ZH (jP (slE (vE 0) (zh (cE (.int 1))) noO)) (Z4 0) Zw (z8 1 c (z0 (vE 0) zb)) 1 [])
theorem sl1 {a:T}{ts:List T}:slE (vE 0) (zh (cE (.int 1))) noO [.vl (.tup (a :: ts))]= .ok (.tup ts):=by
 show R.ok (T.tup (cut (a :: ts) (some ((1:Nat):Int)) none))=_;rw[UE];rfl
theorem j1 {c:List T->R T}{a t:T}{x:List Nat}(h:c [t]= .ok (.str (S x)))(hx:x.length<=200):uf c [.vl (.tup [a,t])]= .ok (.str (S x)):=by
 have l:=Y9 (fe:=z8 1 c (z0 (vE 0) zb)) (ex:=[]) [(t,T.str (S x))] .un λq hq=>by
  rw[aQ.mp hq,zV];exact h
 have c:=WF (k:=1) (js:=[]) (itA (sl1 (a:=a) (ts:=[t]))) (by simp) l
 exact W2 (ls:=[x]) (p:=", ") c (by rw[show ((", ":Str)).length=2 from rfl];simp;omega)
theorem j2 {c:List T->R T}{a t u:T}{x y:List Nat}(h:c [t]= .ok (.str (S x)))(h' :c [u]= .ok (.str (S y)))(hx:x.length<=200)(hy:y.length<=200):uf c [.vl (.tup [a,t,u])]= .ok (.str (S (x++[44,32]++y))):=by
 have l:=Y9 (fe:=z8 1 c (z0 (vE 0) zb)) (ex:=[]) [(t,T.str (S x)),(u,T.str (S y))] .un λq hq=>by
  rcases aj.mp hq with rfl | hq
  ·rw[zV];exact h
  ·rw[aQ.mp hq,zV];exact h'
 have c:=WF (k:=1) (js:=[]) (itA (sl1 (a:=a) (ts:=[t,u]))) (by simp) l
 have:=W2 (ls:=[x,y]) (p:=", ") c (by rw[show ((", ":Str)).length=2 from rfl];simp;omega)
 refine Eq.trans this ?_;show R.ok (T.str (S x++S [44,32]++S y))=_;rw[UI,UI]
theorem VU {h:List Nat}{x:List Nat}{t:T}{ts:List T}{s:Str}{c:List T->R T}(hs:s=S h)(ht:t= .tup (.str s :: ts))(hj:uf c [.vl t]= .ok (.str (S x)))(hl:h.length+x.length<=1000):zI (z9 zl (z9 zl (z9 zl (z9 ixT (vE 0) (cE (.int 0))) (cE (.str "("))) (uf c)) (cE (.str ")"))) [.vl t]= .rt (.str (S (h++[40]++x++[41]))):=by
 subst hs ht;have e0:z9 ixT (vE 0) (cE (.int 0)) [.vl (.tup (.str (S h) :: ts))]= .ok (.str (S h)):=by
  rw[zm];exact at0
 have e1:=ue (g:=cE (.str "(")) (b:=[40]) e0 rfl (by simp only[ae,aI];omega)
 have e2:=ue e1 hj (by simp only[aa,ae,aI];omega)
 have e3:=ue (g:=cE (.str ")")) (b:=[41]) e2 rfl (by simp only[aa,ae,aI];omega)
 exact zi e3
theorem ofE {s:Str}{ts:List T}:jm (z8 1 f_b (z0 (z9 ixT (vE 0) (cE (.int 0))) zb)) [.vl (.tup (.str s :: ts))]= .ok ((s == "no") || ((s == "all") || (s == "some"))):=by
 rw[Zh,zV,zm];show (R.bind (R.bind (ixT (.tup (.str s :: ts)) (.int 0)) λx=>f_b [x]) tru)=_;rw[at0,bOk,VR];rfl
theorem wM {r:Ru}{ps:List (T×List Nat)}(h:Lfs r ps)(n:Nat)(m:Nat):S_6 (n+1) 0 [r.t]= .ok (.str (S r.x))/\S_8 (m+1) 0 [r.t]= .ok (.str (S r.x)):=by
 have j:=QG h;have hd:∃s ts,r.t= .tup (.str s :: ts)/\((s == "no") || ((s == "all") || (s == "some")))=false/\inC (.str s) (.tup [.str "no",.str "all",.str "some"])= .ok false:=by
  cases h <;> (rw[Ru.t];exact⟨_,_,rfl,by decide+kernel,rfl⟩)
 obtain⟨s,ts,e,h1,h2⟩:=hd;constructor
 ·show zC (b_6 (S_6 n 0) f_b [.vl r.t])=_;unfold b_6;rw[z5 (zg (by rw[e,ofE,h1])),zi j];rfl
 ·show zC (b_8 (S_8 m 0) [.vl r.t])=_;unfold b_8;rw[z5 (zg (by
   rw[e];show (R.bind (z9 ixT (vE 0) (cE (.int 0)) _) λx=>R.bind (.ok (.tup [.str "no",.str "all",.str "some"])) λy=>inC x y)=_;rw[zm];show (R.bind (ixT (.tup (.str s :: ts)) (.int 0)) _)=_;rw[at0,bOk,bOk,h2])),zi j];rfl
theorem QH {h x:List Nat}{t:T}{ts:List T}{s:Str}{n m:Nat}(hs:s=S h)(ht:t= .tup (.str s :: ts))(ho:((s == "no") || ((s == "all") || (s == "some")))=true)(hi:inC (.str s) (.tup [.str "no",.str "all",.str "some"])= .ok true)(hl:h.length+x.length<=1000)
  (j1:uf (S_6 n 0) [.vl t]= .ok (.str (S x))) (j2:uf (S_8 m 0) [.vl t]= .ok (.str (S x))):S_6 (n+1) 0 [t]= .ok (.str (S (h++[40]++x++[41])))/\S_8 (m+1) 0 [t]= .ok (.str (S (h++[40]++x++[41]))):=by
 constructor
 ·show zC (b_6 (S_6 n 0) f_b [.vl t])=_;unfold b_6;rw[zA ((ZQ (by rw[ht,ofE,ho])).trans (VU hs ht j1 hl))];rfl
 ·show zC (b_8 (S_8 m 0) [.vl t])=_;unfold b_8;rw[zA ((ZQ (by
   rw[ht];show (R.bind (z9 ixT (vE 0) (cE (.int 0)) _) λx=>R.bind (.ok (.tup [.str "no",.str "all",.str "some"])) λy=>inC x y)=_;rw[zm];show (R.bind (ixT (.tup (.str s :: ts)) (.int 0)) _)=_;rw[at0,bOk,bOk,hi])).trans (VU hs ht j2 hl))];rfl
theorem VV {d:Nat}{r:Ru}(h:J7 d r):∀n m,d<=n->d<=m->d<=3->S_6 (n+1) 0 [r.t]= .ok (.str (S r.x))/\S_8 (m+1) 0 [r.t]= .ok (.str (S r.x)):=by
 induction h with
 | sum ha hb=>exact λn m _ _ _=>wM (.sum ha hb) n m
 | size ha hb=>exact λn m _ _ _=>wM (.size ha hb) n m
 | word h=>exact λn m _ _ _=>wM (.word h) n m
 | rising=>exact λn m _ _ _=>wM .rising n m
 | unlike=>exact λn m _ _ _=>wM .unlike n m
 | @no d r h ih=>
  intro n m hn hm hd;have hl:=ay (uc h) (ud (by omega))
  match n,m,hn,hm with
  | n+1,m+1,hn,hm=>
   obtain⟨i1,i2⟩:=ih n m (by omega) (by omega) (by omega)
   have:=QH (h:=[110,111]) (x:=r.x) (t:=(Ru.no r).t) (ts:=[r.t]) (s:="no") (n:=n+1) (m:=m+1) rfl (by rw[Ru.t]) (by decide+kernel) rfl (by simp only[ae,aI];omega) (by rw[Ru.t];exact j1 i1 (by omega)) (by rw[Ru.t];exact j1 i2 (by omega))
   rw[Ru.x];exact this
 | @all d r s h h' ih ih' =>
  intro n m hn hm hd;have hl:=ay (uc h) (ud (by omega))
  have hl' :=ay (uc h') (ud (by omega))
  match n,m,hn,hm with
  | n+1,m+1,hn,hm=>
   obtain⟨i1,i2⟩:=ih n m (by omega) (by omega) (by omega)
   obtain⟨k1,k2⟩:=ih' n m (by omega) (by omega) (by omega)
   have:=QH (h:=[97,108,108]) (x:=r.x++[44,32]++s.x) (t:=(Ru.all r s).t) (ts:=[r.t,s.t]) (s:="all") (n:=n+1) (m:=m+1) rfl (by rw[Ru.t]) (by decide+kernel) rfl (by simp only[aa,ae,aI];omega) (by rw[Ru.t];exact j2 i1 k1 (by omega) (by omega)) (by rw[Ru.t];exact j2 i2 k2 (by omega) (by omega))
   rw[Ru.x];exact this
 | @some d r s h h' ih ih' =>
  intro n m hn hm hd;have hl:=ay (uc h) (ud (by omega))
  have hl' :=ay (uc h') (ud (by omega))
  match n,m,hn,hm with
  | n+1,m+1,hn,hm=>
   obtain⟨i1,i2⟩:=ih n m (by omega) (by omega) (by omega)
   obtain⟨k1,k2⟩:=ih' n m (by omega) (by omega) (by omega)
   have:=QH (h:=[115,111,109,101]) (x:=r.x++[44,32]++s.x) (t:=(Ru.some r s).t) (ts:=[r.t,s.t]) (s:="some") (n:=n+1) (m:=m+1) rfl (by rw[Ru.t]) (by decide+kernel) rfl (by simp only[aa,ae,aI];omega) (by rw[Ru.t];exact j2 i1 k1 (by omega) (by omega)) (by rw[Ru.t];exact j2 i2 k2 (by omega) (by omega))
   rw[Ru.x];exact this
theorem UL {d:Nat}{p l:List Nat}{o q:Str}(ho:o=S p)(hq:q=S [d])(hp:p.length<=100)(hl:l.length<=9000):f_e [.str (S (p++l++[d])),.str o,.str q]= .ok (.str (S l)):=by
 subst ho hq;have hb:bnd=16777216:=rfl;have e1:smE QU (vE 0) (vE 1) [.vl (.str (S (p++l++[d]))),.vl (.str (S p)),.vl (.str (S [d]))]= .ok (.bl true):=by
  show R.ok (T.bl (bL (S (p++l++[d])) (S p)))=_;unfold bL;rw[bY,zG,zG,zJ,zJ,dg,a_,List.take_left];simp
 have e2:smE QV (vE 0) (vE 2) [.vl (.str (S (p++l++[d]))),.vl (.str (S p)),.vl (.str (S [d]))]= .ok (.bl true):=by
  show R.ok (T.bl (bH (S (p++l++[d])) (S [d])))=_;rw[km]
 have e3:orT (Jz (jm (smE QU (vE 0) (vE 1)))) (Jz (jm (smE QV (vE 0) (vE 2)))) [.vl (.str (S (p++l++[d]))),.vl (.str (S p)),.vl (.str (S [d]))]= .ok false:=by
  rw[UC,jr,Zh,e1,bOk,j4,bOk,bOk,jr,Zh,e2,bOk,j4];rfl
 have sl:bX (S (p++l++[d])) (some (p.length:Int)) (some (-1))=S l:=by
  have e:bX (S (p++l++[d])) (some (p.length:Int)) (some (-1))=bX (S (p++l++[d])) (some (p.length:Int)) (some (-1+(S (p++l++[d])).length)):=StrLaws.sliceText_neg_hi _ _ (by decide) (by rw[zG];simp;omega)
  rw[e,zG,show (-1+((p++l++[d]).length:Nat):Int)=((p.length+l.length:Nat):Int) by simp;omega,VQ (by omega) (by simp),a_,List.drop_left,show p.length+l.length - p.length=l.length by omega,List.take_left]
 have e4:Zg (vE 0) (zh (ap1 Z7 (vB 1))) (zh (vO (ap1 Z7 (vB 2)))) [.vl (.str (S (p++l++[d]))),.vl (.str (S p)),.vl (.str (S [d]))]= .ok (.str (S l)):=by
  have l1:Z7 (.str (S p))= .ok (.int (p.length:Nat)):=by
   show (if (S p).length<=bnd then R.ok (T.int (S p).length) else .bad)=_
   rw[zG,if_pos (by omega)]
  have a1:zh (ap1 Z7 (vB 1)) [.vl (.str (S (p++l++[d]))),.vl (.str (S p)),.vl (.str (S [d]))]= .ok (some (p.length:Int)):=by
   show (R.bind (Z7 (.str (S p))) _)=_;rw[l1];rfl
  unfold Zg;rw[v0,bOk,a1,bOk];show (if (S (p++l++[d])).length<=bnd then R.ok (T.str (bX (S (p++l++[d])) (some (p.length:Int)) (some (-1)))) else .bad)=_
  rw[sl,if_pos];rw[zG];simp only[ae,aa,aI];omega
 show zC (b_e [.vl (.str (S (p++l++[d]))),.vl (.str (S p)),.vl (.str (S [d]))])=_;unfold b_e;rw[z5 (zg e3),zi e4];rfl
theorem slL {a:T}{ts:List T}:slE (vE 0) (zh (cE (.int 1))) noO [.vl (.lst (a :: ts))]= .ok (.lst ts):=by
 show R.ok (T.lst (cut (a :: ts) (some ((1:Nat):Int)) none))=_;rw[UE];rfl
theorem W3 {f:En->R T}{ρ:En}{ts:List T}(h:f ρ= .ok (.lst ts)):ap1 qR f ρ= .ok (.tup ts):=by
 rw[J0,h,bOk];rfl
theorem atL {h:T}{r:List T}:ixT (.lst (h :: r)) (.int 0)= .ok h:=by
 show atT (h :: r) 0=_;exact VJ (j:=0) rfl
theorem ixL {h:T}{r:List T}{ρ:En}:z9 ixT (vE 0) (cE (.int 0)) (.vl (.lst (h :: r)) :: ρ)= .ok h:=by rw[zm];exact atL
theorem hdE {s w:Str}{ts:List T}:zB eqC (z9 ixT (vE 0) (cE (.int 0))) (cE (.str w)) [.vl (.lst (.str s :: ts))]= .ok (s == w):=by
 show (R.bind (z9 ixT (vE 0) (cE (.int 0)) _) λx=>R.bind (.ok (.str w)) λy=>eqC x y)=_;rw[ixL,bOk,bOk];rfl
end G
namespace G
open PySem L2 PV NumText
theorem UM:∀(cs:List Nat) {p q:Array Nat×Bool},(∀d∈p.1.toList,d < 10)->cs.foldlM (dF 10) p=some q->∀d∈q.1.toList,d < 10
 | [],p,q,h,e=>by
  have e:p=q:=ak e;exact e ▸ h
 | c :: cs,p,q,h,e=>by
  rw[List.foldlM_cons]at e;cases hs:dF 10 p c with
  | none=>rw[hs]at e;exact absurd e (by simp)
  | some p' =>
   rw[hs]at e;refine UM cs (p:=p') ?_ e;unfold dF at hs;split at hs
   ·split at hs
    ·cases hs;exact h
    ·cases hs
   ·split at hs
    ·split at hs
     ·rename_i d _ hd;cases hs;intro x hx;rw[Array.toList_push,bc]at hx;rcases hx with hx | hx
      ·exact h x hx
      ·have:x=d:=by simpa using hx
       omega
     ·cases hs
    ·cases hs
theorem UN:∀(ds:List Nat) (a:Nat),(∀d∈ds,d < 10)->ds.foldl (λacc d=>acc*10+d) a < (a+1)*10 ^ ds.length
 | [],a,_=>by simp
 | d :: ds,a,h=>by
  have h1:=UN ds (a*10+d) λx hx=>h x (a8 _ hx);have h2:=h d ac;rw[fj,ae,Nat.pow_succ];refine ar h1 ?_;rw[dB (10 ^ ds.length) 10,← Nat.mul_assoc];exact Nat.mul_le_mul_right _ (by omega)
theorem VW {z:Str}{i:Int}(hz:z.length<=3)(h:intText? z=some i):i.natAbs < 1000000:=by
 unfold intText? at h;split at h
 ·split at h
  ·rename_i ds hd;split at h
   ·have hs:=digits_size hd;have h1:=ay (core_length _) (ay (seen_length z) hz);have hn:∀d∈ds.toList,d < 10:=by
     unfold digits? at hd;cases hf:(core (numSeenOf z)).foldlM (dF 10) ((#[]:Array Nat),false) with
     | none=>rw[hf]at hd;exact absurd hd (by simp)
     | some q=>
      rw[hf]at hd;have h2:(if q.2=true then some q.1 else none)=some ds:=hd
      split at h2
      ·cases h2;exact UM _ (by simp) hf
      ·cases h2
    have hb:=UN ds.toList 0 hn;have hp:10 ^ ds.toList.length<=10 ^ 3:=Nat.pow_le_pow_right (by decide) (by rw[cj];omega)
    rw[Array.foldl_toList]at hb;have h:=ak h;subst h;unfold worth;split <;> omega
   ·cases h
  ·cases h
 ·cases h
theorem jC {g:En->R Bool}{f:En->RS}{c:Nat}{ρ:En}(h:g ρ= .ok true):ifS g (ZB c) f ρ= .ex c:=by rw[ZQ h];rfl
theorem kv {z:List Nat}(hl:z.length<=16000000)(hz:∀c∈z,c < 4294967296):f_g [.str (S z)]= .ex 5\/∃i,f_g [.str (S z)]= .ok (.int i)/\z=nl i:=by
 have e1:zB gtC (ap1 Z7 (vB 0)) (cE (.int 3)) [.vl (.str (S z)),.un]= .ok (decide ((3:Int) < (z.length:Nat))):=by
  have e:Z7 (.str (S z))= .ok (.int (z.length:Nat)):=by
   show (if (S z).length<=bnd then R.ok (T.int (S z).length) else .bad)=_
   rw[zG,if_pos (show z.length<=bnd by have:bnd=16777216:=rfl;omega)]
  show (R.bind (Z7 (.str (S z))) λx=>R.bind (.ok (.int 3)) λy=>gtC x y)=_;rw[e,bOk,bOk];rfl
 show zC (b_g [.vl (.str (S z)),.un])=_\/∃i,zC (b_g [.vl (.str (S z)),.un])=_/\_;unfold b_g
 by_cases h3:z.length<=3
 ·rw[z5 (zg (by rw[e1,decide_eq_false (by omega)]))]
  have hc:(decide ((S z).length<=640) && (S z).cps.all (· < 4294967296))=true:=by
   rw[ah,decide_eq_true_eq,eG];exact⟨by rw[zG];omega,λc hc=>decide_eq_true (hz c (by rw[← zJ z];simpa using hc))⟩
  cases hi:intText? (S z) with
  | none=>
   have e2:VA 1 0 5 [.vl (.str (S z)),.un]= .ex 5:=by
    show (if (decide ((S z).length<=640) && (S z).cps.all (· < 4294967296))=true then _ else RS.bad)=_
    rw[if_pos hc,hi]
   exact .inl (by rw[Zr e2];rfl)
  | some i=>
   have hb:=VW (by rw[zG];exact h3) hi
   have e2:VA 1 0 5 [.vl (.str (S z)),.un]= .nx [.vl (.str (S z)),.vl (.int i)]:=by
    show (if (decide ((S z).length<=640) && (S z).cps.all (· < 4294967296))=true then _ else RS.bad)=_
    rw[if_pos hc,hi];rfl
   rw[z5 e2];have e3:zB neC (ap1 WT (vE 1)) (vB 0) [.vl (.str (S z)),.vl (.int i)]= .ok (!(S (nl i) == S z)):=by
    have:ap1 WT (vE 1) [.vl (.str (S z)),.vl (.int i)]= .ok (.str (S (nl i))):=Kk rfl (wL hb);show (R.bind (ap1 WT (vE 1) _) λx=>R.bind (.ok (.str (S z))) λy=>neC x y)=_;rw[this,bOk,bOk];rfl
   cases he:S (nl i) == S z with
   | true=>
    refine .inr ⟨i, ?_,(wK (beq_iff_eq.mp he)).symm⟩;rw[z5 (zg (by rw[e3,he];rfl)),zi (t:= .int i) rfl];rfl
   | false=>exact .inl (by rw[Zr (jC (by rw[e3,he];rfl))];rfl)
 ·exact .inl (by rw[Zr (jC (by rw[e1,decide_eq_true (by omega)]))];rfl)
end G
namespace G
open PySem L2 PV
theorem VX {l m:List Nat}{i:Nat}(h:fE (S l) (S m) (S l).length i):l=l.take i++m++l.drop (i+m.length):=by
 rw[VO]at h
 conv=>lhs;rw[← cP i l]
 rw[a_];congr 1
 conv=>lhs;rw[← cP m.length (l.drop i)]
 rw[h.2,List.drop_drop]
theorem QI {l m:List Nat}{i:Nat}:(cy (S l) 0 i,S m,cy (S l) (i+(S m).length) (S l).length)=(S (l.take i),S m,S (l.drop (i+m.length))):=by
 rw[VP,VP,zG,zG,dg,Nat.sub_zero,cK (l:=l.drop (i+m.length)) (by simp)]
theorem VY (l m:List Nat):bh (S l) (S m)=(S l,S [],S [])\/∃a b,l=a++m++b/\bh (S l) (S m)=(S a,S m,S b):=by
 unfold bh;rcases StrLaws.occ_head (S l) (S m) 1 (ag _) with ⟨e,_⟩ | ⟨i,r,e,hi,_⟩
 ·exact .inl (by rw[e];rfl)
 ·exact .inr ⟨_,_,VX hi,by rw[e];exact QI⟩
theorem kx {f g:En->R T}{ρ:En}{l m:List Nat}{y:Str}(hf:f ρ= .ok (.str (S l)))(hy:y=S m)(hm:m ≠ [])(hg:g ρ= .ok (.str y))(hl:l.length<=10000):smE Vh f g ρ= .ok (.tup [.str (S l),.str (S []),.str (S [])])\/∃a b,l=a++m++b/\smE Vh f g ρ= .ok (.tup [.str (S a),.str (S m),.str (S b)]):=by
 subst hy;have e:smE Vh f g ρ= .ok (.tup [.str (bh (S l) (S m)).1,.str (bh (S l) (S m)).2.1,.str (bh (S l) (S m)).2.2]):=by
  unfold smE;rw[hf,bOk];dsimp only;rw[hg,bOk];refine if_pos ⟨by rw[zG];have:bnd=16777216:=rfl;omega, ?_⟩
  rw[zG,beq_eq_false_iff_ne];exact λz=>hm (bp.mp z)
 rw[e];rcases VY l m with h | ⟨a,b,h1,h⟩
 ·exact .inl (by rw[h])
 ·exact .inr ⟨a,b,h1,by rw[h]⟩
noncomputable def fine (l:List Nat):Prop:=l.length<=1000/\∀c∈l,c < 4294967296
theorem fine.sub {l m:List Nat}(h:fine l)(hl:m.length<=l.length)(hs:∀c∈m,c∈l):fine m:=⟨ay hl h.1,λc hc=>h.2 c (hs c hc)⟩
theorem fine.l {a b:List Nat}(h:fine (a++b)):fine a:=h.sub (by simp) λc hc=>bn _ hc
theorem fine.r {a b:List Nat}(h:fine (a++b)):fine b:=h.sub (by simp) λc hc=>am _ hc
theorem ky {z:List Nat}(h:fine z):f_g [.str (S z)]= .ex 5\/∃i,f_g [.str (S z)]= .ok (.int i)/\z=nl i:=kv (ay h.1 (by decide)) h.2
theorem UO {f:En->R T}{ρ:En}{c:Nat}(h:f (frz ρ)= .ex c):zI f ρ= .ex c:=by
 unfold zI;rw[h];rfl
theorem VZ {l:List Nat}{d:Nat}(h:bH (S l) (S [d])=true):∃m,l=m++[d]:=by
 unfold bH at h;rw[bY,zG,zG,zJ,zJ]at h;rcases dL l with rfl | ⟨m,c,rfl⟩
 ·simp at h
 ·refine⟨m, ?_⟩;simp at h;rw[dM,h]
theorem x5 {l p:List Nat}{o q:Str}(ho:o=S p)(h:bL (S l) (S p)=false\/bH (S l) q=false):f_e [.str (S l),.str o,.str q]= .ex 5:=by
 subst ho;have e3:orT (Jz (jm (smE QU (vE 0) (vE 1)))) (Jz (jm (smE QV (vE 0) (vE 2)))) [.vl (.str (S l)),.vl (.str (S p)),.vl (.str q)]= .ok true:=by
  have e1:smE QU (vE 0) (vE 1) [.vl (.str (S l)),.vl (.str (S p)),.vl (.str q)]= .ok (.bl (bL (S l) (S p))):=rfl;have e2:smE QV (vE 0) (vE 2) [.vl (.str (S l)),.vl (.str (S p)),.vl (.str q)]= .ok (.bl (bH (S l) q)):=rfl;rw[UC,jr,Zh,e1,bOk,j4,bOk,bOk,jr,Zh,e2,bOk,j4,bOk];cases hs:bL (S l) (S p) with
  | false=>rfl
  | true=>
   rcases h with h | h
   ·rw[hs]at h;cases h
   ·rw[h];rfl
 show zC (b_e [.vl (.str (S l)),.vl (.str (S p)),.vl (.str q)])=_;unfold b_e;rw[Zr (jC e3)];rfl
theorem Yb {h b:List Nat}{o q:Str}(ho:o=S (h++[40]))(hq:q=S [41])(hh:h.length<=10)(hl:fine (h++[40]++b)):f_e [.str (S (h++[40]++b)),.str o,.str q]= .ex 5\/∃m,b=m++[41]/\f_e [.str (S (h++[40]++b)),.str o,.str q]= .ok (.str (S m)):=by
 cases he:bH (S (h++[40]++b)) q with
 | false=>exact .inl (x5 ho (.inr he))
 | true=>
  rw[hq]at he;obtain⟨m,hm⟩:=VZ he;rcases dL b with rfl | ⟨c,x,rfl⟩
  ·rw[aK]at hm;have:=dG hm rfl;exact absurd this (by decide)
  ·rw[dM]at hm hl ⊢;rw[← a_]at hm;have e:=dG hm rfl;injection e with e _;subst e;refine .inr ⟨c,rfl, ?_⟩;rw[← a_];exact UL ho hq (by simp;omega) (by have:=hl.1;simp at this;omega)
noncomputable def jc:List (List Nat)->List Nat
 | []=>[]
 | [x]=>x
 | x :: y :: r=>x++44 :: 32 :: jc (y :: r)
noncomputable def pre:List (List Nat)->List Nat
 | []=>[]
 | w :: r=>w++44 :: 32 :: pre r
theorem UP:∀(a b:List (List Nat)),pre (a++b)=pre a++pre b
 | [],_=>rfl
 | w :: r,b=>by simp only[cS,pre,UP r b,a_]
theorem YQ:∀(a:List (List Nat)) (w:List Nat),jc (a++[w])=pre a++w
 | [],_=>rfl
 | [x],w=>by simp[jc,pre]
 | x :: y :: r,w=>by
  have:=YQ (y :: r) w;simp only[cS]at this ⊢;simp only[jc,pre,this,a_,cS]
theorem x6 {L:List Nat}{acc:List T}{b:Int}{i:Nat}{r:List Nat}{x y:Sl}(h:L.drop i=44 :: r)(hn:∀r',r ≠ 32 :: r'):
  Jc (jw 5 6) j5 ((itm L).drop i) (pE L acc b 0 x y)=Jc (jw 5 6) j5 ((itm L).drop (i+1)) (pE L acc b 0 (.vl (.int (i:Nat))) (.vl (.str (S [44])))):=by
 rw[JR h];refine wI (ρ1:=pE L acc b 0 (.vl (.int (i:Nat))) (.vl (.str (S [44])))) rfl ?_;unfold j5;rw[QE];have e0:(0:Int)+(if opn 44 then 1 else 0) - (if cls 44 then 1 else 0)=0:=by decide
 rw[e0];refine zg ?_;rw[ji];show (R.bind (.ok true) _)=_;rw[bOk,if_pos rfl,Zh];show R.ok (bP (S L) (S [44,32]) (i:Int))=_;rw[QF,h];congr 1
 rw[cO]
 right
 rw[beq_eq_false_iff_ne];intro z;cases r with
 | nil=>cases z
 | cons c r=>
  have z:[44,c]=[44,32]:=z;injection z with _ z;injection z with z _;exact hn r (by rw[z])
theorem Yc {L:List Nat}(hL:L.length<=1000):∀(n i:Nat) (as:List (List Nat)) (b:Nat) (d:Int) (x y:Sl),L.length<=i+n->i<=L.length->b<=i->as.length<=i->L.take b=pre as->
  ∃(as' :List (List Nat)) (j:Nat) (d' :Int) (x' y' :Sl),Jc (jw 5 6) j5 ((itm L).drop i) (pE L (as.map λl=>T.str (S l)) (b:Nat) d x y)= .nx (pE L (as'.map λl=>T.str (S l)) (j:Nat) d' x' y')/\j<=L.length/\as'.length<=L.length/\L.take j=pre as'
 | 0,i,as,b,d,x,y,hi,hi2,hb,ha,ht=>⟨as,b,d,x,y,by rw[UK (by omega)];rfl,by omega,by omega,ht⟩
 | n+1,i,as,b,d,x,y,hi,hi2,hb,ha,ht=>by
  by_cases hlt:i < L.length
  ·have hd:L.drop i=L[i] :: L.drop (i+1):=bi hlt
   by_cases hc:(d+(if opn L[i] then 1 else 0) - (if cls L[i] then 1 else 0) == 0)=false\/L[i] ≠ 44
   ·obtain⟨as',j,d',x',y',q,q1⟩:=Yc hL n (i+1) as b (d+(if opn L[i] then 1 else 0) - (if cls L[i] then 1 else 0)) (.vl (.int (i:Nat))) (.vl (.str (S [L[i]]))) (by omega) (by omega) (by omega) (by omega) ht
    exact⟨as',j,d',x',y',by rw[YO hd hc];exact q,q1⟩
   ·have h44:L[i]=44:=Decidable.byContradiction λz=>hc (.inr z);have hd0:d=0:=by
     have h1:(d+(if opn L[i] then 1 else 0) - (if cls L[i] then 1 else 0) == 0)=true:=by
      cases hz:(d+(if opn L[i] then 1 else 0) - (if cls L[i] then 1 else 0) == 0) with
      | true=>rfl
      | false=>exact absurd (.inl hz) hc
     rw[h44]at h1;have e0:d+(if opn 44 then 1 else 0) - (if cls 44 then 1 else 0)=d:=by
      have o:opn 44=false:=by decide
      have c:cls 44=false:=by decide
      rw[o,c];simp
     have:=beq_iff_eq.mp h1;omega
    subst hd0;rw[h44]at hd
    by_cases hs:∃r',L.drop (i+1)=32 :: r'
    ·obtain⟨r',hr⟩:=hs;rw[hr]at hd;have hi3:i+2<=L.length:=by
      have:=congrArg f9 hd;simp at this;omega
     obtain⟨x1,y1,q1⟩:=ku (L:=L) (acc:=as.map λl=>T.str (S l)) (b:=b) (i:=i) (x:=x) (y:=y) hd hb (by omega) (by rw[aD];omega)
     obtain⟨as',j,d',x',y',q,q2⟩:=Yc hL n (i+2) (as++[(L.drop b).take (i - b)]) (i+2) 0 x1 y1 (by omega) (by omega) (by omega) (by simp;omega) (by
      rw[UP,← ht];have e1:L.take (i+2)=L.take i++[44,32]:=by
       rw[List.take_add,hd];rfl
      have e2:L.take i=L.take b++(L.drop b).take (i - b):=by
       conv=>lhs;rw[show i=b+(i - b) by omega]
       rw[List.take_add]
      rw[e1,e2];simp[pre])
     refine⟨as',j,d',x',y', ?_,q2⟩;rw[q1,← q,fy];rfl
    ·obtain⟨as',j,d',x',y',q,q1⟩:=Yc hL n (i+1) as b 0 (.vl (.int (i:Nat))) (.vl (.str (S [44]))) (by omega) (by omega) (by omega) (by omega) ht
     exact⟨as',j,d',x',y',by rw[x6 hd λr' z=>hs ⟨r',z⟩];exact q,q1⟩
  ·exact⟨as,b,d,x,y,by rw[UK (by omega)];rfl,by omega,by omega,ht⟩
theorem Yd {L:List Nat}(h:L.length<=1000):∃ls,f_k [.str (S L),.str ", "]= .ok (.lst (ls.map λl=>T.str (S l)))/\jc ls=L/\ls.length<=1001:=by
 obtain⟨as,j,d',x',y',q,a1,a2,a3⟩:=Yc h L.length 0 [] 0 0 .un .un (by omega) (by omega) (by omega) (by simp) (by simp[pre])
 refine⟨as++[L.drop j], ?_,by rw[YQ,← a3,cP],by simp;omega⟩
 have e1:Yx (Ue (vE 0)) (jw 5 6) j5 (pE L [] 0 0 .un .un)= .nx (pE L (as.map λl=>T.str (S l)) (j:Nat) d' x' y'):=q;have e2:Zg (vE 0) (zh (vE 3)) noO (pE L (as.map λl=>T.str (S l)) (j:Nat) d' x' y')= .ok (.str (S (L.drop j))):=by
  show (if (S L).length<=bnd then R.ok (T.str (bX (S L) (some (j:Int)) none)) else .bad)=_
  rw[QC a1,if_pos];rw[zG];have:bnd=16777216:=rfl;omega
 have e3:wU 2 (Zg (vE 0) (zh (vE 3)) noO) (pE L (as.map λl=>T.str (S l)) (j:Nat) d' x' y')= .nx (pE L ((as++[L.drop j]).map λl=>T.str (S l)) (j:Nat) d' x' y'):=by
  show (R.s (Zg (vE 0) (zh (vE 3)) noO _) λt=>if (as.map λl=>T.str (S l)).length < bnd then RS.nx _ else .bad)=_
  rw[e2,YH,if_pos (by rw[aD];have:bnd=16777216:=rfl;omega),fy];rfl
 show zC (b_k [.vl (.str (S L)),.vl (.str ", "),.un,.un,.un,.un,.un])=_;unfold b_k;have z1:yx 2 zb [.vl (.str (S L)),.vl (.str ", "),.un,.un,.un,.un,.un]= .nx [.vl (.str (S L)),.vl (.str ", "),.ow [],.un,.un,.un,.un]:=rfl;have z2:zZ 3 (cE (.int 0)) [.vl (.str (S L)),.vl (.str ", "),.ow [],.un,.un,.un,.un]= .nx [.vl (.str (S L)),.vl (.str ", "),.ow [],.vl (.int 0),.un,.un,.un]:=rfl;have z3:zZ 4 (cE (.int 0)) [.vl (.str (S L)),.vl (.str ", "),.ow [],.vl (.int 0),.un,.un,.un]= .nx (pE L [] 0 0 .un .un):=rfl;unfold j5 at e1;rw[z5 z1,z5 z2,z5 z3,z5 e1,z5 e3];rfl
theorem UQ:∀{ls:List (List Nat)} {w:List Nat},w∈ls->w.length<=(jc ls).length/\∀c∈w,c∈jc ls
 | [x],w,h=>by
  have:w=x:=by simpa using h
  subst this;exact⟨ag _,λ_ h=>h⟩
 | x :: y :: r,w,h=>by
  rcases aj.mp h with rfl | h
  ·exact⟨by simp only[jc,aa];omega,λc hc=>bn _ hc⟩
  ·obtain⟨a,b⟩:=UQ h;exact⟨by simp only[jc,aa,ae];omega,λc hc=>am _ (a8 _ (a8 _ (b c hc)))⟩
theorem UR:∀{ls:List (List Nat)} {w:List Nat},w∈ls->w.length<=(jn ls).length/\∀c∈w,c∈jn ls
 | [x],w,h=>by
  have:w=x:=by simpa using h
  subst this;exact⟨ag _,λ_ h=>h⟩
 | x :: y :: r,w,h=>by
  rcases aj.mp h with rfl | h
  ·exact⟨by simp only[jn,aa];omega,λc hc=>bn _ hc⟩
  ·obtain⟨a,b⟩:=UR h;exact⟨by simp only[jn,aa,ae];omega,λc hc=>am _ (a8 _ (b c hc))⟩
theorem US {fe:En->R T}{α:Type}(g:α->T)(hx:α->List Nat)(P:α->Prop)(ρ:Sl->En)(hs:∀x y,(ρ x).set 0 y=ρ y):∀(ls:List (List Nat)) (x:Sl),(∀l∈ls,fe (ρ (.vl (.str (S l))))= .ex 5\/∃a,fe (ρ (.vl (.str (S l))))= .ok (g a)/\l=hx a/\P a)->zz (Z4 0) Zw fe (ls.map λl=>T.str (S l)) (ρ x)= .ex 5\/∃as:List α,zz (Z4 0) Zw fe (ls.map λl=>T.str (S l)) (ρ x)= .ok (as.map g)/\ls=as.map hx/\∀a∈as,P a
 | [],_,_=> .inr ⟨[],rfl,rfl,λ_ h=>nomatch h⟩
 | l :: ls,x,h=>by
  have e:zz (Z4 0) Zw fe ((l :: ls).map λl=>T.str (S l)) (ρ x)=(fe (ρ (.vl (.str (S l))))).bind λv=>(zz (Z4 0) Zw fe (ls.map λl=>T.str (S l)) (ρ (.vl (.str (S l))))).bind λvs=> .ok (v :: vs):=by
   rw[← hs x (.vl (.str (S l)))];rfl
  rw[e];rcases h l ac with q | ⟨a,q,ha,pa⟩
  ·exact .inl (by rw[q];rfl)
  ·rw[q,bOk];rcases US g hx P ρ hs ls (.vl (.str (S l))) λm hm=>h m (a8 _ hm) with q2 | ⟨as,q2,has,pas⟩
   ·exact .inl (by rw[q2];rfl)
   ·refine .inr ⟨a :: as,by rw[q2];rfl,by rw[bg,← ha,← has],λb hb=> ?_⟩
    rcases aj.mp hb with rfl | hb
    ·exact pa
    ·exact pas b hb
theorem JS {fi:En->R (List T)}{fe:En->R T}{k:Nat}{js:List Nat}{ρ:En}{ts:List T}(hi:fi ρ= .ok ts)(hl:ts.length<=2000):jO fi (Z4 0) Zw fe k js ρ=(zz (Z4 0) Zw fe ts (Jd k js ρ)).bind λvs=> .ok (.lst vs):=by
 unfold jO U4;rw[hi,bOk,if_pos (show ts.length<=bnd by have:bnd=16777216:=rfl;omega)]
abbrev kE (t:T)(d:Int)(x y:Sl):En:=[.vl t,.vl (.int d),x,y]
noncomputable def ofR (s:List Nat):Prop:=s=[110,111]\/s=[97,108,108]\/s=[115,111,109,101]
def Rd:Nat->T->List Nat->Prop
 | 0,_,_=>False
 | d+1,t,l=>(∃ws:List (List Nat),t= .tup (ws.map λw=>T.str (S w))/\l=jn ws)\/(∃(s:List Nat) (is:List Int),(s=[115,117,109]\/s=[115,105,122,101])/\t= .tup (.str (S s) :: is.map T.int)/\l=jn (s :: is.map nl))\/(∃(s:List Nat) (ps:List (T×List Nat)),ofR s/\t= .tup (.str (S s) :: ps.map (·.1))/\l=s++[40]++jc (ps.map (·.2))++[41]/\∀p∈ps,Rd d p.1 p.2)
theorem gh {a:List Nat}(h:((S a == "no") || ((S a == "all") || (S a == "some")))=true):ofR a:=by
 rw[d0,d0,beq_iff_eq,beq_iff_eq,beq_iff_eq]at h;rcases h with h | h | h
 ·exact .inl (wK (b:=[110,111]) h)
 ·exact .inr (.inl (wK (b:=[97,108,108]) h))
 ·exact .inr (.inr (wK (b:=[115,111,109,101]) h))
theorem lv1 {t:T}{d:Nat}{x y:Sl}:ifS (zB eqC (vB 1) (cE (.int 0))) (ZB 5) nxS (kE t ((d+1:Nat):Int) x y)= .nx (kE t ((d+1:Nat):Int) x y):=by
 refine zg ?_;show R.ok (((d+1:Nat):Int) == 0)=_;rw[beq_eq_false_iff_ne.mpr (by omega)]
theorem of2 {t b c:T}{s:Str}{d:Int}:jm (z8 1 f_b (z0 (z9 ixT (vE 2) (cE (.int 0))) zb)) (kE t d (.vl (.tup [.str s,b,c])) .un)= .ok ((s == "no") || ((s == "all") || (s == "some"))):=by
 rw[Zh,zV];show R.bind (f_b [.str s]) tru=_;rw[VR,bOk,j4]
theorem UT {f g:En->R T}{ρ:En}{xs ys:List T}(hf:f ρ= .ok (.tup xs))(hg:g ρ= .ok (.tup ys))(h:xs.length+ys.length<=10000):z9 zl f g ρ= .ok (.tup (xs++ys)):=by
 rw[zm,hf,bOk,hg,bOk];exact if_pos (by have:bnd=16777216:=rfl;omega)
theorem YR {g:T->T->R T}{f f' :En->R T}{ρ:En}{c:Nat}{x:T}(h:f ρ= .ok x)(h' :f' ρ= .ex c):z9 g f f' ρ= .ex c:=by rw[zm,h,bOk,h'];rfl
theorem J4 {g:List T->R T}{f f' f'' :En->R T}{ρ:En}{x y z:T}(h:f ρ= .ok x)(h' :f' ρ= .ok y)(h'' :f'' ρ= .ok z):z8 3 g (z0 f (z0 f' (z0 f'' zb))) ρ=g [x,y,z]:=by
 rw[UA,h,bOk,h',bOk,h'',bOk]
theorem QJ (L:List Nat):∃ls,cB (S L) (S [32])=ls.map S/\jn ls=L/\ls ≠ []:=by
 have e1:=StrLaws.join_split (S L) (S [32]);have e3:1<=(cB (S L) (S [32])).length:=PyProof.Rows.split_pos _ _;generalize cB (S L) (S [32])=P at e1 e3;have e4:P=(P.map λp=>p.cps.toList).map S:=by
  rw[bS];exact(List.map_id'' (λp=>xM p) P).symm
 refine⟨P.map λp=>p.cps.toList,e4, ?_,λz=>by rw[dY.mp z]at e3;exact absurd e3 (by decide)⟩
 rw[e4,UJ]at e1;exact wK e1
theorem YS:∀ls:List (List Nat),ls.length<=(jn ls).length+1
 | []=>by simp
 | [x]=>by simp
 | x :: y :: r=>by
  have:=YS (y :: r);simp only[jn,aa,ae]at this ⊢;omega
theorem UU {i:Nat}{f:En->R T}{ρ:En}{c:Nat}(h:f ρ= .ex c):zZ i f ρ= .ex c:=by rw[YI,h];rfl
theorem Km {g:T->R T}{f:En->R T}{ρ:En}{c:Nat}(h:f ρ= .ex c):ap1 g f ρ= .ex c:=by rw[J0,h];rfl
theorem QZ {g:En->R Bool}{f1 f2:En->RS}{ρ:En}{r:RS}(h:g ρ= .ok true)(hr:f1 ρ=r):ifS g f1 f2 ρ=r:=by rw[ZQ h,hr]
theorem Ye {ls:List (List Nat)}(h0:ls ≠ [])(hf:fine (jn ls))(d:Nat):f_f [.lst (ls.map λl=>T.str (S l))]= .ex 5\/∃t,f_f [.lst (ls.map λl=>T.str (S l))]= .ok t/\Rd (d+1) t (jn ls):=by
 cases ls with
 | nil=>exact absurd rfl h0
 | cons s r=>
  have hn:=YS (s :: r);have h1:=hf.1;simp only[ae]at hn;have ee:f_f [.lst ((s :: r).map λl=>T.str (S l))]=zC (b_f f_g [.vl (.lst ((s :: r).map λl=>T.str (S l)))]):=rfl;rw[ee];unfold b_f;have g:orT (zB eqC (z9 ixT (vE 0) (cE (.int 0))) (cE (.str "sum"))) (zB eqC (z9 ixT (vE 0) (cE (.int 0))) (cE (.str "size"))) [.vl (.lst ((s :: r).map λl=>T.str (S l)))]= .ok ((S s == "sum") || (S s == "size")):=by
   rw[UC,bg,hdE,bOk,hdE];cases (S s == "sum") <;> rfl
  cases hb:((S s == "sum") || (S s == "size")) with
  | false=>
   rw[hb]at g;rw[z5 (zg g)];exact .inr ⟨.tup ((s :: r).map λl=>T.str (S l)),congrArg zC (zi (W3 rfl)),.inl ⟨s :: r,rfl,rfl⟩⟩
  | true=>
   rw[hb]at g;have hs:s=[115,117,109]\/s=[115,105,122,101]:=by
    rw[d0,beq_iff_eq,beq_iff_eq]at hb;rcases hb with h | h
    ·exact .inl (wK (b:=[115,117,109]) h)
    ·exact .inr (wK (b:=[115,105,122,101]) h)
   have e3:jP (slE (vE 0) (zh (cE (.int 1))) noO) (frz [.vl (.lst ((s :: r).map λl=>T.str (S l)))])= .ok (r.map λl=>T.str (S l)):=itL slL;have e4:=JS (fe:=z8 1 f_g (z0 (vE 0) zb)) (k:=1) (js:=[]) e3 (by rw[aD];omega)
   have e5:J9 (z0 (z9 ixT (vE 0) (cE (.int 0))) zb) (frz [.vl (.lst ((s :: r).map λl=>T.str (S l)))])= .ok (.tup [.str (S s)]):=Kh ixL;rcases US (fe:=z8 1 f_g (z0 (vE 0) zb)) T.int nl (λ_=>True) (λx=>[x]) (λ_ _=>rfl) r .un (λw hw=>by
    rw[zV,v0,bOk];obtain⟨a,b⟩:=UR (a8 s hw);rcases ky (hf.sub a b) with z | ⟨c,z,y⟩
    ·exact .inl z
    ·exact .inr ⟨c,z,y,trivial⟩) with z | ⟨is,z,y,_⟩
   ·refine .inl ?_;rw[Zr (c:=5)]
    ·rfl
    ·refine QZ g (UO (YR e5 (Km ?_)));rw[e4];exact congrArg (λr=>R.bind r _) z
   ·have hl:is.length=r.length:=by rw[y,aD]
    refine .inr ⟨.tup (.str (S s) :: is.map T.int), ?_,.inr (.inl ⟨s,is,hs,rfl,by rw[y]⟩)⟩
    rw[zA (t:= .tup ([.str (S s)]++is.map T.int))]
    ·rfl
    ·refine QZ g (zi (UT e5 (W3 ?_) (by simp;omega)))
     rw[e4];exact congrArg (λr=>R.bind r _) z
theorem YT {a:List Nat}(h:ofR a):a.length<=4:=by rcases h with h | h | h <;> subst h <;> decide
theorem YU:∀(d n:Nat),d<=n->∀l:List Nat,fine l->S_4 (n+1) 0 [.str (S l),.int (d:Nat)]= .ex 5\/∃t,S_4 (n+1) 0 [.str (S l),.int (d:Nat)]= .ok t/\Rd d t l
 | 0,n,_,l,_=> .inl rfl
 | d+1,0,h,_,_=>absurd h (by omega)
 | d+1,n+1,hn,l,hl=>by
  have ee:S_4 (n+2) 0 [.str (S l),.int ((d+1:Nat):Int)]=zC (b_4 f_e f_k f_b (S_4 (n+1) 0) f_f (kE (.str (S l)) ((d+1:Nat):Int) .un .un)):=rfl;rw[ee];unfold b_4;rw[z5 lv1];have last:∀x,zC (zI (z8 1 f_f (z0 (smE QW (vE 0) (cE (.str " "))) zb)) (kE (.str (S l)) ((d+1:Nat):Int) (.vl (.tup x)) .un))= .ex 5\/∃t,zC (zI (z8 1 f_f (z0 (smE QW (vE 0) (cE (.str " "))) zb)) (kE (.str (S l)) ((d+1:Nat):Int) (.vl (.tup x)) .un))= .ok t/\Rd (d+1) t l:=λx=>by
   obtain⟨ls,e1,e2,e3⟩:=QJ l;have e4:smE QW (vE 0) (cE (.str " ")) (frz (kE (.str (S l)) ((d+1:Nat):Int) (.vl (.tup x)) .un))= .ok (.lst (ls.map λl=>T.str (S l))):=by
    show (if (S l).length<=1000/\((S [32]).length == 0)=false then R.ok (T.lst ((cB (S l) (S [32])).map T.str)) else .bad)=_
    rw[if_pos ⟨by rw[zG];exact hl.1,by rw[zG];rfl⟩,e1,bS];rfl
   have e5:z8 1 f_f (z0 (smE QW (vE 0) (cE (.str " "))) zb) (frz (kE (.str (S l)) ((d+1:Nat):Int) (.vl (.tup x)) .un))=f_f [.lst (ls.map λl=>T.str (S l))]:=by
    rw[zV,e4,bOk]
   have hl2:=hl;rw[← e2]at hl2;rcases Ye e3 hl2 d with z | ⟨t,z,y⟩
   ·exact .inl (congrArg zC (UO (e5.trans z)))
   ·exact .inr ⟨t,congrArg zC (zi (e5.trans z)),by rw[e2]at y;exact y⟩
  rcases kx (f:=vE 0) (g:=cE (.str "(")) (ρ:=kE (.str (S l)) ((d+1:Nat):Int) .un .un) (l:=l) (m:=[40]) rfl rfl (by simp) rfl (ay hl.1 (by decide)) with e | ⟨a,b,hab,e⟩
  ·rw[z5 (Z0 e)];rw[show List.set (kE (T.str (S l)) ((d+1:Nat):Int) Sl.un Sl.un) 2 (Sl.vl (T.tup [T.str (S l),T.str (S []),T.str (S [])]))=kE (.str (S l)) ((d+1:Nat):Int) (.vl (.tup [.str (S l),.str (S []),.str (S [])])) .un from rfl];cases ho:((S l == "no") || ((S l == "all") || (S l == "some"))) with
   | false=>
    rw[z5 (zg ((of2 (t:= .str (S l)) (d:=((d+1:Nat):Int))).trans (by rw[ho])))]
    exact last _
   | true=>
    refine .inl ?_;rw[Zr (c:=5)]
    ·rfl
    ·refine QZ ((of2 (t:= .str (S l)) (d:=((d+1:Nat):Int))).trans (by rw[ho])) (Zr (UU ?_))
     have e7:z9 zl (z9 ixT (vE 2) (cE (.int 0))) (cE (.str "(")) (kE (.str (S l)) ((d+1:Nat):Int) (.vl (.tup [.str (S l),.str (S []),.str (S [])])) .un)= .ok (.str (S (l++[40]))):=ue rfl rfl (by have:=hl.1;simp;omega)
     have e0:=J4 (g:=f_e) (f:=vE 0) (f'' :=cE (.str ")")) (ρ:=kE (.str (S l)) ((d+1:Nat):Int) (.vl (.tup [.str (S l),.str (S []),.str (S [])])) .un) rfl e7 rfl;have e8:f_e [.str (S l),.str (S (l++[40])),.str ")"]= .ex 5:=x5 rfl (.inl (by
      unfold bL;rw[bY,zG,zG,zJ,zJ,decide_eq_false (by simp)];rfl))
     show z8 2 f_k _ (kE (.str (S l)) ((d+1:Nat):Int) (.vl (.tup [.str (S l),.str (S []),.str (S [])])) .un)=_;rw[j3,e0,e8];rfl
  ·rw[z5 (Z0 e)];rw[show List.set (kE (T.str (S l)) ((d+1:Nat):Int) Sl.un Sl.un) 2 (Sl.vl (T.tup [T.str (S a),T.str (S [40]),T.str (S b)]))=kE (.str (S l)) ((d+1:Nat):Int) (.vl (.tup [.str (S a),.str (S [40]),.str (S b)])) .un from rfl];cases ho:((S a == "no") || ((S a == "all") || (S a == "some"))) with
   | false=>
    rw[z5 (zg ((of2 (t:= .str (S l)) (d:=((d+1:Nat):Int))).trans (by rw[ho])))]
    exact last _
   | true=>
    have hof:=gh ho;have hal:=YT hof;have hg:=(of2 (t:= .str (S l)) (b:= .str (S [40])) (c:= .str (S b)) (s:=S a) (d:=((d+1:Nat):Int))).trans (by rw[ho])
    have e7:z9 zl (z9 ixT (vE 2) (cE (.int 0))) (cE (.str "(")) (kE (.str (S l)) ((d+1:Nat):Int) (.vl (.tup [.str (S a),.str (S [40]),.str (S b)])) .un)= .ok (.str (S (a++[40]))):=ue rfl rfl (by simp;omega)
    have e0:=J4 (g:=f_e) (f:=vE 0) (f'' :=cE (.str ")")) (ρ:=kE (.str (S l)) ((d+1:Nat):Int) (.vl (.tup [.str (S a),.str (S [40]),.str (S b)])) .un) rfl e7 rfl;have hl2:=hl;rw[hab]at hl2;rcases Yb (h:=a) (b:=b) (o:=S (a++[40])) (q:=")") rfl rfl (by omega) hl2 with q | ⟨m,hm,q⟩
    ·refine .inl ?_;rw[Zr (c:=5)]
     ·rfl
     ·refine QZ hg (Zr (UU ?_));rw[← hab]at q;show z8 2 f_k _ (kE (.str (S l)) ((d+1:Nat):Int) (.vl (.tup [.str (S a),.str (S [40]),.str (S b)])) .un)=_;rw[j3,e0,q];rfl
    ·have hlm:fine m:=by
      have:=hl2.r;rw[hm]at this;exact this.l
     obtain⟨ls,e1,e2,e3⟩:=Yd hlm.1;rw[← hab]at q;have e5:zZ 3 (z8 2 f_k (z0 (z8 3 f_e (z0 (vE 0) (z0 (z9 zl (z9 ixT (vE 2) (cE (.int 0))) (cE (.str "("))) (z0 (cE (.str ")")) zb)))) (z0 (cE (.str ", ")) zb))) (kE (.str (S l)) ((d+1:Nat):Int) (.vl (.tup [.str (S a),.str (S [40]),.str (S b)])) .un)= .nx (kE (.str (S l)) ((d+1:Nat):Int) (.vl (.tup [.str (S a),.str (S [40]),.str (S b)])) (.vl (.lst (ls.map λl=>T.str (S l))))):=by
      refine Z0 ?_;rw[j3,e0,q,bOk];exact e1
     have e4:=JS (fi:=jP (vE 3)) (fe:=z8 2 (S_4 (n+1) 0) (z0 (vE 0) (z0 (z9 jA (vE 1) (cE (.int 1))) zb))) (k:=1) (js:=[1]) (ρ:=frz (kE (.str (S l)) ((d+1:Nat):Int) (.vl (.tup [.str (S a),.str (S [40]),.str (S b)])) (.vl (.lst (ls.map λl=>T.str (S l)))))) (ts:=ls.map λl=>T.str (S l)) rfl (by rw[aD];omega)
     have e6:J9 (z0 (z9 ixT (vE 2) (cE (.int 0))) zb) (frz (kE (.str (S l)) ((d+1:Nat):Int) (.vl (.tup [.str (S a),.str (S [40]),.str (S b)])) (.vl (.lst (ls.map λl=>T.str (S l))))))= .ok (.tup [.str (S a)]):=Kh rfl;rcases US (fe:=z8 2 (S_4 (n+1) 0) (z0 (vE 0) (z0 (z9 jA (vE 1) (cE (.int 1))) zb))) (λp:T×List Nat=>p.1) (λp=>p.2) (λp=>Rd d p.1 p.2) (λx=>[x,.vl (.int ((d+1:Nat):Int))]) (λ_ _=>rfl) ls .un (λw hw=>by
      have es:z9 jA (vE 1) (cE (.int 1)) [.vl (.str (S w)),.vl (.int ((d+1:Nat):Int))]= .ok (.int (d:Nat)):=by
       show R.ok (T.int (((d+1:Nat):Int) - 1))=_;rw[show ((d+1:Nat):Int) - 1=(d:Nat) by omega]
      rw[j3,v0,bOk,es,bOk];rw[← e2]at hlm;obtain⟨a,b⟩:=UQ hw;rcases YU d n (by omega) w (hlm.sub a b) with z | ⟨t,z,y⟩
      ·exact .inl z
      ·exact .inr ⟨(t,w),z,rfl,y⟩) with z | ⟨ps,z,y,hp⟩
     ·refine .inl ?_;rw[Zr (c:=5)]
      ·rfl
      ·refine QZ hg ((z5 e5).trans (UO (YR e6 (Km ?_))));rw[e4];exact congrArg (λr=>R.bind r _) z
     ·have hpl:ps.length=ls.length:=by rw[y,aD]
      refine .inr ⟨.tup (.str (S a) :: ps.map (·.1)), ?_,.inr (.inr ⟨a,ps,hof,rfl,by rw[← y,e2,hab,hm];simp,hp⟩)⟩
      rw[zA (t:= .tup ([.str (S a)]++ps.map (·.1)))]
      ·rfl
      ·refine QZ hg ((z5 e5).trans (zi (UT e6 (W3 ?_) (by simp;omega))))
       rw[e4];exact congrArg (λr=>R.bind r _) z
theorem UV:∀{ts:List T},(∀t∈ts,sOk t)->yb ts
 | [],_=>by unfold yb;trivial
 | t :: ts,h=>by unfold yb;exact⟨h t ac,UV λu hu=>h u (a8 _ hu)⟩
theorem UW {x:Str}(h:x.length<=10000):sOk (.str x):=by
 unfold sOk;have:bnd=16777216:=rfl;omega
theorem x8 {i:Int}:sOk (.int i):=by unfold sOk;trivial
theorem UX {ts:List T}(h:∀t∈ts,sOk t):sOk (.tup ts):=by unfold sOk;exact UV h
theorem x9:∀(d:Nat) (t:T) (l:List Nat),l.length<=1000->Rd d t l->sOk t
 | 0,_,_,_,h=>h.elim
 | d+1,t,l,hl,h=>by
  rcases h with ⟨ws,rfl,q⟩ | ⟨s,is,hs,rfl,q⟩ | ⟨s,ps,hs,rfl,q,hp⟩
  ·refine UX λx hx=> ?_;obtain⟨w,hw,rfl⟩:=cJ.mp hx;have h1:=(UR hw).1;rw[q]at hl;exact UW (by rw[zG];omega)
  ·refine UX λx hx=> ?_;rcases aj.mp hx with rfl | hx
   ·rcases hs with rfl | rfl <;> exact UW (by rw[zG];decide)
   ·obtain⟨i,_,rfl⟩:=cJ.mp hx;exact x8
  ·refine UX λx hx=> ?_;rcases aj.mp hx with rfl | hx
   ·exact UW (by rw[zG];have:=YT hs;omega)
   ·obtain⟨p,hq,rfl⟩:=cJ.mp hx;refine x9 d _ p.2 ?_ (hp p hq);have h1:=(UQ (List.mem_map_of_mem (f:=λp:T×List Nat=>p.2) hq)).1;rw[q]at hl;simp only[aa]at hl;omega
theorem xa {ws:List (List Nat)}{i:Int}{r:List T}:ws.map (λw=>T.str (S w)) ≠ .int i :: r:=λh=>by
 cases ws with
 | nil=>cases h
 | cons w ws=>injection h with h _;cases h
theorem xb {ws:List (List Nat)}{x r:List T}:ws.map (λw=>T.str (S w)) ≠ .tup x :: r:=λh=>by
 cases ws with
 | nil=>cases h
 | cons w ws=>injection h with h _;cases h
theorem kz {is:List Int}{x r:List T}:is.map T.int ≠ .tup x :: r:=λh=>by
 cases is with
 | nil=>cases h
 | cons w ws=>injection h with h _;cases h
theorem JT {ws:List (List Nat)}{x:Str}{r:List T}(h:ws.map (λw=>T.str (S w))= .str x :: r):∃vs,ws=x.cps.toList :: vs/\vs.map (λw=>T.str (S w))=r:=by
 cases ws with
 | nil=>cases h
 | cons w ws=>
  injection h with h1 h2;injection h1 with h1;exact⟨ws,by rw[← h1,zJ],h2⟩
theorem WG {is:List Int}{i:Int}{r:List T}(h:is.map T.int= .int i :: r):∃js,is=i :: js/\js.map T.int=r:=by
 cases is with
 | nil=>cases h
 | cons w ws=>
  injection h with h1 h2;injection h1 with h1;exact⟨ws,by rw[← h1],h2⟩
theorem xf:∀r:Ru,∃x,r.t= .tup x
 | .sum _ _=>⟨_,rfl⟩
 | .size _ _=>⟨_,rfl⟩
 | .word _=>⟨_,rfl⟩
 | .rising=>⟨_,rfl⟩
 | .unlike=>⟨_,rfl⟩
 | .no _=>⟨_,rfl⟩
 | .all _ _=>⟨_,rfl⟩
 | .some _ _=>⟨_,rfl⟩
theorem ug {s:List Nat}{x:Str}{l:List Nat}{a b:List T}(hx:x=S l)(h:T.tup (.str x :: a)= .tup (.str (S s) :: b)):s=l/\a=b:=by
 injection h with h;injection h with h1 h2;injection h1 with h1;rw[hx]at h1;exact⟨(wK h1).symm,h2⟩
theorem UY {d:Nat}{x:Str}{l m:List Nat}{a b:Int}(hx:x=S l)(hl:l=[115,117,109]\/l=[115,105,122,101])(h:Rd (d+1) (.tup [.str x,.int a,.int b]) m):m=jn [l,nl a,nl b]:=by
 rcases h with ⟨ws,h,q⟩ | ⟨s,is,hs,h,q⟩ | ⟨s,ps,hs,h,q,hp⟩
 ·injection h with h;obtain⟨vs,rfl,h2⟩:=JT h.symm;exact absurd h2 xa
 ·obtain⟨e1,e2⟩:=ug hx h;obtain⟨js,rfl,h3⟩:=WG e2.symm;obtain⟨ks,rfl,h4⟩:=WG h3;rw[dY.mp h4]at q;rw[q,e1];rfl
 ·obtain⟨e1,e2⟩:=ug hx h;rw[e1]at hs;rcases hl with rfl | rfl <;> (unfold ofR at hs;exact absurd hs (by decide))
theorem JU {d:Nat}{x:Str}{l m:List Nat}{r:List Str}(hx:x=S l)(hl:l=[119,111,114,100]\/l=[114,105,115,105,110,103]\/l=[117,110,108,105,107,101])(h:Rd (d+1) (.tup (.str x :: r.map T.str)) m):m=jn (l :: r.map λy=>y.cps.toList):=by
 rcases h with ⟨ws,h,q⟩ | ⟨s,is,hs,h,q⟩ | ⟨s,ps,hs,h,q,hp⟩
 ·injection h with h;obtain⟨vs,rfl,h2⟩:=JT h.symm;have:∀(vs:List (List Nat)) (r:List Str),vs.map (λw=>T.str (S w))=r.map T.str->vs=r.map λy=>y.cps.toList:=by
   intro vs
   induction vs with
   | nil=>
    intro r h;cases r with
    | nil=>rfl
    | cons _ _=>cases h
   | cons v vs ih=>
    intro r h;cases r with
    | nil=>cases h
    | cons y r=>
     injection h with h1 h2;injection h1 with h1;rw[ih r h2,← h1,bg,zJ]
  rw[q,this vs r h2,hx,zJ]
 ·obtain⟨e1,e2⟩:=ug hx h;rw[e1]at hs;rcases hl with rfl | rfl | rfl <;> exact absurd hs (by decide)
 ·obtain⟨e1,e2⟩:=ug hx h;rw[e1]at hs;rcases hl with rfl | rfl | rfl <;> (unfold ofR at hs;exact absurd hs (by decide))
theorem JV {d:Nat}{x:Str}{l m:List Nat}{r:Ru}{rs:List Ru}(hx:x=S l)(hl:ofR l)(h:Rd (d+1) (.tup (.str x :: r.t :: rs.map Ru.t)) m):∃ps:List (T×List Nat),r.t :: rs.map Ru.t=ps.map (·.1)/\m=l++[40]++jc (ps.map (·.2))++[41]/\∀p∈ps,Rd d p.1 p.2:=by
 obtain⟨z,hz⟩:=xf r;rcases h with ⟨ws,h,q⟩ | ⟨s,is,hs,h,q⟩ | ⟨s,ps,hs,h,q,hp⟩
 ·injection h with h;obtain⟨vs,rfl,h2⟩:=JT h.symm;rw[hz]at h2;exact absurd h2 xb
 ·obtain⟨e1,e2⟩:=ug hx h;rw[hz]at e2;exact absurd e2.symm kz
 ·obtain⟨e1,e2⟩:=ug hx h;exact⟨ps,e2,by rw[q,e1],hp⟩
theorem uh:∀(d:Nat) (r:Ru) (l:List Nat),Rd d r.t l->l=r.x
 | 0,_,_,h=>h.elim
 | d+1,.sum a b,l,h=>UY (l:=[115,117,109]) rfl (.inl rfl) h
 | d+1,.size a b,l,h=>UY (l:=[115,105,122,101]) rfl (.inr rfl) h
 | d+1,.word w,l,h=>JU (l:=[119,111,114,100]) (r:=[w]) rfl (.inl rfl) h
 | d+1,.rising,l,h=>JU (l:=[114,105,115,105,110,103]) (r:=[]) rfl (.inr (.inl rfl)) h
 | d+1,.unlike,l,h=>JU (l:=[117,110,108,105,107,101]) (r:=[]) rfl (.inr (.inr rfl)) h
 | d+1,.no r,l,h=>by
  obtain⟨ps,e,q,hp⟩:=JV (l:=[110,111]) (r:=r) (rs:=[]) rfl (.inl rfl) h
  match ps,e,hp,q with
  | [p],e,hp,q=>
   injection e with e1 _;have:=uh d r p.2 (by rw[e1];exact hp p ac)
   rw[q,Ru.x,← this];rfl
  | _ :: _ :: _,e,_,_=>injection e with _ e;cases e
 | d+1,.all r s,l,h=>by
  obtain⟨ps,e,q,hp⟩:=JV (l:=[97,108,108]) (r:=r) (rs:=[s]) rfl (.inr (.inl rfl)) h
  match ps,e,hp,q with
  | [p,p'],e,hp,q=>
   injection e with e1 e;injection e with e2 _;have h1:=uh d r p.2 (by rw[e1];exact hp p ac)
   have h2:=uh d s p'.2 (by rw[e2];exact hp p' (a8 _ ac))
   rw[q,Ru.x,← h1,← h2];simp[jc]
  | [_],e,_,_=>injection e with _ e;cases e
  | _ :: _ :: _ :: _,e,_,_=>injection e with _ e;injection e with _ e;cases e
 | d+1,.some r s,l,h=>by
  obtain⟨ps,e,q,hp⟩:=JV (l:=[115,111,109,101]) (r:=r) (rs:=[s]) rfl (.inr (.inr rfl)) h
  match ps,e,hp,q with
  | [p,p'],e,hp,q=>
   injection e with e1 e;injection e with e2 _;have h1:=uh d r p.2 (by rw[e1];exact hp p ac)
   have h2:=uh d s p'.2 (by rw[e2];exact hp p' (a8 _ ac))
   rw[q,Ru.x,← h1,← h2];simp[jc]
  | [_],e,_,_=>injection e with _ e;cases e
  | _ :: _ :: _ :: _,e,_,_=>injection e with _ e;injection e with _ e;cases e
theorem YV {t:T}(h:inR (-50) 50 t=true):∃i:Int,t= .int i/\ -50<=i/\i<=50:=by
 unfold inR at h;split at h
 ·rename_i i;rw[ah,decide_eq_true_eq,decide_eq_true_eq]at h;exact⟨i,rfl,h.1,h.2⟩
 ·cases h
theorem QK {xs:List T}(h:VN xs=true):∃a b:Int,xs=[.int a,.int b]/\(-50<=a/\a<=50)/\(-50<=b/\b<=50):=by
 unfold VN at h;split at h
 ·rw[ah]at h;obtain⟨a,rfl,ha⟩:=YV h.1;obtain⟨b,rfl,hb⟩:=YV h.2;exact⟨a,b,rfl,ha,hb⟩
 ·cases h
theorem Yg:∀(d:Nat) (t:T),isR d t=true->∃r:Ru,t=r.t/\J7 d r
 | 0,_,h=>by cases h
 | d+1,t,h=>by
  replace h:Y5 (isR d) t=true:=h
  unfold Y5 at h;split at h
  ·rename_i s xs;split at h
   ·rename_i hs;obtain⟨a,b,rfl,ha,hb⟩:=QK h;rcases hs with rfl | rfl
    ·exact⟨.sum a b,rfl,.sum ha hb⟩
    ·exact⟨.size a b,rfl,.size ha hb⟩
   ·split at h
    ·rename_i hs;subst hs;unfold xI at h;split at h
     ·rename_i w;cases w with
      | str x=>exact⟨.word x,rfl,.word h⟩
      | _=>cases h
     ·cases h
    ·split at h
     ·rename_i hs;cases xs with
      | nil=>
       rcases hs with rfl | rfl
       ·exact⟨.rising,rfl,.rising⟩
       ·exact⟨.unlike,rfl,.unlike⟩
      | cons _ _=>cases h
     ·split at h
      ·rename_i hs;subst hs;unfold xJ at h;split at h
       ·obtain⟨r,rfl,hr⟩:=Yg d _ h;exact⟨.no r,rfl,.no hr⟩
       ·cases h
      ·split at h
       ·rename_i hs;unfold xK at h;split at h
        ·rw[ah]at h;obtain⟨r,rfl,hr⟩:=Yg d _ h.1;obtain⟨q,rfl,hq⟩:=Yg d _ h.2;rcases hs with rfl | rfl
         ·exact⟨.all r q,rfl,.all hr hq⟩
         ·exact⟨.some r q,rfl,.some hr hq⟩
        ·cases h
       ·cases h
  ·cases h
theorem QL {r:Ru}(hr:J7 3 r):f_1 [r.t]= .ok (.str (S r.x)):=by
 show zC (b_1 f_j (f_6 8) [.vl r.t])=_;rw[b_1,z5 (UD (t:= .non) (by rw[zV,v0,bOk,wJ hr])),zi (t:= .str (S r.x))]
 ·rfl
 ·show z8 1 _ _ [.vl r.t]=_;rw[zV,v0,bOk];exact(VV hr 7 7 (by decide) (by decide) (by decide)).1
theorem gj {l:List Nat}(h:fine l):f_7 [.str (S l)]= .ex 5\/∃r:Ru,J7 3 r/\l=r.x/\f_7 [.str (S l)]= .ok r.t:=by
 have ee:f_7 [.str (S l)]=zC (b_7 f_2 f_m (f_4 8) [.vl (.str (S l)),.un]):=rfl;rw[ee];unfold b_7;rw[z5 (UD (t:= .non) (by rw[zV];rfl))]
 have e0:z8 2 (f_4 8) (z0 (vE 0) (z0 (cE (.int 3)) zb)) [.vl (.str (S l)),.un]=S_4 8 0 [.str (S l),.int (3:Nat)]:=by
  rw[j3];rfl
 rcases YU 3 7 (by decide) l h with q | ⟨t,q,hr⟩
 ·exact .inl (by rw[Zr (UU (e0.trans q))];rfl)
 ·rw[z5 (Z0 (e0.trans q))];have hi:=ub t (x9 3 t l h.1 hr);have e1:∀b,isR 3 t=b->Jz (jm (z8 1 f_2 (z0 (vE 1) zb))) [.vl (.str (S l)),.vl t]= .ok (!b):=λb hb=>by
   rw[jr,Zh,zV,v1,bOk,hi,bOk,j4,bOk,hb]
  cases hb:isR 3 t with
  | false=>exact .inl (congrArg zC (Zr (jC (e1 _ hb))))
  | true=>
   obtain⟨r,rfl,hk⟩:=Yg 3 t hb;refine .inr ⟨r,hk,uh 3 r l hr, ?_⟩;exact congrArg zC ((z5 (zg (e1 _ hb))).trans (zi rfl))
theorem gm:f_a 5= .ok (.str "no text"):=rfl
theorem xg {l:List Nat}(h:fine l){ρ:En}{f:En->R T}(hf:f ρ= .ok (.str (S l))):jy okX f_a (z8 1 f_1 (z0 (z8 1 f_7 (z0 f zb)) zb) ρ)= .ok (.str "no text")\/jy okX f_a (z8 1 f_1 (z0 (z8 1 f_7 (z0 f zb)) zb) ρ)= .ok (.str (S l)):=by
 rw[zV,zV,hf,bOk];rcases gj h with q | ⟨r,hr,hx,q⟩
 ·rw[q];refine .inl ?_;show (if okX 5=true then nx1 (f_a 5) else R.bad)=_
  rw[gm];rfl
 ·rw[q,bOk,QL hr,hx];exact .inr rfl
theorem Zx {P:Nat->Prop}(h32:P 32):∀ls:List (List Nat),(∀w∈ls,∀c∈w,P c)->∀c∈jn ls,P c
 | [],_,_,h=>nomatch h
 | [x],h,c,hc=>h x ac c hc
 | x :: y :: r,h,c,hc=>by
  rcases bc.mp hc with hc | hc
  ·exact h x ac c hc
  ·rcases aj.mp hc with rfl | hc
   ·exact h32
   ·exact Zx h32 (y :: r) (λw hw=>h w (a8 _ hw)) c hc
noncomputable abbrev lo7 (c:Nat):Prop:=c < 128
theorem xN {i:Int}(h1: -50<=i)(h2:i<=50):∀c∈nl i,lo7 c:=λc hc=>by
 have:=(Y7 h1 h2).2.2.1 c hc;unfold lo7;omega
theorem ZF {a b:List Nat}(ha:∀c∈a,lo7 c)(hb:∀c∈b,lo7 c):∀c∈a++b,lo7 c:=λc hc=>by
 rcases bc.mp hc with h | h
 ·exact ha c h
 ·exact hb c h
theorem Zd {a:List Nat}{ls:List (List Nat)}(ha:∀c∈a,lo7 c)(h:∀w∈ls,∀c∈w,lo7 c):∀w∈a :: ls,∀c∈w,lo7 c:=λw hw=>by
 rcases aj.mp hw with rfl | hw
 ·exact ha
 ·exact h w hw
theorem wN:∀w∈([]:List (List Nat)),∀c∈w,lo7 c:=λ_ h=>nomatch h
theorem gq {d:Nat}{r:Ru}(h:J7 d r):∀c∈r.x,lo7 c:=by
 induction h with
 | sum ha hb=>exact Zx (P:=lo7) (by decide) _ (Zd (by decide) (Zd (xN ha.1 ha.2) (Zd (xN hb.1 hb.2) wN)))
 | size ha hb=>exact Zx (P:=lo7) (by decide) _ (Zd (by decide) (Zd (xN ha.1 ha.2) (Zd (xN hb.1 hb.2) wN)))
 | word h=>exact Zx (P:=lo7) (by decide) _ (Zd (by decide) (Zd (λc hc=>by have:=Y8 h c hc;unfold lo7;omega) wN))
 | rising=>exact Zx (P:=lo7) (by decide) _ (Zd (by decide) wN)
 | unlike=>exact Zx (P:=lo7) (by decide) _ (Zd (by decide) wN)
 | no h ih=>rw[Ru.x];exact ZF (ZF (by decide) ih) (by decide)
 | all h h' ih ih' =>rw[Ru.x];exact ZF (ZF (by decide) (ZF (ZF ih (by decide)) ih')) (by decide)
 | some h h' ih ih' =>rw[Ru.x];exact ZF (ZF (by decide) (ZF (ZF ih (by decide)) ih')) (by decide)
theorem gr (r:Ru):r.x ≠ []:=λh=>by
 cases r <;> (rw[Ru.x]at h;simp[jn,Ru.w]at h)
theorem xh {α β:Type}(f:α->Option β):∀l:List α,(l.filterMap f).length<=l.length
 | l=>List.length_filterMap_le f l
noncomputable def clp (n:Nat)(v:Option Int)(d:Int):Int:=match v with
 | none=>d
 | some i=>max 0 (min (if i < 0 then i+n else i) n)
theorem xi {n:Nat}{v:Option Int}{d:Int}(h0:0<=d)(h1:d<=n):0<=clp n v d/\clp n v d<=n:=by
 cases v with
 | none=>exact⟨h0,h1⟩
 | some i=>unfold clp;dsimp only;constructor <;> omega
theorem xj (a b:Int)(n:Nat)(h0:0<=a)(h1:b<=n):(sliceRange a b 1).length<=n:=by
 unfold sliceRange;rw[aD,List.length_range,if_pos (by decide)]
 split <;> omega
theorem xk (lo hi:Option Int)(n:Nat):(br lo hi 1 n).length<=n:=by
 have e:br lo hi 1 n=sliceRange (clp n lo 0) (clp n hi n) 1:=by
  cases lo <;> cases hi <;> rfl
 rw[e];exact xj _ _ _ (xi (by omega) (by omega)).1 (xi (by omega) (by omega)).2
theorem xl (l:List Nat)(lo hi:Option Int):∃m,bX (S l) lo hi=S m/\m.length<=l.length/\∀c∈m,c∈l:=by
 by_cases h:((1:Int) == 1 && (br lo hi 1 (S l).length).length == (S l).length)=true
 ·exact⟨l,if_pos h,ag _,λ_ h=>h⟩
 ·refine⟨(br lo hi 1 (S l).length).filterMap ((S l).cps[·]?),if_neg h, ?_, ?_⟩
  ·have:=xk lo hi (S l).length;have:=xh ((S l).cps[·]?) (br lo hi 1 (S l).length);rw[zG]at*;omega
  ·intro c hc;obtain⟨i,_,hi⟩:=bI.mp hc;have hi:l.toArray[i]? =some c:=hi;rw[List.getElem?_toArray]at hi;exact dP hi
def Txx (n:Nat)(t:T):Prop:=∃m,t= .str (S m)/\m.length<=n/\∀c∈m,lo7 c
theorem Txx.le {n m:Nat}{t:T}(h:n<=m):Txx n t->Txx m t | ⟨x,a,b,c⟩=>⟨x,a,ay b h,c⟩
theorem JW {l:List Nat}(hl:l.length<=442)(hc:∀c∈l,lo7 c){ρ:En}{fa:En->R T}{fl fh:En->R (Option Int)}{lo hi:Option Int}(ha:fa ρ= .ok (.str (S l)))(h1:fl ρ= .ok lo)(h2:fh ρ= .ok hi):∃t,Zg fa fl fh ρ= .ok t/\Txx 442 t:=by
 obtain⟨m,e,a,b⟩:=xl l lo hi;refine⟨.str (S m), ?_,m,rfl,by omega,λc h=>hc c (b c h)⟩
 unfold Zg;rw[ha,bOk,h1,bOk,h2,bOk];show (if (S l).length<=bnd then R.ok (T.str (bX (S l) lo hi)) else .bad)=_
 rw[if_pos (by rw[zG];have:bnd=16777216:=rfl;omega),e]
theorem Zi {n m:Nat}{f g:En->R T}{ρ:En}(hf:∃t,f ρ= .ok t/\Txx n t)(hg:∃t,g ρ= .ok t/\Txx m t)(h:n+m<=1000):∃t,z9 zl f g ρ= .ok t/\Txx (n+m) t:=by
 obtain⟨_,ef,a,rfl,ha,ca⟩:=hf;obtain⟨_,eg,b,rfl,hb,cb⟩:=hg;refine⟨.str (S (a++b)),ue ef eg (by omega),a++b,rfl,by rw[aa];omega,λc hc=> ?_⟩
 rcases bc.mp hc with h | h
 ·exact ca c h
 ·exact cb c h
theorem Txx.fine {n:Nat}{t:T}(hn:n<=1000):Txx n t->∃l,t= .str (S l)/\G.fine l
 | ⟨m,a,b,c⟩=>⟨m,a,ay b hn,λx hx=>Nat.lt_trans (c x hx) (by decide)⟩
noncomputable abbrev ABC:Str:="0123- ,abnoword()"
theorem xm (i:Int)(h0:0<=i)(h1:i < 17):∃t,ixT (.str ABC) (.int i)= .ok t/\Txx 1 t:=by
 have H:∀k < 17,∃c,ABC.cps.toList[k]? =some c/\c < 128:=by
  have:(bF 17).all (λk=>match ABC.cps.toList[k]? with | some c=>decide (c < 128) | none=>false)=true:=by decide+kernel
  intro k hk;have:=aY.mp this k (by simpa using hk)
  split at this
  ·rename_i c e;exact⟨c,e,of_decide_eq_true this⟩
  ·cases this
 obtain⟨c,e,hc⟩:=H i.toNat (by omega)
 refine⟨.str (S [c]), ?_,[c],rfl,by simp,λx hx=>by rw[show x=c by simpa using hx];exact hc⟩
 show (if ABC.length<=bnd then (match atI ABC.cps.toList i with | some c=>R.ok (T.str ⟨#[c]⟩) | none=> .bad) else .bad)=_
 rw[if_pos (by decide+kernel),show i=((i.toNat:Nat):Int) by omega,Zt e];rfl
theorem xn {f g:En->R T}{ρ:En}{i j:Int}(hf:f ρ= .ok (.int i))(hg:g ρ= .ok (.int j))(hj:0 < j):z9 Zv f g ρ= .ok (.int (i % j)):=by
 rw[zm,hf,bOk,hg,bOk];exact if_pos hj
theorem fdC {f g:En->R T}{ρ:En}{i j:Int}(hf:f ρ= .ok (.int i))(hg:g ρ= .ok (.int j))(hj:0 < j/\j < 1073741824):z9 jL f g ρ= .ok (.int (i / j)):=by
 rw[zm,hf,bOk,hg,bOk];exact if_pos hj
theorem adC {f g:En->R T}{ρ:En}{i j:Int}(hf:f ρ= .ok (.int i))(hg:g ρ= .ok (.int j)):z9 zl f g ρ= .ok (.int (i+j)):=by
 rw[zm,hf,bOk,hg,bOk];rfl
theorem lnS {f:En->R T}{ρ:En}{l:List Nat}(hf:f ρ= .ok (.str (S l)))(hl:l.length<=10000):ap1 Z7 f ρ= .ok (.int (l.length:Nat)):=by
 rw[J0,hf,bOk];show (if (S l).length<=bnd then R.ok (T.int (S l).length) else .bad)=_
 rw[zG,if_pos (show l.length<=bnd by have:bnd=16777216:=rfl;omega)]
theorem Jq {n m:Nat}{f:En->R T}{ρ:En}(h:∃t,f (frz ρ)= .ok t/\Txx n t)(hn:n<=m):∃t,zC (zI f ρ)= .ok t/\Txx m t:=by
 obtain⟨t,e,ht⟩:=h;exact⟨t,by rw[zi e];rfl,ht.le hn⟩
theorem UZ {m:Nat}{g:En->R Bool}{f:En->R T}{q:En->RS}{ρ:En}(hg:∃b,g ρ= .ok b)(h1:∃t,zC (zI f ρ)= .ok t/\Txx m t)(h2:∃t,zC (q ρ)= .ok t/\Txx m t):∃t,zC (zu (ifS g (zI f) nxS) q ρ)= .ok t/\Txx m t:=by
 obtain⟨b,hb⟩:=hg;cases b with
 | true=>
  obtain⟨t,e,ht⟩:=h1;refine⟨t, ?_,ht⟩;rw[← e];have er:zI f ρ=ifS g (zI f) nxS ρ:=(ZQ hb).symm;have:zu (ifS g (zI f) nxS) q ρ=zI f ρ:=by
   unfold zu;rw[← er];unfold zI at e ⊢;cases hq:f (frz ρ) with
   | ok a=>rfl
   | ex c=>rfl
   | bad=>rfl
  rw[this]
 | false=>rw[z5 (zg hb)];exact h2
theorem y0 {l:List Nat}(hl:l.length<=442)(hc:∀c∈l,lo7 c)(s:Int):∃t,f_i [.str (S l),.int s,.str ABC]= .ok t/\Txx 886 t:=by
 have ee:f_i [.str (S l),.int s,.str ABC]=zC (b_i [.vl (.str (S l)),.vl (.int s),.vl (.str ABC),.un,.un,.un,.un]):=rfl;rw[ee];unfold b_i;have z1:zZ 3 (z9 Zv (vE 1) (z9 zl (ap1 Z7 (vB 0)) (cE (.int 1)))) [.vl (.str (S l)),.vl (.int s),.vl (.str ABC),.un,.un,.un,.un]= .nx [.vl (.str (S l)),.vl (.int s),.vl (.str ABC),.vl (.int (s % ((l.length:Nat)+1))),.un,.un,.un]:=
  Z0 (xn rfl (adC (lnS (l:=l) rfl (by omega)) rfl) (by omega))
 rw[z5 z1];generalize s % ((l.length:Nat)+1)=a;have e16:ap1 Z7 (vB 2) [.vl (.str (S l)),.vl (.int s),.vl (.str ABC),.vl (.int a),.un,.un,.un]= .ok (.int 17):=by
  show Z7 (.str ABC)=_;show (if ABC.length<=bnd then R.ok (T.int (ABC.length:Nat)) else .bad)=_
  rw[if_pos (by decide+kernel),show ABC.length=17 by decide+kernel];rfl
 obtain⟨t,et,ht⟩:=xm (s / 1000 % 17) (by omega) (by omega)
 have z2:zZ 4 (z9 ixT (vE 2) (z9 Zv (z9 jL (vE 1) (cE (.int 1000))) (ap1 Z7 (vB 2)))) [.vl (.str (S l)),.vl (.int s),.vl (.str ABC),.vl (.int a),.un,.un,.un]= .nx [.vl (.str (S l)),.vl (.int s),.vl (.str ABC),.vl (.int a),.vl t,.un,.un]:=by
  refine Z0 ?_;rw[zm,show vE 2 [.vl (.str (S l)),.vl (.int s),.vl (.str ABC),.vl (.int a),.un,.un,.un]= .ok (.str ABC) from rfl,bOk,xn (fdC (i:=s) (j:=1000) rfl rfl (by decide)) e16 (by decide),bOk]
  exact et
 rw[z5 z2];have z3:zZ 5 (z9 zl (z9 zl (vE 3) (cE (.int 1))) (z9 Zv (z9 jL (vE 1) (cE (.int 7))) (cE (.int 9)))) [.vl (.str (S l)),.vl (.int s),.vl (.str ABC),.vl (.int a),.vl t,.un,.un]= .nx [.vl (.str (S l)),.vl (.int s),.vl (.str ABC),.vl (.int a),.vl t,.vl (.int (a+1+s / 7 % 9)),.un]:=
  Z0 (adC (adC rfl rfl) (xn (fdC (i:=s) (j:=7) rfl rfl (by decide)) rfl (by decide)))
 rw[z5 z3];generalize a+1+s / 7 % 9=b;have z4:zZ 6 (z9 Zv (z9 jL (vE 1) (cE (.int 100000))) (cE (.int 8))) [.vl (.str (S l)),.vl (.int s),.vl (.str ABC),.vl (.int a),.vl t,.vl (.int b),.un]= .nx [.vl (.str (S l)),.vl (.int s),.vl (.str ABC),.vl (.int a),.vl t,.vl (.int b),.vl (.int (s / 100000 % 8))]:=
  Z0 (xn (fdC (i:=s) (j:=100000) rfl rfl (by decide)) rfl (by decide))
 rw[z5 z4];generalize s / 100000 % 8=w;generalize hρ:([.vl (.str (S l)),.vl (.int s),.vl (.str ABC),.vl (.int a),.vl t,.vl (.int b),.vl (.int w)]:En)=ρ;have hz:frz ρ=ρ:=by rw[← hρ];rfl
 have g0:vE 0 ρ= .ok (.str (S l)):=by rw[← hρ];rfl
 have g1:vE 1 ρ= .ok (.int s):=by rw[← hρ];rfl
 have g3:vE 3 ρ= .ok (.int a):=by rw[← hρ];rfl
 have g4:vE 4 ρ= .ok t:=by rw[← hρ];rfl
 have g5:vE 5 ρ= .ok (.int b):=by rw[← hρ];rfl
 have s3:zh (vE 3) ρ= .ok (some a):=by unfold zh;rw[g3];rfl
 have s5:zh (vE 5) ρ= .ok (some b):=by unfold zh;rw[g5];rfl
 have s4:zh (z9 zl (vE 3) (cE (.int 1))) ρ= .ok (some (a+1)):=by unfold zh;rw[adC g3 (j:=1) rfl];rfl
 have n0:noO ρ= .ok none:=rfl;have T4:∃t,vE 4 ρ= .ok t/\Txx 1 t:=⟨t,g4,ht⟩;have A3:=JW hl hc g0 n0 s3;have B3:=JW hl hc g0 s3 n0;have B4:=JW hl hc g0 s4 n0;have A5:=JW hl hc g0 n0 s5;have B5:=JW hl hc g0 s5 n0;have X0:∃t,vE 0 ρ= .ok t/\Txx 442 t:=⟨_,g0,l,rfl,hl,hc⟩;have c1:∀q:Int,∃b,zB ltC (vB 6) (cE (.int q)) ρ= .ok b:=λq=>by rw[← hρ];exact⟨_,rfl⟩
 have c2:∀q:Int,∃b,zB eqC (vB 6) (cE (.int q)) ρ= .ok b:=λq=>by rw[← hρ];exact⟨_,rfl⟩
 refine UZ (c1 2) (Jq (n:=442+1+442) (by rw[hz];exact Zi (Zi A3 T4 (by decide)) B3 (by decide)) (by decide)) ?_
 refine UZ (c2 2) (Jq (n:=442+442) (by rw[hz];exact Zi A3 B4 (by decide)) (by decide)) ?_
 refine UZ (c1 5) (Jq (n:=442+1+442) (by rw[hz];exact Zi (Zi A3 T4 (by decide)) B4 (by decide)) (by decide)) ?_
 refine UZ (c2 5) (Jq (n:=442+442) (by rw[hz];exact Zi A3 B5 (by decide)) (by decide)) ?_
 refine UZ (c2 6) (Jq (n:=442+442) (by rw[hz];exact Zi A5 B3 (by decide)) (by decide)) ?_
 refine Jq (n:=442+442) ?_ (by decide)
 rw[hz];have sp:∃t,cE (.str " ") ρ= .ok t/\Txx 1 t:=⟨_,rfl,[32],rfl,by decide,λc h=>by rw[show c=32 by simpa using h];decide⟩
 obtain⟨t1,e1,h1⟩:=Zi X0 sp (by decide)
 obtain⟨t2,e2,h2⟩:=Zi sp X0 (by decide)
 obtain⟨t3,e3,h3⟩:=Zi B3 A3 (by decide)
 obtain⟨t5,e5,h5⟩:=Zi X0 X0 (by decide)
 have h4:Txx (442+442) (.str ""):=⟨[],rfl,by decide,λ_ h=>nomatch h⟩
 have el:ju (z0 (z9 zl (vE 0) (cE (.str " "))) (z0 (z9 zl (cE (.str " ")) (vE 0)) (z0 (z9 zl (Zg (vE 0) (zh (vE 3)) noO) (Zg (vE 0) noO (zh (vE 3)))) (z0 (cE (.str "")) (z0 (z9 zl (vE 0) (vE 0)) zb))))) ρ= .ok (.lst [t1,t2,t3,.str "",t5]):=by
  unfold ju z0;rw[e1,bOk,e2,bOk,e3,bOk,e5];rfl
 have em:z9 Zv (vE 1) (cE (.int 5)) ρ= .ok (.int (s % 5)):=xn g1 rfl (by decide)
 rw[zm,el,bOk,em,bOk];have hs:s % 5=((0:Nat):Int)\/s % 5=((1:Nat):Int)\/s % 5=((2:Nat):Int)\/s % 5=((3:Nat):Int)\/s % 5=((4:Nat):Int):=by omega
 rcases hs with h | h | h | h | h
 ·rw[h];exact⟨t1,wH rfl,h1.le (by decide)⟩
 ·rw[h];exact⟨t2,wH rfl,h2.le (by decide)⟩
 ·rw[h];exact⟨t3,wH rfl,h3⟩
 ·rw[h];exact⟨_,wH rfl,h4⟩
 ·rw[h];exact⟨t5,wH rfl,h5⟩
mutual
noncomputable def tEq:T->T->Bool
 | .non,.non=>true
 | .bl a,.bl b=>a == b
 | .int a,.int b=>a == b
 | .str a,.str b=>a == b
 | .tup a,.tup b=>QM a b
 | .lst a,.lst b=>QM a b
 | _,_=>false
noncomputable def QM:List T->List T->Bool
 | [],[]=>true
 | a :: as,b :: bs=>tEq a b && QM as bs
 | _,_=>false
end
mutual
theorem YW:∀x y:T,tEq x y=true->x=y
 | .non,y,h=>by cases y <;> simp[tEq]at h ⊢
 | .bl a,y,h=>by cases y <;> simp[tEq]at h ⊢;exact h
 | .int a,y,h=>by cases y <;> simp[tEq]at h ⊢;exact h
 | .str a,y,h=>by cases y <;> simp[tEq]at h ⊢;exact h
 | .tup a,y,h=>by cases y <;> simp[tEq]at h ⊢;exact W4 _ _ h
 | .lst a,y,h=>by cases y <;> simp[tEq]at h ⊢;exact W4 _ _ h
 | .fz a,y,h=>by cases y <;> simp[tEq]at h
theorem W4:∀x y:List T,QM x y=true->x=y
 | [],y,h=>by cases y <;> simp[QM]at h ⊢
 | a :: as,y,h=>by
  cases y with
  | nil=>simp[QM]at h
  | cons b bs=>
   rw[QM,ah]at h;rw[YW a b h.1,W4 as bs h.2]
end
def xo (r:R T)(t:T):Bool:=match r with
 | .ok u=>tEq u t
 | _=>false
theorem W5 {r:R T}{t:T}(h:xo r t=true):r= .ok t:=by
 unfold xo at h;split at h
 ·rw[YW _ _ h]
 ·cases h
abbrev y3:En->RS:=(zu (zZ 4 (z9 zl (z9 j6 (z8 2 f_c (z0 (vE 0) (z0 (z9 zl (cE (.int 1700)) (vE 3)) (zb)))) (cE (.int 7919))) (z8 3 f_9 (z0 (vE 0) (z0 (z9 zl (cE (.int 1720)) (vE 3)) (z0 (cE (.int 999983)) (zb)))))))
  (zu (wU 2 (z8 3 f_i (z0 (vE 1) (z0 (vE 4) (z0 (cE (.str "0123- ,abnoword()")) (zb))))))
  (zu (zZ 5 (z8 3 f_9 (z0 (vE 0) (z0 (z9 zl (cE (.int 1740)) (vE 3)) (z0 (ap1 Z7 (vB 1)) (zb))))))
  (zu (zZ 6 (z9 zl (cE (.int 1)) (z8 3 f_9 (z0 (vE 0) (z0 (z9 zl (cE (.int 1760)) (vE 3)) (z0 (cE (.int 6)) (zb)))))))
  (zu (wU 2 (z9 zl (Zg (vE 1) (noO) (zh (vE 5))) (Zg (vE 1) (zh (z9 zl (vE 5) (vE 6))) (noO))))
  (wU 2 (z9 zl (Zg (vE 1) (noO) (zh (z9 zl (vE 5) (vE 6)))) (Zg (vE 1) (zh (vE 5)) (noO)))))))))
abbrev qE (ns:List Int)(l:List Nat)(ts:List T)(a b c d:Sl):En:=[.vl (scr ns),.vl (.str (S l)),.ow ts,a,b,c,d,.un,.un,.un,.un]
abbrev y4 (s:Sl):Prop:=y9 s=s
theorem QN {ns:List Int}{l:List Nat}{ts:List T}{a b c d:Sl}{f:En->R T}{t:T}(h:f (qE ns l ts a b c d)= .ok t)(hl:ts.length<=1000):wU 2 f (qE ns l ts a b c d)= .nx (qE ns l (ts++[t]) a b c d):=by
 show (R.s (f (qE ns l ts a b c d)) λt=>if ts.length < bnd then RS.nx _ else .bad)=_
 rw[h,YH,if_pos (by have:bnd=16777216:=rfl;omega)];rfl
theorem xp {ns:List Int}{l:List Nat}(h0:l ≠ [])(hl:l.length<=442)(hc:∀c∈l,lo7 c)(i:Nat)(ts:List T)(b c d:Sl)(hn:ts.length<=900)(ht:∀t∈ts,Txx 886 t):∃ts' b' c' d',y3 (qE ns l ts (.vl (.int (i:Int))) b c d)= .nx (qE ns l ts' (.vl (.int (i:Int))) b' c' d')/\ts'.length=ts.length+3/\(∀t∈ts',Txx 886 t)/\y4 b' /\y4 c' /\y4 d' :=by
 obtain⟨u,eu⟩:=Uw ns (1700+(i:Int)) (by omega)
 obtain⟨p,ep,_,_⟩:=Zn ns (1720+(i:Int)) 999983 (by omega) (by decide)
 obtain⟨q,eq,_,_⟩:=Zn ns (1740+(i:Int)) (l.length:Nat) (by omega) (by have:=List.length_pos_iff.mpr h0;omega)
 obtain⟨r,er,_,_⟩:=Zn ns (1760+(i:Int)) 6 (by omega) (by decide)
 obtain⟨t1,e1,h1⟩:=y0 hl hc (u*7919+p);have z1:zZ 4 (z9 zl (z9 j6 (z8 2 f_c (z0 (vE 0) (z0 (z9 zl (cE (.int 1700)) (vE 3)) (zb)))) (cE (.int 7919))) (z8 3 f_9 (z0 (vE 0) (z0 (z9 zl (cE (.int 1720)) (vE 3)) (z0 (cE (.int 999983)) (zb)))))) (qE ns l ts (.vl (.int (i:Int))) b c d)= .nx (qE ns l ts (.vl (.int (i:Int))) (.vl (.int (u*7919+p))) c d):=by
  refine Z0 (adC (i:=u*7919) (j:=p) ?_ ?_)
  ·rw[zm,j3];rw[show vE 0 (qE ns l ts (.vl (.int (i:Int))) b c d)= .ok (scr ns) from rfl,bOk,adC (i:=1700) (j:=i) rfl rfl,bOk,eu,bOk];exact VG _ _ (.inr ⟨by decide,by decide⟩)
  ·rw[J4 (x:=scr ns) rfl (adC (i:=1720) (j:=i) rfl rfl) (z:= .int 999983) rfl,ep]
 have z2:wU 2 (z8 3 f_i (z0 (vE 1) (z0 (vE 4) (z0 (cE (.str "0123- ,abnoword()")) (zb))))) (qE ns l ts (.vl (.int (i:Int))) (.vl (.int (u*7919+p))) c d)= .nx (qE ns l (ts++[t1]) (.vl (.int (i:Int))) (.vl (.int (u*7919+p))) c d):=
  QN (by rw[J4 (x:= .str (S l)) rfl (y:= .int (u*7919+p)) rfl (z:= .str ABC) rfl,e1]) (by omega)
 have z3:zZ 5 (z8 3 f_9 (z0 (vE 0) (z0 (z9 zl (cE (.int 1740)) (vE 3)) (z0 (ap1 Z7 (vB 1)) (zb))))) (qE ns l (ts++[t1]) (.vl (.int (i:Int))) (.vl (.int (u*7919+p))) c d)= .nx (qE ns l (ts++[t1]) (.vl (.int (i:Int))) (.vl (.int (u*7919+p))) (.vl (.int q)) d):=
  Z0 (by rw[J4 (x:=scr ns) rfl (adC (i:=1740) (j:=i) rfl rfl) (lnS (l:=l) rfl (by omega)),eq])
 have z4:zZ 6 (z9 zl (cE (.int 1)) (z8 3 f_9 (z0 (vE 0) (z0 (z9 zl (cE (.int 1760)) (vE 3)) (z0 (cE (.int 6)) (zb)))))) (qE ns l (ts++[t1]) (.vl (.int (i:Int))) (.vl (.int (u*7919+p))) (.vl (.int q)) d)= .nx (qE ns l (ts++[t1]) (.vl (.int (i:Int))) (.vl (.int (u*7919+p))) (.vl (.int q)) (.vl (.int (1+r)))):=
  Z0 (adC rfl (by rw[J4 (x:=scr ns) rfl (adC (i:=1760) (j:=i) rfl rfl) (z:= .int 6) rfl,er]))
 have key:∀us:List T,(∃t,z9 zl (Zg (vE 1) (noO) (zh (vE 5))) (Zg (vE 1) (zh (z9 zl (vE 5) (vE 6))) (noO)) (qE ns l us (.vl (.int (i:Int))) (.vl (.int (u*7919+p))) (.vl (.int q)) (.vl (.int (1+r))))= .ok t/\Txx (442+442) t)/\∃t,z9 zl (Zg (vE 1) (noO) (zh (z9 zl (vE 5) (vE 6)))) (Zg (vE 1) (zh (vE 5)) (noO)) (qE ns l us (.vl (.int (i:Int))) (.vl (.int (u*7919+p))) (.vl (.int q)) (.vl (.int (1+r))))= .ok t/\Txx (442+442) t:=λus=>
  ⟨Zi (JW hl hc (lo:=none) (hi:=some q) rfl rfl rfl) (JW hl hc (lo:=some (q+(1+r))) (hi:=none) rfl rfl rfl) (by decide),Zi (JW hl hc (lo:=none) (hi:=some (q+(1+r))) rfl rfl rfl) (JW hl hc (lo:=some q) (hi:=none) rfl rfl rfl) (by decide)⟩
 obtain⟨⟨t2,e2,h2⟩,_⟩:=key (ts++[t1]);obtain⟨_,⟨t3,e3,h3⟩⟩:=key (ts++[t1]++[t2]);refine⟨ts++[t1]++[t2]++[t3],.vl (.int (u*7919+p)),.vl (.int q),.vl (.int (1+r)), ?_,by simp,λt hm=> ?_,rfl,rfl,rfl⟩
 ·unfold y3;rw[z5 z1,z5 z2,z5 z3,z5 z4,z5 (QN e2 (by simp;omega)),QN e3 (by simp;omega)]
 ·rw[bc,bc,bc]at hm;rcases hm with ((hm | hm) | hm) | hm
  ·exact ht t hm
  ·rw[show t=t1 by simpa using hm];exact h1
  ·rw[show t=t2 by simpa using hm];exact h2.le (by decide)
  ·rw[show t=t3 by simpa using hm];exact h3.le (by decide)
theorem YX {ns:List Int}{l:List Nat}(h0:l ≠ [])(hl:l.length<=442)(hc:∀c∈l,lo7 c):∀(js:List Nat) (ts:List T) (a b c d:Sl),ts.length+3*js.length<=900->(∀t∈ts,Txx 886 t)->y4 a->y4 b->y4 c->y4 d->∃ts' a' b' c' d',Jc (Z4 3) y3 (js.map λ(j:Nat)=>T.int (j:Int)) (qE ns l ts a b c d)= .nx (qE ns l ts' a' b' c' d')/\ts'.length<=900/\(∀t∈ts',Txx 886 t)/\y4 a' /\y4 b' /\y4 c' /\y4 d'
 | [],ts,a,b,c,d,hn,ht,ha,hb,hc,hd=>⟨ts,a,b,c,d,rfl,by simpa using hn,ht,ha,hb,hc,hd⟩
 | j :: js,ts,a,b,c,d,hn,ht,_,_,_,_=>by
  simp only[ae]at hn;obtain⟨ts1,b1,c1,d1,q,n1,t1,pb,pc,pd⟩:=xp (ns:=ns) h0 hl hc j ts b c d (by omega) ht
  obtain⟨ts2,a2,b2,c2,d2,q2,r⟩:=YX (ns:=ns) h0 hl hc js ts1 (.vl (.int (j:Int))) b1 c1 d1 (by omega) t1 rfl pb pc pd
  exact⟨ts2,a2,b2,c2,d2,by rw[bg,wI (ρ1:=qE ns l ts (.vl (.int (j:Int))) b c d) rfl q,q2],r⟩
abbrev ui:En->RS:=(zu (zZ 8 (jT [7] okX f_a (z8 1 f_1 (z0 (z8 1 f_7 (z0 (vE 0) (zb))) (zb)))))
  (ifS (uS (zB neC (vB 8) (vB 7)) (zB neC (vB 8) (cE (.str "no text")))) (zI (cE (.bl false))) (nxS)))
abbrev uE (s0 s1 s2 a b c d x y:Sl):En:=[s0,s1,s2,a,b,c,d,x,y,.un,.un]
theorem xr {t:T}(ht:Txx 886 t){s0 s1 s2 a b c d y:Sl}:∃y',ui (uE s0 s1 s2 a b c d (.vl t) y)= .nx (uE s0 s1 s2 a b c d (.vl t) y'):=by
 obtain⟨l,rfl,hf⟩:=ht.fine (by decide)
 have e:jT [7] okX f_a (z8 1 f_1 (z0 (z8 1 f_7 (z0 (vE 0) (zb))) (zb))) (uE s0 s1 s2 a b c d (.vl (.str (S l))) y)=jy okX f_a (z8 1 f_1 (z0 (z8 1 f_7 (z0 (vE 0) zb)) zb) [.vl (.str (S l))]):=rfl;rcases xg hf (f:=vE 0) (ρ:=[.vl (.str (S l))]) rfl with q | q
 ·refine⟨.vl (.str "no text"), ?_⟩;unfold ui;rw[z5 (Z0 (e.trans q))];refine zg ?_;rw[ji];show (R.bind (R.ok (!(("no text":Str) == S l))) λx=>if x=true then R.ok false else .ok false)=_
  rw[bOk];split <;> rfl
 ·refine⟨.vl (.str (S l)), ?_⟩;unfold ui;rw[z5 (Z0 (e.trans q))];refine zg ?_;rw[ji];show (R.bind (R.ok (!(S l == S l))) λx=>if x=true then R.ok (!(S l == ("no text":Str))) else .ok false)=_
  rw[bOk];simp
theorem YY {s0 s1 s2 a b c d:Sl}:∀(ts:List T) (x y:Sl),(∀t∈ts,Txx 886 t)->∃x' y',Jc (Z4 7) ui ts (uE s0 s1 s2 a b c d x y)= .nx (uE s0 s1 s2 a b c d x' y')
 | [],x,y,_=>⟨x,y,rfl⟩
 | t :: ts,x,y,h=>by
  obtain⟨y1,q⟩:=xr (h t ac) (s0:=s0) (s1:=s1) (s2:=s2) (a:=a) (b:=b) (c:=c) (d:=d) (y:=y);obtain⟨x2,y2,q2⟩:=YY ts (.vl t) y1 λu hu=>h u (a8 _ hu);exact⟨x2,y2,by rw[wI (ρ1:=uE s0 s1 s2 a b c d (.vl t) y) rfl q,q2]⟩
noncomputable def ZR:List T:=[.str "rising",.str "unlike",.str "word a",.str "sum -50 50",.str "size 5 -5",.str "no(no(rising))",.str "all(some(rising, unlike), word no)"]
noncomputable def Jr:List T:=[.str "",.str "risen",.str "word",.str "word ",.str "word A",.str "word abcd",.str "word a b",.str "sum",.str "sum 1",.str "sum 1 2 3",.str "sum 01 2",.str "sum -0 2",.str "sum 51 52",.str "size  1 2",.str "no",.str "no()",.str "no(rising",.str "no rising",.str "all(rising)",.str "all(rising,unlike)",.str "some(rising, )",.str "all(rising, unlike, rising)",.str "no(no(no(rising)))",.str "rising ",.str " rising",.str "rising\n",.non,.int 5,.tup [.str "rising"],.str "no(rising))"]
theorem Yh:ZR.all (λx=>xo ((f_7 [x]).bind λt=>f_1 [t]) x)=true:=by decide+kernel
theorem QO:Jr.all (λx=>xo (jy okX f_a (f_7 [x])) (.str "no text"))=true:=by decide+kernel
noncomputable def okN (r:R Bool):Bool:=match r with
 | .ok b=> !b
 | _=>false
theorem xt {r:R Bool}(h:okN r=true):r= .ok false:=by
 unfold okN at h;split at h
 ·rename_i b;cases b with
  | true=>cases h
  | false=>rfl
 ·cases h
theorem gu {s0 s1 s2 a b c d x y:Sl}:yx 9 (z0 (cE (.str "rising")) (z0 (cE (.str "unlike")) (z0 (cE (.str "word a")) (z0 (cE (.str "sum -50 50")) (z0 (cE (.str "size 5 -5")) (z0 (cE (.str "no(no(rising))")) (zb))))))) [s0,s1,s2,a,b,c,d,x,y,.un,.un]= .nx [s0,s1,s2,a,b,c,d,x,y,.ow (ZR.take 6),.un]:=rfl
theorem gw {s0 s1 s2 a b c d x y:Sl}:Wh 9 (ju (z0 (cE (.str "all(some(rising, unlike), word no)")) (zb))) [s0,s1,s2,a,b,c,d,x,y,.ow (ZR.take 6),.un]= .nx [s0,s1,s2,a,b,c,d,x,y,.ow ZR,.un]:=rfl
theorem kA {s0 s1 s2 a b c d x y:Sl}{z:Sl}:yx 10 (z0 (cE (.str "")) (z0 (cE (.str "risen")) (z0 (cE (.str "word")) (z0 (cE (.str "word ")) (z0 (cE (.str "word A")) (z0 (cE (.str "word abcd")) (z0 (cE (.str "word a b")) (z0 (cE (.str "sum")) (z0 (cE (.str "sum 1")) (z0 (cE (.str "sum 1 2 3")) (zb))))))))))) [s0,s1,s2,a,b,c,d,x,y,z,.un]= .nx [s0,s1,s2,a,b,c,d,x,y,z,.ow (Jr.take 10)]:=rfl
theorem kB {s0 s1 s2 a b c d x y:Sl}{z:Sl}:Wh 10 (ju (z0 (cE (.str "sum 01 2")) (z0 (cE (.str "sum -0 2")) (zb)))) [s0,s1,s2,a,b,c,d,x,y,z,.ow (Jr.take 10)]= .nx [s0,s1,s2,a,b,c,d,x,y,z,.ow (Jr.take 12)]:=rfl
theorem kC {s0 s1 s2 a b c d x y:Sl}{z:Sl}:Wh 10 (ju (z0 (cE (.str "sum 51 52")) (z0 (cE (.str "size  1 2")) (z0 (cE (.str "no")) (z0 (cE (.str "no()")) (z0 (cE (.str "no(rising")) (z0 (cE (.str "no rising")) (z0 (cE (.str "all(rising)")) (zb))))))))) [s0,s1,s2,a,b,c,d,x,y,z,.ow (Jr.take 12)]= .nx [s0,s1,s2,a,b,c,d,x,y,z,.ow (Jr.take 19)]:=rfl
theorem kD {s0 s1 s2 a b c d x y:Sl}{z:Sl}:Wh 10 (ju (z0 (cE (.str "all(rising,unlike)")) (z0 (cE (.str "some(rising, )")) (zb)))) [s0,s1,s2,a,b,c,d,x,y,z,.ow (Jr.take 19)]= .nx [s0,s1,s2,a,b,c,d,x,y,z,.ow (Jr.take 21)]:=rfl
theorem kF {s0 s1 s2 a b c d x y:Sl}{z:Sl}:Wh 10 (ju (z0 (cE (.str "all(rising, unlike, rising)")) (z0 (cE (.str "no(no(no(rising)))")) (z0 (cE (.str "rising ")) (z0 (cE (.str " rising")) (z0 (cE (.str "rising\n")) (z0 (cE .non) (zb)))))))) [s0,s1,s2,a,b,c,d,x,y,z,.ow (Jr.take 21)]= .nx [s0,s1,s2,a,b,c,d,x,y,z,.ow (Jr.take 27)]:=rfl
theorem kG {s0 s1 s2 a b c d x y:Sl}{z:Sl}:Wh 10 (ju (z0 (cE (.int 5)) (z0 (J9 (z0 (cE (.str "rising")) (zb))) (z0 (cE (.str "no(rising))")) (zb))))) [s0,s1,s2,a,b,c,d,x,y,z,.ow (Jr.take 27)]= .nx [s0,s1,s2,a,b,c,d,x,y,z,.ow Jr]:=rfl
theorem xu {s0 s1 s2 a b c d x y:Sl}:QX (ifS (zB neC (jO (jP (vE 9)) (Z4 0) (Zw) (z8 1 f_1 (z0 (z8 1 f_7 (z0 (vE 0) (zb))) (zb))) 1 []) (vB 9)) (zI (cE (.bl false))) (nxS)) [s0,s1,s2,a,b,c,d,x,y,.ow ZR,.un]= .nx (frz [s0,s1,s2,a,b,c,d,x,y,.ow ZR,.un]):=by
 have e0:zz (Z4 0) Zw (z8 1 f_1 (z0 (z8 1 f_7 (z0 (vE 0) zb)) zb)) ZR [.un]= .ok (ZR.map λx=>x):=jY ZR _ λt ht=>by
  show z8 1 f_1 (z0 (z8 1 f_7 (z0 (vE 0) zb)) zb) [.vl t]=_;rw[zV,zV,v0,bOk];exact W5 (aY.mp Yh t ht)
 rw[List.map_id']at e0;have e1:=JS (fi:=jP (vE 9)) (fe:=z8 1 f_1 (z0 (z8 1 f_7 (z0 (vE 0) zb)) zb)) (k:=1) (js:=[]) (ρ:=frz [s0,s1,s2,a,b,c,d,x,y,.ow ZR,.un]) (ts:=ZR) rfl (by decide)
 refine zg ?_;show R.bind _ (λx=>R.bind (R.ok (.lst ZR)) λy=>neC x y)=_;rw[e1];show R.bind (R.bind (zz (Z4 0) Zw (z8 1 f_1 (z0 (z8 1 f_7 (z0 (vE 0) zb)) zb)) ZR [.un]) _) _=_;rw[e0,bOk,bOk,bOk];have:okN (neC (.lst ZR) (.lst ZR))=true:=by decide+kernel
 exact xt this
theorem kH {s0 s1 s2 a b c d x y z:Sl}:zI (Jk eqC (ZH (jP (vE 10)) (Z4 0) (Zw) (jT [0] okX f_a (z8 1 f_7 (z0 (vE 0) (zb)))) 1 []) (z9 j6 (ju (z0 (cE (.str "no text")) (zb))) (cE (.int 30)))) [s0,s1,s2,a,b,c,d,x,y,z,.ow Jr]= .rt (.bl true):=by
 have e0:zz (Z4 0) Zw (jT [0] okX f_a (z8 1 f_7 (z0 (vE 0) zb))) Jr [.un]= .ok (Jr.map λ_=> .str "no text"):=jY Jr _ λt ht=>by
  show jy okX f_a (z8 1 f_7 (z0 (vE 0) zb) [.vl t])=_;rw[zV,v0,bOk];exact W5 (aY.mp QO t ht)
 have e1:ZH (jP (vE 10)) (Z4 0) Zw (jT [0] okX f_a (z8 1 f_7 (z0 (vE 0) zb))) 1 [] (frz [s0,s1,s2,a,b,c,d,x,y,z,.ow Jr])= .ok (.lst (Jr.map λ_=> .str "no text")):=WF (ts:=Jr) rfl (by decide) e0
 refine zi ?_;rw[JN,e1,bOk];exact W5 (show xo ((z9 j6 (ju (z0 (cE (.str "no text")) (zb))) (cE (.int 30)) []).bind λy=>(eqC (.lst (Jr.map λ_=> .str "no text")) y).bind λb=> .ok (.bl b)) (.bl true)=true by decide+kernel)
theorem Kn:∀ns:List Int,ns.length<=63->f_0 [.fz (ns.map T.int)]= .ok (.bl true):=by
 intro ns _;obtain⟨k,ek,hk⟩:=JO ns 8 3 (by decide) (by decide) 10 (by decide)
 have hl:k.x.length<=442:=ay (uc hk) (ay (ud (by decide)) (by decide))
 have hc:=gq hk;have z1:zZ 1 (z8 1 (f_8 8) (z0 (z8 3 (f_3 8) (z0 (vE 0) (z0 (cE (.int 10)) (z0 (cE (.int 3)) (zb))))) (zb))) [.vl (scr ns),.un,.un,.un,.un,.un,.un,.un,.un,.un,.un]= .nx [.vl (scr ns),.vl (.str (S k.x)),.un,.un,.un,.un,.un,.un,.un,.un,.un]:=by
  refine Z0 ?_;rw[zV,J4 (x:=scr ns) (y:= .int 10) (z:= .int 3) rfl rfl rfl];rw[show f_3 8 [scr ns,.int 10,.int 3]= .ok k.t from ek,bOk];exact(VV hk 7 7 (by decide) (by decide) (by decide)).2
 have z2:yx 2 (z0 (vE 1) (zb)) [.vl (scr ns),.vl (.str (S k.x)),.un,.un,.un,.un,.un,.un,.un,.un,.un]= .nx (qE ns k.x [.str (S k.x)] .un .un .un .un):=rfl;obtain⟨ts,a,b,c,d,q,hn,ht,pa,pb,pc,pd⟩:=YX (ns:=ns) (gr k) hl hc (bF 8) [.str (S k.x)] .un .un .un .un (by simp) (λt h=>by
  rw[show t= .str (S k.x) by simpa using h]
  exact⟨k.x,rfl,by omega,hc⟩) rfl rfl rfl rfl
 have z3:Yx (qY (cE (.int 8))) (Z4 3) y3 (qE ns k.x [.str (S k.x)] .un .un .un .un)= .nx (qE ns k.x ts a b c d):=q;have hz:frz (qE ns k.x ts a b c d)=uE (.vl (scr ns)) (.vl (.str (S k.x))) (.vl (.lst ts)) a b c d .un .un:=by
  show [y9 (.vl (scr ns)),y9 (.vl (.str (S k.x))),y9 (.ow ts),y9 a,y9 b,y9 c,y9 d,.un,.un,.un,.un]=_;rw[pa,pb,pc,pd];rfl
 obtain⟨x,y,w⟩:=YY (s0:= .vl (scr ns)) (s1:= .vl (.str (S k.x))) (s2:= .vl (.lst ts)) (a:=a) (b:=b) (c:=c) (d:=d) ts .un .un ht;have z4:QX (Yx (jP (vE 2)) (Z4 7) ui) (qE ns k.x ts a b c d)= .nx (uE (.vl (scr ns)) (.vl (.str (S k.x))) (.vl (.lst ts)) a b c d x y):=by
  unfold QX;rw[hz];exact w
 show zC (b_0 f_c f_9 (f_3 8) f_a f_i (f_8 8) f_1 f_7 [.vl (scr ns),.un,.un,.un,.un,.un,.un,.un,.un,.un,.un])=_;unfold b_0;unfold y3 at z3;unfold ui at z4;rw[z5 z1,z5 z2,z5 z3,z5 z4,z5 gu,z5 gw,z5 xu];simp only[frz,bg,d7];rw[show y9 .un= .un from rfl];rw[z5 kA,z5 kB,z5 kC,z5 kD,z5 kF,z5 kG,kH];rfl
end G
namespace G
open PySem PySem.Spec PyProof.Rows L2 PV
noncomputable def top (i:Nat):Stmt:=PySem.Challenge.pw_worthkinds_k74_whole_rule_texts_spoilt.main.body.getD i (.Pass ⟨0,0,0,0⟩)
set_option genInjectivity false in
set_option genSizeOf false in
structure Tx (K:a6) (mg:Str->Option Value):Prop where
 C_8:FE K mg "_law_rule_text" (top 40) ["_law_rule_here"]
 C_c:FE K mg "_law_cell" (top 33) ["_law_script","_law_k"]
 C_9:FE K mg "_law_pick" (top 34) ["_law_script","_law_k","_law_many"]
 C_3:FE K mg "_law_rule" (top 38) ["_law_script","_law_at","_law_deep"]
 C_i:FE K mg "_law_spoilt" (top 43) ["_law_text","_law_cell_here","_law_signs"]
 C_a:FE K mg "_law_class" (top 41) ["_law_kept"]
 C__law_told:FE K mg "_law_told" (top 42) ["_law_deed"]
 C_l:FE K mg "is_whole" (top 10) ["thing"]
 C_d:FE K mg "is_bound" (top 18) ["thing"]
 C_h:FE K mg "is_word" (top 11) ["thing"]
 C_5:FE K mg "is_rule_within" (top 17) ["thing","levels"]
 C_2:FE K mg "is_rule" (top 15) ["thing"]
 C_j:FE K mg "need_rule" (top 16) ["rule"]
 C_b:FE K mg "is_of_rules" (top 28) ["word"]
 C_6:FE K mg "rule_written" (top 27) ["rule"]
 C_1:FE K mg "rule_text" (top 25) ["rule"]
 C_m:FE K mg "need_text" (top 20) ["thing"]
 C_k:FE K mg "pieces_between" (top 22) ["text","mark"]
 C_e:FE K mg "text_inside" (top 21) ["text","opening","closing"]
 C_g:FE K mg "number_in" (top 29) ["text"]
 C_f:FE K mg "single_rule_in" (top 31) ["pieces"]
 C_4:FE K mg "rule_in" (top 30) ["text","levels"]
 C_7:FE K mg "read_rule" (top 26) ["text"]
 C_0:FE K mg "law" (top 44) ["_law_script"]
 z:∀x,(["ValueError","all","bool","enumerate","int","isinstance","len","range","str","tuple"]:List Str).contains x=true->mg x=none
 c_DEEPEST_RULE:∃u,mg "DEEPEST_RULE"=some u/\∃t,u=Value.int 3 t
 c_FARTHEST_BOUND:∃u,mg "FARTHEST_BOUND"=some u/\∃t,u=Value.int 50 t
 c_LONGEST_NUMBER:∃u,mg "LONGEST_NUMBER"=some u/\∃t,u=Value.int 3 t
noncomputable abbrev xO:List Value:=[.type "ValueError",.type "Exception",.type "BaseException",.type "object"]
set_option genInjectivity false in
set_option genSizeOf false in
structure Tq (K:a6) (mg:Str->Option Value) (base:Heap) (cl:Nat->Value) where
 (q_Ended q_NoBack q_NoKind q_NoRule q_NoText q_NoWorth q_TooMany q_WorthError:Addr)
 X_k:XK1 K cl okX
 e_WorthError:∀c,okX c=true->PySem.W.exmOne K (cl c) (.ref q_WorthError)=some true
 l_NoRule:cl 2= .ref q_NoRule
 l_NoText:cl 5= .ref q_NoText
 m_Ended:mg "Ended"=some (.ref q_Ended)
 m_NoBack:mg "NoBack"=some (.ref q_NoBack)
 m_NoKind:mg "NoKind"=some (.ref q_NoKind)
 m_NoRule:mg "NoRule"=some (.ref q_NoRule)
 m_NoText:mg "NoText"=some (.ref q_NoText)
 m_NoWorth:mg "NoWorth"=some (.ref q_NoWorth)
 m_TooMany:mg "TooMany"=some (.ref q_TooMany)
 m_WorthError:mg "WorthError"=some (.ref q_WorthError)
 o_NoRule:OwnCls "NoRule" q_NoRule xO "ValueError.__new__" mg base
 o_NoText:OwnCls "NoText" q_NoText xO "ValueError.__new__" mg base
 t_Ended:∀c,okX c=true->aC K (cl c) (.ref q_Ended)=some (jX c)
 t_NoBack:∀c,okX c=true->aC K (cl c) (.ref q_NoBack)=some (jh c)
 t_NoKind:∀c,okX c=true->aC K (cl c) (.ref q_NoKind)=some (jd c)
 t_NoRule:∀c,okX c=true->aC K (cl c) (.ref q_NoRule)=some (je c)
 t_NoText:∀c,okX c=true->aC K (cl c) (.ref q_NoText)=some (jg c)
 t_NoWorth:∀c,okX c=true->aC K (cl c) (.ref q_NoWorth)=some (ZO c)
 t_TooMany:∀c,okX c=true->aC K (cl c) (.ref q_TooMany)=some (ZP c)
 t_ValueError:∀c,okX c=true->aC K (cl c) (.type "ValueError")=some (Zb c)
section
variable {Z:Zz}{Pt:Addr}(tx:Tx Z.K Z.mg)(xq:Tq Z.K Z.mg Z.base Z.cl)
include tx xq
set_option hygiene false
local macro_rules | `(tactic| gp_on)=> `(tactic| first
  | (show jl _ _ _ _;first
   | refine Yo ?_ ?_
   | exact yn)
  | (show Snd _ _ (.Constant ..) _;first
   | exact Xf
   | exact vL
   | exact KP
   | exact Xg)
  | (show Snd _ _ (.Name ..) _;first
   | exact Xe _ (pv _)
   | exact tx.c_FARTHEST_BOUND.elim λ_ h=>wW (by rfl) h.1 h.2
   | exact tx.c_DEEPEST_RULE.elim λ_ h=>wW (by rfl) h.1 h.2
   | exact tx.c_LONGEST_NUMBER.elim λ_ h=>wW (by rfl) h.1 h.2)
  | (show jo _ _ _ _;first
   | refine vY ?_ ?_
   | exact XI
   | refine XJ ?_)
  | (show ZV _ _ _ _;first
   | exact vK _ (pv _)
   | refine Snd.b ?_)
  | (show ZA _ _ _ _;first
   | refine XM ?_
   | refine XN ?_ ?_ ?_
   | refine XL nd (by rfl) (.inl (by rfl)) ?_
   | exact U8 (c:=_) xq.o_NoText bb (by decide) bb hE (by rw[hy];exact xq.l_NoText) (by rfl)
   | refine XQ (pv _) ?_
   | refine XO (pv _) ?_
   | refine vZ nd (by rfl) (.inl (by rfl)) ?_
   | refine V0 ?_
   | refine V8 eX (by rfl) ?_ ?_ ?_
   | refine s_frzS ?_
   | exact U8 (c:=_) xq.o_NoRule bb (by decide) bb hE (by rw[hy];exact xq.l_NoRule) (by rfl)
   | refine V8 PassesOwn.never (by rfl) ?_ ?_ ?_)
  | (show Snd _ _ (.Call ..) _;first
   | refine XB (by rfl) (tx.z _ (by kernel_rfl)) ?_
   | refine Vd ?_
   | refine Vp (by rfl) (tx.z _ (by kernel_rfl)) ?_
   | refine qS (by rfl) (tx.z _ (by kernel_rfl)) ?_
   | refine yv (n:="str") (qU _) (by rfl) (tx.z _ (by kernel_rfl)) (by rfl) (tx.z _ (by kernel_rfl)) PyProof.Rows.Boot.«str» ?_
   | exact ZI (by rw[hy];exact xq.X_k) (by rw[hy];exact xq.t_Ended) (by rfl) (tx.z _ (by kernel_rfl)) (pv _) (by rfl) xq.m_Ended
   | exact ZI (by rw[hy];exact xq.X_k) (by rw[hy];exact xq.t_NoBack) (by rfl) (tx.z _ (by kernel_rfl)) (pv _) (by rfl) xq.m_NoBack
   | exact ZI (by rw[hy];exact xq.X_k) (by rw[hy];exact xq.t_NoKind) (by rfl) (tx.z _ (by kernel_rfl)) (pv _) (by rfl) xq.m_NoKind
   | exact ZI (by rw[hy];exact xq.X_k) (by rw[hy];exact xq.t_NoRule) (by rfl) (tx.z _ (by kernel_rfl)) (pv _) (by rfl) xq.m_NoRule
   | exact ZI (by rw[hy];exact xq.X_k) (by rw[hy];exact xq.t_NoText) (by rfl) (tx.z _ (by kernel_rfl)) (pv _) (by rfl) xq.m_NoText
   | exact ZI (by rw[hy];exact xq.X_k) (by rw[hy];exact xq.t_NoWorth) (by rfl) (tx.z _ (by kernel_rfl)) (pv _) (by rfl) xq.m_NoWorth
   | exact ZI (by rw[hy];exact xq.X_k) (by rw[hy];exact xq.t_TooMany) (by rfl) (tx.z _ (by kernel_rfl)) (pv _) (by rfl) xq.m_TooMany
   | refine Q8 hr.units ?_ ?_
   | exact Q7 (n:="ValueError") (by rw[hy];exact xq.X_k) (by rw[hy];exact xq.t_ValueError) (by rfl) (tx.z _ (by kernel_rfl)) (pv _) (by rfl) (tx.z _ (by kernel_rfl)) PyProof.Rows.Boot.«ValueError»
   | refine Q9 hr.units ?_ ?_
   | refine yv (n:="int") (qT _) (by rfl) (tx.z _ (by kernel_rfl)) (by rfl) (tx.z _ (by kernel_rfl)) PyProof.Rows.Boot.«int» ?_
   | refine yv (n:="bool") (yu _) (by rfl) (tx.z _ (by kernel_rfl)) (by rfl) (tx.z _ (by kernel_rfl)) PyProof.Rows.Boot.«bool» ?_
   | refine XH hr.hd (by rfl) (tx.z _ (by kernel_rfl)) ?_
   | refine yv (n:="tuple") (uU _) (by rfl) (tx.z _ (by kernel_rfl)) (by rfl) (tx.z _ (by kernel_rfl)) PyProof.Rows.Boot.«tuple» ?_
   | refine Vl ?_ ?_ ?_
   | refine XV ?_ ?_
   | refine XW ?_ ?_
   | refine XY ?_ ?_
   | refine XZ ?_ ?_
   | refine cZ hy (by assumption) hr ?_
   | refine cX hy hp (by assumption) hr ?_)
  | (show Snd _ _ (.BinOp ..) _;first
   | refine Xj ?_ ?_
   | refine Xl ?_ ?_
   | refine Xk ?_ ?_
   | refine Xm ?_ ?_
   | refine vN ?_ ?_)
  | (show Jx _ _ _ _;first
   | refine WR qL (uQ hr.units) ?_ ?_ (jD _)
   | refine Xy ?_
   | refine WR vP (Yp hr.units) ?_ ?_ (jD _)
   | refine WR Xp vQ ?_ ?_ (jD _)
   | refine WR Xq vR ?_ ?_ (jD _)
   | refine WR Vg Qa ?_ ?_ (by rfl)
   | refine WR vS (vT hr.units) ?_ ?_ (by rfl)
   | refine qQ yr yr Wf Wf ?_ ?_ ?_
   | refine Xz ?_
   | refine uk.t ?_)
  | (show Snd _ _ (.Subscript ..) _;first
   | refine KT ?_ ?_
   | refine k7 ?_ ?_ ?_
   | refine qW ?_ ?_ ?_)
  | (show yw _ _ _ _;first
   | refine vX ?_
   | exact vW)
  | (show uk _ _ _ _;first
   | refine KR ?_ ?_
   | refine Xx ?_ ?_
   | refine Xw ?_
   | refine vU ?_)
  | (show Snd _ _ (.BoolOp ..) _;first
   | refine Xu ?_ ?_
   | refine KQ ?_ ?_
   | refine Xs ?_)
  | (show Snd _ _ (.List ..) _;first
   | refine Xi ?_)
  | (show wj _ _ _ _ _;first
   | refine Qd (by rfl) (tx.z _ (by kernel_rfl)) ?_
   | refine V5 (by rfl) (tx.z _ (by kernel_rfl)) ?_
   | refine XS ?_)
  | (show Snd _ _ (.Tuple ..) _;first
   | refine Xh ?_)
  | (show Snd _ _ (.Compare ..) _;first
   | refine Xo qL (uQ hr.units) ?_ ?_ (jD _)
   | refine qO yr yr Wf Wf ?_ ?_ ?_)
  | (show Snd _ _ (.ListComp ..) _;first
   | refine Vb (cr1 hy (by kernel_rfl) (by kernel_rfl) (by rfl) ?_ (λ_ hy _ _ _ _ _ _=> ?_) (λ_ hy _ _ _ _ _ _ _ hp=> ?_))
   | refine s_compX (hE ▸ We) (cr1 hy (by kernel_rfl) (by kernel_rfl) (by rfl) ?_ (λ_ hy _ _ _ _ _ _=> ?_) (λ_ hy _ _ _ _ _ _ _ hp=> ?_)))
  | (show jb _ _ _ _;first
   | exact Va)
  | (show Snd _ _ (.UnaryOp ..) _;first
   | refine Xn ?_
   | refine Xv ?_)
  | (show V6 _ _ _ _;first
   | exact V7 (by rfl) nd (by rfl) (by rfl) (.inl (by rfl)) (.inl (by rfl))
   | exact Yw nd (by rfl) (.inl (by rfl))
   | exact Yw nd (by rfl) (.inr (by rfl)))
  | (show Snd _ _ (.IfExp ..) _;first
   | refine KS ?_ ?_ ?_)
  )
local macro_rules | `(tactic| kd_all)=> `(tactic| (intro cdv A outer s H E Y hy hE hr nd hp;repeat' gp_on))
theorem kI {j:Nat}(hj:0<=j)(_:qP Z "_law_rule_text" 1 j c_8):qP Z "_law_rule_text" 1 (j+1) (oP 1 (b_8 c_8)):=by
 refine okP tx.C_8 ["_law_rule_here"] λ_=> ?_
 kd_all
theorem kJ:qP Z "_law_cell" 2 1 (oP 2 b_c):=by
 refine okP tx.C_c ["_law_script","_law_k"] λ_=> ?_
 kd_all
theorem kK (_:qP Z "_law_cell" 2 1 c_c):qP Z "_law_pick" 3 2 (oP 4 (b_9 c_c)):=by
 refine okP tx.C_9 ["_law_script","_law_k","_law_many","_law_drawn"] λ_=> ?_
 kd_all
theorem kL {j:Nat}(hj:2<=j)(_:qP Z "_law_pick" 3 2 c_9)(_:qP Z "_law_rule" 3 j c_3):qP Z "_law_rule" 3 (j+1) (oP 6 (b_3 c_9 c_3)):=by
 refine okP tx.C_3 ["_law_script","_law_at","_law_deep","_law_way","_law_one","_law_low"] λ_=> ?_
 kd_all
theorem kM:qP Z "_law_spoilt" 3 1 (oP 7 b_i):=by
 refine okP tx.C_i ["_law_text","_law_cell_here","_law_signs","_law_at","_law_sign","_law_on","_law_way"] λ_=> ?_
 kd_all
theorem xP:QCM "_law_class" 1 (oC 2 b_a) Z:=by
 refine KW tx.C_a ["_law_kept","_law_kinds"] λ_=> ?_
 kd_all
theorem kN:qP Z "is_whole" 1 1 (oP 1 b_l):=by
 refine okP tx.C_l ["thing"] λ_=> ?_
 kd_all
theorem kO (_:qP Z "is_whole" 1 1 c_l):qP Z "is_bound" 1 2 (oP 1 (b_d c_l)):=by
 refine okP tx.C_d ["thing"] λ_=> ?_
 kd_all
theorem kQ:qP Z "is_word" 1 1 (oP 1 b_h):=by
 refine okP tx.C_h ["thing"] λ_=> ?_
 kd_all
theorem kR {j:Nat}(hj:2<=j)(_:qP Z "is_word" 1 1 c_h)(_:qP Z "is_rule_within" 2 j c_5)(_:qP Z "is_bound" 1 2 c_d):qP Z "is_rule_within" 2 (j+1) (oP 2 (b_5 c_h c_5 c_d)):=by
 refine okP tx.C_5 ["thing","levels"] λ_=> ?_
 kd_all
theorem kS (_:qP Z "is_rule_within" 2 10 c_5):qP Z "is_rule" 1 11 (oP 1 (b_2 c_5)):=by
 refine okP tx.C_2 ["thing"] λ_=> ?_
 kd_all
theorem kT (_:qP Z "is_rule" 1 11 c_2):qX Z "need_rule" 1 12 (oP 1 (b_j c_2)):=by
 refine okR tx.C_j ["rule"] λ_=> ?_
 kd_all
theorem kU:qP Z "is_of_rules" 1 1 (oP 1 b_b):=by
 refine okP tx.C_b ["word"] λ_=> ?_
 kd_all
theorem kW {j:Nat}(hj:1<=j)(_:qP Z "rule_written" 1 j c_6)(_:qP Z "is_of_rules" 1 1 c_b):qP Z "rule_written" 1 (j+1) (oP 1 (b_6 c_6 c_b)):=by
 refine okP tx.C_6 ["rule"] λ_=> ?_
 kd_all
theorem kX (_:qX Z "need_rule" 1 12 c_j)(_:qP Z "rule_written" 1 9 c_6):qX Z "rule_text" 1 13 (oP 1 (b_1 c_j c_6)):=by
 refine okR tx.C_1 ["rule"] λ_=> ?_
 kd_all
theorem Ko:qX Z "need_text" 1 1 (oP 1 b_m):=by
 refine okR tx.C_m ["thing"] λ_=> ?_
 kd_all
theorem Kp:qP Z "pieces_between" 2 1 (oP 7 b_k):=by
 refine okP tx.C_k ["text","mark","pieces","begin","depth","place","sign"] λ_=> ?_
 kd_all
theorem Kq:qX Z "text_inside" 3 1 (oP 3 b_e):=by
 refine okR tx.C_e ["text","opening","closing"] λ_=> ?_
 kd_all
theorem Kr:qXC Z "number_in" 1 1 (oP 2 b_g):=by
 refine xF tx.C_g ["text","number"] λ_=> ?_;intro cdv A outer s H E Y hy hE hr nd hp;refine zr (ZA.c ?_) (zr (VB (i:=1) (j:=0) (c:=5) xq.o_NoText bb (by decide) bb hE (by rw[hy];exact xq.l_NoText) nd (by rfl) (.inl (by rfl)) (by rfl) (.inl (by rfl)) (by rfl) (tx.z _ (by kernel_rfl)) (by rfl) (tx.z _ (by kernel_rfl)) (by rfl)) (jo.c ?_))
 all_goals (repeat' gp_on)
theorem Ks (_:qXC Z "number_in" 1 1 c_g):qXC Z "single_rule_in" 1 2 (oP 1 (b_f c_g)):=by
 refine xF tx.C_f ["pieces"] λ_=> ?_;intro cdv A outer s H E Y hy hE hr nd hp;refine zr (Qo (Jx.c ?_) (Wu (Wv (YE (Snd.c ?_) (Wt (by rfl) (tx.z _ (by kernel_rfl)) (JK (hE ▸ We) (kh hy (by kernel_rfl) (by kernel_rfl) (by rfl) ?_ (λ_ hy _ _ _ _ _ _=> ?_) (λ_ hy _ _ _ _ _ _ _ hp=>cXC hy hp (by assumption) hr (jl.c ?_)))))))) (jo.c ?_)) (jo.c ?_)
 all_goals (repeat' gp_on)
theorem Kt {j:Nat}(hj:2<=j)(_:qX Z "text_inside" 3 1 c_e)(_:qP Z "pieces_between" 2 1 c_k)(_:qP Z "is_of_rules" 1 1 c_b)(_:qXC Z "rule_in" 2 j c_4)(_:qXC Z "single_rule_in" 1 2 c_f):qXC Z "rule_in" 2 (j+1) (oP 4 (b_4 c_e c_k c_b c_4 c_f)):=by
 refine xF tx.C_4 ["text","levels","halves","pieces"] λ_=> ?_;intro cdv A outer s H E Y hy hE hr nd hp;refine zr (ZA.c ?_) (zr (ZA.c ?_) (zr (Qo (Jx.c ?_) (zr (ZA.c ?_) (Wu (Wv (YE (Snd.c ?_) (Wt (by rfl) (tx.z _ (by kernel_rfl)) (JK (hE ▸ We) (kh hy (by kernel_rfl) (by kernel_rfl) (by rfl) ?_ (λ_ hy _ _ _ _ _ _=> ?_) (λ_ hy _ _ _ _ _ _ _ hp=>cXC hy hp (by assumption) hr (jl.c ?_))))))))) (jo.c ?_)) (Wu (Wv (cXC hy hp (by assumption) hr (jl.c ?_))))))
 all_goals (repeat' gp_on)
theorem Ku (_:qP Z "is_rule" 1 11 c_2)(_:qX Z "need_text" 1 1 c_m)(_:qXC Z "rule_in" 2 10 c_4):qXC Z "read_rule" 1 12 (oP 2 (b_7 c_2 c_m c_4)):=by
 refine xF tx.C_7 ["text","rule"] λ_=> ?_;intro cdv A outer s H E Y hy hE hr nd hp;refine zr (ZA.c ?_) (zr (Ur nd (by rfl) (.inl (by rfl)) (cXC hy hp (by assumption) hr (jl.c ?_))) (jo.c ?_))
 all_goals (repeat' gp_on)
theorem gy {f c:Addr}{fd:FuncData}(C:Fn Z.K Z.mg "law" (top 44) ["_law_script"] f fd)(ec:fd.code= .ref c)(hd:cf Z.K c Pt=true)(hBT:Z.base.BuiltinsAt Z.mg Pt)(_:qP Z "_law_cell" 2 1 c_c)(_:qP Z "_law_pick" 3 2 c_9)(_:qP Z "_law_rule" 3 10 c_3)(O1:QTC "_law_told" 13 okX c_a Z)(_:qP Z "_law_spoilt" 3 1 c_i)(_:qP Z "_law_rule_text" 1 8 c_8)(_:qX Z "rule_text" 1 13 c_1)(_:qXC Z "read_rule" 1 12 c_7)(U_rule_text:∀b,Z.K.In b->qX { Z with base:=b } "rule_text" 1 13 c_1)(U_read_rule:∀b,Z.K.In b->qXC { Z with base:=b } "read_rule" 1 12 c_7):Zm Z.P Z.w Z.K Z.mg Z.base (CX1 Z.P Z.w) 17 f fd ["_law_script"] (YC Z.cl 1 (oP 11 (b_0 c_c c_9 c_3 c_a c_i c_8 c_1 c_7)) Pt (qlT "law")):=by
 refine kg C ec hd hBT ["_law_script","_law_text","_law_some","_law_k","_law_cell_here","_law_at","_law_long","_law_one","_law_told_here","_law_good","_law_bad"] ?_;intro A outer s H E Y L hT hy hE hr nd hp;refine zr (ZA.c ?_) (zr (ZA.c ?_) (zr (ZA.c ?_) (zr (Uv (Vx eX (by rfl) ?_ ?_ (zr (Ur nd (by rfl) (.inl (by rfl)) (tdC hy O1 L hT (λ_=>rfl) hr (by omega) (by rfl) ["_law_one"] _ _ rfl rfl (by kernel_rfl) (by rfl) (by rfl) (λbase A outer s H E f c' clos Y' KB hy hE hr=>cXC hy (hE ▸ Qf) (QQ.c (U_rule_text _ KB)) hr (Uq (cXC hy (hE ▸ Qf) (U_read_rule _ KB) hr (jl.c ?_)) (jl.c yn))))) (jo.c ?_)) (by intro _;rfl))) ?r1)))
 case' r1=>refine zr (ZA.c ?_) (zr (ZA.c ?_) (zr (Uv (Qo (Vz vP (Yp hr.units) (ZD.b (JK (hE ▸ We) (kh hy (by kernel_rfl) (by kernel_rfl) (by rfl) ?_ (λ_ hy _ _ _ _ _ _=> ?_) (λ_ hy _ _ _ _ _ _ _ hp=>cXC hy hp (QQ.c (by assumption)) hr (Uq (cXC hy hp (by assumption) hr (jl.c ?_)) (jl.c yn)))))) (ZV.c ?_) (jD _)) (jo.c ?_) (jo.c ?_))) ?r2))
 case' r2=>refine zr (ZA.c ?_) (zr (ZA.c ?_) (zr (ZA.c ?_) (zr (ZA.c ?_) (zr (ZA.c ?_) (zr (ZA.c ?_) ?r3)))))
 case' r3=>refine Wu (Wv (Vy qL (uQ hr.units) (ZD.b (Y0 (g8 (by rfl) hy (by kernel_rfl) (by kernel_rfl) (by rfl) ?_ (λ_ hy hS _ _ _ _ _ _=> ?_) (λ_ hy hS _ _ _ _ _ _=>g7 hy O1 ⟨L.code,L.hd,L.bt,L.ql⟩ (hS _ _ hT) (by rfl) hr (by omega) (by rfl) ["_law_one"] _ _ rfl rfl (by kernel_rfl) (by rfl) (by rfl) (λbase A outer s H E f c' clos Y' KB hy hE hr=>cXC hy (hE ▸ Qf) (U_read_rule _ KB) hr (jl.c ?_)))))) (ZV.c ?_) (jD _)))
 all_goals (repeat' gp_on)
end
section
variable {Z:Zz}{Pt:Addr}(tx:Tx Z.K Z.mg)(xq:Tq Z.K Z.mg Z.base Z.cl)
include tx xq
theorem Jg:QCM "_law_class" 1 (f_a) Z:=by
 have O_a:QCM "_law_class" 1 f_a Z:=xP tx xq;exact O_a
theorem JX:qX Z "rule_text" 1 13 f_1:=by
 have R_8:∀n:Nat,qP Z "_law_rule_text" 1 (0+n) (S_8 n 0):=by
  intro n
  induction n with
  | zero=>exact okB tx.C_8
  | succ n ih=>exact kI tx xq (aO _ _) ih
 have O_8:qP Z "_law_rule_text" 1 8 (f_8 8):=(R_8 8);have O_c:qP Z "_law_cell" 2 1 f_c:=kJ tx xq;have O_9:qP Z "_law_pick" 3 2 f_9:=kK tx xq O_c;have R_3:∀n:Nat,qP Z "_law_rule" 3 (2+n) (S_3 n 0):=by
  intro n
  induction n with
  | zero=>exact okB tx.C_3
  | succ n ih=>exact kL tx xq (aO _ _) O_9 ih
 have O_3:qP Z "_law_rule" 3 10 (f_3 8):=(R_3 8);have O_i:qP Z "_law_spoilt" 3 1 f_i:=kM tx xq;have O_a:QCM "_law_class" 1 f_a Z:=xP tx xq;have O_l:qP Z "is_whole" 1 1 f_l:=kN tx xq;have O_d:qP Z "is_bound" 1 2 f_d:=kO tx xq O_l;have O_h:qP Z "is_word" 1 1 f_h:=kQ tx xq;have R_5:∀n:Nat,qP Z "is_rule_within" 2 (2+n) (S_5 n 0):=by
  intro n
  induction n with
  | zero=>exact okB tx.C_5
  | succ n ih=>exact kR tx xq (aO _ _) O_h ih O_d
 have O_5:qP Z "is_rule_within" 2 10 (f_5 8):=(R_5 8);have O_2:qP Z "is_rule" 1 11 f_2:=kS tx xq O_5;have O_j:qX Z "need_rule" 1 12 f_j:=kT tx xq O_2;have O_b:qP Z "is_of_rules" 1 1 f_b:=kU tx xq;have R_6:∀n:Nat,qP Z "rule_written" 1 (1+n) (S_6 n 0):=by
  intro n
  induction n with
  | zero=>exact okB tx.C_6
  | succ n ih=>exact kW tx xq (aO _ _) ih O_b
 have O_6:qP Z "rule_written" 1 9 (f_6 8):=(R_6 8);have O_1:qX Z "rule_text" 1 13 f_1:=kX tx xq O_j O_6;exact O_1
theorem JY:qXC Z "read_rule" 1 12 f_7:=by
 have R_8:∀n:Nat,qP Z "_law_rule_text" 1 (0+n) (S_8 n 0):=by
  intro n
  induction n with
  | zero=>exact okB tx.C_8
  | succ n ih=>exact kI tx xq (aO _ _) ih
 have O_8:qP Z "_law_rule_text" 1 8 (f_8 8):=(R_8 8);have O_c:qP Z "_law_cell" 2 1 f_c:=kJ tx xq;have O_9:qP Z "_law_pick" 3 2 f_9:=kK tx xq O_c;have R_3:∀n:Nat,qP Z "_law_rule" 3 (2+n) (S_3 n 0):=by
  intro n
  induction n with
  | zero=>exact okB tx.C_3
  | succ n ih=>exact kL tx xq (aO _ _) O_9 ih
 have O_3:qP Z "_law_rule" 3 10 (f_3 8):=(R_3 8);have O_i:qP Z "_law_spoilt" 3 1 f_i:=kM tx xq;have O_a:QCM "_law_class" 1 f_a Z:=xP tx xq;have O_l:qP Z "is_whole" 1 1 f_l:=kN tx xq;have O_d:qP Z "is_bound" 1 2 f_d:=kO tx xq O_l;have O_h:qP Z "is_word" 1 1 f_h:=kQ tx xq;have R_5:∀n:Nat,qP Z "is_rule_within" 2 (2+n) (S_5 n 0):=by
  intro n
  induction n with
  | zero=>exact okB tx.C_5
  | succ n ih=>exact kR tx xq (aO _ _) O_h ih O_d
 have O_5:qP Z "is_rule_within" 2 10 (f_5 8):=(R_5 8);have O_2:qP Z "is_rule" 1 11 f_2:=kS tx xq O_5;have O_j:qX Z "need_rule" 1 12 f_j:=kT tx xq O_2;have O_b:qP Z "is_of_rules" 1 1 f_b:=kU tx xq;have R_6:∀n:Nat,qP Z "rule_written" 1 (1+n) (S_6 n 0):=by
  intro n
  induction n with
  | zero=>exact okB tx.C_6
  | succ n ih=>exact kW tx xq (aO _ _) ih O_b
 have O_6:qP Z "rule_written" 1 9 (f_6 8):=(R_6 8);have O_1:qX Z "rule_text" 1 13 f_1:=kX tx xq O_j O_6;have O_m:qX Z "need_text" 1 1 f_m:=Ko tx xq;have O_k:qP Z "pieces_between" 2 1 f_k:=Kp tx xq;have O_e:qX Z "text_inside" 3 1 f_e:=Kq tx xq;have O_g:qXC Z "number_in" 1 1 f_g:=Kr tx xq;have O_f:qXC Z "single_rule_in" 1 2 f_f:=Ks tx xq O_g;have R_4:∀n:Nat,qXC Z "rule_in" 2 (2+n) (S_4 n 0):=by
  intro n
  induction n with
  | zero=>exact Kf tx.C_4
  | succ n ih=>exact Kt tx xq (aO _ _) O_e O_k O_b ih O_f
 have O_4:qXC Z "rule_in" 2 10 (f_4 8):=(R_4 8);have O_7:qXC Z "read_rule" 1 12 f_7:=Ku tx xq O_2 O_m O_4;exact O_7
theorem xv (xqb:∀b,Z.K.In b->Tq Z.K Z.mg b Z.cl){f c:Addr}{fd:FuncData}(C:Fn Z.K Z.mg "law" (top 44) ["_law_script"] f fd)(ec:fd.code= .ref c)(hd:cf Z.K c Pt=true)(hBT:Z.base.BuiltinsAt Z.mg Pt):Zm Z.P Z.w Z.K Z.mg Z.base (CX1 Z.P Z.w) 17 f fd ["_law_script"] (YC Z.cl 1 f_0 Pt (qlT "law")):=by
 have U__law_class:∀b,Z.K.In b->QCM "_law_class" 1 (f_a) { Z with base:=b }:=λb hb=>Jg (Z:={ Z with base:=b }) tx (xqb b hb);have U_rule_text:∀b,Z.K.In b->qX { Z with base:=b } "rule_text" 1 13 f_1:=λb hb=>JX (Z:={ Z with base:=b }) tx (xqb b hb);have U_read_rule:∀b,Z.K.In b->qXC { Z with base:=b } "read_rule" 1 12 f_7:=λb hb=>JY (Z:={ Z with base:=b }) tx (xqb b hb);have R_8:∀n:Nat,qP Z "_law_rule_text" 1 (0+n) (S_8 n 0):=by
  intro n
  induction n with
  | zero=>exact okB tx.C_8
  | succ n ih=>exact kI tx xq (aO _ _) ih
 have O_8:qP Z "_law_rule_text" 1 8 (f_8 8):=(R_8 8);have O_c:qP Z "_law_cell" 2 1 f_c:=kJ tx xq;have O_9:qP Z "_law_pick" 3 2 f_9:=kK tx xq O_c;have R_3:∀n:Nat,qP Z "_law_rule" 3 (2+n) (S_3 n 0):=by
  intro n
  induction n with
  | zero=>exact okB tx.C_3
  | succ n ih=>exact kL tx xq (aO _ _) O_9 ih
 have O_3:qP Z "_law_rule" 3 10 (f_3 8):=(R_3 8);have O_i:qP Z "_law_spoilt" 3 1 f_i:=kM tx xq;have O_a:QCM "_law_class" 1 f_a Z:=xP tx xq;have O__law_told:QTC "_law_told" 13 okX f_a Z:=kf (N:=["_law_deed","e"]) (i:=1) tx.C__law_told xq.m_WorthError xq.e_WorthError U__law_class (by refine⟨rfl,rfl,rfl, ?_,rfl, ?_, ?_⟩ <;> decide+kernel) rfl rfl rfl rfl rfl (by decide) rfl rfl
 have O_l:qP Z "is_whole" 1 1 f_l:=kN tx xq;have O_d:qP Z "is_bound" 1 2 f_d:=kO tx xq O_l;have O_h:qP Z "is_word" 1 1 f_h:=kQ tx xq;have R_5:∀n:Nat,qP Z "is_rule_within" 2 (2+n) (S_5 n 0):=by
  intro n
  induction n with
  | zero=>exact okB tx.C_5
  | succ n ih=>exact kR tx xq (aO _ _) O_h ih O_d
 have O_5:qP Z "is_rule_within" 2 10 (f_5 8):=(R_5 8);have O_2:qP Z "is_rule" 1 11 f_2:=kS tx xq O_5;have O_j:qX Z "need_rule" 1 12 f_j:=kT tx xq O_2;have O_b:qP Z "is_of_rules" 1 1 f_b:=kU tx xq;have R_6:∀n:Nat,qP Z "rule_written" 1 (1+n) (S_6 n 0):=by
  intro n
  induction n with
  | zero=>exact okB tx.C_6
  | succ n ih=>exact kW tx xq (aO _ _) ih O_b
 have O_6:qP Z "rule_written" 1 9 (f_6 8):=(R_6 8);have O_1:qX Z "rule_text" 1 13 f_1:=kX tx xq O_j O_6;have O_m:qX Z "need_text" 1 1 f_m:=Ko tx xq;have O_k:qP Z "pieces_between" 2 1 f_k:=Kp tx xq;have O_e:qX Z "text_inside" 3 1 f_e:=Kq tx xq;have O_g:qXC Z "number_in" 1 1 f_g:=Kr tx xq;have O_f:qXC Z "single_rule_in" 1 2 f_f:=Ks tx xq O_g;have R_4:∀n:Nat,qXC Z "rule_in" 2 (2+n) (S_4 n 0):=by
  intro n
  induction n with
  | zero=>exact Kf tx.C_4
  | succ n ih=>exact Kt tx xq (aO _ _) O_e O_k O_b ih O_f
 have O_4:qXC Z "rule_in" 2 10 (f_4 8):=(R_4 8);have O_7:qXC Z "read_rule" 1 12 f_7:=Ku tx xq O_2 O_m O_4;exact gy tx xq C ec hd hBT O_c O_9 O_3 O__law_told O_i O_8 O_1 O_7 U_rule_text U_read_rule
end
noncomputable def YZ:List Str:=["NoKind","NoWorth","NoRule","TooMany","Ended","NoText","NoBack"]
noncomputable def clK (K:a6)(c:Nat):Value:=match bw K mainGlobals (YZ.getD c "") with
 | some (some v)=>v
 | _=> .none
theorem qa {K:a6}{c:Nat}{x:Str}{q:Addr}(hx:(YZ.getD c "")=x)(h:bw K mainGlobals x=some (some (.ref q))):clK K c= .ref q:=by unfold clK;rw[hx,h]
noncomputable def kY:List Nat:=[0,1,2,3,4,5,6]
def y6 (p:Nat->Bool):Bool:=kY.all p
theorem xw {c:Nat}(h:okX c=true):c∈kY:=by
 unfold okX at h;unfold kY;simpa using h
theorem Ze {p:Nat->Bool}(h:y6 p=true){c:Nat}(hc:okX c=true):p c=true:=aY.mp h c (xw hc)
noncomputable def QP (K:a6)(v:Value):Bool:=match v with
 | .ref C=>cD K (.ref C) "__getattribute__" == some (some (.builtin "BaseException.__getattribute__")) && (cD K (.ref C) "__getattr__" == some none && (cD K (.ref C) "__class__" == some (some (.builtin "object.__class__")) && (eJ K (.builtin "object.__class__") "__get__" == some (some (.builtin "getset_descriptor.__get__")) && (fg K (.builtin "object.__class__") == some true && (dZ K C (.type "object") == some true && (dZ K C (.type "BaseException") == some true && (PySem.W.clsIn K C).isSome))))))
 | _=>false
theorem Yi {K:a6}{v:Value}(h:QP K v=true):∃C,v= .ref C/\PySem.W.XCls K C:=by
 unfold QP at h;split at h
 ·rename_i C;simp only[ah,beq_iff_eq]at h;obtain⟨h1,h2,h3,h4,h5,h6,h7,h8⟩:=h;exact⟨C,rfl,h1,h2,h3,h4,h5,h6,h7,h8⟩
 ·cases h
theorem qb {K:a6}{base:Heap}{mg:Str->Option Value}{x:Str}{C:Addr}{bmB:List Value}{newId:String}(KB:K.In base)(hb:mg x=some (.ref C))(h:dq K C bmB newId=true):OwnCls x C bmB newId mg base:=by
 unfold dq at h;split at h
 ·rename_i dd cd sl hC;split at h
  ·rename_i C1 bm a0 a1 a2 a3 m a5 hm hs;simp only[ah,beq_iff_eq,Bool.not_eq_true']at h;obtain⟨⟨⟨⟨⟨h1,h2⟩,h3⟩,h4⟩,h5⟩,h6⟩:=h;subst h1 h2;cases cd with
   | mk nm bs mro ns qn hd sn sub ab col del=>
    dsimp only at hm h3 h5 h6;subst hm h3;obtain rfl:sl= #[a0,a1,a2,a3,some (.builtin m),a5]:=by
     cases sl;simp only at hs;rw[hs]
    exact⟨hb,bm,ns,nm,qn,bs,hd,sn,sub,ab,col,dd,a0,a1,a2,a3,a5,_,KB _ _ hC,.of_isNs (PySem.W.isNs_of_in KB h5),PySem.W.nsMap_none_of_in KB h5 h6,PySem.W.tail_of_in KB h4⟩
  ·cases h
 ·cases h
theorem lz {us:List Value}{n:Nat}(h:us.length=n+1):∃a t,us=a :: t/\t.length=n:=by
 cases us with
 | nil=>cases h
 | cons a t=>exact⟨a,t,rfl,Nat.succ.inj h⟩
theorem lz1 {fd:FuncData}{p0:Str}(us:List Value)(hl:us.length=1)(h:∀a0,bindArgs fd ⟨[a0],[]⟩=pure ([p0].zip [a0])):bindArgs fd ⟨us,[]⟩=pure ([p0].zip us):=by
 obtain⟨a0,_,rfl,e0⟩:=lz hl;obtain rfl:=bp.mp e0;exact h a0
theorem lz2 {fd:FuncData}{p0 p1:Str}(us:List Value)(hl:us.length=2)(h:∀a0 a1,bindArgs fd ⟨[a0,a1],[]⟩=pure ([p0,p1].zip [a0,a1])):bindArgs fd ⟨us,[]⟩=pure ([p0,p1].zip us):=by
 obtain⟨a0,_,rfl,e0⟩:=lz hl;obtain⟨a1,_,rfl,e1⟩:=lz e0;obtain rfl:=bp.mp e1;exact h a0 a1
theorem lz3 {fd:FuncData}{p0 p1 p2:Str}(us:List Value)(hl:us.length=3)(h:∀a0 a1 a2,bindArgs fd ⟨[a0,a1,a2],[]⟩=pure ([p0,p1,p2].zip [a0,a1,a2])):bindArgs fd ⟨us,[]⟩=pure ([p0,p1,p2].zip us):=by
 obtain⟨a0,_,rfl,e0⟩:=lz hl;obtain⟨a1,_,rfl,e1⟩:=lz e0;obtain⟨a2,_,rfl,e2⟩:=lz e1;obtain rfl:=bp.mp e2;exact h a0 a1 a2
theorem fn1 {K:a6}{h:Heap}{mg:Str->Option Value}{f:Addr}{od an:Option Addr}{sl:Array (Option Value)}{oc kV dc pm cd ct:Value}{x:Str}{st:Stmt}{ps:List Str}(X:K.In h)(G:h.Ns mainGlobals mg)(e:bw K mainGlobals x=some (some (.ref f)))(l:K.lookup f=some ⟨oc,od,.func (bu x x (Zu st) (zq st) (z6 st) .none kV dc pm an cd ct),sl⟩)(g:cG K cd x=true)(k:bB K (.ref f)=true)
  (hb:∀F:Fun K x x st f (bu x x (Zu st) (zq st) (z6 st) .none kV dc pm an cd ct),L2.Binds K (bu x x (Zu st) (zq st) (z6 st) .none kV dc pm an cd ct) ps []):Fn K mg x st ps f (bu x x (Zu st) (zq st) (z6 st) .none kV dc pm an cd ct):=
 have F:=vI (st:=st) l g k
 ⟨F,hb F,bj X G e⟩
theorem zs_of {K:a6}{h:Heap}{mg:Str->Option Value}{zs:List Str}(X:K.In h)(G:h.Ns mainGlobals mg)(hz:(zs.all λx=>bw K mainGlobals x == some none)=true):∀x,zs.contains x=true->mg x=none:=λx hx=>PySem.W.mg_none_of X G (beq_iff_eq.mp (aY.mp hz x (List.contains_iff_mem.mp hx)))
noncomputable abbrev Tx' {K:a6}{h:Heap}(_:K.In h)(mg:Str->Option Value):Prop:=Tx K mg
def y7 (K:a6):Bool:=K.all λp=> !(p.2.cls == Value.type "list")
theorem QR {K:a6}(h:y7 K=true){a:Addr}{o:Obj}(e:K.lookup a=some o)(c:o.cls=Value.type "list"):False:=by
 have hm:(a,o)∈K:=by
  clear h
  induction K with
  | nil=>cases e
  | cons p r ih=>
   obtain⟨b,u⟩:=p
   by_cases hb:a=b
   ·subst hb;have e' :some u=some o:=by simpa[ai] using e
    cases e';exact ac
   ·have e' :r.lookup a=some o:=by rw[ai,(beq_eq_false_iff_ne.mpr hb)]at e;exact e
    exact a8 _ (ih e')
 have:=aY.mp h _ hm;rw[c]at this;simp at this
noncomputable def gA (o:Obj):Option Addr:=match o.data with
 | .fields vs=>(match (vs[11]? :Option Value) with | some (.ref P)=>some P | _=>none)
 | _=>none
structure kZ (K:a6) (c P:Addr) (o:Obj):Prop where
 t:K.lookup c=some o
 u:gA o=some P
 h:cf K c P=true
 n:K.lookup P=none
abbrev TP {K:a6}{h:Heap}(_:K.In h)(mg:Str->Option Value):Prop:=∃f fd c Pt o,Fn K mg "law" (top 44) ["_law_script"] f fd/\fd.code= .ref c/\kZ K c Pt o/\h.get? Pt=some (cL #[])
theorem fin_ {l:PySem.W.OpenLaw}{w:World}{K:a6}{h:Heap}{mg:Str->Option Value}{fa:Addr}(X:K.In h)(G:h.Ns mainGlobals mg)(hfa:mg "law"=some (.ref fa))(tx:Tx K mg)(tp:TP X mg){q_Ended q_NoBack q_NoKind q_NoRule q_NoText q_NoWorth q_TooMany q_WorthError:Addr}(n_Ended:bw K mainGlobals "Ended"=some (some (.ref q_Ended)))(n_NoBack:bw K mainGlobals "NoBack"=some (some (.ref q_NoBack)))(n_NoKind:bw K mainGlobals "NoKind"=some (some (.ref q_NoKind)))(n_NoRule:bw K mainGlobals "NoRule"=some (some (.ref q_NoRule)))(n_NoText:bw K mainGlobals "NoText"=some (some (.ref q_NoText)))(n_NoWorth:bw K mainGlobals "NoWorth"=some (some (.ref q_NoWorth)))(n_TooMany:bw K mainGlobals "TooMany"=some (some (.ref q_TooMany)))(n_WorthError:bw K mainGlobals "WorthError"=some (some (.ref q_WorthError)))(b_K:y6 (λc=>QP K (clK K c))=true)(b_e_WorthError:y6 (λc=>PySem.W.exmOne K (clK K c) (.ref q_WorthError) == some true)=true)(b_o_NoRule:dq K q_NoRule xO "ValueError.__new__"=true)(b_o_NoText:dq K q_NoText xO "ValueError.__new__"=true)(b_t_Ended:y6 (λc=>aC K (clK K c) (.ref q_Ended) == some (jX c))=true)(b_t_NoBack:y6 (λc=>aC K (clK K c) (.ref q_NoBack) == some (jh c))=true)(b_t_NoKind:y6 (λc=>aC K (clK K c) (.ref q_NoKind) == some (jd c))=true)(b_t_NoRule:y6 (λc=>aC K (clK K c) (.ref q_NoRule) == some (je c))=true)(b_t_NoText:y6 (λc=>aC K (clK K c) (.ref q_NoText) == some (jg c))=true)(b_t_NoWorth:y6 (λc=>aC K (clK K c) (.ref q_NoWorth) == some (ZO c))=true)(b_t_TooMany:y6 (λc=>aC K (clK K c) (.ref q_TooMany) == some (ZP c))=true)(b_t_ValueError:y6 (λc=>aC K (clK K c) (.type "ValueError") == some (Zb c))=true):∃(fd:FuncData) (c Pt:Addr),(∀(s:Shared) (v:Value),BindsTo s fd ⟨[v],[]⟩ [("_law_script",v)])/\h.get? Pt=some (cL #[])/\K.lookup Pt=none/\cf K c Pt=true/\∀base:Heap,K.In base->base.BuiltinsAt mg Pt->Zm l.prog w K mg base (CX1 l.prog w) 17 fa fd ["_law_script"] (YC (clK K) 1 f_0 Pt (qlT "law")):=by
 obtain⟨f,fd,c,Pt,o,C,ec,tk,hm⟩:=tp;have e:=hfa.symm.trans C.m;cases e;obtain⟨oc,od,kV,doc,pm,an,cdv,ct,osl,rfl,lk,hcd⟩:=C.F.ex;have xqb:∀b,K.In b->Tq K mg b (clK K):=λbase KB=>⟨q_Ended,q_NoBack,q_NoKind,q_NoRule,q_NoText,q_NoWorth,q_TooMany,q_WorthError,⟨λc hc=>Yi (Ze b_K hc)⟩,(λc hc=>beq_iff_eq.mp (Ze b_e_WorthError hc)),(qa (x:="NoRule") rfl n_NoRule),(qa (x:="NoText") rfl n_NoText),(bj X G n_Ended),(bj X G n_NoBack),(bj X G n_NoKind),(bj X G n_NoRule),(bj X G n_NoText),(bj X G n_NoWorth),(bj X G n_TooMany),(bj X G n_WorthError),(qb KB (bj X G n_NoRule) b_o_NoRule),(qb KB (bj X G n_NoText) b_o_NoText),(λc hc=>beq_iff_eq.mp (Ze b_t_Ended hc)),(λc hc=>beq_iff_eq.mp (Ze b_t_NoBack hc)),(λc hc=>beq_iff_eq.mp (Ze b_t_NoKind hc)),(λc hc=>beq_iff_eq.mp (Ze b_t_NoRule hc)),(λc hc=>beq_iff_eq.mp (Ze b_t_NoText hc)),(λc hc=>beq_iff_eq.mp (Ze b_t_NoWorth hc)),(λc hc=>beq_iff_eq.mp (Ze b_t_TooMany hc)),(λc hc=>beq_iff_eq.mp (Ze b_t_ValueError hc))⟩;exact⟨_,c,Pt,λs v=> .of_eq rfl,hm,tk.n,tk.h,λbase KB hBT=>xv (Z:=⟨l.prog,w,K,mg,base,(clK K)⟩) tx (xqb base KB) xqb C ec tk.h hBT⟩
theorem xy {cl:Nat->Value}{H:Hp}{a Pt:Addr}{o:Obj}{q:Str}{ns:List Int}(hL:f_0 [.fz (ns.map T.int)]= .ok (.bl true))(h:H a=some (.frz o (.lst (ns.map V.int))))(h2:H Pt=some (.tbl #[] q)):YC cl 1 f_0 Pt q [.ref a] H (λv _=>v= .bl true) λ_ _ _=>False:=by
 have scrR:∀ns:List Int,zt H (ns.map V.int) (ns.map T.int):=λns=>by
  induction ns with
  | nil=>exact .nil
  | cons n r ih=>exact .cons (.int n) ih
 refine⟨h2,H,[.fz (ns.map T.int)],rfl,zc.refl H,.cons (.fz h (scrR ns)) .nil, ?_⟩;rw[hL];intro v H' _ r;cases r;rfl
theorem walk {l:PySem.W.OpenLaw}{q:Program}{loose:List Str}{XP:(Str->Option Value)->Heap->Prop}{YP:World->Heap->Prop}{d:DefRec}{K:Params->a6}{ts:List Addr}(hn:l.most=some 63)(hdf:d.params.defaults=[])
  (hL:∀ns:List Int,ns.length<=63->f_0 [.fz (ns.map T.int)]= .ok (.bl true)) (hK:∀p,y7 (K p)=true)
  (hY:∀(w:World) (h:Heap),YP w h->(K w.params).In h/\∀P∈ts,h.get? P=some (cL #[]))
  (F:∀(w:World) (mg:Str->Option Value) (fa:Addr) (h:Heap),(K w.params).In h->h.Ns mainGlobals mg->mg d.name=some (.ref fa)->(∀P∈ts,h.get? P=some (cL #[]))->
   ∃(fd:FuncData) (c Pt:Addr),(∀(s:Shared) (u:Value),BindsTo s fd ⟨[u],[]⟩ [("_law_script",u)])/\h.get? Pt=some (cL #[])/\(K w.params).lookup Pt=none/\cf (K w.params) c Pt=true/\∀base:Heap,(K w.params).In base->base.BuiltinsAt mg Pt->Zm l.prog w (K w.params) mg base (CX1 l.prog w) 17 fa fd ["_law_script"] (YC (clK (K w.params)) 1 f_0 Pt (qlT "law"))):
  PySem.W.WalkC q loose XP YP l.row.toRowW d []:=
 L2.walk_ofTC (n:=63) (k:=17) (x:="_law_script") (nm:=(qlT "law")) (CX:=λw=>(CX1 l.prog w)) (sp:=λw Pt=>YC (clK (K w.params)) 1 f_0 Pt (qlT "law")) hn (by decide) hdf ⟨rfl,by decide,by decide,rfl⟩ hY (λw a o e c=>QR (hK w.params) e c) F (λw H a Pt o ns hl h1 h2=>xy (hL ns hl) h1 h2) λ_ _ _ _ _ ⟨_,_,_,_,_,_,_,z⟩=>z
end G
namespace PySem.W.Fast
noncomputable def tw12972109066672483638:=0
noncomputable def tw8401597134113437433:=0
noncomputable def tw6399953809718386100:=0
noncomputable def tw9119500638774418137:=0
noncomputable def tw8293301946762459891:=0
noncomputable def tw2480559757446952798:=0
noncomputable def tw17553822475396900315:=0
noncomputable def tw10146741597866760907:=0
noncomputable def tw41215323860227269:=0
noncomputable def tw12095355642611682470:=0
noncomputable def tw154057390331577877:=0
noncomputable def tw11611036714111007535:=0
noncomputable def tw15651459080675552991:=0
noncomputable def tw16148517677106280016:=0
noncomputable def tw18419981923121229597:=0
noncomputable def tw7911317280385384298:=0
noncomputable def tw18434694129110355560:=0
noncomputable def tw6870139170439178663:=0
noncomputable def tw1874377653760105456:=0
noncomputable def tw11691306240737658321:=0
noncomputable def tw7879261671288254034:=0
noncomputable def tw8771816129862628531:=0
noncomputable def tw12485069834441508665:=0
noncomputable def tw1804796141186520932:=0
noncomputable def tw5452922524180053731:=0
noncomputable def tw15278110411811568906:=0
noncomputable def tw4889152992810227647:=0
noncomputable def tw3574295403237632317:=0
noncomputable def tw96731223010763216:=0
noncomputable def tw14869359949882643227:=0
noncomputable def tw13816451658066919750:=0
noncomputable def tw1282583579565515964:=0
noncomputable def tw2110472098079141889:=0
noncomputable def tw17758433653317006215:=0
noncomputable def tw14074852274335692939:=0
noncomputable def tw1889684742485590798:=0
noncomputable def tw6686829897779132479:=0
noncomputable def tw15010282228064937519:=0
noncomputable def tw3282145771873838925:=0
noncomputable def tw16930275840147328413:=0
noncomputable def tw11663078066466308713:=0
noncomputable def tw18394355751771466154:=0
noncomputable def tw4612660399297933253:=0
noncomputable def tw5711468340732246992:=0
noncomputable def tw17603857970716354247:=0
noncomputable def tw10282647959580321380:=0
noncomputable def tw9161089338949414291:=0
noncomputable def tw9081310138029663275:=0
noncomputable def tw15296857080670632539:=0
noncomputable def tw2630106243507703740:=0
noncomputable def tw17153563904060301234:=0
noncomputable def tw16896290066516861317:=0
noncomputable def tw8348228553316059878:=0
noncomputable def tw16079276072818873126:=0
noncomputable def tw3361145966247082410:=0
noncomputable def tw3703769266828462060:=0
noncomputable def tw15983964090034419852:=0
noncomputable def tw392471585255838179:=0
noncomputable def tw7043287915494556093:=0
noncomputable def tw841789852889765814:=0
noncomputable def tw3646953422445395498:=0
noncomputable def tw5633292757532458453:=0
noncomputable def tw6884204078488474015:=0
noncomputable def tw15487305627313533134:=0
noncomputable def tw5748015159209084644:=0
noncomputable def tw7645729999644724389:=0
noncomputable def tw3610369983725089986:=0
noncomputable def tw10958010774704796898:=0
noncomputable def tw8548471722264843472:=0
noncomputable def tw11630898265872047913:=0
noncomputable def tw12360542844557433708:=0
noncomputable def tw15913200496789345994:=0
noncomputable def tw18409919862540164630:=0
noncomputable def tw12895416452921208138:=0
noncomputable def tw2171573958429961210:=0
noncomputable def tw8678235653755569659:=0
noncomputable def tw17580037334384983193:=0
noncomputable def tw18137092398079263122:=0
noncomputable def tw14139925585067619504:=0
noncomputable def tw6628949144983211983:=0
noncomputable def tw8442393356843548608:=0
noncomputable def tw12507259506874906116:=0
noncomputable def tw4071861241987537534:=0
noncomputable def tw4096183556258732153:=0
noncomputable def tw3792820011297713679:=0
noncomputable def tw8169618849966697487:=0
noncomputable def tw12000263854973931252:=0
noncomputable def tw12111046671874836812:=0
noncomputable def tw14977797665976702468:=0
noncomputable def tw7288282935826027712:=0
noncomputable def tw2397887162035290575:=0
noncomputable def tw2507823490033529897:=0
noncomputable def tw2474821719688330692:=0
noncomputable def tw2800460233417091981:=0
noncomputable def tw6306762108889711028:=0
noncomputable def tw14659850524782777501:=0
noncomputable def tw311229609978403996:=0
noncomputable def tw537040410206741493:=0
noncomputable def tw11258032863680573254:=0
noncomputable def tw14700959136857159628:=0
noncomputable def tw12025893943945454311:=0
noncomputable def tw14632214473767186657:=0
noncomputable def tw10876266546903713801:=0
noncomputable def tw8013967027855304042:=0
noncomputable def tw4680308763177465125:=0
noncomputable def tw3660859721220766191:=0
noncomputable def tw4524229908671716664:=0
noncomputable def tw3221586661977736212:=0
noncomputable def tw14968413369873718729:=0
noncomputable def tw15848128966015197098:=0
noncomputable def tw8601211708574687272:=0
noncomputable def tw11504531008551972414:=0
noncomputable def tw8819863577433062236:=0
noncomputable def tw4658440935947401613:=0
noncomputable def tw13776687525235344950:=0
noncomputable def tw1146129853447091405:=0
noncomputable def tw7344410495478107332:=0
noncomputable def tw11318720504084911433:=0
noncomputable def tw15526881854495694195:=0
noncomputable def tw2471672392248675498:=0
noncomputable def tw17712300169575214865:=0
noncomputable def tw14478132786499315630:=0
noncomputable def tw11482268299014282713:=0
noncomputable def tw1682841634405095366:=0
noncomputable def tw14849484314477761909:=0
noncomputable def tw8637396838673567178:=0
noncomputable def tw2557403721469117805:=0
noncomputable def tw11295261800216085427:=0
noncomputable def tw2595311498596258384:=0
noncomputable def tw7981539864077937626:=0
noncomputable def tw9008534273418268688:=0
noncomputable def tw18018637204721987494:=0
noncomputable def tw10571489529214689814:=0
noncomputable def tw8252691458918289414:=0
noncomputable def tw2282031846152311509:=0
noncomputable def tw7951760759696163939:=0
noncomputable def tw9104340609681054684:=0
noncomputable def tw8237746506192102609:=0
noncomputable def tw15734325544635101271:=0
noncomputable def tw12792370492218431601:=0
noncomputable def tw15844187734043738281:=0
noncomputable def tw13051623794857570558:=0
noncomputable def tw9385635670788916420:=0
noncomputable def tw16446051284707149520:=0
noncomputable def tw11277897529334629724:=0
noncomputable def tw13880748696880070701:=0
noncomputable def tw1117749142984900133:=0
noncomputable def tw7932719670323577762:=0
noncomputable def tw7267969017887342789:=0
noncomputable def tw11569228594011500355:=0
noncomputable def tw15208971491912839856:=0
noncomputable def tw2274512989746078419:=0
noncomputable def tw16964680610353840254:=0
noncomputable def tw14971614775900552198:=0
noncomputable def tw4656817518558453058:=0
noncomputable def tw5680101233502916451:=0
noncomputable def tw6594984991062510743:=0
noncomputable def tw6073900266103946323:=0
noncomputable def tw5288921135859422960:=0
noncomputable def tw6742398979821922765:=0
noncomputable def tw4256907776755975311:=0
noncomputable def tw17284977911637062574:=0
noncomputable def tw1017311510019348537:=0
noncomputable def tw13314867445681931525:=0
noncomputable def tw15833500291370528279:=0
noncomputable def tw6218528343811424680:=0
noncomputable def tw15154990583656663292:=0
noncomputable def tw18195305590355424285:=0
noncomputable def tw15550292457780390454:=0
noncomputable def tw5124288137290208004:=0
noncomputable def tw12646268315246822268:=0
noncomputable def tw14121508871725733194:=0
noncomputable def tw11486801051456972578:=0
noncomputable def tw6066495911919518499:=0
noncomputable def tw12447458664825039241:=0
noncomputable def tw2836541110781360055:=0
noncomputable def tw11633654882703698179:=0
noncomputable def tw9045209709171278073:=0
noncomputable def tw3495036858179778892:=0
noncomputable def tw178616440117953466:=0
noncomputable def tw18019365639964452367:=0
noncomputable def tw9294049431254878816:=0
noncomputable def tw12981094816265352407:=0
noncomputable def tw3492675104364883670:=0
noncomputable def tw15525244100587698318:=0
noncomputable def tw5368555003159565202:=0
noncomputable def tw16480057979872877633:=0
noncomputable def tw4437955240670682728:=0
noncomputable def tw18094019967858944155:=0
noncomputable def tw2971128328197892996:=0
noncomputable def tw2256663719187219:=0
noncomputable def tw1543044930212385401:=0
noncomputable def tw16232756992533239450:=0
noncomputable def tw16511981565888748549:=0
noncomputable def tw8954703257304638244:=0
noncomputable def tw5000543551129206647:=0
noncomputable def tw10954874407899330913:=0
noncomputable def tw10521666977891749515:=0
noncomputable def tw6071105276718184957:=0
noncomputable def tw9853734989078883775:=0
noncomputable def tw13494197830756715682:=0
noncomputable def tw7658188057879731577:=0
noncomputable def tw1176640721652298591:=0
noncomputable def tw1151391704405713963:=0
noncomputable def tw14134368363921453487:=0
noncomputable def tw9279775360238158479:=0
noncomputable def tw9565928231056674252:=0
noncomputable def tw17658093662777334940:=0
noncomputable def tw9337555920596128145:=0
noncomputable def tw16260218349401657885:=0
noncomputable def tw5547329135375978736:=0
noncomputable def tw190494609815620274:=0
noncomputable def tw14230340390206927215:=0
noncomputable def tw14164415483412580510:=0
noncomputable def tw5354487460680814545:=0
noncomputable def tw15119783002882049092:=0
noncomputable def tw18253095971406683626:=0
noncomputable def tw3075544405497549257:=0
noncomputable def tw12898218373188646848:=0
noncomputable def tw16567334910993558149:=0
noncomputable def tw5104076965296853941:=0
noncomputable def tw1472991900669961625:=0
noncomputable def tw15406403481467165460:=0
noncomputable def tw17588265079162365608:=0
noncomputable def tw3280923456013021171:=0
noncomputable def tw6815163916718260498:=0
noncomputable def tw15180308044502541406:=0
noncomputable def tw15435905653159873380:=0
noncomputable def tw4190799776610266473:=0
noncomputable def tw17631744588792369013:=0
noncomputable def tw5857540415873329808:=0
noncomputable def tw12117837235283159910:=0
noncomputable def tw16863874765461599538:=0
noncomputable def tw16291217028392994832:=0
noncomputable def tw6982191925683947075:=0
noncomputable def tw6172204532883991324:=0
noncomputable def tw6084785990267460324:=0
noncomputable def tw17323442671200421163:=0
noncomputable def tw16188653332264747192:=0
noncomputable def tw14200853864005759378:=0
noncomputable def tw15045049465249159301:=0
noncomputable def tw1919975436592683904:=0
noncomputable def tw1411790434895503740:=0
noncomputable def tw9457433312269171365:=0
noncomputable def tw18211054582667108309:=0
noncomputable def tw17872000213753121172:=0
noncomputable def tw8612795411716095425:=0
noncomputable def tw3167902356538040230:=0
noncomputable def tw5471538026201290437:=0
noncomputable def tw8291707439509759076:=0
noncomputable def tw16261726465446202133:=0
noncomputable def tw6683444010527625245:=0
noncomputable def tw13548183378970078845:=0
noncomputable def tw2048309077442453743:=0
noncomputable def tw15052968875434416183:=0
noncomputable def tw3932694864202192300:=0
noncomputable def tw4354202446967025313:=0
noncomputable def tw11378977707940078025:=0
noncomputable def tw3714463930545113183:=0
noncomputable def tw5078696533365355204:=0
noncomputable def tw7003573274541216362:=0
noncomputable def tw4898084182167490040:=0
noncomputable def tw784266912522615873:=0
noncomputable def tw17574593684766035956:=0
noncomputable def tw4693770618466654509:=0
noncomputable def tw9056506730733084561:=0
noncomputable def tw787592421631690794:=0
noncomputable def tw11278589299470367095:=0
noncomputable def tw569291643717143074:=0
noncomputable def tw3341141379172422174:=0
noncomputable def tw13057083448370181260:=0
noncomputable def tw15510600187811557338:=0
noncomputable def tw1750584843242949111:=0
noncomputable def tw974322258226828574:=0
noncomputable def tw8514436934991124973:=0
noncomputable def tw15387162702609509119:=0
noncomputable def tw12455697099357106696:=0
noncomputable def tw11205016577077232950:=0
noncomputable def tw9829481167705135514:=0
noncomputable def tw423633403900651117:=0
noncomputable def tw14874506085751700868:=0
noncomputable def tw17405958798265911067:=0
noncomputable def tw5992974096933281830:=0
noncomputable def tw900094147104023278:=0
noncomputable def tw14530572084658739087:=0
end PySem.W.Fast
namespace CH
open _root_.PySem _root_.PySem.W _root_.PyProof.Rows
set_option maxRecDepth 100000 in
set_option maxHeartbeats 0 in
theorem holds:PySem.Challenge.rw_worthkinds_k74_whole_rule_texts_spoilt.Holds:=by
 w_on;o_law;k_head;(case hw=>w_witness2)
 k_fill
 refine G.walk (l:=PySem.Challenge.rw_worthkinds_k74_whole_rule_texts_spoilt) rfl rfl G.Kn ?nl (λw h Y=>⟨PySem.W.km_in_of Y,PySem.W.km_tabs_of Y⟩) ?F
 case nl=>intro p;kernel_rfl
 case F=>
  intro w mg fa h KX G0 hmg hT;have tx:G.Tx' KX mg:=by
   constructor
   all_goals first
    | (refine' ⟨_,_,G.fn1 KX G0 ?e ?l ?g ?k (λF=>F.binds λ_ _ _ _ _ _ us hl=>by first | exact G.lz1 us hl λ_=>rfl | exact G.lz2 us hl λ_ _=>rfl | exact G.lz3 us hl λ_ _ _=>rfl)⟩;(case e | l | g | k=>k_is))
    | exact⟨_,bj KX G0 (by k_is),_,rfl⟩
    | exact G.zs_of KX G0 (by kernel_rfl)
  have tp:G.TP KX mg:=by
   refine' ⟨_,_,_,_,_,G.fn1 KX G0 ?e ?l ?g ?k (λF=>F.binds λ_ _ _ _ _ _ us hl=>by first | exact G.lz1 us hl λ_=>rfl | exact G.lz2 us hl λ_ _=>rfl | exact G.lz3 us hl λ_ _ _=>rfl),rfl,⟨?t, ?u, ?h, ?n⟩, ?m⟩;(case e | l | g | k | t=>k_is);(case u=>exact rfl);(case h | n=>kernel_rfl);(case m=>exact hT _ (by decide))
  refine' G.fin_ KX G0 hmg tx tp ?n0 ?n1 ?n2 ?n3 ?n4 ?n5 ?n6 ?n7 ?b0 ?b1 ?b2 ?b3 ?b4 ?b5 ?b6 ?b7 ?b8 ?b9 ?b10 ?b11
  (case n0 | n1 | n2 | n3 | n4 | n5 | n6 | n7=>k_is)
  (case b0 | b1 | b2 | b3 | b4 | b5 | b6 | b7 | b8 | b9 | b10 | b11=>kernel_rfl)
end CH
theorem PySem.Challenge.cw_worthkinds_k74_whole_rule_texts_spoilt_holds : PySem.Challenge.rw_worthkinds_k74_whole_rule_texts_spoilt.Holds :=
 CH.holds
