import PyProof.Rows.All
import Wide.All
import OpenK.AllK
import Wide.FinOn
import Lean
import PyProof.EqAt
import PyProof.EqKinds
import PyProof.TupleCall
import PyProof.NeKinds
import PyProof.WalksEnum
import PyProof.StrWalks
import PyProof.ExcAttrAll.ValueError
import PyProof.ZipIter
import KE.KRevIter
import PyProof.ListNew
import PyProof.WalksMore
import PyProof.ReprLoop
import PyProof.FactsAll.list
import PyProof.CollectIter
import PyProof.TupleOfGen
import PyProof.Draws
import PyProof.EnumMake
import PyProof.SeqI3
import KE.KMinBuiltin
import PyProof.SetRoads
import PyProof.CollectWalk
import KE.KDictSum
import PyProof.AttrMiss
import PyProof.IsiH_tuple
import KE.KDictOf
import PyProof.FitsBits
import PyProof.SliceList
import PyProof.InstFacts
import PyProof.Rows.StrNews2
import PyProof.StrBlockH
import PyProof.CallStr
import KE.KIntText
import PyProof.Rows.RuleB_pow
import KE.KSortTup
import PyProof.ReprRoads
import KE.KLam
import PyProof.MaxThree
import PyProof.DictRoadsH
import PyProof.FactsAll.dict
import PyProof.DictItems
import PyProof.DictValues
import PyProof.StrLawsRepr
import PyProof.StrLawsTight
import PyProof.StrLawsLast
import PyProof.StrLawsNeg
import PyProof.Rows.StrItems
import PySem.Challenge.RW_worthkinds_k72_whole_kind_texts_spoilt
open PySem.W renaming Frag->a6,kitOne->aH,kia_one->bn,mg_of->bq,fnOf->bw,nsIn->bA,keepIn->bJ,codeHdIn->cx,findIn->cM,cellsFrom_some->cN,codeIn->cO,tabObj->cR,excIn->dv,instObj->dN,lookIn->dS,mroIn->eH,codeRec_of->eK,specialIn->eR,kitx_list->eT,kitx_dict->eU,plainGet->fk,takesIn->fG
open PySem.Heap renaming get?_push_of_some->a7,lt_size->ag,get?_push_size->am,get?_update_other->aK,get?_update_self->bG,FlyingW->cg,SameBut->cL,size_push->dk
open PySem renaming wpAny_bind->a8,wpAny_pure->aw,wpAny_mono->aG,wpAny_standAt->aN,mem_of_lookup->aR,wpAny_holding->a_,wpAny_truthy_bool->ba,wpAny_passesOwn->bB,wpAny_execs_nil->bN,call_meets->bO,wpAny_field->bQ,wpAny_newObj_type->bW,sizeLine_eq->c8,typeIs_str->cf,wpAny_point->d6,intText?->dr,seqSlot_of->fx
open Bool renaming and_eq_true->a9,false_eq_true->aF,false_ne_true->aQ,and_eq_true_iff->d7,not_true->du
open List renaming mem_cons_of_mem->aa,length_cons->ac,length_append->ae,length_map->ah,mem_cons_self->ai,mem_cons->ak,lookup_cons->ao,mem_append_right->au,replicate->av,getElem?_map->ax,length_nil->ay,getElem?_eq_getElem->az,getElem?_replicate->aA,size_toArray->aD,getElem?_set_ne->aE,all_eq_true->aI,getElem?_append_right->aJ,mem_append->aM,getElem?_eq_some_iff->aO,getElem?_append_left->aP,append_nil->aT,length_replicate->aV,getElem?_set_self->aX,map_cons->aZ,mem_append_left->bb,drop_eq_getElem_cons->bc,mem_map->bf,length_eq_zero_iff->bh,mem_singleton->br,append_assoc->bx,map_map->bz,length_singleton->bF,getElem?_eq_none->bH,range->bM,mem_filterMap->bS,length_set->bU,nil_append->bV,getElem?_cons_succ->c6,length_range->cq,map_nil->cu,not_mem_nil->cw,filterMap_cons->cy,mem_filter->cC,nodup_cons->cD,of_mem_zip->cF,take_append_drop->cS,drop_length->cU,cons_append->cW,all_cons->cY,forIn_cons->d9,replicate_succ->da,foldl->dg,prefix_refl->dw,range_succ_eq_map->dH,take_of_length_le->dL,map_append->dO,mem_range->dR,length->dU,mem_of_getElem?->dW,drop_zero->dX,getElem?_zipIdx->dY,getElem_toArray->d_,replicate_zero->eD,mem_map_of_mem->eG,flatten_cons->eW,all_map->eY,isEmpty_cons->f9,length_take->fo,range'->fF,foldl_cons->fH
open Nat renaming le_refl->aj,lt_of_lt_of_le->ar,ne_of_lt->aB,le_trans->aC,le_add_right->aL,lt_irrefl->aS,zero_le->bE,ne_of_gt->ce,lt_succ_of_lt->cj,le_of_succ_le->ck,lt_of_le_of_lt->di,mul_comm->dF,not_lt->dG,le_succ->dZ,mul_le_mul_right->eA,mul_le_mul_left->eF,le_of_lt->eQ,le_of_eq->f8,succ_ne_self->fA,lt_succ_self->fB,strongRecOn->fL
open Option.some renaming inj->aq
open False renaming elim->aU
open PySem.Str renaming ofString->aW,length->dE,length_append->f7,empty_append->fD
open PySem.Obj renaming mapFields->aY,data_mapFields->cH,isFreed_of_fields->dP
open PySem.Txt renaming rpartition->bg,partition->bo,startswith->bK,slice->bR,endswith->bX,startswith3->cG,split->cV
open PySem.Sem renaming wp_mono->bi,wp_cmd_standAt->bT,wp_bind'->bY,wp_holding->dq,wp_operate->e9,wp_runValue->fK,wp->fN
open PySem.F renaming excBase_ValueError->bj,plainAttrs_str->bp,plainAttrs_list->b_,called_set->ci,args_tuple_add_2->cA,entry_tuple_add->cJ,slot_tuple_add->cP,slot_bool_hash->cT,slot_int_rmul->d8,slot_str_startswith->db,type_str_startswith->de,args_str_split_2->dm,entry_str_split->dt,slot_tuple_mul->dy,attr_ValueError->dA,slot_list_count->dB,slot_list_index->dC,slot_str_split->dD,args_int_rmul_2->eX,slot_tuple_rmul->eZ,entry_type_call->e_,slot_int_index->fu,entry_int_rmul->fv,fills_int_mul->fI
open Ne renaming symm->bu
open PySem.Builtin.Str renaming strSliceIndices->bv,occurrences->bL,strSub->cI,strKind->eB
open PySem.Challenge renaming rw_worthkinds_k72_whole_kind_texts_spoilt->bI
open PyProof.Rows renaming callWith_type1->bP
open Option renaming isSome_iff_exists->bZ,getD_none->fq
open PySem.StrLaws renaming subAt_eq->c7,occ_length_le->dQ,found_one->fg,At->fO
open PySem.SeqAt renaming EqAt->c9,RcNeAt->cQ,RcAt->dI
open Array renaming getElem?_eq_some_iff->cr,length_toList->cz,append_assoc->dn,getElem?_eq_none->dJ,all_eq_true'->eN
open PySem.Builtin.List renaming listTooLong->cB
open Int renaming eq_ofNat_of_zero_le->cK,emod_lt_of_pos->eO,emod_nonneg->fM
open PySem.Around renaming frames_deeper->c_,under_plain->eM
open PySem.Calls renaming evalArgs_plain->d0,Name_function_global->df,Constant_str->eI,spliced_cons->eJ,spliced_nil->eV
open PySem.Builtin.Tuple renaming tupleTooMany->dh
open PySem.Code renaming quiet_builtin->dj
open PyProof.Rows.F renaming entry_set_update_loop->dz
open PySem.NumText renaming step->dM
open PySem.SeqAt.EqAt renaming of_refs->eL,same->fJ
open PySem.PassesOwn renaming leaving->fj
open PySem.WalksT renaming enumerate->fy
open Classical renaming skolem->fE
noncomputable section
set_option maxHeartbeats 4000000
set_option Elab.async false
set_option linter.all false
set_option compiler.extract_closed false
set_option maxRecDepth 100000
namespace L2
open PySem PySem.Spec PyProof.Rows
noncomputable abbrev Key:=Sum Bool Str
def vU:Key->Value->Bool
 | .inl k,.bool b=>b == k
 | .inl _,_=>false
 | .inr x,v=>Value.isStrOf x v
def gP (w:World):Key->Int
 | .inl k=>hashInt (if k then 1 else 0)
 | .inr x=>hashStr w x
theorem zG:∀{k:Key} {v:Value},vU k v=true->(∃(i:Bool) (t:Tok),k=Sum.inl i/\v=Value.bool i)\/(∃x t,k=Sum.inr x/\v=Value.str x t)
 | .inl i,v,h=>by
  cases v <;> first | exact .inl ⟨i,0,rfl,congrArg _ (eq_of_beq h)⟩ | cases h
 | .inr x,v,h=>by
  obtain⟨t,e⟩:=Value.isStrOf_shape h;exact .inr ⟨x,t,rfl,e⟩
theorem vV (a b:Bool):decide ((Sum.inl a:Key)=Sum.inl b)=(a == b):=by
 by_cases e:a=b
 ·subst e;simp
 ·have h:¬ (Sum.inl a:Key)=Sum.inl b:=λq=>e (Sum.inl.inj q);rw[decide_eq_false h];exact(beq_eq_false_iff_ne.mpr e).symm
theorem vW (a b:Str):decide ((Sum.inr a:Key)=Sum.inr b)=decide (a=b):=by
 by_cases e:a=b
 ·simp
 ·have h:¬ (Sum.inr a:Key)=Sum.inr b:=λq=>e (Sum.inr.inj q);rw[decide_eq_false h,decide_eq_false e]
theorem vX (a:Bool)(b:Str):decide ((Sum.inl a:Key)=Sum.inr b)=false:=decide_eq_false (λq=>nomatch q)
theorem vY (a:Str)(b:Bool):decide ((Sum.inr a:Key)=Sum.inl b)=false:=decide_eq_false (λq=>nomatch q)
theorem U7 {prog:Program}{w:World}{A:Around}{E:Value->Shared->Prop}{s:Shared}{b:Bool}{Q:Int->Shared->Prop}(h:Q (hashInt (if b then 1 else 0)) { s with toks:=s.toks+1 }):wpAny (model prog w) A (pyHash (.bool b)) Q E s:=by
 have hT:s.TypeIs (.bool b) "bool":=rfl;unfold pyHash;have hv:[Value.bool b].any Value.onHeap=false:=rfl;refine a8 ?_;rw[cRoomFor,if_neg (by rw[hv];exact aQ)];refine aw ?_
 refine a8 (wpAny_specialOf hT cT.lookup ?_);show wpAny _ _ (if (some (Value.builtin "int.__hash__") == some Value.none)=true then _ else _) Q E s
 rw[if_neg (by rw[beq_builtin_none];exact aQ)]
 refine a8 (wpAny_specialOf hT cT.lookup ?_);show wpAny _ _ (callSpecialIfBoundUnlessNone? (.bool b) "__hash__" _ >>= _) Q E s;refine a8 (wpAny_callSpecialIfBoundUnlessNone?_slot hT cT
  (wpAny_call_entry cT hT F.entry_int_hash
   (show wpAny _ _ (do ret (← mkInt (rawHash (if b then 1 else 0)))) _ _ s from by cases b <;> refine wpAny_ret_mkInt ?_ <;> exact aw h) (F.args_int_hash_1 _)))
def U8 (prog:Program)(w:World):PySem.KeyKind prog w Key where
 is:=vU
 hash:=gP w
 inj:=λv a b ha hb=>by
  rcases zG ha with ⟨i,t,rfl,rfl⟩ | ⟨x,t,rfl,rfl⟩
  ·rcases zG hb with ⟨j,u,rfl,e⟩ | ⟨y,u,rfl,e⟩
   ·injection e with e1;rw[e1]
   ·exact nomatch e
  ·rcases zG hb with ⟨j,u,rfl,e⟩ | ⟨y,u,rfl,e⟩
   ·exact nomatch e
   ·injection e with e1 _;rw[e1]
 byValue:=λk v h=>by
  rcases zG h with ⟨i,t,rfl,rfl⟩ | ⟨x,t,rfl,rfl⟩ <;> rfl
 pyHash:=λhv h=>by
  rcases zG hv with ⟨i,t,rfl,rfl⟩ | ⟨x,t,rfl,rfl⟩
  ·exact U7 h
  ·exact wpAny_pyHash_str h
 eqBool:=λhu hv h=>by
  rcases zG hu with ⟨i,t,rfl,rfl⟩ | ⟨x,t,rfl,rfl⟩
  ·rcases zG hv with ⟨j,u,rfl,rfl⟩ | ⟨y,u,rfl,rfl⟩
   ·rw[vV]at h;exact c9.bool_bool i j _ _ _ _ h
   ·rw[vX]at h;exact c9.bool_str i y u _ _ _ _ h
  ·rcases zG hv with ⟨j,u,rfl,rfl⟩ | ⟨y,u,rfl,rfl⟩
   ·rw[vY]at h;exact c9.str_bool x t j _ _ _ _ h
   ·rw[vW]at h;exact wpAny_eqBool_str h
 «strs»:=λk x t v h=>by
  rcases zG h with ⟨i,u,rfl,e⟩ | ⟨y,u,rfl,e⟩
  ·exact nomatch e
  ·injection e with e1 _;subst e1;cases v <;> rfl
end L2
namespace L2
open PySem PySem.Spec PyProof.Rows
inductive V where
 | non | bl (b:Bool) | int (i:Int) | str (x:Str) | byt (b:Array UInt8) | flt (b:UInt64) | ref (a:Addr) | ty (n:String)
 deriving DecidableEq
noncomputable def zT:V->Value->Prop
 | .non,u=>u=Value.none
 | .bl b,u=>u=Value.bool b
 | .int i,u=>∃t,u=Value.int i t
 | .str x,u=>∃t,u=Value.str x t
 | .byt b,u=>∃t,u=Value.bytes b t
 | .flt b,u=>∃t,u=Value.float b t
 | .ref a,u=>u=Value.ref a
 | .ty n,u=>u=Value.type n
abbrev zM:List V->List Value->Prop:=Paired zT
theorem zM.length {xs:List V}{us:List Value}(r:zM xs us):xs.length=us.length:=Paired.length r
theorem zM.get:∀{xs:List V} {us:List Value} {i:Nat} {x:V},zM xs us->xs[i]? =some x->∃u,us[i]? =some u/\zT x u
 | _,_,_,_,.nil,e=>by simp at e
 | _,_,0,_,.cons r _,e=>by simp at e;subst e;exact⟨_,rfl,r⟩
 | _,_,i+1,x,.cons _ t,e=>by
  obtain⟨u,h1,h2⟩:=zM.get t (by simpa using e)
  exact⟨u,by simpa using h1,h2⟩
theorem zM.append:∀{xs ys:List V} {us ws:List Value},zM xs us->zM ys ws->zM (xs++ys) (us++ws)
 | _,_,_,_,.nil,s=>s
 | _,_,_,_,.cons r t,s=> .cons r (zM.append t s)
theorem zM.take:∀{xs:List V} {us:List Value} (n:Nat),zM xs us->zM (xs.take n) (us.take n)
 | _,_,0,_=> .nil
 | _,_,_+1,.nil=> .nil
 | _,_,n+1,.cons r t=> .cons r (zM.take n t)
theorem zM.drop:∀{xs:List V} {us:List Value} (n:Nat),zM xs us->zM (xs.drop n) (us.drop n)
 | _,_,0,r=>r
 | _,_,_+1,.nil=> .nil
 | _,_,n+1,.cons _ t=>zM.drop n t
def Xx:Option V->Option Value->Prop
 | some v,some u=>zT v u
 | none,none=>True
 | _,_=>False
def KV {κ:Type}:List (κ×V)->List (κ×Value)->Prop:=Paired λ(p:κ×V) (q:κ×Value)=>p.1=q.1/\zT p.2 q.2
def kV:Key->V
 | .inl i=> .bl i
 | .inr x=> .str x
inductive HO where
 | lst (xs:List V)
 | tup (xs:List V)
 | dK (kvs:List (Key×V)) | dT (kvs:List (List Key×Addr×V))
 | set (S:Int->Bool) (n:Nat)
 | ins (C dx:Addr) (fs:List (Str×V))
 | own (x:Addr)
 | xd (fs:List (Str×V))
 | met (f x:Addr)
 | rng (lo hi:Int)
 | frz (o:Obj) (u:HO)
 | tbl (ps:Array Value) (q:Str)
 | ext (φ:Heap->Prop)
noncomputable abbrev Hp:=Addr->Option HO
def upd (H:Hp)(a:Addr)(o:HO):Hp:=λb=>if b=a then some o else H b
theorem zl {H:Hp}{a:Addr}{o:HO}:upd H a o a=some o:=by unfold upd;rw[if_pos rfl]
theorem zg {H:Hp}{a b:Addr}{o:HO}(h:b ≠ a):upd H a o b=H b:=by unfold upd;rw[if_neg h]
theorem zm {H:Hp}{a b:Addr}{o:HO}(h:H a=some o)(h' :H b=none):a ≠ b:=by
 intro e;subst e;rw[h]at h';cases h'
noncomputable def ITN (h:Heap)(a:Addr)(its:Array Value):Prop:=IsTup h a its/\((∃i t,its[0]? =some (Value.int i t))\/∃o,h.get? a=some o/\o.dict=none)
theorem ITN.new (h:Heap)(its:Array Value):ITN (h.push { cls:= .type "tuple",data:= .seq its }) h.objs.size its:=⟨IsTup.new h its,.inr ⟨_,am _ rfl,rfl⟩⟩
section
variable (P:Program)(w:World)
def zZ (H:Hp)(h:Heap)(a:Addr):HO->Prop
 | .lst xs=>xs.length<=sizeLine/\∃(its:List Value) (n:Nat),zM xs its/\h.get? a=some { cls:= .type "list",data:= .seq its.toArray n }
 | .tup xs=>xs.length<=sizeLine/\∃its:List Value,zM xs its/\ITN h a its.toArray
 | .dK kvs=>kvs.length<=sizeLine/\(a == sysModules)=false/\∃vs,KV kvs vs/\h.DictOf (U8 P w) a vs
 | .dT kvs=>kvs.length<=sizeLine/\(a == sysModules)=false/\∃xs:List (List Key×Addr×Value),
   Paired (λ(p:List Key×Addr×V) (q:List Key×Addr×Value)=>p.1=q.1/\H q.2.1=some (.tup (p.1.map kV))/\zT p.2.2 q.2.2/\p.2.1=q.2.1) kvs xs/\
   ∃o es ep,h.get? a=some o/\o.ExactDict/\o.data= .dict es ep/\es.toList=xs.map (entryOfKey (tupleKind (U8 P w)))/\(xs.map (·.1)).Nodup
 | .set S n=>h.SetOf (intKind P w) a S n
 | .ins C dx fs=>H dx=some (.own a)/\fs.length<=1000/\dx ≠ a/\h.get? a=some (dN C dx)/\
   ∃mA,h.Ns1 dx mA/\(∀f,Xx (fs.lookup f) (mA f))/\PySem.Within mA (fs.map (·.1))
 | .own _=>∃o,h.get? a=some o
 | .xd fs=>∃mA,h.Ns1 a mA/\∀f,Xx (fs.lookup f) (mA f)
 | .rng lo hi=>∃t u v,h.get? a=some { cls:= .type "range",data:= .fields #[.int lo t,.int hi u,.int 1 v] }
 | .frz o u=>h.get? a=some o/\zZ H h a u
 | .tbl ps q=>∃more:Array Value,h.get? a=some { cls:= .none,data:= .fields (ps++more) }/\TriplesOk (ps++more).toList/\∀p cv,codeAmong p (ps++more).toList=some cv->∃c oc vs t,cv= .ref c/\H c=some (.frz oc (.own c))/\oc.data= .fields vs/\vs[1]? =some (.str q t)
 | .met f x=>h.get? a=some (PySem.W.methodObj (.ref f) (.ref x))
 | .ext φ=>φ h/\(∃o,h.get? a=some o)/\∀h1 h2:Heap,φ h1->(∀o,h1.get? a=some o->h2.get? a=some o)->φ h2
def HOk (H:Hp)(h:Heap):Prop:=∀a o,H a=some o->zZ P w H h a o
end
section
variable {P:Program}{w:World}{H H' :Hp}{h h' :Heap}{a:Addr}{o:HO}
theorem zZ.lt (x:zZ P w H h a o):a < h.objs.size:=by
 cases o with
 | lst xs=>obtain⟨_,_,_,_,e⟩:=x;exact ag e
 | tup xs=>obtain⟨_,_,_,p,_⟩:=x;exact p.lt
 | dK kvs=>obtain⟨_,_,_,_,o,_,_,e,_⟩:=x;exact ag e
 | dT kvs=>obtain⟨_,_,_,_,o,_,_,e,_⟩:=x;exact ag e
 | set S n=>obtain⟨o,_,_,_,e,_⟩:=x;exact ag e
 | ins C dx fs=>obtain⟨_,_,_,e,_⟩:=x;exact ag e
 | own y=>obtain⟨_,e⟩:=x;exact ag e
 | xd fs=>obtain⟨_,⟨_,_,_,e,_⟩,_⟩:=x;exact ag e
 | rng lo hi=>obtain⟨_,_,_,e⟩:=x;exact ag e
 | frz ob u=>obtain⟨e,_⟩:=x;exact ag e
 | tbl ps q=>obtain⟨_,e,_⟩:=x;exact ag e
 | met f y=>exact ag (x)
 | ext φ=>obtain⟨_,⟨_,e⟩,_⟩:=x;exact ag e
theorem Paired.mapP {α β:Type}{F G:α->β->Prop}:∀{l₁:List α} {l₂:List β},Paired F l₁ l₂->(∀a b,F a b->G a b)->Paired G l₁ l₂
 | _,_,.nil,_=> .nil
 | _,_,.cons r t,f=> .cons (f _ _ r) (Paired.mapP t f)
theorem zZ.stay (x:zZ P w H h a o)(k:∀b u,(b=a\/H b=some (.own a))->h.get? b=some u->h'.get? b=some u)
  (ho:∀b,H b=some (.own a)->H' b=some (.own a)) (ht:∀b xs,H b=some (.tup xs)->H' b=some (.tup xs)) (hf:∀b o u,H b=some (.frz o u)->H' b=some (.frz o u):=by exact λ_ _ _ q=>q):zZ P w H' h' a o:=by
 induction o with
 | lst xs=>obtain⟨z,its,n,r,e⟩:=x;exact⟨z,its,n,r,k _ _ (.inl rfl) e⟩
 | tup xs=>obtain⟨z,its,r,⟨ob,e,c⟩,q⟩:=x;exact⟨z,its,r,⟨ob,k _ _ (.inl rfl) e,c⟩,q.imp id λ⟨o2,e2,d2⟩=>⟨o2,k _ _ (.inl rfl) e2,d2⟩⟩
 | dK kvs=>obtain⟨z,y,vs,r,ob,es,ep,e,c⟩:=x;exact⟨z,y,vs,r,ob,es,ep,k _ _ (.inl rfl) e,c⟩
 | dT kvs=>
  obtain⟨z,y,xs,r,ob,es,ep,e,c⟩:=x;exact⟨z,y,xs,Paired.mapP r λp q z=>⟨z.1,ht _ _ z.2.1,z.2.2⟩,ob,es,ep,k _ _ (.inl rfl) e,c⟩
 | set S n=>obtain⟨ob,es,ep,t,e,c⟩:=x;exact⟨ob,es,ep,t,k _ _ (.inl rfl) e,c⟩
 | ins C dx fs=>
  obtain⟨d,z,ne,e,mA,⟨od,es,ep,e2,c⟩,r⟩:=x;exact⟨ho _ d,z,ne,k _ _ (.inl rfl) e,mA,⟨od,es,ep,k _ _ (.inr d) e2,c⟩,r⟩
 | own y=>obtain⟨ob,e⟩:=x;exact⟨ob,k _ _ (.inl rfl) e⟩
 | xd fs=>obtain⟨mA,⟨od,es,ep,e,c⟩,r⟩:=x;exact⟨mA,⟨od,es,ep,k _ _ (.inl rfl) e,c⟩,r⟩
 | rng lo hi=>obtain⟨t,u,v,e⟩:=x;exact⟨t,u,v,k _ _ (.inl rfl) e⟩
 | frz ob u ih=>obtain⟨e,q⟩:=x;exact⟨k _ _ (.inl rfl) e,ih q⟩
 | tbl ps q=>
  obtain⟨m,e,tr,al⟩:=x;exact⟨m,k a _ (.inl rfl) e,tr,λp cv z=>let ⟨c,oc,vs,t,e1,e2,e3⟩:=al p cv z;⟨c,oc,vs,t,e1,hf _ _ _ e2,e3⟩⟩
 | met f y=>
  have e:=x;exact k a _ (.inl rfl) e
 | ext φ=>obtain⟨p,⟨o,e⟩,st⟩:=x;exact⟨st _ _ p λo q=>k _ _ (.inl rfl) q,⟨o,k _ _ (.inl rfl) e⟩,st⟩
theorem HOk.lt (x:HOk P w H h)(e:H a=some o):a < h.objs.size:=(x a o e).lt
theorem HOk.fresh (x:HOk P w H h)(e:h.objs.size<=a):H a=none:=by
 cases q:H a with
 | none=>rfl
 | some u=>exact absurd (ar (x.lt q) e) (aS _)
theorem HOk.kept (x:HOk P w H h)(k:∀b u,h.get? b=some u->h'.get? b=some u):HOk P w H h' :=λa o e=>
 (x a o e).stay (λb u _ q=>k b u q) (λ_ q=>q) λ_ _ q=>q
theorem HOk.laid (x:HOk P w H h)(k:∀b u,h.get? b=some u->h'.get? b=some u)(hp:h.objs.size<=a)(new:zZ P w (upd H a o) h' a o):HOk P w (upd H a o) h' :=λb u e=>by
 have hn:=x.fresh hp
 by_cases hb:b=a
 ·subst hb;rw[zl]at e;cases e;exact new
 ·rw[zg hb]at e;exact(x b u e).stay (λc v _ q=>k c v q) (λc q=>by rw[zg (zm q hn)];exact q) (λc xs q=>by rw[zg (zm q hn)];exact q) λc o u q=>by rw[zg (zm q hn)];exact q
end
def Rd (H:Hp)(a:Addr)(u:HO):Prop:=H a=some u\/∃o,H a=some (.frz o u)
theorem Rd.ok {P:Program}{w:World}{H:Hp}{h:Heap}{a:Addr}{u:HO}(r:Rd H a u)(x:HOk P w H h):zZ P w H h a u:=by
 rcases r with r | ⟨o,r⟩
 ·exact x a u r
 ·obtain⟨_,q⟩:=x a _ r;exact q
noncomputable def Mut:Option HO->Prop
 | some (.lst _)=>True
 | some (.dK _)=>True
 | some (.dT _)=>True
 | some (.set _ _)=>True
 | some (.ins _ _ _)=>True
 | some (.ext _)=>True
 | _=>False
section
variable {P:Program}{w:World}{H:Hp}{h h' :Heap}{x e:Addr}{o' :HO}
theorem HOk.write (ok:HOk P w H h)(mu:Mut (H x))(he:e=x\/H e=some (.own x))(k:∀b u,b ≠ e->h.get? b=some u->h'.get? b=some u)(heo:∃u,h'.get? e=some u)
  (new:zZ P w (upd H x o') h' x o'):HOk P w (upd H x o') h' :=λb u q=>by
 have nown:∀c y,H c=some (.own y)->c ≠ x:=λc y r z=>by subst z;rw[r]at mu;exact mu
 have ntup:∀c xs,H c=some (.tup xs)->c ≠ x:=λc xs r z=>by subst z;rw[r]at mu;exact mu
 by_cases hb:b=x
 ·subst hb;rw[zl]at q;cases q;exact new
 ·rw[zg hb]at q
  by_cases hbe:b=e
  ·have q' :H b=some (.own x):=by
    rcases he with z | z
    ·exact absurd (hbe.trans z) hb
    ·rw[hbe];exact z
   rw[q]at q';cases q';obtain⟨v,hv⟩:=heo;exact⟨v,by rw[hbe];exact hv⟩
  ·refine(ok b u q).stay (λc v hc r=>k c v ?_ r) (λc r=>by rw[zg (nown c b r)];exact r) (λc xs r=>by rw[zg (ntup c xs r)];exact r) λc o u r=>by rw[zg (λz=>by subst z;rw[r]at mu;exact mu)];exact r
   rcases hc with rfl | hc
   ·exact hbe
   ·rintro rfl
    rcases he with z | z
    ·exact nown c b hc z
    ·rw[hc]at z;cases z;exact hb rfl
end
structure Un (fs ex:List Addr) (H H' :Hp) (h h' :Heap):Prop where
 keep:∀b o,h.get? b=some o->H b=none->b ∉ fs->b ∉ ex->h'.get? b=some o
 slot:∀b o,h.get? b=some o->H b=none->b∈fs->b ∉ ex->∃sl,h'.get? b=some { o with slots:=sl }
 free:∀b o,h.get? b=some o->H b=none->b ∉ ex->H' b=none
 there:∀b o,h.get? b=some o->b ∉ ex->∃o',h'.get? b=some o'
 tups:∀b xs,H b=some (.tup xs)->H' b=some (.tup xs)
 frzs:∀b o u,H b=some (.frz o u)->H' b=some (.frz o u)
 tbls:∀b ps q,H b=some (.tbl ps q)->H' b=some (.tbl ps q)
section
variable {fs fs' ex ex' :List Addr}{H H1 H2:Hp}{h h1 h2 h' :Heap}{a x e:Addr}{o:HO}
theorem Un.any (u:Un fs ex H H1 h h1){b:Addr}{ob:Obj}(q:h.get? b=some ob)(n:H b=none)(hx:b ∉ ex):∃sl,h1.get? b=some { ob with slots:=sl }:=by
 by_cases hb:b∈fs
 ·exact u.slot b ob q n hb hx
 ·exact⟨ob.slots,u.keep b ob q n hb hx⟩
theorem Un.kept (k:∀b u,h.get? b=some u->h'.get? b=some u):Un fs ex H H h h' :=
 ⟨λb ob q _ _ _=>k b ob q,λb ob q _ _ _=>⟨ob.slots,k b ob q⟩,λ_ _ _ n _=>n,λb ob q _=>⟨ob,k b ob q⟩,λ_ _ q=>q,λ_ _ _ q=>q,λ_ _ _ q=>q⟩
theorem Un.refl:Un fs ex H H h h:=Un.kept λ_ _ q=>q
theorem Un.laid (k:∀b u,h.get? b=some u->h'.get? b=some u)(hp:h.objs.size<=a)(hn:H a=none):Un fs ex H (upd H a o) h h' where
 keep:=λb u q _ _ _=>k b u q
 slot:=λb u q _ _ _=>⟨u.slots,k b u q⟩
 free:=λb u q n _=>by rw[zg (aB (ar (ag q) hp))];exact n
 there:=λb u q _=>⟨u,k b u q⟩
 tups:=λb xs q=>by rw[zg (zm q hn)];exact q
 frzs:=λb u xs q=>by rw[zg (zm q hn)];exact q
 tbls:=λb ps q e=>by rw[zg (zm e hn)];exact e
theorem Un.write (mu:Mut (H x))(he:e=x\/H e=some (.own x))(k:∀b u,b ≠ e->h.get? b=some u->h'.get? b=some u)(heo:∃u,h'.get? e=some u):Un fs ex H (upd H x o) h h' :=by
 have hx:∀b,H b=none->b ≠ x:=λb n z=>by subst z;rw[n]at mu;exact mu
 have hb:∀b,H b=none->b ≠ e:=λb n z=>by
  subst z;rcases he with r | r
  ·exact hx b n r
  ·rw[n]at r;cases r
 have hm:∀b u,H b=some u->¬ Mut (some u)->b ≠ x:=λb u q nm z=>by subst z;rw[q]at mu;exact nm mu
 refine⟨λb u q n _ _=>k b u (hb b n) q,λb u q n _ _=>⟨u.slots,k b u (hb b n) q⟩,λb u q n _=>by rw[zg (hx b n)];exact n,λb u q _=> ?_,
  λb xs q=>by rw[zg (hm b _ q λz=>z)];exact q,λb u xs q=>by rw[zg (hm b _ q λz=>z)];exact q,λb ps q e=>by rw[zg (hm b _ e λz=>z)];exact e⟩
 by_cases hbe:b=e
 ·subst hbe;exact heo
 ·exact⟨u,k b u hbe q⟩
end
def trk (h:Heap)(H:Hp):List Addr:=(bM h.objs.size).filter λa=>(H a).isSome
def vN (h:Heap)(H:Hp):Heap:=PySem.W.hideAll h (trk h H)
theorem U9 (h:Heap)(H:Hp):(vN h H).objs.size=h.objs.size:=PySem.W.hideAll_size _ _
theorem JW {h:Heap}{H:Hp}{b:Addr}{o:Obj}(e:h.get? b=some o)(n:H b=none):(vN h H).get? b=some o:=
 PySem.W.hideAll_get _ e λhm=>by
  have q:=(cC.mp hm).2;rw[n]at q;simp at q
theorem Q3 {h:Heap}{H:Hp}{b:Addr}{o:Obj}(e:(vN h H).get? b=some o):h.get? b=some o/\H b=none:=by
 have e' :=PySem.W.of_hideAll _ e;refine⟨e', ?_⟩;cases q:H b with
 | none=>rfl
 | some x=>
  have hm:b∈trk h H:=cC.mpr ⟨dR.mpr (ag e'),by simp[q]⟩
  have z:(vN h H).get? b=none:=PySem.W.hideAll_none _ hm;rw[z]at e;cases e
end L2
namespace L2
open PySem PySem.Spec PyProof.Rows
structure Mod (K:a6) (mg:Str->Option Value) (base:Heap):Prop where
 kin:K.In base
 glob:base.Ns mainGlobals mg
 blt:∃mb,base.Ns builtinsNs mb/\∀x:Str,x ≠ "__name__"->mb x=bootBuiltins x
 nolimit:base.NoLimit
structure Cx where
 prog:Program
 w:World
 K:a6
 mg:Str->Option Value
 base:Heap
 A:Around
 N:List Str
 s₀:Shared
 H₀:Hp
 env:Env
 outer:List Env
 stack:List Env
 ex:List Addr
 fn:Str->Bool
 calm:Bool
 pn:List (Addr×Obj)
 xe:Value->Shared->Prop
noncomputable def frs (l:List Env):List Addr:=l.filterMap (·.frame)
abbrev Cx.fs (X:Cx):List Addr:=frs X.outer
noncomputable def Vis (sc:Scope)(x:Str):Prop:=sc.names.lookup x=some .local\/sc.names.lookup x=some .cell\/sc.names.lookup x=some .free
noncomputable def Loc (sc:Scope)(x:Str):Prop:=sc.names.lookup x=some .local\/sc.names.lookup x=some .cell
noncomputable def gQ (env:Env)(h:Heap)(m:Str->Option Value)(x:Str)(u:Value):Prop:=
 (env.kindOf x=some .local/\m x=some u)\/((env.kindOf x=some .cell\/env.kindOf x=some .free)/\∃c,env.cells.lookup x=some c/\h.IsCell c (some u))
structure Cx.Ok (X:Cx):Prop where
 mod:Mod X.K X.mg X.base
 kind:X.env.scope.kind= .function
 glob:X.env.globals=mainGlobals
 blt:X.env.builtins=builtinsNs
 above:X.s₀.heap.objs.size<=X.env.locals
 inj:∀x y c,X.env.cells.lookup x=some c->X.env.cells.lookup y=some c->x=y
 has:∀x,(X.env.kindOf x=some .cell\/X.env.kindOf x=some .free)->∃c,X.env.cells.lookup x=some c
 cab:∀x c,X.fn x=true->X.env.cells.lookup x=some c->X.s₀.heap.objs.size<=c
 hd:X.calm=true->X.A.handled=none
 frames:X.A.frames=some X.stack
 stk:X.stack=X.outer\/(X.stack=X.env :: X.outer/\X.env.frame=some X.env.locals)
 exf:∀b∈X.ex,b ≠ X.env.locals/\∀x c,X.env.cells.lookup x=some c->c ≠ b
 bs:∀b o,X.base.get? b=some o->X.s₀.heap.get? b=some o/\X.H₀ b=none
 bsz:X.base.objs.size<=X.s₀.heap.objs.size
 noex:∀b o,X.base.get? b=some o->b ∉ X.ex
 exfs:∀b∈X.ex,b ∉ X.fs
 funs:X.s₀.heap.FunFrames X.base X.outer
 frf:∀b∈X.fs,X.H₀ b=none
structure Inv (X:Cx) (pins:List (Addr×Obj)) (σ:List (Option V)) (H:Hp) (s:Shared):Prop where
 ok:X.Ok
 os:s.os=X.s₀.os
 bare:AllBare s.gens
 base:Un X.fs X.ex X.H₀ H X.s₀.heap s.heap
 loc:∃m,s.heap.Ns X.env.locals m/\∀(i:Nat) (x:Str) (v:V),X.N[i]? =some x->σ[i]? =some (some v)->Vis X.env.scope x->∃u,zT v u/\gQ X.env s.heap m x u
 cell:∀x c,X.env.cells.lookup x=some c->∃v,s.heap.IsCell c v
 free:H X.env.locals=none
 freeC:∀x c,X.env.cells.lookup x=some c->H c=none
 pin:∀p∈X.pn++pins,s.heap.get? p.1=some p.2/\H p.1=none/\p.1 ≠ X.env.locals/\p.1 ∉ X.fs/\∀v,p.2.data ≠ .cell v
 hok:HOk X.prog X.w H s.heap
 len:σ.length=X.N.length
section
variable {X:Cx}{pins:List (Addr×Obj)}{σ:List (Option V)}{H H' :Hp}{s:Shared}{h' :Heap}
theorem Cx.Ok.nofr (ok:X.Ok){b:Addr}{o:Obj}(e:X.base.get? b=some o):b ∉ X.fs:=λhb=>by
 have:=(ok.funs.mem hb).1;rw[e]at this;cases this
theorem Inv.bs (I:Inv X pins σ H s):∀b o,X.base.get? b=some o->s.heap.get? b=some o/\H b=none:=λb o e=>
 ⟨I.base.keep b o (I.ok.bs b o e).1 (I.ok.bs b o e).2 (I.ok.nofr e) (I.ok.noex b o e),I.base.free b o (I.ok.bs b o e).1 (I.ok.bs b o e).2 (I.ok.noex b o e)⟩
theorem Inv.bk (I:Inv X pins σ H s):∀b o,X.base.get? b=some o->s.heap.get? b=some o:=λb o e=>(I.bs b o e).1
theorem Inv.mod (I:Inv X pins σ H s):Mod X.K X.mg X.base:=I.ok.mod
theorem Inv.kIn (I:Inv X pins σ H s):X.K.In s.heap:=I.ok.mod.kin.keeps I.bk
theorem Inv.lt (I:Inv X pins σ H s):X.env.locals < s.heap.objs.size:=let ⟨_,hn,_⟩:=I.loc;hn.lt
theorem Inv.sz (I:Inv X pins σ H s):X.s₀.heap.objs.size<=s.heap.objs.size:=aC I.ok.above (eQ I.lt)
theorem Inv.nofs (I:Inv X pins σ H s){a:Addr}(h:s.heap.objs.size<=a):a ∉ X.fs:=λhb=>by
 obtain⟨_,o,ho,_⟩:=I.ok.funs.mem hb;exact absurd (ar (ag ho) (aC I.sz h)) (aS _)
theorem Inv.cne (I:Inv X pins σ H s):∀x c,X.env.cells.lookup x=some c->c ≠ X.env.locals:=λx c e z=>by
 obtain⟨v,o,ho,hd⟩:=I.cell x c e;obtain⟨m,⟨o',es,ep,ho',hd',_⟩,_⟩:=I.loc;rw[z,ho']at ho;cases ho;rw[hd']at hd;cases hd
theorem Inv.funs (I:Inv X pins σ H s):s.heap.FunFrames X.base X.outer:=by
 have all:∀(l:List Env),(∀b∈frs l,b∈X.fs)->X.s₀.heap.FunFrames X.base l->s.heap.FunFrames X.base l:=by
  intro l
  induction l with
  | nil=>intro _ _;trivial
  | cons env r ih=>
   intro hs hl;obtain⟨hk,⟨L,o,hf,hn,ho,hd⟩,hr⟩:=hl;have hL:=hs L (by unfold frs;rw[cy,hf];exact ai)
   obtain⟨sl,e⟩:=I.base.slot L o ho (I.ok.frf L hL) hL λz=>I.ok.exfs L z hL;exact⟨hk,⟨L,_,hf,hn,e,hd⟩,ih (λb hb=>hs b (by unfold frs;rw[cy,hf];exact aa _ hb)) hr⟩
 exact all _ (λ_ hb=>hb) I.ok.funs
theorem Inv.stack (I:Inv X pins σ H s):s.heap.FunFrames X.base X.stack:=by
 rcases I.ok.stk with e | ⟨e,hf⟩
 ·rw[e];exact I.funs
 ·rw[e];obtain⟨m,hn,_⟩:=I.loc;refine .cons (by rw[I.ok.kind];decide) hf hn ?_ I.funs
  exact Heap.get?_none_of_le (aC I.ok.bsz I.ok.above)
theorem Inv.stkSub (I:Inv X pins σ H s):∀b∈frs X.stack,b∈X.env.locals :: X.fs:=λb hb=>by
 rcases I.ok.stk with e | ⟨e,hf⟩
 ·rw[e]at hb;exact aa _ hb
 ·rw[e]at hb;unfold frs at hb;rw[cy,hf]at hb;exact hb
theorem Inv.stkFree (I:Inv X pins σ H s):∀b∈frs X.stack,H b=none:=λb hb=>by
 rcases ak.mp (I.stkSub b hb) with e | hb
 ·rw[e];exact I.free
 ·obtain⟨_,o,ho,_⟩:=I.ok.funs.mem hb;exact I.base.free b o ho (I.ok.frf b hb) λz=>I.ok.exfs b z hb
theorem Inv.step {g' :Array GenState}{t' :Nat}{d' :Drawn}{ch:List Addr}(I:Inv X pins σ H s)
  (hch:∀b∈ch,(b∈X.ex\/X.s₀.heap.objs.size<=b)/\b ≠ X.env.locals/\(∀x c,X.env.cells.lookup x=some c->c ≠ b)/\∀p∈X.pn++pins,p.1 ≠ b)
  (keep:∀b o,b ≠ X.env.locals->b ∉ X.fs->b ∉ ch->s.heap.get? b=some o->H b=none->h'.get? b=some o)
  (slot:∀b o,b ≠ X.env.locals->b∈X.fs->b ∉ ch->s.heap.get? b=some o->H b=none->∃sl,h'.get? b=some { o with slots:=sl }) (free:∀b o,b ∉ ch->s.heap.get? b=some o->H b=none->H' b=none)
  (there:∀b o,b ∉ ch->s.heap.get? b=some o->∃o',h'.get? b=some o')
  (tups:∀b xs,H b=some (.tup xs)->H' b=some (.tup xs)) (frzs:∀b o u,H b=some (.frz o u)->H' b=some (.frz o u)) (tbls:∀b ps q,H b=some (.tbl ps q)->H' b=some (.tbl ps q))
  (ns:∀m,s.heap.Ns X.env.locals m->h'.Ns X.env.locals m) (hok:HOk X.prog X.w H' h') (hg:AllBare g'):
  Inv X pins σ H' { s with heap:=h',gens:=g',drawn:=d',toks:=t' }:=by
 have neL:∀b o,X.s₀.heap.get? b=some o->b ≠ X.env.locals:=λb o e=>aB (ar (ag e) I.ok.above);have neC:∀b o,X.s₀.heap.get? b=some o->b ∉ X.ex->b ∉ ch:=λb o e hx hb=>by
  rcases(hch b hb).1 with z | z
  ·exact hx z
  ·exact absurd (ar (ag e) z) (aS _)
 have cellK:∀x c,X.env.cells.lookup x=some c->∀v,s.heap.IsCell c v->h'.IsCell c v:=λx c e v ⟨o,ho,hd⟩=>by
  have nch:=λz=>(hch c z).2.2.1 x c e rfl
  by_cases hc:c∈X.fs
  ·obtain⟨sl,q⟩:=slot c o (I.cne x c e) hc nch ho (I.freeC x c e);exact⟨_,q,hd⟩
  ·exact⟨o,keep c o (I.cne x c e) hc nch ho (I.freeC x c e),hd⟩
 refine⟨I.ok,I.os,hg,⟨λb o e n hb hx=> ?_,λb o e n hb hx=> ?_,λb o e n hx=> ?_,λb o e hx=> ?_,λb xs e=>tups b xs (I.base.tups b xs e),λb o xs e=>frzs b o xs (I.base.frzs b o xs e),λb ps q e=>tbls b ps q (I.base.tbls b ps q e)⟩, ?_,λx c e=> ?_, ?_,λx c e=> ?_,λp hp=> ?_,hok,I.len⟩
 ·exact keep b o (neL b o e) hb (neC b o e hx) (I.base.keep b o e n hb hx) (I.base.free b o e n hx)
 ·obtain⟨sl,e1⟩:=I.base.slot b o e n hb hx;obtain⟨sl',e2⟩:=slot b _ (neL b o e) hb (neC b o e hx) e1 (I.base.free b o e n hx);exact⟨sl',e2⟩
 ·obtain⟨o',e1⟩:=I.base.there b o e hx;exact free b o' (neC b o e hx) e1 (I.base.free b o e n hx)
 ·obtain⟨o',e1⟩:=I.base.there b o e hx;exact there b o' (neC b o e hx) e1
 ·obtain⟨m,hn,hl⟩:=I.loc;refine⟨m,ns m hn,λi x v e1 e2 e3=> ?_⟩;obtain⟨u,r,l⟩:=hl i x v e1 e2 e3;refine⟨u,r, ?_⟩;rcases l with l | ⟨k,c,e,z⟩
  ·exact .inl l
  ·exact .inr ⟨k,c,e,cellK x c e _ z⟩
 ·obtain⟨v,z⟩:=I.cell x c e;exact⟨v,cellK x c e v z⟩
 ·obtain⟨m,⟨o,_,_,ho,_⟩,_⟩:=I.loc;exact free _ o (λz=>(hch _ z).2.1 rfl) ho I.free
 ·obtain⟨v,o,ho,hd⟩:=I.cell x c e;exact free c o (λz=>(hch c z).2.2.1 x c e rfl) ho (I.freeC x c e)
 ·obtain⟨e,n,ne,nf,d⟩:=I.pin p hp;have nch:=λz=>(hch p.1 z).2.2.2 p hp rfl;exact⟨keep p.1 p.2 ne nf nch e n,free p.1 p.2 nch e n,ne,nf,d⟩
theorem Inv.un {t' :Nat}(I:Inv X pins σ H s)(u:Un X.fs [] H H' s.heap h')(hok:HOk X.prog X.w H' h'):Inv X pins σ H' { s with heap:=h',toks:=t' }:=by
 obtain⟨m,⟨o,es,ep,ho,r⟩,_⟩:=id I.loc;obtain⟨sl,hL⟩:=u.any ho I.free (by simp)
 exact I.step (ch:=[]) (λ_ z=>nomatch z) (λb o _ hb _ e n=>u.keep b o e n hb (by simp)) (λb o _ hb _ e n=>u.slot b o e n hb (by simp)) (λb o _ e n=>u.free b o e n (by simp)) (λb o _ e=>u.there b o e (by simp)) u.tups u.frzs u.tbls (λm' hm=>by
  obtain⟨o',es',ep',ho',r'⟩:=hm;rw[ho]at ho';cases ho';exact⟨_,es',ep',hL,r'⟩) hok I.bare
theorem Inv.call {g' :Array GenState}{t' :Nat}{d' :Drawn}{ch:List Addr}(I:Inv X pins σ H s)(u:Un (frs X.stack) ch H H' s.heap h')(hok:HOk X.prog X.w H' h')(hg:AllBare g')
  (hch:∀b∈ch,(b∈X.ex\/X.s₀.heap.objs.size<=b)/\b ≠ X.env.locals/\(∀x c,X.env.cells.lookup x=some c->c ≠ b)/\∀p∈X.pn++pins,p.1 ≠ b):
  Inv X pins σ H' { s with heap:=h',gens:=g',drawn:=d',toks:=t' }:=by
 obtain⟨m,⟨o,es,ep,ho,r⟩,_⟩:=id I.loc;obtain⟨sl,hL⟩:=u.any ho I.free λz=>(hch _ z).2.1 rfl;exact I.step hch (λb o hL hb hc e n=>u.keep b o e n (λz=>(ak.mp (I.stkSub b z)).elim hL hb) hc) (λb o _ _ hc e n=>u.any e n hc) (λb o hc e n=>u.free b o e n hc) (λb o hc e=>u.there b o e hc) u.tups u.frzs u.tbls (λm' hm=>by
  obtain⟨o',es',ep',ho',r'⟩:=hm;rw[ho]at ho';cases ho';exact⟨_,es',ep',hL,r'⟩) hok hg
theorem Inv.turned {t' :Nat}{it:Addr}(I:Inv X pins σ H s)(k:∀b o,b ≠ it->s.heap.get? b=some o->h'.get? b=some o)(hn:H it=none)(hL:it ≠ X.env.locals)
  (h1:it∈X.ex\/X.s₀.heap.objs.size<=it) (h2:∀x c,X.env.cells.lookup x=some c->c ≠ it) (h3:∀p∈X.pn++pins,p.1 ≠ it):Inv X pins σ H { s with heap:=h',toks:=t' }:=by
 have nit:∀b u,H b=some u->b ≠ it:=λb u e z=>by rw[z,hn]at e;cases e
 refine I.step (ch:=[it]) (λb hb=> ?_) (λb o _ _ hc e _=>k b o (λz=>hc (by simp[z])) e) (λb o _ _ hc e _=>⟨o.slots,k b o (λz=>hc (by simp[z])) e⟩) (λ_ _ _ _ n=>n)
  (λb o hc e=>⟨o,k b o (λz=>hc (by simp[z])) e⟩) (λ_ _ e=>e) (λ_ _ _ e=>e) (λ_ _ _ e=>e) (λm hm=> ?_) (λb u e=> ?_) I.bare
 ·have e:=by simpa using hb
  subst e;exact⟨h1,hL,h2,h3⟩
 ·obtain⟨o,es,ep,ho,r⟩:=hm;exact⟨o,es,ep,k _ o (bu hL) ho,r⟩
 ·refine(I.hok b u e).stay (λc v hc q=>k c v ?_ q) (λ_ q=>q) λ_ _ q=>q;rcases hc with z | z
  ·rw[z];exact nit b u e
  ·exact nit c _ z
theorem Inv.tok (I:Inv X pins σ H s)(t:Nat):Inv X pins σ H { s with toks:=t }:=I.un Un.refl I.hok
theorem Inv.kept {t' :Nat}(I:Inv X pins σ H s)(k:∀b u,s.heap.get? b=some u->h'.get? b=some u):Inv X pins σ H { s with heap:=h',toks:=t' }:=I.un (Un.kept k) (I.hok.kept k)
theorem Inv.laid {a:Addr}{o:HO}{t' :Nat}(I:Inv X pins σ H s)(k:∀b u,s.heap.get? b=some u->h'.get? b=some u)(hp:s.heap.objs.size<=a)(new:zZ X.prog X.w (upd H a o) h' a o):
  Inv X pins σ (upd H a o) { s with heap:=h',toks:=t' }:=I.un (Un.laid k hp (I.hok.fresh hp)) (I.hok.laid k hp new)
theorem Inv.write {x e:Addr}{o:HO}{t' :Nat}(I:Inv X pins σ H s)(mu:Mut (H x))(he:e=x\/H e=some (.own x))(k:∀b u,b ≠ e->s.heap.get? b=some u->h'.get? b=some u)(heo:∃u,h'.get? e=some u)
  (new:zZ X.prog X.w (upd H x o) h' x o):Inv X pins σ (upd H x o) { s with heap:=h',toks:=t' }:=I.un (Un.write mu he k heo) (I.hok.write mu he k heo new)
theorem Inv.pins_of {pins' :List (Addr×Obj)}(I:Inv X pins σ H s)(h:∀p∈pins',s.heap.get? p.1=some p.2/\H p.1=none/\p.1 ≠ X.env.locals/\p.1 ∉ X.fs/\∀v,p.2.data ≠ .cell v):Inv X pins' σ H s:=
 ⟨I.ok,I.os,I.bare,I.base,I.loc,I.cell,I.free,I.freeC,λp hp=>(aM.mp hp).elim (λz=>I.pin p (bb _ z)) (h p),I.hok,I.len⟩
theorem JX {N:List Str}(hN:N.Nodup){i j:Nat}{x:Str}(a:N[i]? =some x)(b:N[j]? =some x):i=j:=by
 obtain⟨h1,e1⟩:=aO.mp a;obtain⟨h2,e2⟩:=aO.mp b;exact(List.getElem_inj hN).mp (e1.trans e2.symm)
theorem wO {M:Model}{A:Around}{E:Value->Shared->Prop}{i:Nat}{x:Str}{v:V}{u:Value}{Q:Unit->Shared->Prop}(I:Inv X pins σ H s)(hN:X.N.Nodup)(hi:X.N[i]? =some x)(hx:Loc X.env.scope x)(r:zT v u)
  (h:∀s',Inv X pins (σ.set i (some v)) H s' ->(∃a,cL a s.heap s'.heap/\(a=X.env.locals\/X.env.cells.lookup x=some a))->Q () s') (hf:X.fn x=true\/X.env.scope.names.lookup x=some .local:=by first | exact .inl rfl | exact .inr rfl | assumption):wpAny M A (storeName X.env x u) Q E s:=by
 obtain⟨m,hn,hl⟩:=id I.loc;have hcls:(X.env.scope.kind == .class || (X.env.scope.kind == .module && X.env.locals != X.env.globals))=false:=by rw[I.ok.kind];rfl
 have hiσ:i < σ.length:=by rw[I.len];exact(aO.mp hi).1
 have cne:=I.cne;have tracked:∀{a:Addr} {h' :Heap},(∃o,s.heap.get? a=some o/\H a=none)->cL a _ h' ->HOk _ X.w H h' :=λ{a h'} ha hs b ob e=>by
  obtain⟨_,_,hfree⟩:=ha;refine(I.hok b ob e).stay (λc w' hc q=>(hs.2 c ?_).trans q) (λ_ q=>q) λ_ _ q=>q
  rintro rfl
  rcases hc with rfl | hc
  ·rw[hfree]at e;cases e
  ·rw[hfree]at hc;cases hc
 rcases hx with hk | hk
 ·refine wpAny_storeName_local hk hn (λh' hn' hs=> ?_) hcls;obtain⟨oL,_,_,hoL,_⟩:=id hn;refine h _ ⟨I.ok,I.os,I.bare,⟨λb o e n hb hx=> ?_,λb o e n hb hx=> ?_,I.base.free,λb o e hx=> ?_,I.base.tups,I.base.frzs,I.base.tbls⟩,⟨_,hn',λj y v' e1 e2 e3=> ?_⟩,λy c e=> ?_,I.free,I.freeC,λp hp=> ?_,tracked ⟨oL,hoL,I.free⟩ hs,by simpa using I.len⟩ ⟨_,hs,.inl rfl⟩
  ·exact(hs.2 b (aB (ar (ag e) I.ok.above))).trans (I.base.keep b o e n hb hx)
  ·obtain⟨sl,e1⟩:=I.base.slot b o e n hb hx;exact⟨sl,(hs.2 b (aB (ar (ag e) I.ok.above))).trans e1⟩
  ·obtain⟨o',e1⟩:=I.base.there b o e hx;exact⟨o',(hs.2 b (aB (ar (ag e) I.ok.above))).trans e1⟩
  ·by_cases hj:j=i
   ·subst hj;rw[hi]at e1;cases e1;rw[aX hiσ]at e2;cases e2;exact⟨u,r,.inl ⟨hk,by simp⟩⟩
   ·rw[aE (bu hj)]at e2;obtain⟨u',r',q⟩:=hl j y v' e1 e2 e3;refine⟨u',r', ?_⟩;rcases q with ⟨k,e⟩ | ⟨k,c,e,z⟩
    ·refine .inl ⟨k, ?_⟩;have:y ≠ x:=λe=>hj (JX hN e1 (e ▸ hi));simp[this,e]
    ·exact .inr ⟨k,c,e,z.sameBut hs (cne y c e)⟩
  ·obtain⟨w',z⟩:=I.cell y c e;exact⟨w',z.sameBut hs (cne y c e)⟩
  ·obtain⟨e,n,ne,nf,d⟩:=I.pin p hp;exact⟨(hs.2 p.1 ne).trans e,n,ne,nf,d⟩
 ·have hfn:X.fn x=true:=by
   rcases hf with z | z
   ·exact z
   ·rw[z]at hk;cases hk
  obtain⟨c,hc⟩:=I.ok.has x (.inl hk);obtain⟨w',z⟩:=I.cell x c hc;refine wpAny_storeName_cell I.ok.kind hk hc z (λh' hc' hs=> ?_);obtain⟨oc,hoc,hocd⟩:=id z;refine h _ ⟨I.ok,I.os,I.bare,⟨λb o e n hb hx=> ?_,λb o e n hb hx=> ?_,I.base.free,λb o e hx=> ?_,I.base.tups,I.base.frzs,I.base.tbls⟩,⟨m,hn.sameBut hs (bu (cne x c hc)),λj y v' e1 e2 e3=> ?_⟩,λy c' e=> ?_,I.free,I.freeC,λp hp=> ?_,tracked ⟨oc,hoc,I.freeC x c hc⟩ hs,by simpa using I.len⟩ ⟨c,hs,.inr hc⟩
  ·exact(hs.2 b (aB (ar (ag e) (I.ok.cab x c hfn hc)))).trans (I.base.keep b o e n hb hx)
  ·obtain⟨sl,e1⟩:=I.base.slot b o e n hb hx;exact⟨sl,(hs.2 b (aB (ar (ag e) (I.ok.cab x c hfn hc)))).trans e1⟩
  ·obtain⟨o',e1⟩:=I.base.there b o e hx;exact⟨o',(hs.2 b (aB (ar (ag e) (I.ok.cab x c hfn hc)))).trans e1⟩
  ·by_cases hj:j=i
   ·subst hj;rw[hi]at e1;cases e1;rw[aX hiσ]at e2;cases e2;exact⟨u,r,.inr ⟨.inl hk,c,hc,hc'⟩⟩
   ·rw[aE (bu hj)]at e2;obtain⟨u',r',q⟩:=hl j y v' e1 e2 e3;refine⟨u',r', ?_⟩;rcases q with q | ⟨k,c',e,z'⟩
    ·exact .inl q
    ·refine .inr ⟨k,c',e,z'.sameBut hs ?_⟩
     rintro rfl
     exact hj (JX hN e1 (I.ok.inj _ _ _ e hc ▸ hi))
  ·by_cases hcc:c' =c
   ·subst hcc;exact⟨_,hc'⟩
   ·obtain⟨w2,z2⟩:=I.cell y c' e;exact⟨w2,z2.sameBut hs hcc⟩
  ·obtain⟨e,n,ne,nf,d⟩:=I.pin p hp;refine⟨(hs.2 p.1 ?_).trans e,n,ne,nf,d⟩;intro q;rw[q,hoc]at e;have q' :=aq e;exact d w' (by rw[← q'];exact hocd)
theorem jc {M:Model}{A:Around}{E:Value->Shared->Prop}{i:Nat}{x:Str}{v:V}{u:Value}{Q:Unit->Shared->Prop}(I:Inv X pins σ H s)(hN:X.N.Nodup)(hi:X.N[i]? =some x)(hx:Loc X.env.scope x)(r:zT v u)
  (h:∀s',Inv X pins (σ.set i (some v)) H s' ->Q () s') (hf:X.fn x=true\/X.env.scope.names.lookup x=some .local:=by first | exact .inl rfl | exact .inr rfl | assumption):wpAny M A (storeName X.env x u) Q E s:=
 wO I hN hi hx r (λs' I' _=>h s' I') hf
theorem Inv.call' {s' :Shared}{ch:List Addr}(I:Inv X pins σ H s)(ho:s'.os=s.os)(u:Un (frs X.stack) ch H H' s.heap s'.heap)(hok:HOk X.prog X.w H' s'.heap)(hg:AllBare s'.gens)
  (hch:∀b∈ch,(b∈X.ex\/X.s₀.heap.objs.size<=b)/\b ≠ X.env.locals/\(∀x c,X.env.cells.lookup x=some c->c ≠ b)/\∀p∈X.pn++pins,p.1 ≠ b):Inv X pins σ H' s' :=by
 obtain⟨h',g',d',t',o'⟩:=s';have e:=ho;subst e;exact I.call u hok hg hch
end
abbrev XK:=Value->Option Addr->Hp->Prop
noncomputable abbrev St:=List (Option V)
abbrev VK:=V->Hp->Prop
abbrev TE:=St->Hp->VK->Prop
abbrev TT:=St->Hp->(Bool->Hp->Prop)->Prop
abbrev TA:=St->Hp->(List V->Hp->Prop)->Prop
structure Ends where
 nx:St->Hp->Prop
 rt:VK
 bk:St->Hp->Prop:=λ_ _=>False
 ct:St->Hp->Prop:=λ_ _=>False
abbrev TS:=Ends->St->Hp->Prop
def EP (X:Cx)(pins:List (Addr×Obj))(σ:St)(Q:VK)(u:Value)(s' :Shared):Prop:=∃v H',Inv X pins σ H' s' /\zT v u/\Q v H'
def TP (X:Cx)(pins:List (Addr×Obj))(σ:St)(Q:Bool->Hp->Prop)(b:Bool)(s' :Shared):Prop:=∃H',Inv X pins σ H' s' /\Q b H'
def AP (X:Cx)(pins:List (Addr×Obj))(σ:St)(Q:List V->Hp->Prop)(us:List Value)(s' :Shared):Prop:=∃vs H',Inv X pins σ H' s' /\zM vs us/\Q vs H'
def SP (X:Cx)(pins:List (Addr×Obj))(D:Ends)(f:Flow)(s' :Shared):Prop:=
 match f with
 | .next=>∃σ' H',Inv X pins σ' H' s' /\D.nx σ' H'
 | .brk=>∃σ' H',Inv X pins σ' H' s' /\D.bk σ' H'
 | .cont=>∃σ' H',Inv X pins σ' H' s' /\D.ct σ' H'
 | .ret u=>∃v σ' H',Inv X pins σ' H' s' /\zT v u/\D.rt v H'
def PE (X:Cx)(e:Expr)(t:TE):Prop:=
 ∀(pins:List (Addr×Obj)) (s:Shared) (σ:St) (H:Hp) (Q:VK),Inv X pins σ H s->t σ H Q->wpAny (model X.prog X.w) X.A (eval e X.env) (EP X pins σ Q) X.xe s
def PT (X:Cx)(e:Expr)(t:TT):Prop:=
 ∀(pins:List (Addr×Obj)) (s:Shared) (σ:St) (H:Hp) (Q:Bool->Hp->Prop),Inv X pins σ H s->t σ H Q->wpAny (model X.prog X.w) X.A (isTrue e X.env (eval e X.env)) (TP X pins σ Q) X.xe s
def PW (X:Cx)(e:Expr)(t:TT):Prop:=
 ∀(whole:Sem Value) (pins:List (Addr×Obj)) (s:Shared) (σ:St) (H:Hp) (Q:Bool->Hp->Prop),Inv X pins σ H s->t σ H Q->wpAny (model X.prog X.w) X.A (isTrue e X.env whole) (TP X pins σ Q) X.xe s
theorem PW.pt {X:Cx}{e:Expr}{t:TT}(h:PW X e t):PT X e t:=h _
def PA (X:Cx)(es:List Expr)(t:TA):Prop:=
 ∀(pos:Pos) (pins:List _) (s:Shared) (σ:St) (H:Hp) (Q:List V->Hp->Prop),Inv X pins σ H s->t σ H Q->wpAny (model X.prog X.w) X.A (spliced (backTo pos (starEach es X.env))) (AP X pins σ Q) X.xe s
def PS (X:Cx)(st:Stmt)(t:TS):Prop:=
 ∀(pins:List (Addr×Obj)) (s:Shared) (σ:St) (H:Hp) (D:Ends),Inv X pins σ H s->t D σ H->wpAny (model X.prog X.w) X.A (exec st X.env) (SP X pins D) X.xe s
def PSs (X:Cx)(st:List Stmt)(t:TS):Prop:=
 ∀(pins:List (Addr×Obj)) (s:Shared) (σ:St) (H:Hp) (D:Ends),Inv X pins σ H s->t D σ H->wpAny (model X.prog X.w) X.A (execs st X.env) (SP X pins D) X.xe s
theorem thn {α:Type}{t:Sem α}{Q Q' :α->Shared->Prop}{M:Model}{A:Around}{E:Value->Shared->Prop}{s:Shared}(h:wpAny M A t Q E s)(hQ:∀a s,Q a s->Q' a s):wpAny M A t Q' E s:=aG h hQ λ_ _ x=>x
end L2
namespace L2
open PySem PySem.Spec PyProof.Rows
section
variable {X:Cx}
theorem bin {a b:Expr}{ta tb:TE}(ha:PE X a ta)(hb:PE X b tb){pins:List (Addr×Obj)}{s:Shared}{σ:St}{H:Hp}{R:V->V->Hp->Prop}(I:Inv X pins σ H s)(h:ta σ H λx H1=>tb σ H1 λy H2=>R x y H2)
  {α:Type} {Q:α->Shared->Prop} {f:Value->Value->Sem α}
  (hf:∀v u s2 x y H2,Inv X pins σ H2 s2->zT x v->zT y u->R x y H2->wpAny (model X.prog X.w) X.A (f v u) Q X.xe s2):
  wpAny (model X.prog X.w) X.A (eval a X.env) (λv s₁=>wpAny (model X.prog X.w) X.A (eval b X.env) (λu s₂=>wpAny (model X.prog X.w) X.A (f v u) Q X.xe s₂) X.xe s₁) X.xe s:=by
 refine thn (ha _ s σ H _ I h) λv s1 ⟨x,H1,I1,r1,q1⟩=> ?_;refine thn (hb _ s1 σ H1 _ I1 q1) λu s2 ⟨y,H2,I2,r2,q2⟩=> ?_;exact hf v u s2 x y H2 I2 r1 r2 q2
def Y0 (i:Nat):TE:=λσ H Q=>∃v,σ[i]? =some (some v)/\Q v H
def tC (v:V):TE:=λ_ H Q=>Q v H
theorem WY {i:Nat}{x:Str}{pos:Pos}(hN:X.N[i]? =some x)(hv:Vis X.env.scope x)(hd:(x == ("__debug__":Str))=false:=by decide)(hcd:(x == ("__classdict__":Str))=false:=by decide):PE X (.Name x pos) (Y0 i):=by
 intro pins s σ H Q I h;obtain⟨v,e,h⟩:=h;obtain⟨m,hn,hl⟩:=I.loc;obtain⟨u,r,l⟩:=hl i x v hN e hv;have fin:EP X _ σ Q u s:=⟨v,H,I,r,h⟩;rcases l with ⟨hk,hm⟩ | ⟨hk,c,hc,hcell⟩
 ·exact wpAny_Name (wpAny_loadName_local I.ok.kind hk hn hm fin) hd
 ·rcases hk with hk | hk
  ·exact wpAny_Name (wpAny_loadName_cell I.ok.kind hk hc hcell fin) hd
  ·exact wpAny_Name (wpAny_loadName_free I.ok.kind hk hc hcell fin hcd) hd
theorem vZ {i j pos}:PE X (.Constant (.int i) j pos) (tC (.int i)):=λ_ _ _ H _ I h=>wpAny_Constant_int ⟨.int i,H,I.tok _,⟨_,rfl⟩,h⟩
theorem Xy {b j pos}:PE X (.Constant (.bool b) j pos) (tC (.bl b)):=λ_ _ _ H _ I h=>Constant_bool ⟨.bl b,H,I,rfl,h⟩
theorem V0 {j pos}:PE X (.Constant .none j pos) (tC .non):=λ_ _ _ H _ I h=>Constant_none ⟨.non,H,I,rfl,h⟩
theorem Ua {x j pos}:PE X (.Constant (.str x) j pos) (tC (.str x)):=λ_ _ _ H _ I h=>eI ⟨.str x,H,I.tok _,⟨_,rfl⟩,h⟩
noncomputable def Gl (X:Cx)(x:Str):Prop:=X.env.kindOf x=some .globalImplicit
theorem Zv {E:Value->Shared->Prop}{pins:List (Addr×Obj)}{s:Shared}{σ:St}{H:Hp}{x:Str}{u:Value}{pos:Pos}{Q:Value->Shared->Prop}(I:Inv X pins σ H s)(hg:Gl X x)(hm:X.mg x=some u)(h:Q u s)
  (hd:(x == ("__debug__":Str))=false:=by decide):wpAny (model X.prog X.w) X.A (eval (.Name x pos) X.env) Q E s:=
 df I.ok.kind hg (Calls.loadGlobal_global (by rw[I.ok.glob];exact I.mod.glob.keeps I.bk) hm h) hd
theorem jd {E:Value->Shared->Prop}{pins:List (Addr×Obj)}{s:Shared}{σ:St}{H:Hp}{x:Str}{u:Value}{pos:Pos}{Q:Value->Shared->Prop}(I:Inv X pins σ H s)(hg:Gl X x)(hm:X.mg x=none)(hv:bootBuiltins x=some u)(h:Q u s)
  (hn:x ≠ "__name__":=by decide) (hd:(x == ("__debug__":Str))=false:=by decide):wpAny (model X.prog X.w) X.A (eval (.Name x pos) X.env) Q E s:=by
 obtain⟨mb,h1,h2⟩:=I.mod.blt;exact df I.ok.kind hg (Calls.loadGlobal_builtin (by rw[I.ok.glob];exact I.mod.glob.keeps I.bk) hm (by rw[I.ok.blt];exact h1.keeps I.bk) ((h2 x hn).trans hv) h) hd
theorem Ub {x:Str}{v:V}{u:Value}{pos:Pos}(hg:Gl X x)(hm:X.mg x=some u)(r:zT v u)(hd:(x == ("__debug__":Str))=false:=by decide):PE X (.Name x pos) (tC v):=
 λ_ _ _ H _ I h=>Zv I hg hm ⟨v,H,I,r,h⟩ hd
theorem Uc {x:Str}{v:V}{u:Value}{pos:Pos}(hg:Gl X x)(hm:X.mg x=none)(hv:bootBuiltins x=some u)(r:zT v u)(hn:x ≠ "__name__":=by decide)(hd:(x == ("__debug__":Str))=false:=by decide):PE X (.Name x pos) (tC v):=
 λ_ _ _ H _ I h=>jd I hg hm hv ⟨v,H,I,r,h⟩ hn hd
variable {a b:Expr}{ta tb:TE}{pos:Pos}
variable {tA tB' :TT}{rest:List Expr}
def gR (t u:TT):TT:=λσ H Q=>t σ H λc H1=>if c=true then u σ H1 Q else Q false H1
def tOr (t u:TT):TT:=λσ H Q=>t σ H λc H1=>if c=true then Q true H1 else u σ H1 Q
def gS (t:TT):TT:=λσ H Q=>t σ H λc H1=>Q (!c) H1
theorem Q4 (ha:PT X a tA):PW X (.BoolOp .And [a] pos) tA:=by
 intro wh pins s σ H Q I h;refine isTrue_and (thn (ha _ s σ H Q I h) λc s1 e=> ?_);cases c with
 | true=>exact isTrue_and_nil e
 | false=>exact e
theorem V1 (ha:PT X a tA):PW X (.BoolOp .Or [a] pos) tA:=by
 intro wh pins s σ H Q I h;refine isTrue_or (thn (ha _ s σ H Q I h) λc s1 e=> ?_);cases c with
 | false=>exact isTrue_or_nil e
 | true=>exact e
theorem V2 (ha:PT X a tA)(hb:PW X (.BoolOp .And (b :: rest) pos) tB'):PW X (.BoolOp .And (a :: b :: rest) pos) (gR tA tB'):=by
 intro wh pins s σ H Q I h;refine isTrue_and (thn (ha _ s σ H _ I h) λc s1 ⟨H1,I1,q1⟩=> ?_);cases c with
 | true=>exact hb wh _ s1 σ H1 Q I1 q1
 | false=>exact⟨H1,I1,q1⟩
theorem Xz (ha:PT X a tA)(hb:PW X (.BoolOp .Or (b :: rest) pos) tB'):PW X (.BoolOp .Or (a :: b :: rest) pos) (tOr tA tB'):=by
 intro wh pins s σ H Q I h;refine isTrue_or (thn (ha _ s σ H _ I h) λc s1 ⟨H1,I1,q1⟩=> ?_);cases c with
 | true=>exact⟨H1,I1,q1⟩
 | false=>exact hb wh _ s1 σ H1 Q I1 q1
theorem V3 (ha:PT X a tA):PT X (.UnaryOp .Not a pos) (gS tA):=by
 intro pins s σ H Q I h;exact isTrue_not (ha _ s σ H (λc H1=>Q _ H1) I h)
def XA (ta tb:TE):TE:=λσ H Q=>ta σ H λx H1=>∃c,x= .bl c/\if c=true then tb σ H1 Q else Q (.bl false) H1
def XB (ta:TE):TE:=λσ H Q=>ta σ H λx H1=>∃c,x= .bl c/\Q (.bl (!c)) H1
theorem V4 {op}{t:TE}(h:PE X a t):PE X (.BoolOp op [a] pos) t:=λpins s σ H Q I hw=>BoolOp_one (h _ s σ H Q I hw)
theorem V5 (ha:PE X a ta)(hb:PE X (.BoolOp .And (b :: rest) pos) tb):PE X (.BoolOp .And (a :: b :: rest) pos) (XA ta tb):=by
 intro pins s σ H Q I h;refine BoolOp_and (thn (ha _ s σ H _ I h) λv s1 ⟨x,H1,I1,r1,q1⟩=> ?_);obtain⟨c,rfl,q1⟩:=q1;cases r1;refine ba ?_;cases c with
 | true=>exact hb _ s1 σ H1 Q I1 q1
 | false=>exact⟨.bl _,H1,I1,rfl,q1⟩
theorem V6 (ha:PE X a ta):PE X (.UnaryOp .Not a pos) (XB ta):=by
 intro pins s σ H Q I h;refine UnaryOp_ (thn (ha _ s σ H _ I h) λv s1 ⟨x,H1,I1,r1,q1⟩=> ?_);obtain⟨c,rfl,q1⟩:=q1;cases r1;exact not_of (ba ⟨.bl _,H1,I1,rfl,q1⟩)
def tIf (t:TT)(ta tb:TE):TE:=λσ H Q=>t σ H λc H1=>if c=true then ta σ H1 Q else tb σ H1 Q
theorem Y1 {c:Expr}(hc:PT X c tA)(ha:PE X a ta)(hb:PE X b tb):PE X (.IfExp c a b pos) (tIf tA ta tb):=by
 intro pins s σ H Q I h;refine wpAny_IfExp (thn (hc _ s σ H _ I h) λd s1 ⟨H1,I1,q1⟩=> ?_);cases d with
 | true=>exact ha _ s1 σ H1 Q I1 q1
 | false=>exact hb _ s1 σ H1 Q I1 q1
end
end L2
namespace L2
open PySem PySem.Spec PyProof.Rows
def SqL (K:a6)(H:Hp)(a:Addr)(xs:List V):Prop:=
 Rd H a (.lst xs)\/
  ∃(o:Obj) (its:Array Value) (n:Nat),K.lookup a=some o/\o.cls= .type "list"/\o.dict=none/\o.data= .seq its n/\its.size<=sizeLine/\zM xs its.toList
def SqT (K:a6)(H:Hp)(a:Addr)(xs:List V):Prop:=
 Rd H a (.tup xs)\/
  ∃(o:Obj) (its:Array Value) (n:Nat),K.lookup a=some o/\o.cls= .type "tuple"/\o.data= .seq its n/\its.size<=sizeLine/\zM xs its.toList
noncomputable def gT:Value->Option V
 | .none=>some .non
 | .bool b=>some (.bl b)
 | .int i _=>some (.int i)
 | .str x _=>some (.str x)
 | .bytes b _=>some (.byt b)
 | .float b _=>some (.flt b)
 | .ref a=>some (.ref a)
 | .type n=>some (.ty n)
 | _=>none
theorem zT.abs {x:V}{u:Value}(r:zT x u):gT u=some x:=by
 cases x with
 | non=>cases r;rfl
 | bl _=>cases r;rfl
 | int _=>obtain⟨t,rfl⟩:=r;rfl
 | str _=>obtain⟨t,rfl⟩:=r;rfl
 | byt _=>obtain⟨t,rfl⟩:=r;rfl
 | flt _=>obtain⟨t,rfl⟩:=r;rfl
 | ref _=>cases r;rfl
 | ty _=>cases r;rfl
theorem zT.inj {x y:V}{u:Value}(r:zT x u)(q:zT y u):x=y:=aq (r.abs.symm.trans q.abs)
theorem zM.inj:∀{xs ys:List V} {us:List Value},zM xs us->zM ys us->xs=ys
 | _,_,_,.nil,.nil=>rfl
 | _,_,_,.cons r t,.cons r' t' =>by rw[r.inj r',zM.inj t t']
section
variable {X:Cx}{pins:List (Addr×Obj)}{σ:St}{H:Hp}{s:Shared}{a:Addr}{xs ys:List V}
theorem SqL.of {K:a6}(h:H a=some (.lst xs)):SqL K H a xs:= .inl (.inl h)
theorem SqT.of {K:a6}(h:H a=some (.tup xs)):SqT K H a xs:= .inl (.inl h)
theorem Inv.list (I:Inv X pins σ H s)(h:SqL X.K H a xs):∃its:List Value,zM xs its/\PlainL s.heap a its.toArray/\xs.length<=sizeLine:=by
 rcases h with h | ⟨o,its,n,hk,hc,hd,hs,hz,r⟩
 ·obtain⟨z,its,n,r,e⟩:=h.ok I.hok;exact⟨its,r,⟨_,n,e,rfl,rfl,rfl⟩,z⟩
 ·refine⟨its.toList,r,⟨o,n,I.kIn a o hk,hc,hd,by simpa using hs⟩, ?_⟩
  have e:=r.length;simp only[cz]at e;omega
theorem Inv.tuple (I:Inv X pins σ H s)(h:SqT X.K H a xs):∃its:List Value,zM xs its/\IsTup s.heap a its.toArray/\xs.length<=sizeLine:=by
 rcases h with h | ⟨o,its,n,hk,hc,hs,hz,r⟩
 ·obtain⟨z,its,r,p,_⟩:=h.ok I.hok;exact⟨its,r,p,z⟩
 ·refine⟨its.toList,r,⟨o,I.kIn a o hk,hc,n,by simpa using hs⟩, ?_⟩
  have e:=r.length;simp only[cz]at e;omega
theorem Inv.list_inj (I:Inv X pins σ H s)(h:SqL X.K H a xs)(h' :SqL X.K H a ys):xs=ys:=by
 obtain⟨its,r,⟨o,n,e,_,_,d⟩,_⟩:=I.list h;obtain⟨its',r',⟨o',n',e',_,_,d'⟩,_⟩:=I.list h';rw[e]at e';cases e';rw[d]at d';injection d' with d1 _;have:=by simpa using congrArg Array.toList d1
 subst this;exact r.inj r'
theorem Inv.tuple_inj (I:Inv X pins σ H s)(h:SqT X.K H a xs)(h' :SqT X.K H a ys):xs=ys:=by
 obtain⟨its,r,⟨o,e,_,n,d⟩,_⟩:=I.tuple h;obtain⟨its',r',⟨o',e',_,n',d'⟩,_⟩:=I.tuple h';rw[e]at e';cases e';rw[d]at d';injection d' with d1 _;have:=by simpa using congrArg Array.toList d1
 subst this;exact r.inj r'
end
noncomputable abbrev Cx.wish (X:Cx)(E:Value->Shared->Prop):Cx:={ X with xe:=E }
abbrev Cx.nox (X:Cx):Cx:=X.wish λ_ _=>False
theorem Cx.Ok.wish {X:Cx}(ok:X.Ok)(E:Value->Shared->Prop):(X.wish E).Ok:=
 ⟨ok.mod,ok.kind,ok.glob,ok.blt,ok.above,ok.inj,ok.has,ok.cab,ok.hd,ok.frames,ok.stk,ok.exf,ok.bs,ok.bsz,ok.noex,ok.exfs,ok.funs,ok.frf⟩
theorem Cx.Ok.unwish {X:Cx}{E:Value->Shared->Prop}(ok:(X.wish E).Ok):X.Ok:=
 ⟨ok.mod,ok.kind,ok.glob,ok.blt,ok.above,ok.inj,ok.has,ok.cab,ok.hd,ok.frames,ok.stk,ok.exf,ok.bs,ok.bsz,ok.noex,ok.exfs,ok.funs,ok.frf⟩
section
variable {X:Cx}{pins:List (Addr×Obj)}{σ:St}{H:Hp}{s:Shared}{E:Value->Shared->Prop}
theorem Inv.wish (I:Inv X pins σ H s)(E:Value->Shared->Prop):Inv (X.wish E) pins σ H s:=⟨I.ok.wish E,I.os,I.bare,I.base,I.loc,I.cell,I.free,I.freeC,I.pin,I.hok,I.len⟩
theorem Inv.unwish (I:Inv (X.wish E) pins σ H s):Inv X pins σ H s:=⟨I.ok.unwish,I.os,I.bare,I.base,I.loc,I.cell,I.free,I.freeC,I.pin,I.hok,I.len⟩
theorem SP.unwish {D:Ends}{f:Flow}{s' :Shared}(h:SP (X.wish E) pins D f s'):SP X pins D f s' :=by
 cases f with
 | next=>obtain⟨σ',H',I,q⟩:=h;exact⟨σ',H',I.unwish,q⟩
 | brk=>obtain⟨σ',H',I,q⟩:=h;exact⟨σ',H',I.unwish,q⟩
 | cont=>obtain⟨σ',H',I,q⟩:=h;exact⟨σ',H',I.unwish,q⟩
 | ret u=>obtain⟨v,σ',H',I,r,q⟩:=h;exact⟨v,σ',H',I.unwish,r,q⟩
theorem PSs.nox {st:List Stmt}{t:TS}(h:PSs X.nox st t):PSs X st t:=λpins s σ H D I hw=>
 aG (h _ s σ H D (I.wish _) hw) (λ_ _ q=>q.unwish) λ_ _ z=>aU z
end
section
variable {X:Cx}{st:Stmt}{rest:List Stmt}{t u:TS}{e:Expr}{te:TE}{pos:Pos}
def XF:TS:=λD σ H=>D.nx σ H
def g6 (t u:TS):TS:=λD σ H=>t { D with nx:=u D } σ H
theorem Q5:PSs X [] XF:=λ_ _ σ H _ I h=>bN ⟨σ,H,I,h⟩
theorem Y2 (h1:PS X st t)(h2:PSs X rest u):PSs X (st :: rest) (g6 t u):=by
 intro pins s σ H D I h;refine wpAny_execs_cons (thn (h1 _ s σ H _ I h) λf s1 q=> ?_);cases f with
 | next=>
  obtain⟨σ',H',I',q⟩:=q;exact h2 _ s1 σ' H' D I' q
 | ret v=>exact q
 | brk=>exact q
 | cont=>exact q
theorem Ud (h1:PS X st t):PSs X [st] t:=by
 intro pins s σ H D I h;refine wpAny_execs_cons (thn (h1 _ s σ H D I h) λf s1 q=> ?_);cases f with
 | next=>exact bN q
 | ret v=>exact q
 | brk=>exact q
 | cont=>exact q
theorem Inv.quiet {pins:List (Addr×Obj)}{σ:St}{H:Hp}{s:Shared}(I:Inv X pins σ H s):interactive X.env=false:=by simp[interactive,I.ok.kind]
def XG (te:TE):TS:=λD σ H=>te σ H λ_ H1=>D.nx σ H1
theorem WA (he:PE X e te)(hs:swapsWith e none pos.line X.env=pure false:=by rfl):PS X (.Expr e pos) (XG te):=by
 intro pins s σ H D I h;exact wpAny_Expr_any (thn (he _ s σ H _ I h) λv s1 ⟨x,H1,I1,r1,q1⟩=>⟨σ,H1,I1,q1⟩) I.quiet hs
def XH (te:TE):TS:=λD σ H=>te σ H D.rt
theorem qe (he:PE X e te):PS X (.Return (some e) pos) (XH te):=by
 intro pins s σ H D I h;exact wpAny_Return_some (thn (he _ s σ H _ I h) λv s1 ⟨x,H1,I1,r1,q1⟩=>⟨x,σ,H1,I1,r1,q1⟩)
def g7 (c:TT)(t u:TS):TS:=λD σ H=>c σ H λb H1=>if b=true then t D σ H1 else u D σ H1
theorem XI {c:Expr}{a b:List Stmt}{tc:TT}(hc:PT X c tc)(ha:PSs X a t)(hb:PSs X b u):PS X (.If c a b pos) (g7 tc t u):=by
 intro pins s σ H D I h;refine wpAny_If (thn (hc _ s σ H _ I h) λd s1 ⟨H1,I1,q1⟩=> ?_);cases d with
 | true=>exact ha _ s1 σ H1 D I1 q1
 | false=>exact hb _ s1 σ H1 D I1 q1
end
abbrev TG:=V->St->Hp->(St->Hp->Prop)->Prop
abbrev TGs:=List V->St->Hp->(St->Hp->Prop)->Prop
def PG (X:Cx)(target:Expr)(t:TG):Prop:=
 ∀(pins:List (Addr×Obj)) (s:Shared) (σ:St) (H:Hp) (v:V) (u:Value) (Q:St->Hp->Prop),Inv X pins σ H s->zT v u->t v σ H Q->
  wpAny (model X.prog X.w) X.A (assign target X.env u) (λ_ s' =>∃σ' H',Inv X pins σ' H' s' /\Q σ' H') X.xe s
def PGs (X:Cx)(ts:List Expr)(t:TGs):Prop:=
 ∀(pins:List (Addr×Obj)) (s:Shared) (σ:St) (H:Hp) (vs:List V) (us:List Value) (Q:St->Hp->Prop),Inv X pins σ H s->zM vs us->t vs σ H Q->
  wpAny (model X.prog X.w) X.A (assignInOrder ((assignEach ts X.env).map (·.2)) us) (λ_ s' =>∃σ' H',Inv X pins σ' H' s' /\Q σ' H') X.xe s
section
variable {X:Cx}{pos:Pos}
def jN (i:Nat):TG:=λv σ H Q=>Q (σ.set i (some v)) H
theorem ZK {i:Nat}{x:Str}(hN:X.N.Nodup)(hi:X.N[i]? =some x)(hx:Loc X.env.scope x)(hf:X.fn x=true\/X.env.scope.names.lookup x=some .local:=by first | exact .inl rfl | exact .inr rfl | assumption):PG X (.Name x pos) (jN i):=by
 intro pins s σ H v u Q I r h;exact wpAny_assign_Name (jc I hN hi hx r (λs' I' =>⟨_,H,I',h⟩) hf)
def XJ:TGs:=λvs σ H Q=>vs=[]/\Q σ H
def Ue (t:TG)(u:TGs):TGs:=λvs σ H Q=>∃v r,vs=v :: r/\t v σ H λσ' H' =>u r σ' H' Q
theorem Uf:PGs X [] XJ:=by
 intro pins s σ H vs us Q I r h;obtain⟨e,h⟩:=h;exact assignInOrder_nil ⟨σ,H,I,h⟩
theorem jS {e:Expr}{es:List Expr}{t:TG}{u:TGs}(h1:PG X e t)(h2:PGs X es u)
  (hs:(assignEach (e :: es) X.env).map (·.2)=assign e X.env :: (assignEach es X.env).map (·.2):=by rfl):PGs X (e :: es) (Ue t u):=by
 intro pins s σ H vs us Q I r h;obtain⟨v,vr,e1,h⟩:=h;subst e1;cases r with
 | cons r rr=>
  rw[hs];refine assignInOrder_cons (thn (h1 _ s σ H _ _ _ I r h) λ_ s1 ⟨σ1,H1,I1,q1⟩=> ?_);exact h2 _ s1 σ1 H1 _ _ Q I1 rr q1
def Xl (K:a6)(n:Nat)(t:TGs):TG:=λv σ H Q=>∃a xs,v= .ref a/\SqT K H a xs/\xs.length=n/\t xs σ H Q
theorem qf {es:List Expr}{k:Nat}{t:TGs}{n:Nat}(hc:X.calm=true)(h:PGs X es t)
  (hn:(assignEach es X.env).length=n:=by rfl) (hst:(assignEach es X.env).findIdx? (·.1)=none:=by rfl):PG X (.Tuple es k pos) (Xl X.K n t):=by
 intro pins s σ H v u Q I r hw;obtain⟨a,xs,e1,hq,hl,hw⟩:=hw;subst e1;cases r;obtain⟨its,rv,ht,hz⟩:=I.tuple hq;refine assign_Tuple_tuple (I.ok.hd hc) ht (by simp[hn,← hl,rv.length]) hst λh' hx=> ?_
 have I1:Inv X _ σ H { s with heap:=h' }:=I.kept λb o e=>hx b o (aB (ag e)) e;exact h _ _ σ H xs _ Q I1 (by simpa using rv) hw
def g8 (te:TE)(g:TG):TS:=λD σ H=>te σ H λx H1=>g x σ H1 D.nx
theorem qg {i:Nat}{x:Str}{e:Expr}{te:TE}{pos' :Pos}(hN:X.N.Nodup)(hi:X.N[i]? =some x)(hx:Loc X.env.scope x)(he:PE X e te)(hs:swapsWith e (some (.Name x pos')) pos.line X.env=pure false:=by rfl)(hf:X.fn x=true\/X.env.scope.names.lookup x=some .local:=by first | exact .inl rfl | exact .inr rfl | assumption):
  PS X (.Assign [.Name x pos'] e pos) (g8 te (jN i)):=by
 intro pins s σ H D I h;refine wpAny_Assign_Name (thn (he _ s σ H _ I h) λv s1 ⟨y,H1,I1,r1,q1⟩=> ?_) hs;exact jc I1 hN hi hx r1 (λs2 I2=>⟨_,H1,I2,q1⟩) hf
end
structure It where
 go:Nat->Hp->Prop
 yld:Nat->Hp->V->Hp->Prop
 stop:Nat->Hp->Prop
def jW (X:Cx)(pins:List (Addr×Obj))(H:Hp)(b:Addr):Prop:=
 H b=none/\b ≠ X.env.locals/\b ∉ X.fs/\(b∈X.ex\/X.s₀.heap.objs.size<=b)/\(∀x c,X.env.cells.lookup x=some c->c ≠ b)/\∀p∈X.pn++pins,p.1 ≠ b
theorem Inv.fpOk {X:Cx}{pins:List (Addr×Obj)}{σ:St}{H H' :Hp}{s:Shared}{b:Addr}(I:Inv X pins σ H s)(hb:s.heap.objs.size<=b)(hn:H' b=none):jW X pins H' b:=by
 refine⟨hn,ce (ar I.lt hb),I.nofs hb,.inr (aC I.sz hb),λx c e z=> ?_,λp hp z=> ?_⟩
 ·obtain⟨v,q⟩:=I.cell x c e;exact absurd (ar q.lt (by rw[z];exact hb)) (aS _)
 ·exact absurd (ar (ag (I.pin p hp).1) (by rw[z];exact hb)) (aS _)
structure U2 (P:Program) (w:World) (K:a6) (tg:Expr) (J:It) (fp:List Addr) (it:Addr) (tn:Nat->Heap->Prop):Prop where
 mem:it∈fp
 obj:∀i h,tn i h->∀b∈fp,∃o,h.get? b=some o/\∀v,o.data ≠ .cell v
 keep:∀i h h',tn i h->(∀b∈fp,∀o,h.get? b=some o->h'.get? b=some o)->tn i h'
 item:∀(X:Cx),X.prog=P->X.w=w->X.K=K->X.calm=true->∀(i:Nat) (pins:List (Addr×Obj)) (s:Shared) (σ:St) (H:Hp) (E:Value->Shared->Prop),Inv X pins σ H s->(∀b∈fp,jW X pins H b)->tn i s.heap->J.go i H->
  wpAny (model P w) X.A (pyNext (.ref it)) (λr s1=>∃u,r=some u/\
   wpAny (model P w) X.A (letOwnedTupleGo tg (.ref it) u) (λ_ s2=>∃x H',Inv X pins σ H' s2/\zT x u/\J.yld i H x H' /\tn (i+1) s2.heap/\∀b∈fp,H' b=none) E s1) E s
 done:∀(X:Cx),X.prog=P->X.w=w->X.K=K->X.calm=true->∀(i:Nat) (pins:List (Addr×Obj)) (s:Shared) (σ:St) (H:Hp) (E:Value->Shared->Prop),Inv X pins σ H s->(∀b∈fp,jW X pins H b)->tn i s.heap->J.stop i H->
  wpAny (model P w) X.A (pyNext (.ref it)) (λr s1=>r=none/\Inv X pins σ H s1) E s
 self:∀(A:Around) (i:Nat) (s:Shared) (Q:Value->Shared->Prop) (E:Value->Shared->Prop),tn i s.heap->Q (.ref it) s->wpAny (model P w) A (pyIter (.ref it)) Q E s
abbrev TI:=St->Hp->(It->Hp->Prop)->Prop
def PIE (X:Cx)(pins:List (Addr×Obj))(σ:St)(tg:Expr)(R:It->Hp->Prop)(itv:Value)(s2:Shared):Prop:=
 ∃(it:Addr) (fp:List Addr) (tn:Nat->Heap->Prop) (J:It) (H' :Hp),itv= .ref it/\Inv X pins σ H' s2/\U2 X.prog X.w X.K tg J fp it tn/\tn 0 s2.heap/\(∀b∈fp,jW X pins H' b)/\R J H'
def PI (X:Cx)(tg iter:Expr)(wi:TI):Prop:=
 ∀(pins:List (Addr×Obj)) (s:Shared) (σ:St) (H:Hp) (R:It->Hp->Prop),Inv X pins σ H s->wi σ H R->
  wpAny (model X.prog X.w) X.A (eval iter X.env) (λv s1=>wpAny (model X.prog X.w) X.A (pyIter v) (PIE X pins σ tg R) X.xe s1) X.xe s
theorem Y3 {M:Model}{A:Around}{E:Value->Shared->Prop}{s:Shared}{tg:Expr}{it:Addr}{u:Value}{o:Obj}{n:String}{vs:Array Value}{Q:Unit->Shared->Prop}(ho:s.heap.get? it=some o)(hc:o.cls= .type n)(hd:o.data= .fields vs)
  (hn:["enumerate","zip","dict_itemiterator","dict_reverseitemiterator","odict_iterator","itertools.zip_longest","itertools.pairwise"].contains n=false) (hQ:Q () s):wpAny M A (letOwnedTupleGo tg (.ref it) u) Q E s:=by
 cases tg <;> first
  | exact aw hQ
  | (cases u <;> first
    | exact aw hQ
    | (refine a8 (wpAny_load ho ?_);rw[hc,hd];show wpAny M A (if (["enumerate","zip","dict_itemiterator","dict_reverseitemiterator","odict_iterator","itertools.zip_longest","itertools.pairwise"].contains n && vs[0]? == some _)=true then _ else _) Q E s;rw[if_neg (by intro h;rw[hn]at h;cases h)];exact aw hQ))
def Itl (K:a6)(a:Addr):It:=
 ⟨λi H=>∃xs x,SqL K H a xs/\xs[i]? =some x,λi H x H' =>H' =H/\∀xs,SqL K H a xs->xs[i]? =some x,λi H=>∃xs,SqL K H a xs/\xs.length<=i⟩
def Itt (K:a6)(a:Addr):It:=
 ⟨λi H=>∃xs x,SqT K H a xs/\xs[i]? =some x,λi H x H' =>H' =H/\∀xs,SqT K H a xs->xs[i]? =some x,λi H=>∃xs,SqT K H a xs/\xs.length<=i⟩
noncomputable def Itr (lo:Int)(n:Nat):It:=⟨λi _=>i < n,λi H x H' =>H' =H/\x= .int (lo+i),λi _=>n<=i⟩
theorem Ug {P:Program}{w:World}{K:a6}{tg:Expr}(a it:Addr):U2 P w K tg (Itl K a) [it] it (λi h=>h.IsListIter it a i) where
 mem:=by simp
 obj:=λi h st b hb=>by
  have e:b=it:=by simpa using hb
  subst e;obtain⟨o,e,c,d⟩:=st;exact⟨o,e,λv z=>by rw[d]at z;cases z⟩
 keep:=λi h h' st k=>st.at λo e=>k it (by simp) o e
 item:=by
  intro X hP hw hK hc i pins s σ H E I hf st hg;subst hP hw hK;obtain⟨xs,x,hq,hx⟩:=hg;obtain⟨its,rv,p,hz⟩:=I.list hq;obtain⟨u,hu,ru⟩:=rv.get hx;obtain⟨f0,f1,f2,f3,f4,f5⟩:=hf it (by simp)
  refine wpAny_pyNext_list_item st p.isList (x:=u) (by simpa using hu) λh' st' sb=> ?_
  have I1:Inv X pins σ H { s with heap:=h' }:=I.turned (t' :=s.toks) (λb o hb e=>(sb.2 b hb).trans e) f0 f1 f3 f4 f5;obtain⟨o,e,c,d⟩:=id st';exact⟨u,rfl,Y3 (s:={ s with heap:=h' }) e c d (by decide) ⟨x,H,I1,ru,⟨rfl,λys hy=>by rw[I.list_inj hy hq];exact hx⟩,st',λb hb=>(hf b hb).1⟩⟩
 done:=by
  intro X hP hw hK hc i pins s σ H E I hf st hg;subst hP hw hK;obtain⟨xs,hq,hx⟩:=hg;obtain⟨its,rv,p,hz⟩:=I.list hq;obtain⟨f0,f1,f2,f3,f4,f5⟩:=hf it (by simp)
  have hl:=rv.length;exact wpAny_pyNext_list_end (I.ok.hd hc) st p.isList (by simp;omega) λh' eb=>⟨rfl,I.turned (t' :=s.toks) (λb o hb e=>eb b o hb e) f0 f1 f3 f4 f5⟩
 self:=λ_ _ _ _ _ st h=>wpAny_pyIter_listiter st h
theorem uy {P:Program}{w:World}{K:a6}{tg:Expr}(a it:Addr):U2 P w K tg (Itt K a) [it] it (λi h=>h.IsTupleIter it a i) where
 mem:=by simp
 obj:=λi h st b hb=>by
  have e:b=it:=by simpa using hb
  subst e;obtain⟨o,e,c,d⟩:=st;exact⟨o,e,λv z=>by rw[d]at z;cases z⟩
 keep:=λi h h' st k=>st.at λo e=>k it (by simp) o e
 item:=by
  intro X hP hw hK hc i pins s σ H E I hf st hg;subst hP hw hK;obtain⟨xs,x,hq,hx⟩:=hg;obtain⟨its,rv,p,hz⟩:=I.tuple hq;obtain⟨u,hu,ru⟩:=rv.get hx;obtain⟨f0,f1,f2,f3,f4,f5⟩:=hf it (by simp)
  refine wpAny_pyNext_tuple_item st (show s.heap.IsTuple a its.toArray from p) (x:=u) (by simpa using hu) λh' st' sb=> ?_
  have I1:Inv X pins σ H { s with heap:=h' }:=I.turned (t' :=s.toks) (λb o hb e=>(sb.2 b hb).trans e) f0 f1 f3 f4 f5;obtain⟨o,e,c,d⟩:=id st';exact⟨u,rfl,Y3 (s:={ s with heap:=h' }) e c d (by decide) ⟨x,H,I1,ru,⟨rfl,λys hy=>by rw[I.tuple_inj hy hq];exact hx⟩,st',λb hb=>(hf b hb).1⟩⟩
 done:=by
  intro X hP hw hK hc i pins s σ H E I hf st hg;subst hP hw hK;obtain⟨xs,hq,hx⟩:=hg;obtain⟨its,rv,p,hz⟩:=I.tuple hq;obtain⟨f0,f1,f2,f3,f4,f5⟩:=hf it (by simp)
  have hl:=rv.length;exact wpAny_pyNext_tuple_end (I.ok.hd hc) st (show s.heap.IsTuple a its.toArray from p) (by simp;omega) λh' eb=>⟨rfl,I.turned (t' :=s.toks) (λb o hb e=>eb b o hb e) f0 f1 f3 f4 f5⟩
 self:=λ_ _ _ _ _ st h=>wpAny_pyIter_tupleiter st h
theorem uz {P:Program}{w:World}{K:a6}{tg:Expr}(it:Addr)(lo:Int)(n:Nat):U2 P w K tg (Itr lo n) [it] it (λi h=>IsRangeIter h it (lo+(i:Nat)*1) ((n:Int) - (i:Nat)) 1) where
 mem:=by simp
 obj:=λi h st b hb=>by
  have e:b=it:=by simpa using hb
  subst e;exact⟨_,st,λv z=>by
   have z' :Data.fields _=Data.cell v:=z;cases z'⟩
 keep:=λi h h' st k=>k it (by simp) _ st
 item:=by
  intro X hP hw hK hc i pins s σ H E I hf st hg;subst hP hw hK;obtain⟨f0,f1,f2,f3,f4,f5⟩:=hf it (by simp)
  have W:=Walks.range (prog:=X.prog) (w:=X.w) (I.ok.hd hc) it lo 1 n;refine W.item i s _ _ hg st λv h' tk hv st' kk=> ?_;obtain⟨t,rfl⟩:=hv;have I1:Inv X pins σ H { s with heap:=h',toks:=tk }:=I.turned (λb o hb e=>kk b o (by simpa using hb) e) f0 f1 f3 f4 f5
  refine⟨_,rfl,Y3 (s:={ s with heap:=h',toks:=tk }) (n:="range_iterator") st' rfl rfl (by decide) ⟨.int (lo+i),H,I1,⟨t, ?_⟩,⟨rfl,rfl⟩,st',λb hb=>(hf b hb).1⟩⟩
  rw[Int.mul_one]
 done:=by
  intro X hP hw hK hc i pins s σ H E I hf st hg;subst hP hw hK;obtain⟨f0,f1,f2,f3,f4,f5⟩:=hf it (by simp)
  exact wpAny_pyNext_range_end (I.ok.hd hc) st (by have:n<=i:=hg;omega) λh' eb=>⟨rfl,I.turned (t' :=s.toks) (λb o hb e=>eb b o hb e) f0 f1 f3 f4 f5⟩
 self:=λ_ _ _ _ _ st h=>wpAny_pyIter_rangeiter st h
end L2
namespace L2
open PySem PySem.Spec PyProof.Rows
section
variable {X:Cx}{tg:Expr}
theorem Y4 {pins:List (Addr×Obj)}{σ:St}{H:Hp}{s:Shared}{R:It->Hp->Prop}{E:Value->Shared->Prop}{lo hi:Int}{t u v:Tok}{tk:Nat}(I:Inv X pins σ H s)(h1: -(2 ^ 62)<=lo)(h2:lo < 2 ^ 62)(h3: -(2 ^ 62)<=hi)(h4:hi < 2 ^ 62)
  (q:R (Itr lo (hi - lo).toNat) H):wpAny (model X.prog X.w) X.A (pyIter (.ref s.heap.objs.size)) (PIE X pins σ tg R) E { s with heap:=s.heap.push { cls:= .type "range",data:= .fields #[.int lo t,.int hi u,.int 1 v] },toks:=tk }:=by
 refine wpAny_pyIter_range (IsRange.new ..) (small_one h1 h2 h3 h4) ?_;have I1:Inv X _ σ H { s with heap:=s.heap.push { cls:= .type "range",data:= .fields #[.int lo t,.int hi u,.int 1 v] },toks:=tk }:=I.kept λb o e=>a7 _ e;refine⟨(s.heap.push _).objs.size,[(s.heap.push _).objs.size],_,_,H,rfl,
  I1.kept λb o e=>a7 _ e,uz _ lo _, ?_,λb hb=> ?_,q⟩
 ·have e1:lo+((0:Nat))*1=lo:=by simp
  have e2:(((hi - lo).toNat):Int) - ((0:Nat))=Builtin.Range.rangeSize lo hi 1:=by rw[rangeSize_one];split <;> omega
  rw[e1,e2];exact am _ rfl
 ·have e:b=(s.heap.push { cls:= .type "range",data:= .fields #[.int lo t,.int hi u,.int 1 v] }).objs.size:=by simpa using hb
  subst e;exact I1.fpOk (aj _) (I1.hok.fresh (aj _))
def XL (ta:TA):TI:=λσ H R=>ta σ H λvs H1=>∃j:Int,vs=[.int j]/\ -(2 ^ 62)<=j/\j < 2 ^ 62/\R (Itr 0 j.toNat) H1
theorem Uh {a:Expr}{ta:TA}{p pos:Pos}(hg:Gl X "range")(hm:X.mg "range"=none)(ha:PA X [a] ta)(hs:starEach [a] X.env=[(false,eval a X.env)]:=by rfl):PI X tg (.Call (.Name "range" p) [a] [] pos) (XL ta):=by
 intro pins s σ H R I h;refine Call_ (jd I hg hm boot_range (bP (thn (ha pos _ s σ H _ I h) λus s1 ⟨vs,H1,I1,r1,q1⟩=> ?_) hs rfl));obtain⟨j,e,q1,q2,q⟩:=q1;subst e;cases r1 with
 | cons r rr=>
  cases rr;obtain⟨t,rfl⟩:=r;exact call_range_1 (Y4 I1 (by omega) (by omega) q1 q2 (by simpa using q))
def g9 (wi:TI)(g:TG)(tb:TS):TS:=λD σ H=>wi σ H λJ H1=>∃W:Nat->Nat->St->Hp->Prop,(∃m,W 0 m σ H1)/\∀i m σ H,W i m σ H->
 (J.stop i H/\D.nx σ H)\/(J.go i H/\∃N:St->Hp->Prop,(∀σ' H',N σ' H' ->∃m',m' < m/\W (i+1) m' σ' H')/\∀x H',J.yld i H x H' ->g x σ H' λσ2 H2=>tb { D with nx:=N,ct:=N,bk:=D.nx } σ2 H2)
noncomputable def wP (fp:List Addr)(h:Heap):List (Addr×Obj):=fp.filterMap λb=>(h.get? b).map λo=>(b,o)
theorem zU {fp:List Addr}{h:Heap}{b:Addr}{o:Obj}(hb:b∈fp)(e:h.get? b=some o):(b,o)∈wP fp h:=bS.mpr ⟨b,hb,by rw[e];rfl⟩
theorem Ui {fp:List Addr}{h:Heap}{p:Addr×Obj}(hp:p∈wP fp h):p.1∈fp/\h.get? p.1=some p.2:=by
 obtain⟨b,hb,e⟩:=bS.mp hp;cases q:h.get? b with
 | none=>rw[q]at e;cases e
 | some o=>
  rw[q]at e;have e' :=aq e;subst e';exact⟨hb,q⟩
theorem Inv.pinned {pins:List (Addr×Obj)}{σ:St}{H:Hp}{s:Shared}{fp:List Addr}(I:Inv X pins σ H s)(hf:∀b∈fp,jW X pins H b)(ho:∀b∈fp,∃o,s.heap.get? b=some o/\∀v,o.data ≠ .cell v):Inv X (pins++wP fp s.heap) σ H s:=
 I.pins_of λp hp=>(aM.mp hp).elim (λz=>I.pin p (au _ z)) λz=>by
  obtain⟨hb,e⟩:=Ui z;obtain⟨f0,f1,f2,_⟩:=hf p.1 hb;obtain⟨o,e',d⟩:=ho p.1 hb;rw[e]at e';cases e';exact⟨e,f0,f1,f2,d⟩
theorem Inv.unpinned {pins pl:List (Addr×Obj)}{σ:St}{H:Hp}{s:Shared}(I:Inv X (pins++pl) σ H s):Inv X pins σ H s:=I.pins_of λp hp=>I.pin p (au _ (bb _ hp))
theorem V7 {iter:Expr}{body:List Stmt}{wi:TI}{g:TG}{tb:TS}{pos:Pos}(hp:PassesOwn (model X.prog X.w) X.A X.env X.xe)(hc:X.calm=true)(hi:PI X tg iter wi)(hg:PG X tg g)(hb:PSs X body tb)
  (hs:∀x,foldedSetIterable iter X.env x=pure x:=by intro _;rfl):PS X (.For tg iter body [] pos) (g9 wi g tb):=by
 intro pins s σ H D I h;refine wpAny_For (thn (hi _ s σ H _ I h) λv s1 h1=>thn h1 λitv s2 h2=> ?_) hs;obtain⟨it,fp,tn,J,H2,e,I2,T,st2,f2,W,⟨m0,w0⟩,turn⟩:=h2;subst e;have stat:∀{H' :Hp},(∀b∈fp,H' b=none)->∀b∈fp,jW X _ H' b:=λhn b hb=>⟨hn b hb,(f2 b hb).2⟩;refine codeAny_forLoop_any (λn s' =>∃i σ' H',Inv X _ σ' H' s' /\tn i s'.heap/\(∀b∈fp,H' b=none)/\W i n σ' H') ?_ m0 ⟨0,σ,H2,I2,st2,λb hb=>(f2 b hb).1,w0⟩
 rintro n s3 ⟨i,σ3,H3,I3,st3,fr3,w3⟩
 rcases turn i n σ3 H3 w3 with ⟨stop,qn⟩ | ⟨go,N,hN,step⟩
 ·refine bB hp (thn (T.done X rfl rfl rfl hc i _ s3 σ3 H3 _ I3 (stat fr3) st3 stop) λr s4 ⟨hr,I4⟩=> ?_);subst hr;exact bN ⟨σ3,H3,I4,qn⟩
 ·refine bB hp (thn (T.item X rfl rfl rfl hc i _ s3 σ3 H3 _ I3 (stat fr3) st3 go) λr s4 ⟨u,hr,h4⟩=> ?_);subst hr;refine bB hp (thn h4 λ_ s5 ⟨x,H5,I5,r5,y5,st5,fr5⟩=> ?_);have I5' :=I5.pinned (stat fr5) (T.obj _ _ st5);refine bB hp (thn (hg _ s5 σ3 H5 x u _ I5' r5 (step x H5 y5)) λ_ s6 ⟨σ6,H6,I6,q6⟩=> ?_);refine bB hp (thn (hb _ s6 σ6 H6 _ I6 q6) λf s7 q7=> ?_);have again:∀{σ7:St} {H7:Hp},Inv X (pins++wP fp _) σ7 H7 s7->N σ7 H7->∃m,m < n/\∃i σ' H',Inv X _ σ' H' s7/\tn i _/\(∀b∈fp,H' b=none)/\W i m σ' H' :=λ{σ7 H7} I7 n7=>by
   obtain⟨m',hm,w7⟩:=hN σ7 H7 n7;refine⟨m',hm,i+1,σ7,H7,I7.unpinned,T.keep _ _ _ st5 λb hb o e=>(I7.pin _ (au _ (au _ (zU hb e)))).1,λb hb=> ?_,w7⟩;obtain⟨o,e,d⟩:=T.obj _ _ st5 b hb;exact(I7.pin _ (au _ (au _ (zU hb e)))).2.1
  cases f with
  | next=>obtain⟨σ7,H7,I7,n7⟩:=q7;exact again I7 n7
  | cont=>obtain⟨σ7,H7,I7,n7⟩:=q7;exact again I7 n7
  | brk=>obtain⟨σ7,H7,I7,q7⟩:=q7;exact⟨σ7,H7,I7.unpinned,q7⟩
  | ret v=>obtain⟨x7,σ7,H7,I7,r7,q7⟩:=q7;exact⟨x7,σ7,H7,I7.unpinned,r7,q7⟩
end
end L2
namespace L2
open PySem PySem.Spec PyProof.Rows
abbrev R2:=V->V->Hp->VK->Prop
def OpR (X:Cx)(f:Value->Value->Sem Value)(r:R2):Prop:=
 ∀(pins:List (Addr×Obj)) (s:Shared) (σ:St) (H:Hp) (x y:V) (v u:Value) (Q:VK),Inv X pins σ H s->zT x v->zT y u->r x y H Q->
  wpAny (model X.prog X.w) X.A (f v u) (EP X pins σ Q) X.xe s
def UnR (X:Cx)(f:Value->Sem Value)(r:V->Hp->VK->Prop):Prop:=
 ∀(pins:List (Addr×Obj)) (s:Shared) (σ:St) (H:Hp) (x:V) (v:Value) (Q:VK),Inv X pins σ H s->zT x v->r x H Q->
  wpAny (model X.prog X.w) X.A (f v) (EP X pins σ Q) X.xe s
def Zw (X:Cx)(f:Value)(r:List V->Hp->VK->Prop):Prop:=
 ∀(pins:List (Addr×Obj)) (s:Shared) (σ:St) (H:Hp) (xs:List V) (us:List Value) (Q:VK),Inv X pins σ H s->zM xs us->r xs H Q->
  wpAny (model X.prog X.w) X.A (call f us) (EP X pins σ Q) X.xe s
def gU (X:Cx)(r:V->Hp->(Bool->Hp->Prop)->Prop):Prop:=
 ∀(pins:List _) (s:Shared) (σ:St) (H:Hp) (x:V) (v:Value) (Q:Bool->Hp->Prop),Inv X pins σ H s->zT x v->r x H Q->
  wpAny (model X.prog X.w) X.A (truthy v) (TP X pins σ Q) X.xe s
def tOp (r:R2)(ta tb:TE):TE:=λσ H Q=>ta σ H λx H1=>tb σ H1 λy H2=>r x y H2 Q
def tUn (r:V->Hp->VK->Prop)(ta:TE):TE:=λσ H Q=>ta σ H λx H1=>r x H1 Q
def rI (C:Int->Int->Prop)(g:Int->Int->V):R2:=λx y H Q=>∃i j,x= .int i/\y= .int j/\C i j/\Q (g i j) H
def rI0 (g:Int->Int->V):R2:=λx y H Q=>∃i j,x= .int i/\y= .int j/\Q (g i j) H
def rU (g:Int->V):V->Hp->VK->Prop:=λx H Q=>∃i,x= .int i/\Q (g i) H
section
variable {X:Cx}{a b c:Expr}{ta tb tc:TE}{pos:Pos}
theorem XM (ha:PE X a ta)(hb:PE X b tb){pins:List (Addr×Obj)}{s:Shared}{σ:St}{H:Hp}{R:V->V->Hp->Prop}(I:Inv X pins σ H s)
  (h:ta σ H λx H1=>tb σ H1 λy H2=>R x y H2) {Q:Value->Shared->Prop} {f:Value->Value->Sem Value}
  (hf:∀v u s2 x y H2,Inv X pins σ H2 s2->zT x v->zT y u->R x y H2->wpAny (model X.prog X.w) X.A (f v u) Q X.xe s2):
  wpAny (model X.prog X.w) X.A (eval a X.env) (λv s₁=>wpAny (model X.prog X.w) X.A (eval b X.env) (λu s₂=>wpAny (model X.prog X.w) X.A (f v u) Q X.xe s₂) X.xe s₁) X.xe s:=by
 refine thn (ha _ s σ H _ I h) λv s1 ⟨x,H1,I1,r1,q1⟩=> ?_;refine thn (hb _ s1 σ H1 _ I1 q1) λu s2 ⟨y,H2,I2,r2,q2⟩=> ?_;exact hf v u s2 x y H2 I2 r1 r2 q2
theorem XN {op:Operator}{r:R2}(ho:OpR X (binaryOp op) r)(ha:PE X a ta)(hb:PE X b tb):PE X (.BinOp a op b pos) (tOp r ta tb):=by
 intro pins s σ H Q I h;exact wpAny_BinOp (XM ha hb I h λv u s2 x y H2 I2 rx ry q=>ho _ s2 σ H2 x y v u Q I2 rx ry q)
theorem XO {op:UnaryOp}{r:V->Hp->VK->Prop}(ho:UnR X (unaryOp op) r)(ha:PE X a ta):PE X (.UnaryOp op a pos) (tUn r ta):=by
 intro pins s σ H Q I h;exact UnaryOp_ (thn (ha _ s σ H _ I h) λv s1 ⟨x,H1,I1,r1,q1⟩=>ho _ s1 σ H1 x v Q I1 r1 q1)
theorem opI {f:Value->Value->Sem Value}{C:Int->Int->Prop}{g:Int->Int->Int}
  (rule:∀(i j:Int) (t u:Tok) (s:Shared) (Q:Value->Shared->Prop) (E:Value->Shared->Prop),C i j->Q (.int (g i j) s.toks) { s with toks:=s.toks+1 }->wpAny (model X.prog X.w) X.A (f (.int i t) (.int j u)) Q E s):
  OpR X f (rI C λi j=> .int (g i j)):=by
 intro pins s σ H x y v u Q I rx ry h;obtain⟨i,j,rfl,rfl,hc,q⟩:=h;obtain⟨t,rfl⟩:=rx;obtain⟨t',rfl⟩:=ry;exact rule i j t t' s _ _ hc ⟨.int _,H,I.tok _,⟨_,rfl⟩,q⟩
theorem gf {f:Value->Value->Sem Value}{g:Int->Int->Int}
  (rule:∀(i j:Int) (t u:Tok) (s:Shared) (Q:Value->Shared->Prop) (E:Value->Shared->Prop),Q (.int (g i j) s.toks) { s with toks:=s.toks+1 }->wpAny (model X.prog X.w) X.A (f (.int i t) (.int j u)) Q E s):
  OpR X f (rI0 λi j=> .int (g i j)):=by
 intro pins s σ H x y v u Q I rx ry h;obtain⟨i,j,rfl,rfl,q⟩:=h;obtain⟨t,rfl⟩:=rx;obtain⟨t',rfl⟩:=ry;exact rule i j t t' s _ _ ⟨.int _,H,I.tok _,⟨_,rfl⟩,q⟩
theorem XQ {f:Value->Value->Sem Value}{g:Int->Int->Bool}
  (rule:∀(i j:Int) (t u:Tok) (s:Shared) (Q:Value->Shared->Prop) (E:Value->Shared->Prop),Q (.bool (g i j)) s->wpAny (model X.prog X.w) X.A (f (.int i t) (.int j u)) Q E s):
  OpR X f (rI0 λi j=> .bl (g i j)):=by
 intro pins s σ H x y v u Q I rx ry h;obtain⟨i,j,rfl,rfl,q⟩:=h;obtain⟨t,rfl⟩:=rx;obtain⟨t',rfl⟩:=ry;exact rule i j t t' s _ _ ⟨.bl _,H,I,rfl,q⟩
noncomputable def gW (i j:Int):Prop:=0 < j/\j < 1073741824
noncomputable def Wy (i j:Int):Prop:=(-(2 ^ 64) < i/\i < 2 ^ 64)\/(-(2 ^ 64) < j/\j < 2 ^ 64)
theorem Wy.ok {i j:Int}(h:Wy i j):IntMulOk i j:=by
 rcases h with ⟨h1,h2⟩ | ⟨h1,h2⟩
 ·exact .of_left (intBits_le_64 h1 h2)
 ·exact .of_right (intBits_le_64 h1 h2)
theorem V8:OpR X (binaryOp .Add) (rI0 λi j=> .int (i+j)):=gf λ_ _ _ _ _ _ _ q=>add_int q
theorem V9:OpR X (binaryOp .Sub) (rI0 λi j=> .int (i - j)):=gf λ_ _ _ _ _ _ _ q=>sub_int q
theorem Va:OpR X (binaryOp .Mult) (rI Wy λi j=> .int (i*j)):=opI λ_ _ _ _ _ _ _ hc q=>mul_int q hc.ok
theorem Q6:OpR X (binaryOp .FloorDiv) (rI gW λi j=> .int (i / j)):=opI λi j _ _ _ _ _ hc q=>by
 have h1:=hc.1;have h2:=hc.2;exact floordiv_int (by omega) (by rw[Int.fdiv_eq_ediv_of_nonneg i (by omega)];exact q) (.inl (PyProof.noPylong_small (by omega)))
theorem Vb:OpR X (binaryOp .Mod) (rI (λ_ j=>0 < j) λi j=> .int (i % j)):=opI λi j _ _ _ _ _ hc q=>by
 exact mod_int' (by omega) (by rw[Int.fmod_eq_emod_of_nonneg i (by omega)];exact q)
theorem unI {f:Value->Sem Value}{g:Int->Int}
  (rule:∀(i:Int) (t:Tok) (s:Shared) (Q:Value->Shared->Prop) (E:Value->Shared->Prop),Q (.int (g i) s.toks) { s with toks:=s.toks+1 }->wpAny (model X.prog X.w) X.A (f (.int i t)) Q E s):
  UnR X f (rU λi=> .int (g i)):=by
 intro pins s σ H x v Q I rx h;obtain⟨i,rfl,q⟩:=h;obtain⟨t,rfl⟩:=rx;exact rule i t s _ _ ⟨.int _,H,I.tok _,⟨_,rfl⟩,q⟩
theorem Vc:UnR X (unaryOp .USub) (rU λi=> .int (-i)):=unI λ_ _ _ _ _ q=>neg_int q
theorem Uj:OpR X (binaryOp .Add) (λx y H Q=>∃i k,x= .int i/\y= .bl k/\Q (.int (i+b2i k)) H):=by
 intro pins s σ H x y v u Q I rx ry h;obtain⟨i,k,rfl,rfl,q⟩:=h;obtain⟨t,rfl⟩:=rx;cases ry;exact add_int_bool ⟨.int _,H,I.tok _,⟨_,rfl⟩,q⟩
end
section
variable {X:Cx}{a b c:Expr}{ta tb tc:TE}{pos:Pos}
theorem XR:OpR X (compareOp .Lt) (rI0 λi j=> .bl (decide (i < j))):=XQ λ_ _ _ _ _ _ _ q=>lt_int q
theorem XS:OpR X (compareOp .LtE) (rI0 λi j=> .bl (decide (i<=j))):=XQ λ_ _ _ _ _ _ _ q=>le_int q
theorem XT:OpR X (compareOp .Gt) (rI0 λi j=> .bl (decide (j < i))):=XQ λ_ _ _ _ _ _ _ q=>gt_int q
theorem jX (b:Expr){op:CmpOp}(h:op ≠ .In:=by decide)(h2:op ≠ .NotIn:=by decide):behindInMarks op b=false:=by
 have e1:(op == CmpOp.In)=false:=by cases op <;> first | rfl | exact absurd rfl h
 have e2:(op == CmpOp.NotIn)=false:=by cases op <;> first | rfl | exact absurd rfl h2
 cases b <;> simp[behindInMarks,e1,e2]
theorem Q7 {op:CmpOp}{r:R2}(ho:OpR X (compareOp op) r)(ha:PE X a ta)(hb:PE X b tb)(hm:behindInMarks op b=false):PE X (.Compare a [op] [b] pos) (tOp r ta tb):=by
 intro pins s σ H Q I h;exact wpAny_Compare1 (XM ha hb I h λv u s2 x y H2 I2 rx ry q=>ho _ s2 σ H2 x y v u Q I2 rx ry q) hm
def Q8 (t:TE):TT:=λσ H Q=>t σ H λx H' =>∃k,x= .bl k/\Q k H'
theorem Q9 {op:CmpOp}{r:R2}(ho:OpR X (compareOp op) r)(ha:PE X a ta)(hb:PE X b tb)(hm:behindInMarks op b=false):PT X (.Compare a [op] [b] pos) (Q8 (tOp r ta tb)):=by
 intro pins s σ H Q I h;refine wpAny_isTrue_Compare1 (thn (ha _ s σ H _ I h) λv s1 ⟨x,H1,I1,r1,q1⟩=>thn (hb _ s1 σ H1 _ I1 q1) λu s2 ⟨y,H2,I2,r2,q2⟩=>
  thn (ho _ s2 σ H2 x y v u _ I2 r1 r2 q2) λc s3 ⟨z,H3,I3,r3,k,e,q3⟩=> ?_) hm
 subst e;cases r3;exact ba ⟨H3,I3,q3⟩
def qh (r r' :R2)(ta tb tc:TE):TE:=λσ H Q=>ta σ H λx H1=>tb σ H1 λy H2=>r x y H2 λz H3=>∃k,z= .bl k/\
 (if k=true then tc σ H3 λw' H4=>r' y w' H4 Q else Q (.bl false) H3)
theorem Y5 {op op' :CmpOp}{r r' :R2}(ho:OpR X (compareOp op) r)(ho' :OpR X (compareOp op') r')(ha:PE X a ta)(hb:PE X b tb)(hc:PE X c tc)
  (hm:lastMarks [op,op'] [b,c]=false:=by with_unfolding_all rfl):PE X (.Compare a [op,op'] [b,c] pos) (qh r r' ta tb tc):=by
 intro pins s σ H Q I h;refine Compare_chain (thn (ha _ s σ H _ I h) λv s1 ⟨x,H1,I1,r1,q1⟩=>chain_link (thn (hb _ s1 σ H1 _ I1 q1) λu s2 ⟨y,H2,I2,r2,q2⟩=>
  thn (ho _ s2 σ H2 x y v u _ I2 r1 r2 q2) λd s3 ⟨z,H3,I3,r3,k,e,q3⟩=> ?_)) hm
 subst e;cases r3;refine ba ?_;cases k with
 | false=>exact ite_ff ⟨.bl _,H3,I3,rfl,q3⟩
 | true=>exact ite_tt (chain_last (thn (hc _ s3 σ H3 _ I3 q3) λw' s4 ⟨z',H4,I4,r4,q4⟩=>ho' _ s4 σ H4 y z' u w' Q I4 r2 r4 q4))
theorem Y6 {op op' :CmpOp}{r r' :R2}(ho:OpR X (compareOp op) r)(ho' :OpR X (compareOp op') r')(ha:PE X a ta)(hb:PE X b tb)(hc:PE X c tc)
  (hm:lastMarks [op,op'] [b,c]=false:=by with_unfolding_all rfl):PT X (.Compare a [op,op'] [b,c] pos) (Q8 (qh r r' ta tb tc)):=by
 intro pins s σ H Q I h;refine isTrue_chain (thn (ha _ s σ H _ I h) λv s1 ⟨x,H1,I1,r1,q1⟩=>test_link (thn (hb _ s1 σ H1 _ I1 q1) λu s2 ⟨y,H2,I2,r2,q2⟩=>
  thn (ho _ s2 σ H2 x y v u _ I2 r1 r2 q2) λd s3 ⟨z,H3,I3,r3,k,e,q3⟩=> ?_)) hm
 subst e;cases r3;refine ba ?_;cases k with
 | false=>
  obtain⟨k',e',q'⟩:=q3;cases e';exact ite_ff ⟨H3,I3,q'⟩
 | true=>
  refine ite_tt (test_last (thn (hc _ s3 σ H3 _ I3 q3) λw' s4 ⟨z',H4,I4,r4,q4⟩=>thn (ho' _ s4 σ H4 y z' u w' _ I4 r2 r4 q4) λd' s5 ⟨z2,H5,I5,r5,k2,e2,q5⟩=> ?_));subst e2;cases r5;exact ba ⟨H5,I5,q5⟩
def gh (K:a6)(x:V)(H:Hp)(k:Bool):Prop:=
 match x with
 | .non=>k=false
 | .bl b=>k=b
 | .int i=>k=(i != 0)
 | .str y=>y.length<=sizeLine/\k=((y.length:Int) != 0)
 | .byt y=>y.size<=sizeLine/\k=((y.size:Int) != 0)
 | .ref p=>(∃xs,SqL K H p xs/\k= !xs.isEmpty)\/(∃xs,SqT K H p xs/\k= !xs.isEmpty)\/∃kvs,H p=some (.dK kvs)/\k= !kvs.isEmpty
 | _=>False
theorem uA {κ:Type}{kvs:List (κ×V)}{vs:List (κ×Value)}(r:KV kvs vs):(!vs.isEmpty)= !kvs.isEmpty:=by
 cases r <;> rfl
theorem JI {xs:List V}{its:List Value}(r:zM xs its):(!its.toArray.isEmpty)= !xs.isEmpty:=by
 cases r <;> simp
theorem wQ:(sizeLine:Nat) < 2 ^ 63:=by decide
theorem Vd:gU X (λx H Q=>∃k,gh X.K x H k/\Q k H):=by
 intro pins s σ H x v Q I rx h;obtain⟨k,e,q⟩:=h;have hs:=c8;cases x with
 | non=>
  cases rx;have e' :k=false:=e;subst e';exact truthy_none ⟨H,I,q⟩
 | bl b=>
  cases rx;have e' :k=b:=e;subst e';exact ba ⟨H,I,q⟩
 | int i=>
  obtain⟨t,rfl⟩:=rx;have e' :k=(i != 0):=e;subst e';exact PySem.P.truthy_int ⟨H,I,q⟩
 | str y=>
  obtain⟨t,rfl⟩:=rx;obtain⟨hy,e'⟩:y.length<=sizeLine/\k=((y.length:Int) != 0):=e;subst e';exact PySem.P.truthy_str (by omega) ⟨H,I.tok _,q⟩
 | byt y=>
  obtain⟨t,rfl⟩:=rx;obtain⟨hy,e'⟩:y.size<=sizeLine/\k=((y.size:Int) != 0):=e;subst e';exact PySem.W.truthy_bytes (by omega) ⟨H,I.tok _,q⟩
 | ref p=>
  cases rx;have e' :=e;rcases e' with ⟨xs,hx,e'⟩ | ⟨xs,hx,e'⟩ | ⟨kvs,hx,e'⟩
  ·subst e';obtain⟨its,r,pl,hz⟩:=I.list hx;have hlen:=r.length;exact wpAny_truthy_list pl.isList (by simp only[aD];omega) ⟨H,I.tok _,by rw[JI r];exact q⟩
  ·subst e';obtain⟨its,r,pl,hz⟩:=I.tuple hx;have hlen:=r.length;exact truthy_tuple pl (by simp only[aD];omega) ⟨H,I.tok _,by rw[JI r];exact q⟩
  ·subst e';obtain⟨hz,hS,vs,r,m⟩:kvs.length<=sizeLine/\(p == sysModules)=false/\∃vs,KV kvs vs/\s.heap.DictOf _ p vs:=I.hok p _ hx;have hlen:=Paired.length r;exact wpAny_truthy_dict hS m (by omega) ⟨H,I.tok _,by rw[uA r];exact q⟩
 | _=>exact(e).elim
theorem Y7 (ha:PE X a ta)(he:∀whole,isTrue a X.env whole=(do let v ← whole;standAt a.pos;holding [v] (truthy v))):
  PT X a (λσ H Q=>ta σ H λx H' =>∃k,gh X.K x H' k/\Q k H'):=by
 intro pins s σ H Q I h;exact isTrue_plain (thn (ha _ s σ H _ I h) λv s1 ⟨x,H1,I1,r1,q1⟩=>Vd _ s1 σ H1 x v Q I1 r1 q1) (he _)
theorem uB:OpR X (binaryOp .Add) (λx y H Q=>∃i j,x= .str i/\y= .str j/\i.length+j.length<=sizeLine/\Q (.str (i++j)) H):=by
 intro pins s σ H x y v u Q I rx ry h;obtain⟨i,j,rfl,rfl,hz,q⟩:=h;obtain⟨t,rfl⟩:=rx;obtain⟨t',rfl⟩:=ry;exact add_str (λt' tk=>⟨.str _,H,I.tok _,⟨_,rfl⟩,q⟩) hz
theorem ZL {x:V}{us:List Value}(r:zM [x] us):∃u,us=[u]/\zT x u:=by
 cases r with
 | cons r1 r2=>cases r2;exact⟨_,rfl,r1⟩
theorem Y8 {x y:V}{us:List Value}(r:zM [x,y] us):∃u w',us=[u,w']/\zT x u/\zT y w' :=by
 cases r with
 | cons r1 r2=>
  cases r2 with
  | cons r3 r4=>cases r4;exact⟨_,_,rfl,r1,r3⟩
theorem Uk (hc:X.calm=true):Zw X (.builtin "min") (λxs H Q=>∃i j,xs=[.int i,.int j]/\Q (.int (if j < i then j else i)) H):=by
 intro pins s σ H xs us Q I r h;obtain⟨i,j,rfl,q⟩:=h;obtain⟨u,w',rfl,⟨t,rfl⟩,⟨t',rfl⟩⟩:=Y8 r;refine min_two_ints (I.ok.hd hc) λh' tk k=>⟨_,H,I.kept k, ?_,q⟩
 by_cases hj:j < i
 ·rw[if_pos hj,if_pos hj];exact⟨_,rfl⟩
 ·rw[if_neg hj,if_neg hj];exact⟨_,rfl⟩
end
end L2
namespace L2
open PySem PySem.Spec PyProof.Rows
structure XU (h:Heap) (x dx C:Addr) (mA:Str->Option Value):Prop where
 obj:h.get? x=some (dN C dx)
 ns:h.Ns1 dx mA
 ne:dx ≠ x
theorem Ul {h:Heap}{dx:Addr}{mA:Str->Option Value}(n:h.Ns1 dx mA):∃od,h.get? dx=some od/\∀name,dS name od=some (mA name):=by
 obtain⟨o,es,ep,ho,hd,hk,_,hm⟩:=n;refine⟨o,ho,λname=> ?_⟩;have e:=hm name;unfold nsFind findBy at e;rw[← Array.find?_toList]at e;unfold dS;rw[hd];dsimp only;split
 ·rename_i y q;rw[q]at e;exact congrArg _ e
 ·rename_i q;rw[q]at e;have a:es.toList.any (·.refKey)=false:=by
   rw[List.any_eq_false];intro y hy;obtain⟨z,t,hkey⟩:=hk y (Array.mem_toList_iff.mp hy);simp[DictEntry.refKey,hkey]
  have a' :¬ es.toList.any (·.refKey)=true:=by rw[a];exact aQ
  rw[if_neg a'];exact congrArg _ e
theorem XU.look {h:Heap}{x dx C:Addr}{mA:Str->Option Value}(I:XU h x dx C mA):∃od,PySem.W.InstAt h x (dN C dx) C (some od)/\∀name,dS name od=some (mA name):=
 let ⟨od,ho,hl⟩:=Ul I.ns
 ⟨od,⟨I.obj,rfl,rfl,ho⟩,hl⟩
section
variable {P:Program}{w:World}{H H' :Hp}{h h' :Heap}{a C dx:Addr}{fs fs' :List (Str×V)}
theorem Qa (hok:HOk P w H h)(e:H a=some (.ins C dx fs)):∃mA,XU h a dx C mA/\(∀f,Xx (fs.lookup f) (mA f))/\PySem.Within mA (fs.map (·.1))/\fs.length<=1000/\H dx=some (.own a):=by
 obtain⟨d,z,ne,ob,mA,n,r,q⟩:=(show zZ P w H h a _ from hok a _ e);exact⟨mA,⟨ob,n,ne⟩,r,q,z,d⟩
end
structure Cls (K:a6) (C:Addr):Prop where
 pg:fk K C Str.empty=true
 hd:PySem.W.hasDictIn K C=true
 po:PySem.W.plainOver K C=true
 sa:cM K (.ref C) "__setattr__"=some (some (.builtin "object.__setattr__"))
theorem Cls.get {K:a6}{C:Addr}(c:Cls K C)(f:Str):fk K C f=true:=c.pg
section
variable {X:Cx}{pins:List (Addr×Obj)}{σ:St}{H:Hp}{s:Shared}{A:Around}{E:Value->Shared->Prop}{Q:Value->Shared->Prop}{c:Value}{b:Bool}
inductive uC (K:a6) (H:Hp):V->Value->Prop where
 | non:uC K H .non (.type "NoneType")
 | bl (x:Bool):uC K H (.bl x) (.type "bool")
 | int (i:Int):uC K H (.int i) (.type "int")
 | str (x:Str):uC K H (.str x) (.type "str")
 | flt (x:UInt64):uC K H (.flt x) (.type "float")
 | lst {a:Addr} {xs:List V} (e:H a=some (.lst xs)):uC K H (.ref a) (.type "list")
 | frz {a:Addr} {o:Obj} {xs:List V} (e:H a=some (.frz o (.lst xs))):uC K H (.ref a) (.type "list")
 | tup {a:Addr} {xs:List V} (e:H a=some (.tup xs)):uC K H (.ref a) (.type "tuple")
 | dK {a:Addr} {kvs:List (Key×V)} (e:H a=some (.dK kvs)):uC K H (.ref a) (.type "dict")
 | dT {a:Addr} {kvs:List (List Key×Addr×V)} (e:H a=some (.dT kvs)):uC K H (.ref a) (.type "dict")
 | ins {a C dx:Addr} {fs:List (Str×V)} (e:H a=some (.ins C dx fs)) (cl:Cls K C) (ha:cM K (.ref C) "__class__"=some (some (.builtin "object.__class__")))
   (hn:eR K (.builtin "object.__class__") "__get__"=some (some (.builtin "getset_descriptor.__get__"))) (htk:fG K (.builtin "object.__class__")=some true)
   (hm:eH K C (.type "object")=some true):uC K H (.ref a) (.ref C)
theorem Um {x:V}{u t:Value}(I:Inv X pins σ H s)(rx:zT x u)(ty:uC X.K H x t)(e:aH X.K t c=some b)(h:∀tk,Q (.bool b) { s with toks:=tk }):
  wpAny (model X.prog X.w) A (call (.builtin "isinstance") [u,c]) Q E s:=by
 cases ty with
 | non=>cases (rx);exact bn PySem.W.kitx_none I.kIn True.intro e (λz=>nomatch z) h
 | bl y=>cases (rx);exact bn PySem.W.kitx_bool I.kIn True.intro e (λz=>nomatch z) h
 | int i=>obtain⟨t,q⟩:=(rx);cases q;exact bn PySem.W.kitx_int I.kIn True.intro e (λz=>nomatch z) h
 | str y=>obtain⟨t,q⟩:=(rx);cases q;exact bn PySem.W.kitx_str I.kIn True.intro e (λz=>nomatch z) h
 | flt y=>obtain⟨t,q⟩:=(rx);cases q;exact bn PySem.W.kitx_float I.kIn True.intro e (λz=>nomatch z) h
 | @lst a xs ea=>
  cases (rx);obtain⟨_,_,n,_,h1⟩:=(show zZ _ X.w H _ a _ from I.hok a _ ea);exact bn eT I.kIn ⟨_,h1,rfl⟩ e (λz=>nomatch z) h
 | @frz a ob xs ea=>
  cases (rx);obtain⟨_,_,_,n,_,h1⟩:=(show zZ _ X.w H _ a _ from I.hok a _ ea);exact bn eT I.kIn ⟨_,h1,rfl⟩ e (λz=>nomatch z) h
 | @tup a xs ea=>
  cases (rx);obtain⟨_,_,_,p,_⟩:=(show zZ _ X.w H _ a _ from I.hok a _ ea);obtain⟨o,h1,h2,_⟩:=p;exact bn PySem.W.kitx_tuple I.kIn ⟨o,h1,h2⟩ e (λz=>nomatch z) h
 | @dK a kvs ea=>
  cases (rx);obtain⟨_,_,vs,_,p⟩:=(show zZ _ X.w H _ a _ from I.hok a _ ea);obtain⟨o,es,ep,h1,h2,_⟩:=p;exact bn eU I.kIn ⟨o,h1,h2.1⟩ e (λz=>nomatch z) h
 | @dT a kvs ea=>
  cases (rx);obtain⟨_,_,xs,_,o,es,ep,h1,h2,_⟩:=(show zZ _ X.w H _ a _ from I.hok a _ ea);exact bn eU I.kIn ⟨o,h1,h2.1⟩ e (λz=>nomatch z) h
 | @ins a C dx fs ea cl ha hn htk hm=>
  cases (rx);obtain⟨mA,O,_⟩:=Qa I.hok ea;obtain⟨od,J,_⟩:=O.look;exact bn (PySem.W.kitx_own (cl.get _) cl.hd ha hn htk hm) I.kIn J e (λz=>nomatch z) h
end
end L2
namespace L2
open PySem PySem.Spec PyProof.Rows
structure Z8 (k:Nat) (A:Around):Prop where
 hd:A.handled=none
 dp:A.depth+3*k+5 < recursionLimit
 un:A.units+16*k+200 < cLine
 gd:A.guards=some []
theorem Z8.mono {j k:Nat}{A:Around}(r:Z8 k A)(h:j<=k):Z8 j A:=⟨r.hd,by have:=r.dp;omega,by have:=r.un;omega,r.gd⟩
theorem Z8.deeper {k:Nat}{A:Around}(r:Z8 (k+1) A)(env:Env):Z8 k (A.deeper env):=
 ⟨r.hd,by have:=r.dp;show A.depth+1+3*k+5 < _;omega,by have:=r.un;show A.units+3+16*k+200 < _;omega,r.gd⟩
theorem Z8.depth {k:Nat}{A:Around}(r:Z8 k A):A.depth < recursionLimit:=by have:=r.dp;omega
theorem Z8.units {k:Nat}{A:Around}(r:Z8 k A):A.units+64 < cLine:=by have:=r.un;omega
def gX:TA:=λ_ H Q=>Q [] H
def Ve (ta:TE)(tr:TA):TA:=λσ H Q=>ta σ H λx H1=>tr σ H1 λxs H2=>Q (x :: xs) H2
section
variable {X:Cx}{e:Expr}{es:List Expr}{te:TE}{t:TA}{pos:Pos}
theorem zB:PA X [] gX:=λ_ _ _ _ H Q I h=>eV ⟨[],H,I,.nil,h⟩
theorem zk (ha:PE X e te)(hr:PA X es t)(hs:starEach (e :: es) X.env=(false,eval e X.env) :: starEach es X.env:=by rfl):PA X (e :: es) (Ve te t):=by
 intro pos pins s σ H Q I h;rw[hs];refine eJ (thn (ha _ s σ H _ I h) λu s1 ⟨x,H1,I1,r1,q1⟩=> ?_);exact thn (hr pos _ s1 σ H1 _ I1 q1) λus s2 ⟨xs,H2,I2,r2,q2⟩=>⟨x :: xs,H2,I2,.cons r1 r2,q2⟩
def gj (t:TA):TE:=λσ H Q=>t σ H λxs H1=>xs.length<=sizeLine/\∀p,H1 p=none->Q (.ref p) (upd H1 p (.tup xs))
def gY (t:TA):TE:=λσ H Q=>t σ H λxs H1=>xs.length<=sizeLine/\∀p,H1 p=none->Q (.ref p) (upd H1 p (.lst xs))
theorem Vf {x1}(h:PA X es t):PE X (.Tuple es x1 pos) (gj t):=by
 intro pins s σ H Q I hq;refine wpAny_Tuple_spliced (thn (h pos _ s σ H _ I hq) λus s1 ⟨xs,H1,I1,r,z,q⟩=>⟨by rw[← r.length];exact z, ?_⟩)
 have hf:=I1.hok.fresh (aj _);refine⟨.ref _,upd H1 _ _,I1.laid (λb u e=>a7 _ e) (aj _) ?_,rfl,q _ hf⟩;exact⟨z,us,r,⟨_,am _ rfl,rfl,_,rfl⟩,.inr ⟨_,am _ rfl,rfl⟩⟩
theorem qk (h:PA X es t):PE X (.List es pos) (gY t):=by
 intro pins s σ H Q I hq;refine wpAny_List_spliced (thn (h pos _ s σ H _ I hq) λus s1 ⟨xs,H1,I1,r,z,q⟩=>⟨by rw[← r.length];exact z, ?_⟩)
 have hf:=I1.hok.fresh (aj _);refine⟨.ref _,upd H1 _ _,I1.laid (λb u e=>a7 _ e) (aj _) ?_,rfl,q _ hf⟩;exact⟨z,us,0,r,am _ rfl⟩
end
abbrev Sp:=List V->Hp->VK->XK->Prop
abbrev CXT:=List Env->Hp->Shared->XK->Value->Shared->Prop
structure U3 (P:Program) (w:World) (K:a6) (mg:Str->Option Value) (base:Heap) (A:Around) (outer:List Env) (s:Shared) (H:Hp):Prop where
 frames:A.frames=some outer
 mod:Mod K mg base
 bs:∀b o,base.get? b=some o->s.heap.get? b=some o/\H b=none
 bsz:base.objs.size<=s.heap.objs.size
 funs:s.heap.FunFrames base outer
 frf:∀b∈frs outer,H b=none
 hok:HOk P w H s.heap
 bare:AllBare s.gens
def CE (outer:List Env)(P:Program)(w:World)(H:Hp)(s:Shared)(Q:VK)(u:Value)(s' :Shared):Prop:=
 ∃v H',s'.os=s.os/\AllBare s'.gens/\Un (frs outer) [] H H' s.heap s'.heap/\HOk P w H' s'.heap/\zT v u/\Q v H'
def CR (CX:CXT)(outer:List Env)(P:Program)(w:World)(H:Hp)(s:Shared)(Q:VK)(E:XK)(r:Result)(s' :Shared):Prop:=
 match r with
 | .ok (.ret u)=>CE outer P w H s Q u s'
 | .ok _=>False
 | .error e=>CX outer H s E e s'
structure WZ (P:Program) (w:World) (K:a6) (mg:Str->Option Value) (base:Heap) (CX:CXT) (k:Nat) (f:Addr) (fd:FuncData) (ps:List Str) (sp:Sp):Prop where
 len:∀vs H Q E,sp vs H Q E->vs.length=ps.length
 run:∀(A:Around) (outer:List Env) (s:Shared) (H:Hp) (args:Args) (us:List Value) (vs:List V) (Q:VK) (E:XK),Z8 k A->U3 P w K mg base A outer s H->BindsTo s fd args (ps.zip us)->zM vs us->sp vs H Q E->
  codeAny (model P w) A (.call (.ref f) args) (CR CX outer P w H s Q E) s
section
variable {X:Cx}{pins:List (Addr×Obj)}{σ:St}{H:Hp}{s s' :Shared}
theorem Inv.env0 (I:Inv X pins σ H s):U3 X.prog X.w X.K X.mg X.base X.A X.stack s H:=
 ⟨I.ok.frames,I.ok.mod,I.bs,aC I.ok.bsz I.sz,I.stack,I.stkFree,I.hok,I.bare⟩
theorem Inv.after {Q:VK}{u:Value}(I:Inv X pins σ H s)(h:CE X.stack X.prog X.w H s Q u s'):EP X pins σ Q u s' :=by
 obtain⟨v,H',os,bare,un,hok,r,q⟩:=h;obtain⟨hh,g,d,t,os'⟩:=s';obtain rfl:os' =s.os:=os;exact⟨v,H',I.call un hok bare (λb z=>absurd z (by simp)),r,q⟩
end
def Vg (sp:Sp)(dvs:List V)(E:XK)(t:TA):TE:=λσ H Q=>t σ H λvs H1=>sp (vs++dvs) H1 Q E
noncomputable def Binds (K:a6)(fd:FuncData)(ps:List Str)(ds:List Value):Prop:=
 ∀(s:Shared) (us:List Value),K.In s.heap->(us++ds).length=ps.length->BindsTo s fd ⟨us,[]⟩ (ps.zip (us++ds))
theorem Binds.all {K:a6}{fd:FuncData}{ps:List Str}(h:∀us:List Value,us.length=ps.length->bindArgs fd ⟨us,[]⟩=pure (ps.zip us)):Binds K fd ps []:=λs us _ hl=>by
 rw[aT]at hl ⊢;exact .of_eq (h us hl)
def zO (CX:CXT)(X:Cx)(E:XK):Prop:=∀(pins:List (Addr×Obj)) (σ:St) (H:Hp) (s:Shared) (e:Value) (s' :Shared),Inv X pins σ H s->CX X.stack H s E e s' ->X.xe e s'
section
variable {X:Cx}{CX:CXT}{k:Nat}{f C:Addr}{fd:FuncData}{ps:List Str}{sp:Sp}{dvs:List V}{ds:List Value}{E:XK}{x m:Str}{p pos apos:Pos}{e o:Expr}{es:List Expr}{ta:TE}{t:TA}
theorem Vh {pins:List (Addr×Obj)}{σ:St}{H:Hp}{s:Shared}{Q:VK}{us:List Value}{vs:List V}(F:WZ X.prog X.w X.K X.mg X.base CX k f fd ps sp)(hr:Z8 k X.A)(hb:Binds X.K fd ps ds)(hd:zM dvs ds)(hx:zO CX X E)
  (I:Inv X pins σ H s) (r:zM vs us) (h:sp (vs++dvs) H Q E):wpAny (model X.prog X.w) X.A (call (.ref f) us) (EP X pins σ Q) X.xe s:=by
 have r2:=r.append hd;have hl:(us++ds).length=ps.length:=by rw[← r2.length];exact F.len _ _ _ _ h
 refine wpAny_call (codeAny_mono (F.run X.A _ s H _ _ _ Q E hr I.env0 (hb s us I.kIn hl) r2 h) λr s' hq=> ?_);cases r with
 | error e=>exact hx _ σ H s e s' I hq
 | ok fl=>
  cases fl with
  | ret u=>exact I.after hq
  | next=>exact aU hq
  | brk=>exact aU hq
  | cont=>exact aU hq
theorem Qb (F:WZ X.prog X.w X.K X.mg X.base CX k f fd ps sp)(hr:Z8 k X.A)(hg:Gl X x)(hm:X.mg x=some (.ref f))(hk:bJ X.K (.ref f)=true)(hb:Binds X.K fd ps ds)(hd:zM dvs ds)(hx:zO CX X E)
  (ha:PA X (e :: es) t) (hdb:(x == ("__debug__":Str))=false:=by decide) (he:starEach (e :: es) X.env=(false,eval e X.env) :: starEach es X.env:=by rfl) (hpl:(backTo pos (starEach es X.env)).any (·.1)=false:=by rfl):
  PE X (.Call (.Name x p) (e :: es) [] pos) (Vg sp dvs E t):=by
 intro pins s σ H Q I h;refine wpAny_Call_Name_kw (Zv I hg hm ?_ hdb);refine PySem.W.callWith_K I.ok.mod.kin hk (thn (ha pos _ s σ H _ I h) λus s1 ⟨vs,H1,I1,r,q⟩=>⟨I1.kIn, ?_⟩) he hpl;exact Vh F hr hb hd hx I1 r q
end
section
variable {X:Cx}{CX:CXT}{k:Nat}{f C:Addr}{fd:FuncData}{ps ks:List Str}{sp:Sp}{E:XK}{x m:Str}{p pos apos kpos:Pos}{e o:Expr}{es:List Expr}{kws:List Keyword}{te ta:TE}{t tk:TA}{nm:Option Str}
variable {g:List Value->List Value->List Value}{gV:List V->List V->List V}
end
structure Z6 (N P:List Str) (sc:Scope):Prop where
 kind:sc.kind= .function
 co:sc.isCoroutine=false
 gen:sc.isGenerator=false
 nd:N.Nodup
 pre:N.take P.length=P
 par:∀x∈P,sc.names.lookup x=some .local\/sc.names.lookup x=some .cell
 nofree:∀y∈sc.names,y.2 ≠ .free
theorem wR {kindOf:Str->Option NameKind}{x:Str}:∀{binds:List (Str×Value)} {m:Str->Option Value},(∀v,(x,v) ∉ binds)->bindL kindOf binds m x=m x
 | [],_,_=>rfl
 | (n,v) :: r,m,h=>by
  unfold bindL;rw[wR λw hw=>h w (aa _ hw)];split
  ·have:x ≠ n:=by rintro rfl;exact h v ai
   simp[this]
  ·rfl
theorem wS {kindOf:Str->Option NameKind}{x:Str}:∀{binds:List (Str×Value)} {m:Str->Option Value},(∀v,(x,v) ∉ binds)->bindC kindOf binds m x=m x
 | [],_,_=>rfl
 | (n,v) :: r,m,h=>by
  unfold bindC;rw[wS λw hw=>h w (aa _ hw)];split
  ·rfl
  ·have:x ≠ n:=by rintro rfl;exact h v ai
   simp[this]
theorem wT {kindOf:Str->Option NameKind}{x:Str}{v:Value}:∀{P:List Str} {vs:List Value} {i:Nat} {m:Str->Option Value},P.Nodup->P[i]? =some x->vs[i]? =some v->kindOf x=some .local->
  bindL kindOf (P.zip vs) m x=some v
 | [],_,_,_,_,h,_,_=>by simp at h
 | _ :: _,[],_,_,_,_,h,_=>by simp at h
 | p :: P,w :: vs,0,m,nd,h1,h2,hk=>by
  simp at h1 h2;subst h1;subst h2;show bindL _ ((p,w) :: P.zip vs) m p=_;unfold bindL;rw[wR λv hv=>(cD.mp nd).1 (cF hv).1,if_pos hk];simp
 | p :: P,w :: vs,i+1,m,nd,h1,h2,hk=>by
  show bindL _ ((p,w) :: P.zip vs) m x=_;exact wT (cD.mp nd).2 (by simpa using h1) (by simpa using h2) hk
theorem wU {kindOf:Str->Option NameKind}{x:Str}{v:Value}:∀{P:List Str} {vs:List Value} {i:Nat} {m:Str->Option Value},P.Nodup->P[i]? =some x->vs[i]? =some v->kindOf x ≠ some .local->
  bindC kindOf (P.zip vs) m x=some v
 | [],_,_,_,_,h,_,_=>by simp at h
 | _ :: _,[],_,_,_,_,h,_=>by simp at h
 | p :: P,w :: vs,0,m,nd,h1,h2,hk=>by
  simp at h1 h2;subst h1;subst h2;show bindC _ ((p,w) :: P.zip vs) m p=_;unfold bindC;rw[wS λv hv=>(cD.mp nd).1 (cF hv).1,if_neg hk];simp
 | p :: P,w :: vs,i+1,m,nd,h1,h2,hk=>by
  show bindC _ ((p,w) :: P.zip vs) m x=_;exact wU (cD.mp nd).2 (by simpa using h1) (by simpa using h2) hk
def start (N:List Str)(vs:List V):St:=vs.map some++av (N.length - vs.length) none
def Z4 (CX:CXT)(P:Program)(w:World)(K:a6)(mg:Str->Option Value)(base:Heap)(N:List Str)(qual:Str)(scope:Scope)(f:Addr)(cd:Value)(A:Around)(outer:List Env)(s:Shared)(H:Hp)(E:XK):Cx where
 prog:=P
 w:=w
 K:=K
 mg:=mg
 base:=base
 A:=A.deeper (envOfC qual scope s.heap.objs.size f cd)
 N:=N
 s₀:=s
 H₀:=H
 env:=envOfC qual scope s.heap.objs.size f cd
 outer:=outer
 stack:=envOfC qual scope s.heap.objs.size f cd :: outer
 ex:=[]
 calm:=true
 fn:=λ_=>true
 pn:=[]
 xe:=λe s' =>wpAny (model P w) (A.deeper (envOfC qual scope s.heap.objs.size f cd)) (leaving (envOfC qual scope s.heap.objs.size f cd) e) (λ_ s'' =>CX outer H s E e s'') (λe' s'' =>CX outer H s E e' s'') s'
theorem u0 {sc:Scope}{n:Nat}{x:Str}(h:sc.names.lookup x=some .cell):∃c,(cellsFrom n sc.names []).lookup x=some c:=by
 have q:=cN _ n [] (.inl h);exact bZ.mp q
theorem jY {CX:CXT}{P:Program}{w:World}{K:a6}{mg:Str->Option Value}{base:Heap}{N ps:List Str}{qual:Str}{scope:Scope}{f:Addr}{cd:Value}{A:Around}{outer:List Env}{s s1:Shared}{H:Hp}{E:XK}{us:List Value}{vs:List V}
  (S:Z6 N ps scope) (hd:A.handled=none) (e0:U3 P w K mg base A outer s H) (hl:vs.length=ps.length) (r:zM vs us)
  (x:InCallC s s.heap.objs.size (bindL (envOfC qual scope s.heap.objs.size f cd).kindOf (ps.zip us) λ_=>none) (cellsFrom (s.heap.objs.size+1) scope.names []) (bindC (envOfC qual scope s.heap.objs.size f cd).kindOf (ps.zip us) λ_=>none) s1):
  Inv (Z4 CX P w K mg base N qual scope f cd A outer s H E) [] (start N vs) H s1:=by
 have hpl:=by have:=congrArg dU S.pre;rw[fo]at this;omega
 obtain⟨h1,tk,rfl,hk⟩:=x.done;have noA:∀b,b ∉ (Z4 CX P w K mg base N qual scope f cd A outer s H E).ex:=λb z=>absurd (show b∈([]:List _) from z) (by simp)
 refine⟨⟨e0.mod,S.kind,rfl,rfl,aj _,λy z c h1 h2=> ?_,λy hy=> ?_,λy c _ h=> ?_,λ_=>hd,c_ e0.frames,.inr ⟨rfl,rfl⟩,λb z=>absurd z (noA b),e0.bs,e0.bsz,λb _ _=>noA b,λb z=>absurd z (noA b),e0.funs,e0.frf⟩,
  rfl,e0.bare,Un.kept hk,⟨_,x.toInCall.ns,λi y v h1 h2 h3=> ?_⟩,λy c h=>⟨_,x.cell y c h⟩,e0.hok.fresh (aj _),λy c h=> ?_,λp hp=>absurd (show p∈([]:List _) from hp) (by simp),e0.hok.kept hk, ?_⟩
 ·exact name_of_addr x.apart (aR h1) (aR h2)
 ·rcases hy with hy | hy
  ·exact u0 hy
  ·exact absurd rfl (S.nofree _ (aR hy))
 ·exact eQ (x.above y c (aR h))
 ·have hi:i < vs.length:=by
   unfold start at h2
   by_cases hi:i < vs.length
   ·exact hi
   ·rw[aJ (by simpa using hi)]at h2
    rw[aA]at h2;split at h2 <;> cases h2
  have ha:vs[i]? =some v:=by
   unfold start at h2;rw[aP (by simpa using hi),ax]at h2
   cases e:vs[i]? with
   | none=>rw[e]at h2;cases h2
   | some a=>rw[e]at h2;cases h2;rfl
  obtain⟨u,hu,rv⟩:=r.get ha;have hp:ps[i]? =some y:=by
   rw[← S.pre,List.getElem?_take_of_lt (by omega)];exact h1
  have ndP:ps.Nodup:=by rw[← S.pre];exact S.nd.sublist (List.take_sublist _ _)
  refine⟨u,rv, ?_⟩;rcases S.par y (dW hp) with k | k
  ·exact .inl ⟨k,wT ndP hp hu k⟩
  ·obtain⟨c,e⟩:=u0 k;refine .inr ⟨.inl k,c,e, ?_⟩;have q:=x.cell y c e;rw[wU ndP hp hu (by show scope.names.lookup y ≠ _;rw[k];decide)]at q
   exact q
 ·exact e0.hok.fresh (eQ (x.above y c (aR h)))
 ·unfold start;show _=N.length;rw[ae,ah,aV];omega
theorem Vi {CX:CXT}{P:Program}{w:World}{K:a6}{mg:Str->Option Value}{base:Heap}{k:Nat}{f:Addr}{name qual:Str}{params:Arguments}{body:List Stmt}{scope:Scope}{dV kV doc pm cdv ct oc:Value}{an od:Option Addr}
  {osl:Array (Option Value)} {N ps:List Str} {sp:Sp} (lk:K.lookup f=some ⟨oc,od,.func (bw name qual params body scope dV kV doc pm an cdv ct),osl⟩) (hcd:cO K cdv qual=true) (S:Z6 N ps scope)
  (len:∀vs H Q E,sp vs H Q E->vs.length=ps.length)
  (hbody:∀(A:Around) (outer:List Env) (s:Shared) (H:Hp) (vs:List V) (Q:VK) (E:XK),Z8 k (A.deeper (envOfC qual scope s.heap.objs.size f cdv))->sp vs H Q E->
   ∃t,PSs (Z4 CX P w K mg base N qual scope f cdv A outer s H E) body t/\t { nx:=λ_ H' =>Q .non H',rt:=Q } (start N vs) H):
  WZ P w K mg base CX (k+1) f (bw name qual params body scope dV kV doc pm an cdv ct) ps sp:=by
 refine⟨len,λA outer s H args us vs Q E hr e0 hb r hsp=> ?_⟩;have hl:=len _ _ _ _ hsp;have KX:=e0.mod.kin.keeps λb o e=>(e0.bs b o e).1;have lim:=e0.mod.nolimit.keeps λb o e=>(e0.bs b o e).1;have hkind:∀y∈ps.zip us,scope.names.lookup y.1=some _\/(scope.names.lookup y.1=some _/\((cellsFrom (s.heap.objs.size+1) _ []).lookup y.1).isSome=true):=λ⟨n,v⟩ hy=>by
  rcases S.par n (cF hy).1 with q | q
  ·exact .inl q
  ·exact .inr ⟨q,cN _ _ _ (.inl q)⟩
 refine codeAny_call_function hr.depth (KX _ _ lk) rfl S.co S.gen rfl (eK KX hcd) (hb _ _ _ _ ?_);refine wpAny_newFunctionEnv_cells S.kind hkind λenv he s1 x=> ?_;subst he;refine⟨lim.keeps x.toInCall.keep,codeAny_func ?_⟩;obtain⟨t,ht,hq⟩:=hbody A _ s H vs Q E (hr.deeper _) hsp;have I:Inv (Z4 CX P w K mg _ N _ _ f cdv A _ s H E) [] _ H s1:=jY S hr.hd e0 hl r x;refine aG (ht [] s1 _ H _ I hq) (λfl s' hs=> ?_) λe s' hs=>hs;have fin:∀{σ' :St} {H' :Hp} {v:V} {u:Value},Inv (Z4 CX P w K mg base N qual scope f cdv A outer s H E) [] σ' H' s' ->zT v u->Q v H' ->CE _ P w H s Q u s' :=
  λ{σ' H' v u} J rv q=>⟨v,H',J.os,J.bare,J.base,J.hok,rv,q⟩
 cases fl with
 | ret u=>
  obtain⟨v,σ',H',J,rv,q⟩:=hs;exact fin J rv q
 | next=>
  obtain⟨σ',H',J,q⟩:=hs;exact fin (v:=V.non) J rfl q
 | brk=>
  obtain⟨_,_,_,q⟩:=hs;exact aU q
 | cont=>
  obtain⟨_,_,_,q⟩:=hs;exact aU q
end L2
namespace L2
open PySem PySem.Spec PyProof.Rows
section
variable {X:Cx}{x:Str}{p pos:Pos}{e:Expr}{es:List Expr}{t:TA}{id T:String}{r:List V->Hp->VK->Prop}
def tCB (r:List V->Hp->VK->Prop)(t:TA):TE:=λσ H Q=>t σ H λvs H1=>r vs H1 Q
theorem ZQ (hc:Zw X (.builtin id) r)(hg:Gl X x)(hm:X.mg x=none)(hv:bootBuiltins x=some (.builtin id))(ha:PA X (e :: es) t)(hn:x ≠ "__name__":=by decide)(hdb:(x == ("__debug__":Str))=false:=by decide)
  (he:starEach (e :: es) X.env=(false,eval e X.env) :: starEach es X.env:=by rfl) (hpl:(backTo pos (starEach es X.env)).any (·.1)=false:=by rfl):PE X (.Call (.Name x p) (e :: es) [] pos) (tCB r t):=by
 intro pins s σ H Q I h;refine wpAny_Call_Name_kw (jd I hg hm hv ?_ hn hdb);exact PyProof.Rows.callWith_builtin1 (thn (ha pos _ s σ H _ I h) λus s1 ⟨vs,H1,I1,r1,q1⟩=>hc _ s1 σ H1 vs us Q I1 r1 q1) he hpl
theorem wV (hc:Zw X (.type T) r)(hg:Gl X x)(hm:X.mg x=none)(hv:bootBuiltins x=some (.type T))(ha:PA X (e :: es) t)(hn:x ≠ "__name__":=by decide)(hdb:(x == ("__debug__":Str))=false:=by decide)
  (he:starEach (e :: es) X.env=(false,eval e X.env) :: starEach es X.env:=by rfl) (hpl:(backTo pos (starEach es X.env)).any (·.1)=false:=by rfl):PE X (.Call (.Name x p) (e :: es) [] pos) (tCB r t):=by
 intro pins s σ H Q I h;refine wpAny_Call_Name_kw (jd I hg hm hv ?_ hn hdb);exact bP (thn (ha pos _ s σ H _ I h) λus s1 ⟨vs,H1,I1,r1,q1⟩=>hc _ s1 σ H1 vs us Q I1 r1 q1) he hpl
end
end L2
namespace HT
open PySem PyProof.Rows
section
open PySem.SeqAt
open PySem.AutoSeq1 (wpAny_loadPart')
open PySem.MeetsSeq PySem.MeetsSeq2 PySem.MeetsSeq3
end
section
variable {prog:Program}{w:World}{A:Around}{E:Value->Shared->Prop}{s:Shared}
theorem cat_tup {t b:Addr}{vs ws:List Value}{Q:Value->Shared->Prop}(ht:IsTup s.heap t vs.toArray)(hb:IsTup s.heap b ws.toArray)(hv:vs ≠ [])
  (h1:ws=[]->Q (.ref t) s) (h2:ws ≠ []->Q (.ref s.heap.objs.size) { s with heap:=s.heap.push { cls:= .type "tuple",data:= .seq (vs++ws).toArray } })
  (hsz:vs.length+ws.length<=sizeLine):wpAny (model prog w) A (binaryOp .Add (.ref t) (.ref b)) Q E s:=by
 obtain⟨⟨cls,dd,data,sl⟩,ho,hc,n,hd⟩:=id ht;obtain⟨⟨cls2,dd2,data2,sl2⟩,ho2,hc2,n2,hd2⟩:=id hb;subst hc hd hc2 hd2;have e:vs.toArray++ws.toArray=(vs++ws).toArray:=by simp
 by_cases hw:ws=[]
 ·exact concat_meets ⟨_,ho,rfl⟩ ⟨_,ho2,rfl⟩ noFill_tuple_add seq_tuple_add cP cJ (cA _ _)
   (tuple_addW1 t b _ _ n n2 dd dd2 sl sl2 (by simpa using hv) (by simp[hw])) ⟨ho,ho2,h1 hw⟩
 ·refine concat_meets ⟨_,ho,rfl⟩ ⟨_,ho2,rfl⟩ noFill_tuple_add seq_tuple_add cP cJ (cA _ _)
   (tuple_addW2 t b _ _ n n2 dd dd2 sl sl2 (by simpa using hv) (by simpa using hw) (by exact hsz)) ⟨ho,ho2, ?_⟩
  rw[e];exact h2 hw
noncomputable def sIx (n d:Nat):Option Int->Nat
 | none=>d
 | some v=>if v < 0 then (v+(n:Int)).toNat else min v.toNat n
end
end HT
namespace L2
open PySem PySem.Spec PyProof.Rows
abbrev TO:=St->Hp->(Option Int->Hp->Prop)->Prop
def PO (X:Cx)(e:Option Expr)(t:TO):Prop:=
 ∀(pins:List (Addr×Obj)) (s:Shared) (σ:St) (H:Hp) (Q:Option Int->Hp->Prop),Inv X pins σ H s->t σ H Q->
  wpAny (model X.prog X.w) X.A (evalPart e X.env) (λu s' =>∃o H',Inv X pins σ H' s' /\IsPart u o/\Q o H') X.xe s
def Qc:TO:=λ_ H Q=>Q none H
def XV (t:TE):TO:=λσ H Q=>t σ H λx H1=>∃i,x= .int i/\Q (some i) H1
section
variable {X:Cx}{e:Expr}{te:TE}{lo hi:Option Expr}{tl th:TO}{pos p2:Pos}
theorem Qd:PO X none Qc:=by
 intro pins s σ H Q I h;exact aw ⟨none,H,I,.none,h⟩
theorem Qe (h:PE X e te):PO X (some e) (XV te):=by
 intro pins s σ H Q I hw;refine thn (h _ s σ H _ I hw) λu s1 ⟨x,H1,I1,r1,q1⟩=> ?_;obtain⟨i,rfl,q⟩:=q1;obtain⟨t,rfl⟩:=r1;exact⟨some i,H1,I1,.int i t,q⟩
def SlR (X:Cx)(r:V->Option Int->Option Int->Hp->VK->Prop):Prop:=
 ∀(pins:List (Addr×Obj)) (s:Shared) (σ:St) (H:Hp) (x:V) (v vl vu:Value) (lo hi:Option Int) (sl:Addr) (Q:VK),Inv X pins σ H s->zT x v->s.heap.IsSliceOf sl vl vu .none->IsPart vl lo->IsPart vu hi->r x lo hi H Q->
  ∃T id,typeLookup (.type T) "__getitem__"=pure (some (.builtin id))/\s.TypeIs v T/\wpAny (model X.prog X.w) X.A (getItem v (.ref sl)) (EP X pins σ Q) X.xe s
def tSl (r:V->Option Int->Option Int->Hp->VK->Prop)(te:TE)(tl th:TO):TE:=λσ H Q=>te σ H λx H1=>tl σ H1 λl H2=>th σ H2 λu H3=>r x l u H3 Q
theorem Y9 {r:V->Option Int->Option Int->Hp->VK->Prop}(hr:SlR X r)(he:PE X e te)(hl:PO X lo tl)(hu:PO X hi th):PE X (.Subscript e (.Slice lo hi none p2) pos) (tSl r te tl th):=by
 intro pins s σ H Q I h;refine Subscript_ (thn (he _ s σ H _ I h) λv s1 ⟨x,H1,I1,r1,q1⟩=> ?_);refine wpAny_Slice (thn (hl _ s1 σ H1 _ I1 q1) λvl s2 ⟨l,H2,I2,pl,q2⟩=>thn (hu _ s2 σ H2 _ I2 q2) λvu s3 ⟨u,H3,I3,pu,q3⟩=> ?_);refine aw ?_;have I4:Inv X _ σ H3 { s3 with heap:=s3.heap.push { cls:= .type "slice",data:= .fields #[vl,vu,.none] } }:=I3.kept λb ob q=>a7 _ q;obtain⟨T,id,hT,ht,hg⟩:=hr _ _ σ H3 x v vl vu l u _ Q I4 r1 (Heap.IsSliceOf.new ..) pl pu q3;exact tail_any ht hT hg (by with_unfolding_all rfl)
noncomputable def XW (xs:List V)(lo hi:Option Int):List V:=(xs.drop (HT.sIx xs.length 0 lo)).take (HT.sIx xs.length xs.length hi - HT.sIx xs.length 0 lo)
theorem WB (xs:List V)(lo hi:Option Int):(XW xs lo hi).length<=xs.length:=by
 unfold XW;rw[fo,List.length_drop];omega
def XX (K:a6):R2:=λx y H Q=>∃a b xs ys,x= .ref a/\y= .ref b/\SqT K H a xs/\SqT K H b ys/\xs ≠ []/\xs.length+ys.length<=sizeLine/\
 (ys=[]->Q (.ref a) H)/\(ys ≠ []->∀p,H p=none->Q (.ref p) (upd H p (.tup (xs++ys))))
theorem zM.nil_iff {xs:List V}{us:List Value}(r:zM xs us):us=[]↔xs=[]:=by
 cases r with
 | nil=>simp
 | cons _ _=>simp
theorem Qf:OpR X (binaryOp .Add) (XX X.K):=by
 intro pins s σ H x y v u Q I rx ry h;obtain⟨a,b,xs,ys,rfl,rfl,ha,hb,hx,hz,q1,q2⟩:=h;cases rx;cases ry;obtain⟨its,r1,p1,_⟩:=I.tuple ha;obtain⟨its2,r2,p2,_⟩:=I.tuple hb;refine HT.cat_tup p1 p2 (λz=>hx (r1.nil_iff.mp z)) (λz=>⟨.ref a,H,I,rfl,q1 (r2.nil_iff.mp z)⟩) (λz=> ?_) (by rw[← r1.length,← r2.length];exact hz)
 refine⟨.ref _,_,I.laid (λb ob q=>a7 _ q) (aj _) ?_,rfl,q2 (λw=>z (r2.nil_iff.mpr w)) _ (I.hok.fresh (aj _))⟩;exact⟨by rw[ae];exact hz,_,r1.append r2,ITN.new _ _⟩
end
end L2
namespace L2
open PySem PySem.Spec PyProof.Rows
noncomputable def ixN (n:Nat)(i:Int):Option Nat:=if 0<=i then (if i < n then some i.toNat else none) else if -(n:Int)<=i then some (i+n).toNat else none
def atI {α:Type}(xs:List α)(i:Int):Option α:=(ixN xs.length i).bind λj=>xs[j]?
theorem Qg {n:Nat}{i:Int}{j:Nat}(h:ixN n i=some j):seqIndex? i n=some j/\j < n/\ -(n:Int)<=i/\i < n:=by
 unfold ixN at h
 by_cases h0:0<=i
 ·rw[if_pos h0]at h
  by_cases h1:i < n
  ·rw[if_pos h1]at h;have e:=aq h;exact⟨by rw[seqIndex_of h0 h1,e],by omega,by omega,h1⟩
  ·rw[if_neg h1]at h;cases h
 ·rw[if_neg h0]at h
  by_cases h1: -(n)<=i
  ·rw[if_pos h1]at h;have e:=aq h;exact⟨by rw[seqIndex_neg (by omega) h1,e],by omega,h1,by omega⟩
  ·rw[if_neg h1]at h;cases h
theorem WC {α:Type}{xs:List α}{i:Int}{v:α}(h:atI xs i=some v):∃j,seqIndex? i xs.length=some j/\xs[j]? =some v/\j < xs.length/\ -(xs.length:Int)<=i/\i < xs.length:=by
 unfold atI at h;cases e:ixN _ i with
 | none=>rw[e]at h;cases h
 | some j=>
  rw[e]at h;obtain⟨h1,h2,h3,h4⟩:=Qg e;exact⟨j,h1,h,h2,h3,h4⟩
theorem ZM {α:Type}{xs:List α}{j:Nat}{v:α}(h:xs[j]? =some v):atI xs (j:Int)=some v:=by
 have hj:=(aO.mp h).1;have e:ixN xs.length (j)=some j:=by
  unfold ixN;rw[if_pos (by omega),if_pos (by omega)];simp
 unfold atI;rw[e];exact h
noncomputable def Uo (b:Expr):Prop:=∀o i,subscripted b false o i=operate [o,i] (getItem o i)
def IxR (X:Cx)(r:R2):Prop:=
 ∀(value slice:Expr) (pins:List (Addr×Obj)) (s:Shared) (σ:St) (H:Hp) (x y:V) (v u:Value) (Q:VK),Inv X pins σ H s->zT x v->zT y u->r x y H Q->
  subscripted slice false v u=operate [v,u] (getItem v u)->wpAny (model X.prog X.w) X.A (subscriptTail value slice v u) (EP X pins σ Q) X.xe s
def MtR (X:Cx)(id:String)(r:V->List V->Hp->VK->Prop):Prop:=
 ∀(pins:List (Addr×Obj)) (s:Shared) (σ:St) (H:Hp) (x:V) (xs:List V) (v:Value) (us:List Value) (Q:VK),Inv X pins σ H s->zT x v->zM xs us->r x xs H Q->
  wpAny (model X.prog X.w) X.A (call (.builtin id) (v :: us)) (EP X pins σ Q) X.xe s
section
variable {X:Cx}{a b:Expr}{ta tb:TE}{pos:Pos}
theorem IxR.or {r r' :R2}(h:IxR X r)(h' :IxR X r'):IxR X (λx y H Q=>r x y H Q\/r' x y H Q):=by
 intro value slice pins s σ H x y v u Q I rx ry q hs;rcases q with q | q
 ·exact h _ _ _ s σ H x y v u Q I rx ry q hs
 ·exact h' _ _ _ s σ H x y v u Q I rx ry q hs
theorem XY {r:R2}(hr:IxR X r)(ha:PE X a ta)(hb:PE X b tb)(hs:Uo b):PE X (.Subscript a b pos) (tOp r ta tb):=by
 intro pins s σ H Q I h;exact Subscript_ (XM ha hb I h λv u s2 x y H2 I2 rx ry q=>hr a b _ s2 σ H2 x y v u Q I2 rx ry q (hs _ _))
def gm (K:a6):R2:=λx y H Q=>∃p xs i v,x= .ref p/\y= .int i/\SqL K H p xs/\atI xs i=some v/\Q v H
def gq (K:a6):R2:=λx y H Q=>∃p xs i v,x= .ref p/\y= .int i/\SqT K H p xs/\atI xs i=some v/\Q v H
def gr:R2:=λx y H Q=>∃z i c,x= .str z/\y= .int i/\z.length<=sizeLine/\atI z.cps.toList i=some c/\Q (.str ⟨#[c]⟩) H
theorem Qh:IxR X (gm X.K):=by
 intro value slice pins s σ H x y v u Q I rx ry h hs;obtain⟨p,xs,i,z,rfl,rfl,hq,he,q⟩:=h;cases rx;obtain⟨t,rfl⟩:=ry;obtain⟨its,r,pl,hz⟩:=I.list hq;obtain⟨j,h1,h2,h3,h4,h5⟩:=WC he;obtain⟨w,ew,rw'⟩:=r.get h2;have hl:=r.length;have hn:=wQ;have fin:EP X _ σ Q w s:=⟨z,H,I,rw',q⟩
 by_cases h0:0<=i
 ·have hj:=by
   rw[seqIndex_of h0 h5]at h1;exact aq h1
  exact item_listR pl.isList h0 (by omega) (by rw[hj];simpa using ew) fin hs
 ·have hj:(i+(its.toArray.size)).toNat=j:=by
   rw[seqIndex_neg (by omega) h4]at h1
   rw[aD,← hl];exact aq h1
  exact subscriptTail_builtinR pl.isList.typeIs slot_list_getitem.lookup
   (wpAny_getItem_list_neg pl.isList (by omega) (by rw[aD] <;> omega) (by omega) (by rw[hj];simpa using ew) ⟨rfl,fin⟩) hs
theorem Vj:IxR X (gq X.K):=by
 intro value slice pins s σ H x y v u Q I rx ry h hs;obtain⟨p,xs,i,z,rfl,rfl,hq,he,q⟩:=h;cases rx;obtain⟨t,rfl⟩:=ry;obtain⟨its,r,pl,hz⟩:=I.tuple hq;obtain⟨j,h1,h2,h3,h4,h5⟩:=WC he;obtain⟨w,ew,rw'⟩:=r.get h2;have hl:=r.length;have hn:=wQ;have fin:EP X _ σ Q w s:=⟨z,H,I,rw',q⟩;exact subscriptTail_builtinR pl.typeIs slot_tuple_getitem.lookup
  (getItem_tuple pl (by omega) (by omega) (by rw[aD,← hl];exact h1) (by simpa using ew) ⟨rfl,fin⟩) hs
theorem Vk:IxR X gr:=by
 intro value slice pins s σ H x y v u Q I rx ry h hs;obtain⟨z,i,c,rfl,rfl,hz,he,q⟩:=h;obtain⟨t,rfl⟩:=rx;obtain⟨t',rfl⟩:=ry;obtain⟨j,h1,h2,h3,h4,h5⟩:=WC he;have hl:z.cps.toList.length=z.length:=by simp[dE]
 rw[hl]at h1 h4 h5;have hn:=wQ;exact tail_any (cf s z t) slot_str_getitem.lookup (getItem_str (by
  have e1:decide (i < -(2 ^ 63))=false:=decide_eq_false (by omega)
  have e2:decide (i ≥ 2 ^ 63)=false:=decide_eq_false (by omega)
  rw[e1,e2,Bool.or_false]) (by rw[h1];simpa using h2) ⟨.str _,H,I.tok _,⟨_,rfl⟩,q⟩) hs
def rIx (K:a6):R2:=λx y H Q=>gm K x y H Q\/gq K x y H Q\/gr x y H Q
theorem Vl:IxR X (rIx X.K):=Qh.or (Vj.or Vk)
theorem wW (lo hi:Option Int)(n:Nat):(sliceBounds lo hi none n).1=((HT.sIx n 0 lo:Nat):Int)/\(sliceBounds lo hi none n).2.1=((HT.sIx n n hi:Nat):Int)/\(sliceBounds lo hi none n).2.2=1:=by
 refine⟨?_, ?_,rfl⟩
 ·cases lo with
  | none=>simp[sliceBounds,HT.sIx]
  | some i=>
   simp only[sliceBounds,HT.sIx,fq,show (1) > 0 by decide,if_true]
   by_cases h:i < 0
   ·simp only[h,if_true] <;> omega
   ·simp only[h,if_false] <;> omega
 ·cases hi with
  | none=>simp[sliceBounds,HT.sIx]
  | some i=>
   simp only[sliceBounds,HT.sIx,fq,show (1) > 0 by decide,if_true]
   by_cases h:i < 0
   ·simp only[h,if_true] <;> omega
   ·simp only[h,if_false] <;> omega
theorem JY (its:List Value)(lo hi:Option Int):slicePick its.toArray lo hi none=((its.drop (HT.sIx its.length 0 lo)).take (HT.sIx its.length its.length hi - HT.sIx its.length 0 lo)).toArray:=by
 obtain⟨h1,h2,h3⟩:=wW lo hi _;unfold slicePick;rw[h1,h2,h3];simp only[sliceRange_one,pick_run,aD] <;> rfl
def gZ (K:a6):V->Option Int->Option Int->Hp->VK->Prop:=λx lo hi H Q=>∃a xs,x= .ref a/\SqL K H a xs/\∀p,H p=none->Q (.ref p) (upd H p (.lst (XW xs lo hi)))
theorem XZ:SlR X (gZ X.K):=by
 intro pins s σ H x v vl vu lo hi sl Q I rx hs pl pu h;obtain⟨a,xs,rfl,hx,q⟩:=h;cases rx;obtain⟨its,r,ht,hz⟩:=I.list hx;have hlen:=r.length;refine⟨"list",_,slot_list_getitem.lookup,ht.isList.typeIs, ?_⟩;refine wpAny_getItem_list_slice ht.isList hs pl pu .none (by simp) ?_ (by rw[aD] <;> omega)
 rw[JY,← hlen];refine⟨.ref _,_,I.laid (λb ob q=>a7 _ q) (aj _) ?_,rfl,q _ (I.hok.fresh (aj _))⟩;exact⟨aC (WB xs lo hi) hz,_,0,(r.drop _).take _,am _ rfl⟩
theorem wX:Zw X (.builtin "len") (λxs H Q=>∃p ys,xs=[.ref p]/\(SqL X.K H p ys\/SqT X.K H p ys)/\Q (.int ys.length) H):=by
 intro pins s σ H xs us Q I r h;obtain⟨p,ys,rfl,hq,q⟩:=h;obtain⟨u,rfl,rx⟩:=ZL r;cases rx;have hn:=wQ;rcases hq with hq | hq
 ·obtain⟨its,r',pl,hz⟩:=I.list hq;have hlen:=r'.length;exact Calls.call_len_list pl.isList (by simp only[aD] <;> omega) ⟨.int _,H,I.tok _,⟨s.toks+1,by rw[aD,hlen]⟩,q⟩
 ·obtain⟨its,r',pl,hz⟩:=I.tuple hq;have hlen:=r'.length;exact len_tuple pl (by simp only[aD] <;> omega) ⟨.int _,H,I.tok _,⟨s.toks+1,by rw[aD,hlen]⟩,q⟩
theorem wY:Zw X (.builtin "len") (λxs H Q=>∃z,xs=[.str z]/\z.length<=sizeLine/\Q (.int z.length) H):=by
 intro pins s σ H xs us Q I r h;obtain⟨z,rfl,hz,q⟩:=h;obtain⟨u,rfl,t,rfl⟩:=ZL r;have hn:=wQ;exact len_str (by omega) ⟨.int _,H,I.tok _,⟨_,rfl⟩,q⟩
theorem Zw.or {f:Value}{r r' :List V->Hp->VK->Prop}(h:Zw X f r)(h' :Zw X f r'):Zw X f (λxs H Q=>r xs H Q\/r' xs H Q):=by
 intro pins s σ H xs us Q I rs q;rcases q with q | q
 ·exact h _ s σ H xs us Q I rs q
 ·exact h' _ s σ H xs us Q I rs q
theorem je:Zw X (.type "tuple") (λxs H Q=>∃p ys,xs=[.ref p]/\((SqL X.K H p ys/\∀l,H l=none->Q (.ref l) (upd H l (.tup ys)))\/(SqT X.K H p ys/\Q (.ref p) H))):=by
 intro pins s σ H xs us Q I r h;obtain⟨p,ys,rfl,h⟩:=h;obtain⟨u,rfl,rx⟩:=ZL r;cases rx;rcases h with ⟨hq,q⟩ | ⟨hq,q⟩
 ·obtain⟨its,r',pl,hz⟩:=I.list hq;have hlen:=r'.length;refine call_tuple_list pl.isList (λh' kp=> ?_) (by simp only[aD] <;> omega)
  have I1:Inv X _ σ H { s with heap:=h' }:=I.kept kp;have I2:Inv X _ σ (upd H _ (.tup ys)) { s with heap:=h'.push _ }:=
   I1.laid (λb o e=>a7 _ e) (aj _) (show zZ _ X.w _ _ _ _ from ⟨hz,its,r',ITN.new _ _⟩)
  exact⟨.ref _,_,I2,rfl,q _ (I1.hok.fresh (aj _))⟩
 ·obtain⟨its,r',pl,hz⟩:=I.tuple hq;exact call_tuple_same pl ⟨.ref p,H,I,rfl,q⟩
def tyV (K:a6)(T:String)(x:V)(H:Hp):Prop:=match x with
 | .str _=>T="str"
 | .int _=>T="int"
 | .ref p=>(T="list"/\∃xs,SqL K H p xs)\/(T="tuple"/\∃o,K.lookup p=some o/\o.cls= .type "tuple"/\o.dict=none)\/
   (T="dict"/\((∃kvs,H p=some (.dK kvs))\/∃kvs,H p=some (.dT kvs)))\/(T="set"/\∃S n,H p=some (.set S n))
 | _=>False
theorem Vm {pins:List (Addr×Obj)}{σ:St}{H:Hp}{s:Shared}{T:String}{x:V}{v:Value}(I:Inv X pins σ H s)(r:zT x v)(ty:tyV X.K T x H):
  s.TypeIs v T/\∀a,v= .ref a->∃ob,s.heap.get? a=some ob/\ob.dict=none:=by
 cases x with
 | str z=>
  obtain⟨t,rfl⟩:=r;cases (ty);exact⟨cf s z t,λ_ e=>nomatch e⟩
 | int i=>
  obtain⟨t,rfl⟩:=r;cases (ty);exact⟨typeIs_int s i t,λ_ e=>nomatch e⟩
 | ref p=>
  cases r;rcases ty with ⟨rfl,xs,hq⟩ | ⟨rfl,o,hk,hc,hd⟩ | ⟨rfl,hk⟩ | ⟨rfl,S,n,hk⟩
  ·obtain⟨its,_,pl,_⟩:=I.list hq;refine⟨pl.isList.typeIs,λa e=> ?_⟩;cases e;obtain⟨o,n,e,c,hd,_⟩:=pl;exact⟨o,e,hd⟩
  ·refine⟨⟨o,I.kIn p o hk,hc⟩,λa e=> ?_⟩;cases e;exact⟨o,I.kIn _ o hk,hd⟩
  ·have z:∃o,s.heap.get? p=some o/\o.ExactDict:=by
    rcases hk with ⟨kvs,hk⟩ | ⟨kvs,hk⟩
    ·obtain⟨_,_,_,_,o,_,_,e,ex,_⟩:=I.hok p _ hk;exact⟨o,e,ex⟩
    ·obtain⟨_,_,_,_,o,_,_,e,ex,_⟩:=I.hok p _ hk;exact⟨o,e,ex⟩
   obtain⟨o,e,ex⟩:=z;refine⟨⟨o,e,ex.1⟩,λa e2=> ?_⟩;cases e2;exact⟨o,e,ex.2.1⟩
  ·obtain⟨o,_,_,_,e,ex,_⟩:=I.hok p _ hk;refine⟨⟨o,e,ex.1⟩,λa e2=> ?_⟩;cases e2;exact⟨o,e,ex.2.1⟩
 | _=>exact aU ty
def tBM (K:a6)(T:String)(r:V->List V->Hp->VK->Prop)(to:TE)(t:TA):TE:=λσ H Q=>to σ H λx H1=>tyV K T x H1/\t σ H1 λxs H2=>r x xs H2 Q
variable {o e:Expr}{es:List Expr}{to:TE}{t:TA}{name:Str}{apos cpos:Pos}{T id:String}{r:V->List V->Hp->VK->Prop}
theorem jZ (pa:PlainAttrs T)(slot:Slot T name id)(hty:typeOf (.builtin id)=pure (.type "method_descriptor"))(hm:MtR X id r)(ho:PE X o to)(ha:PA X (e :: es) t)
  (hbase:attributeBase o name X.env (eval o X.env)=eval o X.env:=by rfl)
  (hfew:((backTo cpos (starEach (e :: es) X.env)).all (λx=> !x.1) && (backToKw cpos (keywordEach [] X.env)).all (λx=>x.1.isSome)
   && decide ((e :: es).length+([]:List Keyword).length+(if ([]:List Keyword).isEmpty then 0 else 1) < 30))=true:=by rfl)
  (hline:(apos.endLine == cpos.line)=true:=by rfl) (hs:starEach (e :: es) X.env=(false,eval e X.env) :: starEach es X.env:=by rfl) (hplain:(backTo cpos (starEach es X.env)).any (·.1)=false:=by rfl):
  PE X (.Call (.Attribute o name apos) (e :: es) [] cpos) (tBM X.K T r to t):=by
 intro pins s σ H Q I h;refine wpAny_Call_method_late hbase hfew hline rfl (thn (ho _ s σ H _ I h) λv s1 ⟨x,H1,I1,r1,ty,q1⟩=> ?_);obtain⟨h1,h2⟩:=Vm I1 r1 ty;refine⟨T,id,pa,slot,hty,h1,h2, ?_⟩;have hA:=ha cpos _ s1 σ H1 _ I1 q1;rw[hs]at hA ⊢;refine Calls.callWith_builtin (by show (false || (backTo _ _).any _)=false;rw[hplain] <;> rfl) (d0 ?_)
 exact thn hA λus s2 ⟨vs,H2,I2,r2,q2⟩=>hm _ s2 σ H2 x vs v us Q I2 r1 r2 q2
end
end L2
namespace L2
open PySem PySem.Spec PyProof.Rows
def MtM (X:Cx)(id:String)(r:V->List V->Hp->VK->Prop):Prop:=
 ∀(pins:List (Addr×Obj)) (s:Shared) (σ:St) (H:Hp) (x:V) (xs:List V) (v:Value) (us:List Value) (Q:VK),Inv X pins σ H s->zT x v->zM xs us->r x xs H Q->
  wpAny (model X.prog X.w) X.A (call (.builtin id) (v :: us)) (EP X pins σ Q) X.xe s
theorem zM.one:∀{x:V} {us:List Value},zM [x] us->∃u,us=[u]/\zT x u
 | _,_,.cons r .nil=>⟨_,rfl,r⟩
theorem zM.rep {xs:List V}{us:List Value}(h:zM xs us):∀k:Nat,zM (av k xs).flatten (av k us).flatten
 | 0=> .nil
 | k+1=>by
  exact zM.append h (zM.rep h k)
theorem jg (its:List Value):∀(k:Nat) (acc:List Value),
  dg (λx1 x2=>x1++x2) acc.toArray (av k its.toArray)=(acc++(av k its).flatten).toArray
 | 0,acc=>by simp
 | k+1,acc=>by
  have e:acc.toArray++its.toArray=(acc++its).toArray:=by simp
  have e2:(acc++its)++(av k its).flatten=acc++(av (k+1) its).flatten:=by
   rw[da,eW,bx]
  rw[← e2,← jg its k _,← e,da,fH]
section
variable {X:Cx}{pins:List (Addr×Obj)}{σ:St}{H:Hp}{s:Shared}{l b:Addr}{xs ys zs:List V}
theorem Inv.lset {its its' :List Value}{n:Nat}{f:Array Value->Array Value}{t' :Nat}(I:Inv X pins σ H s)(hH:H l=some (.lst xs))
  (e:s.heap.get? l=some { cls:= .type "list",data:= .seq its.toArray n }) (hf:f its.toArray=its'.toArray) (hv:zM ys its') (hz:ys.length<=sizeLine):
  Inv X pins σ (upd H l (.lst ys)) { s with heap:=s.heap.update l (Obj.mapSeq f),toks:=t' }:=by
 have q:=PySem.IsL.update e f;rw[hf]at q;refine I.write (by rw[hH];exact trivial) (.inl rfl) (λb' u hb hu=>(aK _ _ (bu hb)).trans hu) ⟨_,q⟩ ?_
 exact⟨hz,its',_,hv,q⟩
theorem Inv.lnew {its:List Value}{t' :Nat}(I:Inv X pins σ H s)(hv:zM ys its)(hz:ys.length<=sizeLine):
  Inv X pins σ (upd H s.heap.objs.size (.lst ys)) { s with heap:=s.heap.push { cls:= .type "list",data:= .seq its.toArray },toks:=t' }:=
 I.laid (λ_ _ q=>a7 _ q) (aj _) ⟨hz,its,0,hv,am _ rfl⟩
theorem Inv.fresh (I:Inv X pins σ H s):H s.heap.objs.size=none:=I.hok.fresh (aj _)
theorem Inv.lstM (I:Inv X pins σ H s)(hH:H l=some (.lst xs)):xs.length<=sizeLine/\∃(its:List Value) (n:Nat),zM xs its/\xs.length=its.length/\s.heap.get? l=some { cls:= .type "list",data:= .seq its.toArray n }:=by
 obtain⟨z,its,n,r,e⟩:=I.hok l _ hH;exact⟨z,its,n,r,r.length,e⟩
theorem u1 {n:Nat}(h:n<=sizeLine):cB n=false:=by
 exact decide_eq_false (by omega)
end
section
variable {X:Cx}
def Qi:V->List V->Hp->VK->Prop:=λx vs H Q=>∃l xs y,x= .ref l/\vs=[y]/\H l=some (.lst xs)/\xs.length < sizeLine/\Q .non (upd H l (.lst (xs++[y])))
theorem J0:MtM X "list.append" Qi:=by
 intro pins s σ H x vs v us Q I rx rv h;obtain⟨l,xs,y,rfl,rfl,hH,hz,q⟩:=h;cases rx;obtain⟨u,rfl,ru⟩:=rv.one;obtain⟨z,its,n,r,hl,e⟩:=I.lstM hH;refine bO F.slot_list_append ⟨_,e,rfl⟩ F.entry_list_append (F.args_list_append_2 _ _) (PySem.list_append l _ n u (by rw[aD];omega)) ⟨e, ?_⟩
 refine⟨.non,_,I.lset hH e (by simp) (r.append (.cons ru .nil)) ?_,rfl,q⟩
 rw[ae,bF];omega
def Qj:V->List V->Hp->VK->Prop:=λx vs H Q=>∃l b xs zs,x= .ref l/\vs=[.ref b]/\H l=some (.lst xs)/\H b=some (.lst zs)/\xs.length+zs.length<=sizeLine/\Q .non (upd H l (.lst (xs++zs)))
theorem Up:MtM X "list.extend" Qj:=by
 intro pins s σ H x vs v us Q I rx rv h;obtain⟨l,b,xs,zs,rfl,rfl,hH,hB,hz,q⟩:=h;cases rx;obtain⟨u,rfl,ru⟩:=rv.one;cases ru;obtain⟨z,its,n,r,hl,e⟩:=I.lstM hH;obtain⟨z2,its2,n2,r2,hl2,e2⟩:=I.lstM hB;have hsz:its.toArray.size+its2.toArray.size<=sizeLine:=by rw[aD,aD];omega
 have hlong:¬ (!its.toArray.isEmpty && cB (its.toArray.size+its2.toArray.size))=true:=by
  rw[u1 hsz,Bool.and_false];exact aQ
 refine bO F.slot_list_extend ⟨_,e,rfl⟩ F.entry_list_extend (F.args_list_extend_2 _ _)
  (AutoSeq1.list_extend_list_list_0 l _ n b _ n2 hlong (by omega) (by omega)) ⟨e,e2, ?_⟩
 refine⟨.non,_,I.lset hH e (by simp) (r.append r2) ?_,rfl,q⟩
 rw[ae];omega
def G1:R2:=λx y H Q=>∃l b xs zs,x= .ref l/\y= .ref b/\H l=some (.lst xs)/\H b=some (.lst zs)/\xs.length+zs.length<=sizeLine/\∀p,H p=none->Q (.ref p) (upd H p (.lst (xs++zs)))
theorem Vn:OpR X (binaryOp .Add) G1:=by
 intro pins s σ H x y v u Q I rx ry h;obtain⟨l,b,xs,zs,rfl,rfl,hH,hB,hz,q⟩:=h;cases rx;cases ry;obtain⟨z,its,n,r,hl,e⟩:=I.lstM hH;obtain⟨z2,its2,n2,r2,hl2,e2⟩:=I.lstM hB;refine PySem.P.add_list e e2 ?_ (by rw[aD,aD];omega)
 have ea:its.toArray++its2.toArray=(its++its2).toArray:=by simp
 rw[ea];exact⟨.ref _,_,I.lnew (r.append r2) (by rw[ae];omega),rfl,q _ I.fresh⟩
def G2:R2:=λx y H Q=>∃l k xs,x= .ref l/\y= .int k/\H l=some (.lst xs)/\ -(2 ^ 63)<=k/\k < 2 ^ 63/\xs.length*k.toNat<=sizeLine/\
 ∀p,H p=none->Q (.ref p) (upd H p (.lst (av k.toNat xs).flatten))
theorem JZ {α:Type}(xs:List α)(k:Nat):(av k xs).flatten.length=k*xs.length:=by
 induction k with
 | zero=>simp
 | succ k ih=>rw[da,eW,ae,ih,Nat.succ_mul,Nat.add_comm]
theorem Vo:OpR X (binaryOp .Mult) G2:=by
 intro pins s σ H x y v u Q I rx ry h;obtain⟨l,k,xs,rfl,rfl,hH,h1,h2,hz,q⟩:=h;cases rx;obtain⟨t,rfl⟩:=ry;obtain⟨z,its,n,r,hl,e⟩:=I.lstM hH;have hlen:its.toArray.size*k.toNat<=sizeLine:=by rw[aD,← hl];exact hz
 have hcap:¬ its.toArray.size*k.toNat > (2 ^ 63 - 1) / 8:=by
  have:(sizeLine)<=(2 ^ 63 - 1) / 8:=by decide
  omega
 have hfit:¬ (!Builtin.List.listFitsIndex k)=true:=by
  rw[fitsIndex_both h1 h2];exact aQ
 have hlong:¬ cB (its.toArray.size*k.toNat)=true:=by
  rw[u1 hlen];exact aQ
 have hnew:dg (λx1 x2=>x1++x2) #[] (av (if its.toArray.isEmpty=true then 0 else k.toNat) its.toArray)=(av k.toNat its).flatten.toArray:=by
  have f0:∀m,dg (λx1 x2=>x1++x2) #[] _=(av m its).flatten.toArray:=λm=>by
   have:=jg its m [];exact this
  rw[f0];cases its with
  | nil=>simp
  | cons a r' =>rw[if_neg (by simp)]
 refine wpAny_binaryOp_repeat_ref (by decide) ⟨_,e,rfl⟩ (λs' =>typeIs_int s' k t) noFill_list_mul fI d8 repeat_list fu.lookup
  (bO d8 (typeIs_int s k t) fv (eX _ _) (int___rmul___int_list k t l _ n)
   ⟨e,rfl,⟨_,e,rfl⟩,bO F.slot_list_mul ⟨_,e,rfl⟩ F.entry_list_mul (F.args_list_mul_2 _ _) (AutoListH.list___mul___list_int_3 l _ n k t hfit hcap hlong) ⟨e, ?_⟩⟩)
 rw[hnew];exact⟨.ref _,_,I.lnew (r.rep _) (by rw[JZ,dF];exact hz),rfl,q _ I.fresh⟩
end
end L2
namespace Att
open PySem PySem.W PySem.Calls PyProof.Rows
theorem J4 {P:Params}{h:Heap}:∀(ns:List Int) (vs:List Value),WellAll P h vs (ns.map WData.int)->IntsAre vs ns:=by
 intro ns
 induction ns with
 | nil=>
  intro vs w;cases w;exact .nil
 | cons n ns ih=>
  intro vs w;cases w with
  | cons a b=>
   cases a;exact .cons _ _ (ih _ b)
theorem script_of {l:OpenLaw}{n:Nat}(hn:l.most=some n){P:Params}{h:Heap}{args:List WData}{vals:List Value}
  (hpre:l.row.toRowW.claim.pre args=true) (hwl:WellAll P h vals args):
  ∃a vs ns,vals=[Value.ref a]/\args=[WData.list (ns.map WData.int)]/\h.get? a=some { cls:= .type "list",data:= .seq vs.toArray }/\IntsAre vs ns/\ns.length<=n:=by
 have hsh:=(pre_splitW hpre).1;have hc:=(pre_splitW hpre).2;obtain⟨d,r,rfl,h1,h2⟩:=hasAllW_cons hsh;obtain rfl:=hasAllW_nil h2;obtain⟨xs,rfl,h3⟩:=hasW_list h1;obtain⟨ns,rfl⟩:=items_int h3;have hlen:ns.length<=n:=by
  have h4:=by
   have h4:=(holds_andW hc).1;rw[hn]at h4;exact h4
  have h5:=condW_of h4 (w_not (w_lt w_lit (w_len_list (w_arg rfl))));rw[ah]at h5;refine Nat.le_of_not_lt λq=> ?_;have q' :(n) < ((ns.length):Int):=by omega
  first
   | (rw[decide_eq_true q']at h5;exact absurd h5 (by decide))
   | (simp at h5)
 cases hwl with
 | cons w1 w2=>
  cases w2;cases w1 with
  | list ho hall=>exact⟨_,_,ns,rfl,rfl,ho,J4 ns _ hall,hlen⟩
theorem post_true (l:OpenLaw)(args:List WData):l.row.toRowW.claim.post args (.bool true) args=true:=
 postW_of
  (show WShape.has [] _ _=true by first | rfl | decide | simp[WShape.has,WShape.arms,WShape.armsAll])
  (show (WTm.eq _ _).value [] _=some _ from w_eq_bool (w_res rfl) w_lit) rfl
end Att
namespace L2
open PySem PySem.Spec PyProof.Rows
theorem wZ:∀{vs:List Value} {ns:List Int},IntsAre vs ns->zM (ns.map V.int) vs
 | _,_,.nil=> .nil
 | _,_,.cons n t h=> .cons ⟨t,rfl⟩ (wZ h)
end L2
namespace L2
open PySem PySem.Spec PyProof.Rows
end L2
namespace L2
open PySem PySem.Spec PyProof.Rows
noncomputable def ZN (s:Stmt):Arguments:=match s with
 | .FunctionDef _ a _ _ _ _ _ _ _ _=>a
 | _=>{ posonlyargs:=[],args:=[],vararg:=none,kwonlyargs:=[],kw_defaults:=[],kwarg:=none,defaults:=[] }
noncomputable def zv (s:Stmt):List Stmt:=match s with
 | .FunctionDef _ _ b _ _ _ _ _ _ _=>b
 | _=>[]
noncomputable def za (s:Stmt):Scope:=match s with
 | .FunctionDef _ _ _ _ _ _ sc _ _ _=>sc
 | _=>{ kind:= .function,names:=[],isGenerator:=false,isCoroutine:=false }
abbrev CX0:CXT:=λ_ _ _ _ _ _=>False
structure Fun (K:a6) (x qual:Str) (st:Stmt) (f:Addr) (fd:FuncData):Prop where
 ex:∃(oc:Value) (od:Option Addr) (kV doc pm:Value) (an:Option Addr) (cdv ct:Value) (osl:Array (Option Value)),
  fd=bw x qual (ZN st) (zv st) (za st) .none kV doc pm an cdv ct/\K.lookup f=some ⟨oc,od,.func fd,osl⟩/\cO K cdv qual=true
 kp:bJ K (.ref f)=true
section
variable {P:Program}{w:World}{K:a6}{mg:Str->Option Value}{base:Heap}
theorem Fun.ok {x qual:Str}{st:Stmt}{f:Addr}{fd:FuncData}{N ps:List Str}{k:Nat}{sp:Sp}(F:Fun K x qual st f fd)(S:Z6 N ps (za st))(len:∀vs H Q E,sp vs H Q E->vs.length=ps.length)
  (hbody:∀(cdv:Value) (A:Around) (outer:List Env) (s:Shared) (H:Hp) (vs:List V) (Q:VK) (E:XK),Z8 k (A.deeper (envOfC qual (za st) s.heap.objs.size f cdv))->sp vs H Q E->
   ∃t,PSs (Z4 CX0 P w K mg base N qual (za st) f cdv A outer s H E).nox (zv st) t/\t { nx:=λ_ H' =>Q .non H',rt:=Q } (start N vs) H):WZ P w K mg base CX0 (k+1) f fd ps sp:=by
 obtain⟨oc,od,kV,doc,pm,an,cdv,ct,osl,rfl,lk,hcd⟩:=F.ex;refine Vi lk hcd S len λA outer s H vs Q E hr hsp=> ?_;obtain⟨t,h,q⟩:=hbody cdv A _ s H vs Q E hr hsp;exact⟨t,h.nox,q⟩
theorem Fun.binds {x qual:Str}{st:Stmt}{f:Addr}{fd:FuncData}{ps:List Str}(F:Fun K x qual st f fd)
  (h:∀(kV doc pm:Value) (an:Option Addr) (cdv ct:Value) (us:List Value),us.length=ps.length->bindArgs (bw x qual (ZN st) (zv st) (za st) .none kV doc pm an cdv ct) ⟨us,[]⟩=pure (ps.zip us)):Binds K fd ps []:=by
 obtain⟨oc,od,kV,doc,pm,an,cdv,ct,osl,rfl,lk,hcd⟩:=F.ex;exact .all (h kV doc pm an cdv ct)
theorem Vp {x qual:Str}{st:Stmt}{f:Addr}{oc:Value}{od an:Option Addr}{osl:Array (Option Value)}{kV doc pm cdv ct:Value}(l:K.lookup f=some ⟨oc,od,.func (bw x qual (ZN st) (zv st) (za st) .none kV doc pm an cdv ct),osl⟩)
  (c:cO K cdv qual=true) (k:bJ K (.ref f)=true):Fun K x qual st f (bw x qual (ZN st) (zv st) (za st) .none kV doc pm an cdv ct):=⟨⟨oc,od,kV,doc,pm,an,cdv,ct,osl,rfl,l,c⟩,k⟩
end
section
variable {X:Cx}
theorem pv (i:Nat){x:Str}{pos:Pos}(hN:X.N[i]? =some x:=by rfl)(hv:Vis X.env.scope x:=by first | exact Or.inl rfl | exact Or.inr (Or.inl rfl) | exact Or.inr (Or.inr rfl))(hd:(x == ("__debug__":Str))=false:=by decide)
  (hcd:(x == ("__classdict__":Str))=false:=by decide):PE X (.Name x pos) (Y0 i):=WY hN hv hd hcd
end
def zh (H H' :Hp):Prop:=∀b o,H b=some o->H' b=some o
theorem zh.refl (H:Hp):zh H H:=λ_ _ h=>h
theorem zh.trans {H H1 H2:Hp}(a:zh H H1)(b:zh H1 H2):zh H H2:=λc o h=>b c o (a c o h)
theorem zh.free {H H' :Hp}(e:zh H H'){l:Addr}(h:H' l=Option.none):H l=Option.none:=by
 cases q:H l with
 | none=>rfl
 | some o=>
  rw[e l o q]at h;cases h
end L2
namespace L2
open PySem PySem.Spec PyProof.Rows PySem.W
theorem u4 {env:Env}{outer:List Env}{L:Addr}(h:env.frame=some L):frs (env :: outer)=L :: frs outer:=by
 unfold frs;rw[cy,h]
structure w4 (P:Program) (w:World) (outer:List Env) (H:Hp) (s s' :Shared) (ea:Addr) (cls a0:Value) (B:Heap) (H' :Hp):Prop where
 os:s'.os=s.os
 bare:AllBare s'.gens
 fly:cg B outer ea cls a0 s'.heap
 hok:HOk P w H' B
 un:Un (frs outer) [] H H' s.heap s'.heap
 inB:∀b o,s.heap.get? b=some o->b ∉ frs outer->(H b=none->B.get? b=some o)/\∃o',B.get? b=some o'
def CX1 (P:Program)(w:World):CXT:=λouter H s E e s' =>∃ea cls a0 B H',e= .ref ea/\w4 P w outer H s s' ea cls a0 B H' /\E cls none H'
section
variable {X:Cx}{pins:List (Addr×Obj)}{σ:St}{H H' :Hp}{s s' :Shared}{ea:Addr}{cls a0:Value}{B:Heap}{h' h'' :Heap}
theorem Inv.frNf (I:Inv X pins σ H s):∀b∈frs X.stack,H b=none/\∃o,s.heap.get? b=some o/\∀vs,o.data ≠ .fields vs:=λb hb=>⟨I.stkFree b hb,(I.stack.mem hb).2⟩
theorem w4.on {P:Program}{w:World}{outer:List Env}(L:w4 P w outer H s s' ea cls a0 B H')(ff:∀b∈frs outer,H b=none/\∃o,s.heap.get? b=some o/\∀vs,o.data ≠ .fields vs)
  (fl:cg B outer ea cls a0 h') (sl:s'.heap.UpToSlots h'):w4 P w outer H s { s' with heap:=h' } ea cls a0 B H' where
 os:=L.os
 bare:=L.bare
 fly:=fl
 hok:=L.hok
 inB:=L.inB
 un:=by
  have slot:∀b o,s.heap.get? b=some o->H b=none->b∈frs outer->∃sl,h'.get? b=some { o with slots:=sl }:=λb o e n hb=>by
   obtain⟨sl1,e1⟩:=L.un.slot b o e n hb (by simp)
   obtain⟨_,o2,e2,nf⟩:=ff b hb;rw[e]at e2;cases e2;obtain⟨sl2,e3⟩:=sl b _ e1 nf;exact⟨sl2,e3⟩
  exact⟨λb o e n hb _=>fl.1 b o ((L.inB b o e hb).1 n),λb o e n hb _=>slot b o e n hb,L.un.free,λb o e _=>by
   by_cases hb:b∈frs outer
   ·obtain⟨sl1,e1⟩:=slot b o e (ff b hb).1 hb;exact⟨_,e1⟩
   ·obtain⟨o',e'⟩:=(L.inB b o e hb).2;exact⟨o',fl.1 b o' e'⟩,L.un.tups,L.un.frzs,L.un.tbls⟩
theorem Inv.old (I:Inv X pins σ H s){b:Addr}{o:Obj}(hX:X.stack=X.env :: X.outer)(hf:X.env.frame=some X.env.locals)(e:X.s₀.heap.get? b=some o)(hb:b ∉ frs X.outer):b ∉ frs X.stack:=by
 rw[hX,u4 hf];intro z;rcases ak.mp z with z | z
 ·exact absurd (ar (ag e) I.ok.above) (by rw[z];exact aS _)
 ·exact hb z
theorem J6 {X:Cx}(hX:X.stack=X.env :: X.outer)(hf:X.env.frame=some X.env.locals){b:Addr}(hb:b∈frs X.outer):b∈frs X.stack:=by
 rw[hX,u4 hf];exact aa _ hb
theorem w4.out (I:Inv X pins σ H s)(hX:X.stack=X.env :: X.outer)(hf:X.env.frame=some X.env.locals)(hex:X.ex=[])(L:w4 X.prog X.w X.stack H s s' ea cls a0 B H')
  (fl:cg B X.outer ea cls a0 h') (sl:s'.heap.UpToSlots h'):w4 X.prog X.w X.outer X.H₀ X.s₀ { s' with heap:=h' } ea cls a0 B H' where
 os:=L.os.trans I.os
 bare:=L.bare
 fly:=fl
 hok:=L.hok
 inB:=λb o e hb=>by
  have nx:b ∉ X.ex:=by rw[hex];simp
  obtain⟨o1,e1⟩:=I.base.there b o e nx;have hb' :=I.old hX hf e hb;exact⟨λn=>(L.inB b o (I.base.keep b o e n hb nx) hb').1 (I.base.free b o e n nx),(L.inB b o1 e1 hb').2⟩
 un:=by
  have nx:∀b,b ∉ X.ex:=λb=>by rw[hex];simp
  have slot:∀b o,X.s₀.heap.get? b=some o->X.H₀ b=none->b∈frs X.outer->∃sl,h'.get? b=some { o with slots:=sl }:=λb o e n hb=>by
   obtain⟨sl1,e1⟩:=I.base.slot b o e n hb (nx b);have n1:=I.base.free b o e n (nx b);obtain⟨sl2,e2⟩:=L.un.slot b _ e1 n1 (J6 hX hf hb) (by simp)
   obtain⟨_,o3,e3,nf⟩:=I.frNf b (J6 hX hf hb);rw[e1]at e3;cases e3;obtain⟨sl4,e4⟩:=sl b _ e2 nf;exact⟨sl4,e4⟩
  refine⟨λb o e n hb _=> ?_,λb o e n hb _=>slot b o e n hb,λb o e n _=> ?_,λb o e _=> ?_,λb xs e=>L.un.tups b xs (I.base.tups b xs e),λb o xs e=>L.un.frzs b o xs (I.base.frzs b o xs e),λb ps q e=>L.un.tbls b ps q (I.base.tbls b ps q e)⟩
  ·exact fl.1 b o ((L.inB b o (I.base.keep b o e n hb (nx b)) (I.old hX hf e hb)).1 (I.base.free b o e n (nx b)))
  ·obtain⟨o1,e1⟩:=I.base.there b o e (nx b);exact L.un.free b o1 e1 (I.base.free b o e n (nx b)) (by simp)
  ·by_cases hb:b∈frs X.outer
   ·obtain⟨sl1,e1⟩:=slot b o e (I.ok.frf b hb) hb;exact⟨_,e1⟩
   ·obtain⟨o1,e1⟩:=I.base.there b o e (nx b);obtain⟨o',e'⟩:=(L.inB b o1 e1 (I.old hX hf e hb)).2;exact⟨o',fl.1 b o' e'⟩
theorem w4.made (I:Inv X pins σ H s)(hX:X.stack=X.env :: X.outer)(hf:X.env.frame=some X.env.locals)(hex:X.ex=[]){vs:List Value}(hx:Heap.MadeExcOf s.heap h' ea cls vs)
  (fl:cg (hideAll s.heap (frs X.stack)) X.outer ea cls a0 h'') (sl:h'.UpToSlots h''):w4 X.prog X.w X.outer X.H₀ X.s₀ { s with heap:=h'' } ea cls a0 (hideAll s.heap (frs X.stack)) H where
 os:=I.os
 bare:=I.bare
 fly:=fl
 hok:=λa o e=>(I.hok a o e).stay (λb u hb q=>hideAll_get _ q λz=>by
   have:=I.stkFree b z;rcases hb with rfl | hb
   ·rw[e]at this;cases this
   ·rw[hb]at this;cases this) (λ_ q=>q) λ_ _ q=>q
 inB:=λb o e hb=>by
  have nx:b ∉ X.ex:=by rw[hex];simp
  obtain⟨o1,e1⟩:=I.base.there b o e nx;have hb' :=I.old hX hf e hb;exact⟨λn=>hideAll_get _ (I.base.keep b o e n hb nx) hb',o1,hideAll_get _ e1 hb'⟩
 un:=by
  have nx:∀b,b ∉ X.ex:=λb=>by rw[hex];simp
  have slot:∀b o,X.s₀.heap.get? b=some o->X.H₀ b=none->b∈frs X.outer->∃sl,h''.get? b=some { o with slots:=sl }:=λb o e n hb=>by
   obtain⟨sl1,e1⟩:=I.base.slot b o e n hb (nx b);obtain⟨_,o3,e3,nf⟩:=I.frNf b (J6 hX hf hb);rw[e1]at e3;cases e3;obtain⟨sl4,e4⟩:=sl b _ (hx.keeps b _ e1) nf;exact⟨sl4,e4⟩
  refine⟨λb o e n hb _=> ?_,λb o e n hb _=>slot b o e n hb,λb o e n _=>I.base.free b o e n (nx b),λb o e _=> ?_,I.base.tups,I.base.frzs,I.base.tbls⟩
  ·exact fl.1 b o (hideAll_get _ (I.base.keep b o e n hb (nx b)) (I.old hX hf e hb))
  ·by_cases hb:b∈frs X.outer
   ·obtain⟨sl1,e1⟩:=slot b o e (I.ok.frf b hb) hb;exact⟨_,e1⟩
   ·obtain⟨o1,e1⟩:=I.base.there b o e (nx b);exact⟨o1,fl.1 b o1 (hideAll_get _ e1 (I.old hX hf e hb))⟩
end
section
variable {P:Program}{w:World}{K:Frag}{mg:Str->Option Value}{base:Heap}{N:List Str}{qual:Str}{scope:Scope}{f:Addr}{cd:Value}{A:Around}{outer:List Env}{s:Shared}{H:Hp}{E:XK}
theorem Qk:zO (CX1 P w) (Z4 (CX1 P w) P w K mg base N qual scope f cd A outer s H E) E:=by
 intro pins σ H1 s1 e s' I ⟨ea,cls,a0,B,H',he,L,hE⟩;subst he;exact wpAny_leaves_onW I.ok.frames rfl L.fly λh' fl sl=>⟨ea,cls,a0,B,H',rfl,L.out I rfl rfl rfl fl sl,hE⟩
theorem Uq {x:Str}{C:Addr}{bm bmN:List Value}{Bn Bb newId nid initId inN:String}{np cpos pos:Pos}{e:Expr}{t:TA}(O:OwnCls x C bm newId mg base)(Fn:ExcBaseFacts Bn newId inN bmN)(hBn:bm.contains (.type Bn)=true)(FB:ExcBaseFacts Bb nid initId bm)
  (hg:Gl (Z4 (CX1 P w) P w K mg base N qual scope f cd A outer s H E) x) (ha:PA (Z4 (CX1 P w) P w K mg base N qual scope f cd A outer s H E) [e] t)
  (he:starEach [e] (envOfC qual scope s.heap.objs.size f cd)=[(false,eval e (envOfC qual scope s.heap.objs.size f cd))]) (hd:(x == ("__debug__":Str))=false:=by decide):
  PS (Z4 (CX1 P w) P w K mg base N qual scope f cd A outer s H E) (.Raise (some (.Call (.Name x np) [e] [] cpos)) none pos) (λ_ σ H1=>t σ H1 λvs H2=>vs.length<=sizeLine/\E (.ref C) none H2):=by
 intro pins s1 σ H1 D I hw;obtain⟨tl,N',nm,q,bs,hdct,sn,sub,ab,col,dd,k0,k1,k2,k3,k5,mN,hC,hN,hni,T⟩:=O.obj;have hp:(backTo cpos (starEach [e] (envOfC qual scope s.heap.objs.size f cd))).any (·.1)=false:=by rw[he];rfl
 refine wpAny_Raise_call_subU (nm:=nm) (q:=q) (N:=N') (bs:=bs) (hdct:=hdct) (sn:=sn) (sub:=sub) (ab:=ab) (col:=col) (dd:=dd) (k0:=k0) (k1:=k1) (k2:=k2) (k3:=k3) (k5:=k5)
  Fn hBn FB (T.hasType FB.hasBase) (I.ok.hd rfl) hp hni (Zv I hg O.bound ⟨rfl, ?_⟩ hd)
 have h2:=ha cpos _ s1 σ H1 _ I hw;have he' :starEach [e] (Z4 (CX1 P w) P w K mg base N _ _ f cd A outer s H E).env=[(false,eval e _)]:=he;rw[he']at h2 ⊢;refine d0 (thn h2 λus s2 ⟨vs,H2,I2,r,hl,hE⟩=>⟨rfl,by rw[← r.length];exact hl,I2.bk _ _ hC,hN.keeps I2.bk,T.keeps I2.bk,λh' ea hx=> ?_⟩)
 have hin:∀env∈(Z4 (CX1 P w) P w K mg base N qual scope f cd A outer s H E).stack,∀b,env.frame=some b->b∈frs _:=λenv he b hb=>bS.mpr ⟨env,he,hb⟩;exact wpAny_leaves_madeW I2.ok.frames rfl (λb o q=>of_hideAll _ q) (funFrames_hide I2.stack hin) hx λh'' t' fl _ _ sl=>
  ⟨ea,.ref C,.ref t',_,H2,rfl,w4.made I2 rfl rfl rfl hx fl sl,hE⟩
end
end L2
namespace L2
open PySem PySem.Spec PyProof.Rows PySem.W
theorem zZ.there {P:Program}{w:World}{H:Hp}{h:Heap}{a:Addr}{o:HO}(x:zZ P w H h a o):∃ob,h.get? a=some ob:=by
 cases o with
 | lst xs=>obtain⟨_,_,_,_,e⟩:=x;exact⟨_,e⟩
 | tup xs=>obtain⟨_,_,_,⟨_,e,_⟩,_⟩:=x;exact⟨_,e⟩
 | dK kvs=>obtain⟨_,_,_,_,o,_,_,e,_⟩:=x;exact⟨_,e⟩
 | dT kvs=>obtain⟨_,_,_,_,o,_,_,e,_⟩:=x;exact⟨_,e⟩
 | set S n=>obtain⟨o,_,_,_,e,_⟩:=x;exact⟨_,e⟩
 | ins C dx fs=>obtain⟨_,_,_,e,_⟩:=x;exact⟨_,e⟩
 | own y=>obtain⟨_,e⟩:=x;exact⟨_,e⟩
 | xd fs=>obtain⟨_,⟨_,_,_,e,_⟩,_⟩:=x;exact⟨_,e⟩
 | rng lo hi=>obtain⟨_,_,_,e⟩:=x;exact⟨_,e⟩
 | frz ob u=>obtain⟨e,_⟩:=x;exact⟨_,e⟩
 | tbl ps q=>obtain⟨_,e,_⟩:=x;exact⟨_,e⟩
 | met f y=>exact⟨_,(x)⟩
 | ext φ=>obtain⟨_,e,_⟩:=x;exact e
noncomputable def Ur (cls:Value)(a:Addr)(h:Heap):Prop:=∃o,h.get? a=some o/\o.cls=cls
theorem Ur.ok {P:Program}{w:World}{H:Hp}{h:Heap}{a:Addr}{cls:Value}(x:Ur cls a h):zZ P w H h a (.ext (Ur cls a)):=
 ⟨x,let ⟨o,e,_⟩:=x;⟨o,e⟩,λ_ _ ⟨o,e,c⟩ k=>⟨o,k o e,c⟩⟩
noncomputable abbrev Cx.try' (X:Cx)(pn:List (Addr×Obj))(xe:Value->Shared->Prop):Cx:={ X with pn:=pn,xe:=xe }
noncomputable abbrev Cx.mark' (X:Cx)(e:Value):Cx:={ X with A:=X.A.mark (some e),calm:=false,xe:=λ_ _=>False }
section
variable {X:Cx}{pins pins' :List (Addr×Obj)}{σ:St}{H H' :Hp}{s s' :Shared}{xe:Value->Shared->Prop}
theorem Cx.Ok.try' (ok:X.Ok){pn:List (Addr×Obj)}:(X.try' pn xe).Ok:=
 ⟨ok.mod,ok.kind,ok.glob,ok.blt,ok.above,ok.inj,ok.has,ok.cab,ok.hd,ok.frames,ok.stk,ok.exf,ok.bs,ok.bsz,ok.noex,ok.exfs,ok.funs,ok.frf⟩
theorem Cx.Ok.untry {pn:List (Addr×Obj)}(ok:(X.try' pn xe).Ok):X.Ok:=
 ⟨ok.mod,ok.kind,ok.glob,ok.blt,ok.above,ok.inj,ok.has,ok.cab,ok.hd,ok.frames,ok.stk,ok.exf,ok.bs,ok.bsz,ok.noex,ok.exfs,ok.funs,ok.frf⟩
theorem Inv.try' (I:Inv X pins σ H s)(xe:Value->Shared->Prop):Inv (X.try' (X.pn++pins) xe) [] σ H s:=
 ⟨I.ok.try',I.os,I.bare,I.base,I.loc,I.cell,I.free,I.freeC,λp hp=>I.pin p (by simpa using hp),I.hok,I.len⟩
theorem Inv.untry (I:Inv (X.try' (X.pn++pins) xe) pins' σ H s):Inv X pins σ H s:=
 ⟨I.ok.untry,I.os,I.bare,I.base,I.loc,I.cell,I.free,I.freeC,λp hp=>I.pin p (bb _ hp),I.hok,I.len⟩
theorem Inv.mark' (I:Inv X pins σ H s)(e:Value):Inv (X.mark' e) pins σ H s:=
 ⟨⟨I.ok.mod,I.ok.kind,I.ok.glob,I.ok.blt,I.ok.above,I.ok.inj,I.ok.has,I.ok.cab,λz=>(by cases z),I.ok.frames,I.ok.stk,I.ok.exf,I.ok.bs,I.ok.bsz,I.ok.noex,I.ok.exfs,I.ok.funs,I.ok.frf⟩,I.os,I.bare,I.base,I.loc,I.cell,I.free,I.freeC,I.pin,I.hok,I.len⟩
theorem Inv.unmark {e:Value}(I:Inv (X.mark' e) pins σ H s)(hd:X.calm=true->X.A.handled=none):Inv X pins σ H s:=
 ⟨⟨I.ok.mod,I.ok.kind,I.ok.glob,I.ok.blt,I.ok.above,I.ok.inj,I.ok.has,I.ok.cab,hd,I.ok.frames,I.ok.stk,I.ok.exf,I.ok.bs,I.ok.bsz,I.ok.noex,I.ok.exfs,I.ok.funs,I.ok.frf⟩,I.os,I.bare,I.base,I.loc,I.cell,I.free,I.freeC,I.pin,I.hok,I.len⟩
theorem SP.untry {D:Ends}{f:Flow}{pins' :List (Addr×Obj)}(h:SP (X.try' (X.pn++pins) xe) pins' D f s'):SP X pins D f s' :=by
 cases f with
 | next=>obtain⟨σ',H',I,q⟩:=h;exact⟨σ',H',I.untry,q⟩
 | brk=>obtain⟨σ',H',I,q⟩:=h;exact⟨σ',H',I.untry,q⟩
 | cont=>obtain⟨σ',H',I,q⟩:=h;exact⟨σ',H',I.untry,q⟩
 | ret u=>obtain⟨v,σ',H',I,r,q⟩:=h;exact⟨v,σ',H',I.untry,r,q⟩
theorem Ql {A:Around}{E:Value->Shared->Prop}{M:Model}{i:Nat}{n:Str}{pos:Pos}{Q:Unit->Shared->Prop}(I:Inv X pins σ H s)(hN:X.N.Nodup)(hi:X.N[i]? =some n)(hl:X.env.kindOf n=some .local)(h:∀s',Inv X pins (σ.set i none) H s' ->Q () s'):
  wpAny M A (do bindName X.env n .none;unbindBehindTheSuite X.env n pos) Q E s:=by
 obtain⟨m,hn,hlo⟩:=id I.loc;have hcls:(X.env.scope.kind == .class || (X.env.scope.kind == .module && X.env.locals != X.env.globals))=false:=by rw[I.ok.kind];rfl
 refine wpAny_nameGoes_keeps hl hn hcls λh' v hn' hs=> ?_;refine h _ ⟨I.ok,I.os,I.bare,⟨λb o e n hb hx=> ?_,λb o e n hb hx=> ?_,I.base.free,λb o e hx=> ?_,I.base.tups,I.base.frzs,I.base.tbls⟩,⟨_,hn',λj y v' e1 e2 e3=> ?_⟩,λy c e=> ?_,I.free,I.freeC,λp hp=> ?_,λb ob e=> ?_,by simpa using I.len⟩
 ·exact(hs.2 b (aB (ar (ag e) I.ok.above))).trans (I.base.keep b o e n hb hx)
 ·obtain⟨sl,e1⟩:=I.base.slot b o e n hb hx;exact⟨sl,(hs.2 b (aB (ar (ag e) I.ok.above))).trans e1⟩
 ·obtain⟨o',e1⟩:=I.base.there b o e hx;exact⟨o',(hs.2 b (aB (ar (ag e) I.ok.above))).trans e1⟩
 ·by_cases hj:j=i
  ·subst hj;have hiσ:j < σ.length:=by rw[I.len];exact(aO.mp hi).1
   rw[aX hiσ]at e2;cases e2
  ·rw[aE (bu hj)]at e2;obtain⟨u',r',q⟩:=hlo j y v' e1 e2 e3;refine⟨u',r', ?_⟩;rcases q with ⟨k,e⟩ | ⟨k,c,e,z⟩
   ·refine .inl ⟨k, ?_⟩;have:y ≠ n:=λe=>hj (JX hN e1 (e ▸ hi));simp[this,e]
   ·exact .inr ⟨k,c,e,z.sameBut hs (I.cne y c e)⟩
 ·obtain⟨w',z⟩:=I.cell y c e;exact⟨w',z.sameBut hs (I.cne y c e)⟩
 ·obtain⟨e,n,ne,nf,d⟩:=I.pin p hp;exact⟨(hs.2 p.1 ne).trans e,n,ne,nf,d⟩
 ·refine(I.hok b ob e).stay (λc w' hc q=>(hs.2 c ?_).trans q) (λ_ q=>q) λ_ _ q=>q
  rintro rfl
  rcases hc with rfl | hc
  ·rw[I.free]at e;cases e
  ·rw[I.free]at hc;cases hc
end
section
variable {prog:Program}{w:World}{A:Around}{E:Value->Shared->Prop}{s:Shared}{env:Env}
theorem uD {K:Frag}{e:Addr}{cls c:Value}{t:Expr}{n:Str}{b₀:Stmt}{suite:List Stmt}{pos:Pos}{rest:List ExceptHandler}{Q:Flow->Shared->Prop}(hx:exmOne K cls c=some true)
  (h:wpAny (model prog w) (A.mark (some (.ref e))) (eval t env) (λv s₁=>v=c/\K.In s₁.heap/\(∃oe,s₁.heap.get? e=some oe/\oe.cls=cls)/\
   wpAny (model prog w) (A.mark (some (.ref e))) (setFlight (.ref e) none) (λ_ s₂=>
     wpAny (model prog w) (A.mark (some (.ref e))) (storeName env n (.ref e)) (λ_ s₃=>
      wpAny (model prog w) (A.mark (some (.ref e))) (execs (b₀ :: suite) env)
       (λf s₄=>wpAny (model prog w) A (do bindName env n .none;unbindBehindTheSuite env n pos) (λ_ s₅=>Q f s₅) E s₄)
       (λ_ _=>False) s₃) (λ_ _=>False) s₂) (λ_ _=>False) s₁) (λ_ _=>False) s):
  wpAny (model prog w) A (handleBy (.ref e) env (.ExceptHandler (some t) (some n) (b₀ :: suite) pos :: rest)) Q E s:=by
 refine wpAny_handleBy_cons (codeAny_handlers_test (aG h (λv s₁ h₁=> ?_) λ_ _ y=>y.elim)) (by intro q;cases q)
 obtain⟨rfl,X,⟨oe,he,hcls⟩,hk⟩:=h₁;have LT:Looks (model prog w) s₁.heap (typeOf (.ref e)) cls:=by
  rw[← hcls];exact(Looks.ld he).andThen .now
 refine(exm_one X LT hx) _ _ _ _ (λb o q=>q) (codeAny_handlers_suite_as ?_);exact aG hk (λ_ s₂ h₂=>aG h₂ (λ_ s₃ h₃=>aG h₃ (λ_ _ y=>y) λ_ _ y=>y.elim) λ_ _ y=>y.elim) λ_ _ y=>y.elim
end
end L2
namespace L2
open PySem PySem.Spec PyProof.Rows PySem.W
section
variable {X:Cx}{pins:List (Addr×Obj)}{σ:St}{H H' :Hp}{s s' :Shared}{ea:Addr}{cls a0:Value}{B:Heap}{h3:Heap}
theorem Inv.caught (I:Inv X pins σ H s)(L:w4 X.prog X.w X.stack H s s' ea cls a0 B H')(fl:cg B X.stack ea cls a0 h3)(sl:s'.heap.UpToSlots h3):Inv X pins σ H' { s' with heap:=h3 }:=
 have L3:=L.on I.frNf fl sl
 I.call' L3.os L3.un (L.hok.kept fl.1) L3.bare (λb z=>absurd z (by simp))
theorem w4.fresh {P:Program}{w:World}{outer:List Env}(L:w4 P w outer H s s' ea cls a0 B H'):H' ea=none:=by
 cases q:H' ea with
 | none=>rfl
 | some o=>
  obtain⟨ob,e⟩:=(L.hok ea o q).there;have:=L.fly.2.1;rw[e]at this;cases this
theorem Inv.caughtX (I:Inv X pins σ H s)(L:w4 X.prog X.w X.stack H s s' ea cls a0 B H')(fl:cg B X.stack ea cls a0 h3)(sl:s'.heap.UpToSlots h3):Inv X pins σ (upd H' ea (.ext (Ur cls ea))) { s' with heap:=h3 }:=by
 have L3:=L.on I.frNf fl sl;have hfree:=L.fresh;obtain⟨oe,vs,he,hc,hd,_⟩:=fl.first;have hne:∀b o,s.heap.get? b=some o->b ≠ ea:=λb o e z=>by
  subst z
  by_cases hb:b∈frs X.stack
  ·obtain⟨n,o2,e2,nf⟩:=I.frNf b hb;obtain⟨sl1,e3⟩:=L3.un.slot b o2 e2 n hb (by simp)
   rw[he]at e3;cases e3;exact nf vs hd
  ·obtain⟨o',e'⟩:=(L.inB b o e hb).2;have:=L.fly.2.1;rw[e']at this;cases this
 have nt:∀b u,H' b=some u->b ≠ ea:=λb u e z=>by rw[z,hfree]at e;cases e
 refine I.call' L3.os ⟨L3.un.keep,L3.un.slot,λb o e n hx=> ?_,L3.un.there,λb xs e=> ?_,λb o xs e=> ?_,λb ps q e=> ?_⟩ ?_ L3.bare (λb z=>absurd z (by simp))
 ·rw[zg (hne b o e)];exact L3.un.free b o e n hx
 ·have:=L3.un.tups b xs e;rw[zg (nt b _ this)];exact this
 ·have:=L3.un.frzs b o xs e;rw[zg (nt b _ this)];exact this
 ·have:=L3.un.tbls b ps q e;rw[zg (nt b _ this)];exact this
 ·intro b u e
  by_cases hb:b=ea
  ·subst hb;rw[zl]at e;cases e;exact Ur.ok ⟨oe,he,hc⟩
  ·rw[zg hb]at e;exact((L.hok.kept fl.1) b u e).stay (λ_ _ _ q=>q) (λc q=>by rw[zg (nt c _ q)];exact q) (λc xs q=>by rw[zg (nt c _ q)];exact q) λc o u q=>by rw[zg (nt c _ q)];exact q
end
end L2
namespace PySem
open PySem.W
section
variable {M:Model}{A:Around}{E:Value->Shared->Prop}{s:Shared}
noncomputable def Yb (base:Heap)(l:List Env)(e:Addr)(cls a0:Value)(h:Heap):Prop:=base.StaysIn h/\base.get? e=none/\h.FunFrames base l/\∃fl,h.TracedAtW base e cls a0 fl
theorem JJ {base:Heap}{l:List Env}{e:Addr}{cls a0:Value}{f:Option Addr}{Q:Unit->Shared->Prop}(x:Yb base l e cls a0 s.heap)
  (h:∀h',Yb base l e cls a0 h' ->s.heap.UpToSlots h' ->Q () { s with heap:=h' }):wpAny M A (setFlight (.ref e) f) Q E s:=by
 obtain⟨kb,en,fr,fl,oe,vs,T,oT,ts,q1,q2,q3,q4,q5,q6,q7,q8,q9⟩:=x;have z3:=(cr.mp q9).1;refine a8 (bQ q1 q3 q4 ?_);refine wpAny_setField q7 q8 z3 ?_;generalize f.elim _ (λf=>rawInt f)=nv;have oth:∀b,b ≠ T->(s.heap.update T (aY (·.setIfInBounds 3 nv))).get? b=s.heap.get? b:=λb hb=>aK _ _ hb.symm;have nr:∀b o,s.heap.get? b=some o->(∀vs,o.data ≠ .fields vs)->b ≠ T:=λb o hb n q=>by subst q;rw[q7]at hb;cases hb;exact n ts q8
 have up:s.heap.UpToSlots _:=λb o hb n=>⟨o.slots,(oth b (nr b o hb n)).trans hb⟩;refine h _ ⟨λb o hb=>(oth b λq=> ?_).trans (kb b o hb),en,fr.of_keeps λb o hb n=>⟨o,(oth b (nr b o hb n)).trans hb,rfl⟩,nv,oe,vs,T,(aY (·.setIfInBounds 3 nv)) oT,ts.setIfInBounds 3 nv,(oth e q6.symm).trans q1,q2,q3,q4,q5,q6, ?_,cH q8 _,by simp[z3]⟩ up
 ·subst q;rw[q5]at hb;cases hb
 ·exact bG _ q7 (dP (cH q8 _))
theorem u5 {base:Heap}{env:Env}{outer:List Env}{L e:Addr}{cls a0:Value}{Q:Unit->Shared->Prop}(hfr:A.frames=some (env :: outer))(hf:env.frame=some L)(x:Yb base (env :: outer) e cls a0 s.heap)
  (h:∀h',cg base outer e cls a0 h' ->s.heap.UpToSlots h' ->Q () { s with heap:=h' }):wpAny M A (leaving env (.ref e)) Q E s:=by
 obtain⟨kb,en,fr,fl,tr⟩:=x
 by_cases hfl:fl=rawInt L
 ·subst hfl;refine a8 (wpAny_noteFrame_againW hf tr ?_);refine wpAny_landsW ⟨kb,en,fr,tr⟩ λh' ⟨k1,k2,⟨_,_,k3⟩,k4⟩ sl=>h h' ⟨k1,k2,k3,k4⟩ sl
 ·obtain⟨oe,vs,T,oT,ts,q1,⟨hcls,q2⟩,q3,q4,q5,q6,q7,q8,q9⟩:=tr;subst hcls;unfold leaving noteFrame;simp only[hf];refine a8 (a8 (bQ q1 q3 q4 ?_));refine a8 (bQ q7 q8 q9 ?_);rw[if_neg (λz=>hfl (eq_of_beq z))];refine a8 (wpAny_setField q7 q8 (cr.mp q9).1 ?_);have oth:∀b,b ≠ T->(s.heap.update T (aY (·.setIfInBounds 3 Value.none))).get? b=s.heap.get? b:=λb hb=>aK _ _ hb.symm;have nr:∀b o,s.heap.get? b=some o->(∀vs,o.data ≠ .fields vs)->b ≠ T:=λb o hb n q=>by subst q;rw[q7]at hb;cases hb;exact n ts q8
  refine wpAny_newEntryW hfr (fr.of_keeps λb o hb n=>⟨o,(oth b (nr b o hb n)).trans hb,rfl⟩) hf ((oth e q6.symm).trans q1) (λb o hb=>(oth b λq=> ?_).trans (kb b o hb)) en q3 (cr.mp q4).1 q2 λh' ⟨x1,⟨_,_,x2⟩,x3,x4⟩=>
   h h' ⟨x1,en,x2,x3⟩ λb o hb n=>x4 b o ((oth b (nr b o hb n)).trans hb) n
  subst q;rw[q5]at hb;cases hb
theorem Qm {α:Type}{base:Heap}{l:List Env}{e:Addr}{cls a0:Value}{what:String}{env:Env}{Q:α->Shared->Prop}(x:Yb base l e cls a0 s.heap)(h:∀h',Yb base l e cls a0 h' ->s.heap.UpToSlots h' ->E (.ref e) { s with heap:=h' }):
  wpAny M A (passOn what (.ref e) env:Sem α) Q E s:=by
 obtain⟨_,_,_,fl,oe,vs,T,oT,ts,q1,q2,q3,q4,_⟩:=id x;refine a8 (bQ q1 q3 q4 ?_);exact a8 (JJ x λh' f sl=>wpAny_throw (h h' f sl))
theorem Vq {env env' :Env}{e:Value}(h:env'.frame=env.frame):noteFrame e env' =noteFrame e env:=by
 unfold noteFrame frameOf;rw[h]
theorem J7 {base h h' :Heap}{C:Addr}{oC:Obj}(hC:base.get? C=some oC)(sb:cL C h h'):∀{l:List Env},h.FunFrames base l->h'.FunFrames (hideAll base [C]) l
 | [],_=>trivial
 | env :: _,⟨k,⟨L,o,f,n,ho,d⟩,r⟩=>by
  have ne:L ≠ C:=λz=>by subst z;rw[hC]at n;cases n
  refine⟨k,⟨L,o,f, ?_,(sb.2 L ne).trans ho,d⟩,J7 hC sb r⟩;cases q:(hideAll _ [C]).get? L with
  | none=>rfl
  | some u=>have:=of_hideAll _ q;rw[n]at this;cases this
theorem Yb.hide {base h h' :Heap}{l:List Env}{e C:Addr}{oC:Obj}{cls a0 fl:Value}(k:base.StaysIn h)(n:base.get? e=none)(fr:h.FunFrames base l)(t:h.TracedAtW base e cls a0 fl)(hC:base.get? C=some oC)(sb:cL C h h'):Yb (hideAll base [C]) l e cls a0 h' :=by
 have hn:∀b,base.get? b=none->(hideAll _ [C]).get? b=none:=λb z=>by
  cases q:(hideAll _ [C]).get? b with
  | none=>rfl
  | some u=>have:=of_hideAll _ q;rw[z]at this;cases this
 have ne:∀b,base.get? b=none->b ≠ C:=λb z q=>by subst q;rw[hC]at z;cases z
 obtain⟨oe,vs,T,oT,ts,q1,q2,q3,q4,q5,q6,q7,q8,q9⟩:=t;refine⟨λb o hb=> ?_,hn e n,J7 hC sb fr,fl,oe,vs,T,oT,ts,(sb.2 e (ne e n)).trans q1,q2,q3,q4,hn T q5,q6,(sb.2 T (ne T q5)).trans q7,q8,q9⟩;have hbC:b ≠ C:=λz=>by
  subst z;rw[hideAll_none _ (br.mpr rfl)]at hb;cases hb
 exact(sb.2 b hbC).trans (k b o (of_hideAll _ hb))
end
end PySem
namespace L2
open PySem PySem.Spec PyProof.Rows PySem.W
section
variable {X:Cx}{pins:List (Addr×Obj)}{σ:St}{H H' :Hp}{s s' :Shared}{ea C:Addr}{cls a0:Value}{B:Heap}{h' :Heap}
theorem w4.outB (I:Inv X pins σ H s)(hX:X.stack=X.env :: X.outer)(hf:X.env.frame=some X.env.locals)(hex:X.ex=[])(L:w4 X.prog X.w X.stack H s s' ea cls a0 B H')(hC:H C=none)(hS:X.s₀.heap.objs.size<=C)(hCf:C ∉ frs X.stack){oC:Obj}(eC:s.heap.get? C=some oC)
  (fl:cg (hideAll B [C]) X.outer ea cls a0 h') (sl:∀b o,s'.heap.get? b=some o->b ≠ C->(∀vs,o.data ≠ .fields vs)->∃sl,h'.get? b=some { o with slots:=sl }):w4 X.prog X.w X.outer X.H₀ X.s₀ { s' with heap:=h' } ea cls a0 (hideAll B [C]) H' :=by
 have nx:∀b,b ∉ X.ex:=λb=>by rw[hex];simp
 have nC:∀b o,X.s₀.heap.get? b=some o->b ∉ [C]:=λb o e z=>by
  rw[br.mp z]at e;exact absurd (ag e) (dG.mpr hS)
 have nC' :=λb o e z=>nC b o e (br.mpr z);have inB:∀b o,X.s₀.heap.get? b=some o->b ∉ frs _->(X.H₀ b=none->(hideAll B [C]).get? b=some o)/\∃o',(hideAll B [C]).get? b=some o' :=λb o e hb=>by
  obtain⟨o1,e1⟩:=I.base.there b o e (nx b);have hb' :=I.old hX hf e hb;obtain⟨o2,e2⟩:=(L.inB b o1 e1 hb').2;exact⟨λn=>hideAll_get _ ((L.inB b o (I.base.keep b o e n hb (nx b)) hb').1 (I.base.free b o e n (nx b))) (nC b o e),o2,hideAll_get _ e2 (nC b o e)⟩
 have slot:∀b o,X.s₀.heap.get? b=some o->X.H₀ b=none->b∈frs _->∃sl,h'.get? b=some { o with slots:=sl }:=λb o e n hb=>by
  obtain⟨sl1,e1⟩:=I.base.slot b o e n hb (nx b);obtain⟨sl2,e2⟩:=L.un.slot b _ e1 (I.base.free b o e n (nx b)) (J6 hX hf hb) (by simp)
  obtain⟨_,o3,e3,nf⟩:=I.frNf b (J6 hX hf hb);rw[e1]at e3;cases e3;obtain⟨sl4,e4⟩:=sl b _ e2 (nC' b o e) nf;exact⟨sl4,e4⟩
 have hC' :=L.un.free C oC eC hC (by simp)
 refine⟨L.os.trans I.os,L.bare,fl,λa o e=>(L.hok a o e).stay (λb u hb q=>hideAll_get _ q λz=> ?_) (λ_ q=>q) λ_ _ q=>q,⟨λb o e n hb _=>fl.1 b o ((inB b o e hb).1 n),λb o e n hb _=>slot b o e n hb,λb o e n _=> ?_,λb o e _=> ?_,λb xs e=>L.un.tups b xs (I.base.tups b xs e),λb o xs e=>L.un.frzs b o xs (I.base.frzs b o xs e),λb ps q e=>L.un.tbls b ps q (I.base.tbls b ps q e)⟩,inB⟩
 ·rw[br.mp z]at hb;rcases hb with z | hb
  ·rw[← z,hC']at e;cases e
  ·rw[hC']at hb;cases hb
 ·obtain⟨o1,e1⟩:=I.base.there b o e (nx b);exact L.un.free b o1 e1 (I.base.free b o e n (nx b)) (by simp)
 ·by_cases hb:b∈frs X.outer
  ·obtain⟨sl1,e1⟩:=slot b o e (I.ok.frf b hb) hb;exact⟨_,e1⟩
  ·obtain⟨o',e'⟩:=(inB b o e hb).2;exact⟨o',fl.1 b o' e'⟩
def Us (X:Cx)(E:XK):Prop:=∀(pins:List (Addr×Obj)) (σ:St) (H:Hp) (s:Shared) (e:Value) (s' :Shared) (C:Addr) (m:Str->Option Value) (E' :Value->Shared->Prop) (cenv:Env),Inv X pins σ H s->s.heap.Ns C m->H C=none->X.s₀.heap.objs.size<=C->C ∉ frs X.stack->cenv.frame=X.env.frame->CX1 X.prog X.w X.stack H s E e s' ->
 wpAny (model X.prog X.w) X.A (noteFrame e cenv) (λ_ s'' =>∃m,s''.heap.Ns C m/\∀h',cL C s''.heap h' ->∀env:Env,env.locals=C->wpAny (model X.prog X.w) X.A (passOn "comprehension.variables-let-go" e env:Sem Value) (λ_ _=>False) X.xe { s'' with heap:=h' }) E' s'
theorem JK {E:XK}(h:E=λ_ _ _=>False):Us X E:=λpins σ H s e s' C m E' cenv I _ _ _ _ _ ⟨_,_,_,_,_,_,_,z⟩=>by subst h;exact z.elim
theorem u6 {P:Program}{w:World}{K:Frag}{mg:Str->Option Value}{base:Heap}{N:List Str}{qual:Str}{scope:Scope}{f:Addr}{cd:Value}{A:Around}{outer:List Env}{s:Shared}{H:Hp}{E:XK}:Us (Z4 (CX1 P w) P w K mg base N qual scope f cd A outer s H E) E:=by
 intro pins σ H1 s1 e s' C m E' cenv I hn hC hS hCf hcf ⟨ea,cls,a0,B,H',he,L,hE⟩;subst he;rw[Vq hcf];refine wpAny_looks_onW I.ok.frames rfl L.fly λh1 held sl1=> ?_;obtain⟨oC,es,ep,eC,r⟩:=hn;have bC:=(L.inB C oC eC hCf).1 hC;refine⟨m,⟨oC,es,ep,held.1 C oC bC,r⟩,λh' sb env _=> ?_⟩;refine Qm (Yb.hide held.1 held.2.1 held.2.2.1 held.2.2.2 bC sb) λh2 fa2 sl2=> ?_;refine u5 I.ok.frames rfl fa2 λh3 fl3 sl3=>⟨ea,cls,a0,_,H',rfl,w4.outB (s' :=s') I rfl rfl rfl L hC hS hCf eC fl3 λb o e nb nf=> ?_,hE⟩;obtain⟨x1,e1⟩:=sl1 b o e nf;obtain⟨x2,e2⟩:=sl2 b _ ((sb.2 b nb).trans e1) nf;obtain⟨x3,e3⟩:=sl3 b _ e2 nf;exact⟨x3,e3⟩
end
end L2
namespace L2
open PySem PySem.Spec PyProof.Rows
theorem PE.imp {X:Cx}{e:Expr}{t t' :TE}(h:PE X e t)(i:∀σ H Q,t' σ H Q->t σ H Q):PE X e t' :=λpins s σ H Q I q=>h _ s σ H Q I (i σ H Q q)
theorem PT.imp {X:Cx}{e:Expr}{t t' :TT}(h:PT X e t)(i:∀σ H Q,t' σ H Q->t σ H Q):PT X e t' :=λpins s σ H Q I q=>h _ s σ H Q I (i σ H Q q)
theorem PA.imp {X:Cx}{e:List Expr}{t t' :TA}(h:PA X e t)(i:∀σ H Q,t' σ H Q->t σ H Q):PA X e t' :=λpos pins s σ H Q I q=>h pos _ s σ H Q I (i σ H Q q)
theorem PS.imp {X:Cx}{e:Stmt}{t t' :TS}(h:PS X e t)(i:∀D σ H,t' D σ H->t D σ H):PS X e t' :=λpins s σ H D I q=>h _ s σ H D I (i D σ H q)
theorem PSs.imp {X:Cx}{e:List Stmt}{t t' :TS}(h:PSs X e t)(i:∀D σ H,t' D σ H->t D σ H):PSs X e t' :=λpins s σ H D I q=>h _ s σ H D I (i D σ H q)
end L2
namespace PV
open PySem
noncomputable def W0:Expr->Bool
 | .Starred _ _=>false
 | _=>true
theorem zy {e:Expr}{rest:List Expr}{env:Env}(h:W0 e=true):starEach (e :: rest) env=(false,eval e env) :: starEach rest env:=by
 cases e <;> first | rfl | cases h
theorem st2 {a b:Expr}{env:Env}(h:W0 a=true)(h' :W0 b=true):starEach [a,b] env=[(false,eval a env),(false,eval b env)]:=by
 rw[zy h,zy h'];rfl
theorem st1 {a:Expr}{env:Env}(h:W0 a=true):starEach [a] env=[(false,eval a env)]:=by
 rw[zy h];rfl
theorem Z0 {pos:Pos}{env:Env}:∀{es:List Expr},es.all W0=true->((backTo pos (starEach es env)).any λx=>x.fst)=false
 | [],_=>rfl
 | e :: es,h=>by
  rw[cY,a9]at h;rw[zy h.1];have:=Z0 (pos:=pos) (env:=env) h.2;show (false || ((backTo pos _).any λx=>x.fst))=false
  rw[this];rfl
open PySem PySem.Spec PyProof.Rows L2
noncomputable abbrev Sg:=L2.St
inductive T where
 | non | bl (b:Bool) | int (i:Int) | str (x:Str) | tup (xs:List T) | lst (xs:List T) | fz (xs:List T)
inductive R (α:Type) where
 | ok (a:α) | ex (c:Nat) | bad
noncomputable def R.bind {α β:Type}(r:R α)(f:α->R β):R β:=match r with
 | .ok a=>f a
 | .ex c=> .ex c
 | .bad=> .bad
mutual
inductive Rep (H:Hp):V->T->Prop where
 | non:Rep H .non .non
 | bl (b:Bool):Rep H (.bl b) (.bl b)
 | int (i:Int):Rep H (.int i) (.int i)
 | str (x:Str):Rep H (.str x) (.str x)
 | tup {a:Addr} {xs:List V} {ts:List T}:H a=some (.tup xs)->zC H xs ts->Rep H (.ref a) (.tup ts)
 | lst {a:Addr} {xs:List V} {ts:List T}:H a=some (.lst xs)->zC H xs ts->Rep H (.ref a) (.lst ts)
 | fz {a:Addr} {o:Obj} {xs:List V} {ts:List T}:H a=some (.frz o (.lst xs))->zC H xs ts->Rep H (.ref a) (.fz ts)
inductive zC (H:Hp):List V->List T->Prop where
 | nil:zC H [] []
 | cons {v:V} {t:T} {vs:List V} {ts:List T}:Rep H v t->zC H vs ts->zC H (v :: vs) (t :: ts)
end
mutual
theorem Rep.mono {H H' :Hp}(s:zh H H'):∀{v:V} {t:T},Rep H v t->Rep H' v t
 | _,_,.non=> .non
 | _,_,.bl b=> .bl b
 | _,_,.int i=> .int i
 | _,_,.str x=> .str x
 | _,_,.tup h r=> .tup (s _ _ h) (zC.mono s r)
 | _,_,.lst h r=> .lst (s _ _ h) (zC.mono s r)
 | _,_,.fz h r=> .fz (s _ _ h) (zC.mono s r)
theorem zC.mono {H H' :Hp}(s:zh H H'):∀{v:List V} {t:List T},zC H v t->zC H' v t
 | _,_,.nil=> .nil
 | _,_,.cons h r=> .cons (Rep.mono s h) (zC.mono s r)
end
theorem zC.length {H:Hp}:∀{vs:List V} {ts:List T},zC H vs ts->vs.length=ts.length
 | _,_,.nil=>rfl
 | _,_,.cons _ r=>congrArg _ (zC.length r)
theorem zC.get {H:Hp}:∀{vs:List V} {ts:List T} {i:Nat} {t:T},zC H vs ts->ts[i]? =some t->∃v,vs[i]? =some v/\Rep H v t
 | _,_,_,_,.nil,e=>by simp at e
 | _,_,0,_,.cons r _,e=>by simp at e;subst e;exact⟨_,rfl,r⟩
 | _,_,i+1,t,.cons _ q,e=>by
  obtain⟨v,h1,h2⟩:=zC.get q (by simpa using e)
  exact⟨v,by simpa using h1,h2⟩
theorem zC.getV {H:Hp}:∀{vs:List V} {ts:List T} {i:Nat} {v:V},zC H vs ts->vs[i]? =some v->∃t,ts[i]? =some t/\Rep H v t
 | _,_,_,_,.nil,e=>by simp at e
 | _,_,0,_,.cons r _,e=>by simp at e;subst e;exact⟨_,rfl,r⟩
 | _,_,i+1,v,.cons _ q,e=>by
  obtain⟨t,h1,h2⟩:=zC.getV q (by simpa using e)
  exact⟨t,by simpa using h1,h2⟩
theorem zC.append {H:Hp}:∀{vs ws:List V} {ts us:List T},zC H vs ts->zC H ws us->zC H (vs++ws) (ts++us)
 | _,_,_,_,.nil,q=>q
 | _,_,_,_,.cons r t,q=> .cons r (zC.append t q)
theorem zC.rep {H:Hp}{vs:List V}{ts:List T}(h:zC H vs ts):∀n:Nat,zC H (av n vs).flatten (av n ts).flatten
 | 0=> .nil
 | n+1=>by
  exact h.append (zC.rep h n)
theorem zC.nil_iff {H:Hp}{vs:List V}{ts:List T}(h:zC H vs ts):vs=[]↔ts=[]:=by
 cases h <;> simp
def zx (B H H' :Hp):Hp:=λb=>match H b with
 | none=>H' b
 | some _=>B b
theorem zD {B H H' :Hp}{b:Addr}(h:H b=none):zx B H H' b=H' b:=by unfold zx;rw[h]
theorem zF {B H H' :Hp}{b:Addr}{o:HO}(h:H b=some o):zx B H H' b=B b:=by unfold zx;rw[h]
theorem zx.ge {B H H' :Hp}(s:zh B H)(s' :zh H H'):zh B (zx B H H'):=λb o h=>by
 rw[zF (s b o h)];exact h
theorem zx.le {B H H' :Hp}(s:zh B H)(s' :zh H H'):zh (zx B H H') H' :=λb o h=>by
 cases q:H b with
 | none=>rw[zD q]at h;exact h
 | some u=>rw[zF q]at h;exact s' b o (s b o h)
theorem zx.self (B H:Hp)(s:zh B H):zx B H H=B:=by
 funext b
 cases q:H b with
 | none=>
  rw[zD q,q];cases z:B b with
  | none=>rfl
  | some o=>rw[s b o z]at q;cases q
 | some u=>rw[zF q]
theorem zx.trans {B H H1 H2:Hp}(s1:zh H H1)(s2:zh H1 H2):zx (zx B H H1) H1 H2=zx B H H2:=by
 funext b
 cases q:H b with
 | none=>
  rw[zD q];cases z:H1 b with
  | none=>rw[zD z]
  | some o=>rw[zF z,zD q,z,s2 b o z]
 | some u=>rw[zF q,zF (s1 b u q),zF q]
inductive Fd where
 | tv (t:T) | tl (ts:List T)
noncomputable abbrev Ob:=Nat×List (Str×Fd)
noncomputable def G4:List Str:=["kind","remaining","done","undone","first","last","answered"]
def InC (vs:List (Str×V)):Prop:=∀f,f ∉ G4->vs.lookup f=none
inductive Sl where
 | un | vl (t:T) | ow (ts:List T) | xc (c:Nat) | ob (k n:Nat) | oc (k:Nat) (fs:List (Str×Fd)) | st (os:List Ob)
noncomputable def Sl.isS:Sl->Bool
 | .ob _ _=>true
 | .st _=>true
 | _=>false
noncomputable def Sl.isO:Sl->Bool
 | .ob _ _=>true
 | .oc _ _=>true
 | .st _=>true
 | _=>false
noncomputable abbrev En:=List Sl
structure Fx where
 B0:Hp
 H0:Hp
 E:XK
 cl:Nat->Value
 as:List Addr
def Xm (ρ:En)(σ:Sg)(l:Addr):Prop:=∀(j:Nat) (us:List T),ρ[j]? =some (Sl.ow us)->σ[j]? ≠ some (some (V.ref l))
def FdR (Y:Fx)(B:Hp)(ρ:En)(σ:Sg)(H:Hp)(o:Addr->Prop)(v:V):Fd->Prop
 | .tv t=>Rep B v t
 | .tl ts=>∃l xs,v= .ref l/\B l=none/\Y.H0 l=none/\H l=some (.lst xs)/\zC B xs ts/\Xm ρ σ l/\o l
def FsO (B H:Hp)(vs:List (Str×V))(fs:List (Str×Fd)):Prop:=∀(m:Nat) (f:Str) (d:Fd),fs[m]? =some (f,d)->∃v,vs[m]? =some (f,v)/\match d with
 | .tv t=>Rep B v t
 | .tl ts=>∃l xs,v= .ref l/\H l=some (.lst xs)/\zC B xs ts
theorem FsO.mono {B B' H H' :Hp}{vs:List (Str×V)}{fs:List (Str×Fd)}(h:FsO B H vs fs)(s:zh B B')(s' :zh H H'):FsO B' H' vs fs:=λm f d e=>by
 obtain⟨v,e1,r⟩:=h m f d e;refine⟨v,e1, ?_⟩;cases d with
 | tv t=>exact Rep.mono s r
 | tl ts=>obtain⟨l,xs,a,b,c⟩:=r;exact⟨l,xs,a,s' _ _ b,c.mono s⟩
structure StI (Y:Fx) (B:Hp) (ρ:En) (σ:Sg) (H:Hp) (as:List Addr) (O:Addr->Option (Nat×Nat)):Prop where
 pre:Y.as <+:as
 len:∀(i:Nat) (os:List Ob),ρ[i]? =some (Sl.st os)->as.length=os.length
 one:∀(i j:Nat) (os os' :List Ob),ρ[i]? =some (Sl.st os)->ρ[j]? =some (Sl.st os')->i=j
 ob:∀(i k n:Nat),ρ[i]? =some (Sl.ob k n)->∃a C dx vs,as[n]? =some a/\σ[i]? =some (some (V.ref a))/\Y.cl k= .ref C/\H a=some (.ins C dx vs)/\B a=none/\Y.H0 a=none/\InC vs
 oc:∀(i k:Nat) (fs:List (Str×Fd)),ρ[i]? =some (Sl.oc k fs)->∃a C dx vs,σ[i]? =some (some (V.ref a))/\Y.cl k= .ref C/\Y.H0 a=some (.ins C dx vs)/\InC vs/\FsO B Y.H0 vs fs
 st:∀(i:Nat) (os:List Ob),ρ[i]? =some (Sl.st os)->∀(n k:Nat) (fs:List (Str×Fd)),os[n]? =some (k,fs)->∃a C dx vs,as[n]? =some a/\Y.cl k= .ref C/\H a=some (.ins C dx vs)/\B a=none/\Y.H0 a=none/\O a=some (n,0)/\(vs.length=fs.length/\InC vs)/\
  ∀(m:Nat) (f:Str) (d:Fd),fs[m]? =some (f,d)->∃v,vs[m]? =some (f,v)/\FdR Y B ρ σ H (λl=>O l=some (n,m+1)) v d
structure SI (Y:Fx) (B:Hp) (ρ:En) (σ:Sg) (H:Hp):Prop where
 s0:zh Y.B0 Y.H0
 sH:zh Y.H0 H
 sB:zh B H
 old:∀b o,Y.H0 b=some o->B b=Y.B0 b
 len:ρ.length=σ.length
 vl:∀(i:Nat) (t:T),ρ[i]? =some (Sl.vl t)->∃v:V,σ[i]? =some (some v)/\Rep B v t
 ow:∀(i:Nat) (ts:List T),ρ[i]? =some (Sl.ow ts)->∃(a:Addr) (xs:List V),σ[i]? =some (some (V.ref a))/\B a=none/\Y.H0 a=none/\H a=some (.lst xs)/\zC B xs ts/\
  ∀(j:Nat) (us:List T),j ≠ i->ρ[j]? =some (Sl.ow us)->σ[j]? ≠ some (some (V.ref a))
 xc:∀(i:Nat) (c:Nat),ρ[i]? =some (Sl.xc c)->∃a:Addr,σ[i]? =some (some (V.ref a))/\B a=some (.ext (Ur (Y.cl c) a))
 st:∃as O,StI Y B ρ σ H as O
theorem StI.on {Y Y' :Fx}{B B' :Hp}{ρ ρ' :En}{σ σ' :Sg}{H H' :Hp}{as:List Addr}{O:Addr->Option (Nat×Nat)}(x:StI Y B ρ σ H as O)(hO:∀(i:Nat) (s:Sl),s.isO=true->ρ'[i]? =some s->ρ[i]? =some s/\σ'[i]? =σ[i]?)(hB:zh B B')(hc:Y'.cl=Y.cl)(hA:Y'.as=Y.as)(h0:zh Y.H0 Y'.H0)
  (hH:∀b o,H b=some o->B b=none->Y.H0 b=none->((∃C dx vs,o= .ins C dx vs)\/Xm ρ σ b)->H' b=some o/\B' b=none/\Y'.H0 b=none/\(Xm ρ σ b->Xm ρ' σ' b)):StI Y' B' ρ' σ' H' as O where
 pre:=by rw[hA];exact x.pre
 len:=λi os h=>x.len i os (hO i _ rfl h).1
 one:=λi j os os' h1 h2=>x.one i j os os' (hO i _ rfl h1).1 (hO j _ rfl h2).1
 ob:=λi k n h=>by
  obtain⟨h1,h2⟩:=hO i _ rfl h;obtain⟨a,C,dx,vs,e1,e2,e3,e4,e5,e6⟩:=x.ob i k n h1;obtain⟨g1,g2,g3,_⟩:=hH a _ e4 e5 e6.1 (.inl ⟨_,_,_,rfl⟩);rw[h2,hc];exact⟨a,C,dx,vs,e1,e2,e3,g1,g2,g3,e6.2⟩
 oc:=λi k fs h=>by
  obtain⟨h1,h2⟩:=hO i _ rfl h;obtain⟨a,C,dx,vs,e1,e2,e3,e4,e5⟩:=x.oc i k fs h1;rw[h2,hc];exact⟨a,C,dx,vs,e1,e2,h0 _ _ e3,e4,e5.mono hB h0⟩
 st:=λi os h n k fs e=>by
  obtain⟨a,C,dx,vs,e1,e2,e3,e4,e5,e6,e7,e8⟩:=x.st i os (hO i _ rfl h).1 n k fs e;obtain⟨g1,g2,g3,_⟩:=hH a _ e3 e4 e5 (.inl ⟨_,_,_,rfl⟩);refine⟨a,C,dx,vs,e1,by rw[hc];exact e2,g1,g2,g3,e6,e7,λm f d z=> ?_⟩
  obtain⟨v,z1,z2⟩:=e8 m f d z;refine⟨v,z1, ?_⟩;cases d with
  | tv t=>exact Rep.mono hB z2
  | tl ts=>
   obtain⟨l,xs,p1,p2,p3,p4,p5,p6,p7⟩:=z2;obtain⟨g1,g2,g3,g4⟩:=hH l _ p4 p2 p3 (.inr p6);exact⟨l,xs,p1,g2,g3,g1,p5.mono hB,g4 p6,p7⟩
theorem StI.no {Y:Fx}{B:Hp}{ρ:En}{σ:Sg}{H:Hp}(h:∀(i:Nat) (s:Sl),s.isO=true->ρ[i]? ≠ some s):∃as O,StI Y B ρ σ H as O:=⟨Y.as,λ_=>none,dw _,λi os e=>(h i _ rfl e).elim,λi j os os' e=>(h i _ rfl e).elim,λi k n e=>(h i _ rfl e).elim,λi k fs e=>(h i _ rfl e).elim,λi os e=>(h i _ rfl e).elim⟩
theorem SI.grow {Y:Fx}{B:Hp}{ρ:En}{σ:Sg}{H H' :Hp}(I:SI Y B ρ σ H)(s:zh H H'):SI Y (zx B H H') ρ σ H' where
 s0:=I.s0
 sH:=I.sH.trans s
 sB:=zx.le I.sB s
 old:=λb o h=>by rw[zF (I.sH b o h)];exact I.old b o h
 len:=I.len
 vl:=λi t h=>let ⟨v,e,r⟩:=I.vl i t h;⟨v,e,r.mono (zx.ge I.sB s)⟩
 ow:=λi ts h=>let ⟨a,xs,e,b,h0,hh,r,d⟩:=I.ow i ts h;⟨a,xs,e,by rw[zF hh];exact b,h0,s _ _ hh,r.mono (zx.ge I.sB s),d⟩
 xc:=λi c h=>let ⟨a,e,r⟩:=I.xc i c h;⟨a,e,zx.ge I.sB s a _ r⟩
 st:=let ⟨as,O,x⟩:=I.st;⟨as,O,x.on (λ_ _ _ h=>⟨h,rfl⟩) (zx.ge I.sB s) rfl rfl (zh.refl _) λb o h hb h0 _=>⟨s _ _ h,by rw[zF h];exact hb,h0,id⟩⟩
def XP (Y:Fx)(B:Hp)(c:Nat):Prop:=∀(d:Option Addr) (H' :Hp),zh Y.H0 H' ->zh B H' ->Y.E (Y.cl c) d H'
def Po {α β:Type}(Y:Fx)(rel:Hp->Hp->β->α->Prop)(B H:Hp)(r:R α)(Q:β->Hp->Prop):Prop:=match r with
 | .ok a=>∀b H',zh H H' ->rel (zx B H H') H' b a->Q b H'
 | .ex c=>XP Y B c
 | .bad=>False
abbrev rC:Hp->Hp->V->T->Prop:=λB _ v t=>Rep B v t
abbrev rB:Hp->Hp->V->T->Prop:=λ_ H v t=>Rep H v t
abbrev rCs:Hp->Hp->List V->List T->Prop:=λB _ v t=>zC B v t
abbrev rE {α:Type}:Hp->Hp->α->α->Prop:=λ_ _ a b=>a=b
def tS {α β:Type}(Y:Fx)(rel:Hp->Hp->β->α->Prop)(f:En->R α)(ρ:En):Sg->Hp->(β->Hp->Prop)->Prop:=λσ H Q=>∃B,SI Y B ρ σ H/\Po Y rel B H (f ρ) Q
structure Snd (X:Cx) (Y:Fx) (e:Expr) (f:En->R T):Prop where
 mk ::
 go:∀ρ,PE X e (tS Y rC f ρ)
instance {X:Cx}{Y:Fx}{e:Expr}{f:En->R T}:CoeFun (Snd X Y e f) λ_=>∀ρ,PE X e (tS Y rC f ρ):=⟨Snd.go⟩
structure ZR (X:Cx) (Y:Fx) (e:Expr) (f:En->R T):Prop where
 mk ::
 go:∀ρ,PE X e (tS Y rB f ρ)
instance {X:Cx}{Y:Fx}{e:Expr}{f:En->R T}:CoeFun (ZR X Y e f) λ_=>∀ρ,PE X e (tS Y rB f ρ):=⟨ZR.go⟩
structure JL (X:Cx) (Y:Fx) (e:Expr) (f:En->R Bool):Prop where
 mk ::
 go:∀ρ,PT X e (tS Y rE f ρ)
instance {X:Cx}{Y:Fx}{e:Expr}{f:En->R Bool}:CoeFun (JL X Y e f) λ_=>∀ρ,PT X e (tS Y rE f ρ):=⟨JL.go⟩
structure ZI (X:Cx) (Y:Fx) (es:List Expr) (f:En->R (List T)):Prop where
 mk ::
 go:∀ρ,PA X es (tS Y rCs f ρ)
instance {X:Cx}{Y:Fx}{es:List Expr}{f:En->R (List T)}:CoeFun (ZI X Y es f) λ_=>∀ρ,PA X es (tS Y rCs f ρ):=⟨ZI.go⟩
theorem step {α α' β β' :Type}{Y:Fx}{rel:Hp->Hp->β->α->Prop}{rel' :Hp->Hp->β' ->α' ->Prop}{f:En->R α}{k:α->R α'}{ρ:En}{B:Hp}{σ:Sg}{H:Hp}{Q:β' ->Hp->Prop}{K:β->Hp->Prop}
  (I:SI Y B ρ σ H) (h:Po Y rel' B H ((f ρ).bind k) Q)
  (n:∀a b H1,f ρ= .ok a->zh H H1->rel (zx B H H1) H1 b a->SI Y (zx B H H1) ρ σ H1->Po Y rel' (zx B H H1) H1 (k a) Q->K b H1):tS Y rel f ρ σ H K:=by
 refine⟨B,I, ?_⟩;cases e:f ρ with
 | bad=>rw[e]at h;exact h
 | ex c=>rw[e]at h;exact h
 | ok a=>
  rw[e]at h;intro b H1 s r;refine n a b H1 e s r (I.grow s) ?_;have h' :Po Y _ B H (k a) Q:=h;revert h';cases k a with
  | bad=>exact λh' =>h'
  | ex c=>exact λh' d H' s0 sB' =>h' d H' s0 ((zx.ge I.sB s).trans sB')
  | ok a' =>exact λh' b' H2 s2 r2=>h' b' H2 (s.trans s2) (by rw[← zx.trans s s2];exact r2)
theorem Zi {α β:Type}{Y:Fx}{rel:Hp->Hp->β->α->Prop}{ρ:En}{B:Hp}{σ:Sg}{H:Hp}{a:α}{b:β}{Q:β->Hp->Prop}(I:SI Y B ρ σ H)(h:Po Y rel B H (.ok a) Q)(r:rel B H b a):Q b H:=h b H (zh.refl H) (by rw[zx.self B H I.sB];exact r)
theorem Snd.b {X:Cx}{Y:Fx}{e:Expr}{f:En->R T}(h:Snd X Y e f):ZR X Y e f:= .mk λρ=>PE.imp (h ρ) λσ H Q ⟨B,I,q⟩=>⟨B,I,by
 revert q;cases f ρ with
 | bad=>exact λq=>q
 | ex c=>exact λq=>q
 | ok a=>exact λq b H' s r=>q b H' s (r.mono (zx.le I.sB s))⟩
section
variable {X:Cx}{Y:Fx}{a b c:Expr}{fa fb fc:En->R T}{pos:Pos}
def vE (i:Nat):En->R T:=λρ=>match ρ[i]? with
 | some (.vl t)=> .ok t
 | _=> .bad
def vB (i:Nat):En->R T:=λρ=>match ρ[i]? with
 | some (.vl t)=> .ok t
 | some (.ow ts)=> .ok (.lst ts)
 | _=> .bad
def cE (t:T):En->R T:=λ_=> .ok t
theorem k7 (i:Nat){x:Str}(h:PE X (.Name x pos) (Y0 i)):Snd X Y (.Name x pos) (vE i):= .mk λρ=>PE.imp h λσ H Q ⟨B,I,q⟩=>by
 unfold vE at q;split at q
 ·rename_i t e;obtain⟨v,e1,r⟩:=I.vl i t e;exact⟨v,e1,Zi I q r⟩
 ·exact q.elim
theorem Vr (i:Nat){x:Str}(h:PE X (.Name x pos) (Y0 i)):ZR X Y (.Name x pos) (vB i):= .mk λρ=>PE.imp h λσ H Q ⟨B,I,q⟩=>by
 unfold vB at q;split at q
 ·rename_i t e;obtain⟨v,e1,r⟩:=I.vl i t e;exact⟨v,e1,Zi I q (r.mono I.sB)⟩
 ·rename_i ts e;obtain⟨a,xs,e1,_,_,hh,r,_⟩:=I.ow i ts e;exact⟨.ref a,e1,Zi I q (.lst hh (r.mono I.sB))⟩
 ·exact q.elim
theorem k8 {i j}:Snd X Y (.Constant (.int i) j pos) (cE (.int i)):= .mk λρ=>PE.imp vZ λσ H Q ⟨B,I,q⟩=>Zi I q (.int i)
theorem G5 {i j}:Snd X Y (.Constant (.bool i) j pos) (cE (.bl i)):= .mk λρ=>PE.imp Xy λσ H Q ⟨B,I,q⟩=>Zi I q (.bl i)
theorem k9 {j}:Snd X Y (.Constant .none j pos) (cE .non):= .mk λρ=>PE.imp V0 λσ H Q ⟨B,I,q⟩=>Zi I q .non
theorem Vs {i j}:Snd X Y (.Constant (.str i) j pos) (cE (.str i)):= .mk λρ=>PE.imp Ua λσ H Q ⟨B,I,q⟩=>Zi I q (.str i)
def zc:En->R (List T):=λ_=> .ok []
def z7 (f:En->R T)(g:En->R (List T)):En->R (List T):=λρ=>(f ρ).bind λt=>(g ρ).bind λts=> .ok (t :: ts)
theorem w8:ZI X Y [] zc:= .mk λρ=>PA.imp zB λσ H Q ⟨B,I,q⟩=>Zi I q .nil
theorem qm {es:List Expr}{g:En->R (List T)}(h:Snd X Y a fa)(hs:ZI X Y es g)(hq:starEach (a :: es) X.env=(false,eval a X.env) :: starEach es X.env:=by exact zy rfl):ZI X Y (a :: es) (z7 fa g):= .mk λρ=>
 PA.imp (zk (h ρ) (hs ρ) hq) λσ H Q ⟨B,I,q⟩=>step I q λt v H1 _ s1 r1 I1 q1=>step I1 q1 λts vs H2 _ s2 r2 I2 q2=>Zi I2 q2 (.cons (r1.mono (zx.ge I1.sB s2)) r2)
theorem zh.new {H:Hp}{p:Addr}(h:H p=none)(o:HO):zh H (upd H p o):=λb u q=>by rw[zg (zm q h)];exact q
theorem ju {B H:Hp}{p:Addr}(h:H p=none)(o:HO):zx B H (upd H p o) p=some o:=by rw[zD h,zl]
noncomputable def bnd:Nat:=16777216
theorem zV {n:Nat}(h:n<=bnd):n<=sizeLine:=by exact h
def ZX (g:En->R (List T)):En->R T:=λρ=>(g ρ).bind λts=>if ts.length<=bnd then .ok (.tup ts) else .bad
def ja (g:En->R (List T)):En->R T:=λρ=>(g ρ).bind λts=>if ts.length<=bnd then .ok (.lst ts) else .bad
theorem Ut {ρ:En}{σ:Sg}{B H:Hp}{xs:List V}{ts:List T}(I:SI Y B ρ σ H)(r:zC B xs ts){p:Addr}(h:H p=none):Rep (zx B H (upd H p (.tup xs))) (.ref p) (.tup ts):=
 .tup (ju h _) (r.mono (zx.ge I.sB (zh.new h _)))
theorem Qn {ρ:En}{σ:Sg}{B H:Hp}{xs:List V}{ts:List T}(I:SI Y B ρ σ H)(r:zC B xs ts){p:Addr}(h:H p=none):Rep (zx B H (upd H p (.lst xs))) (.ref p) (.lst ts):=
 .lst (ju h _) (r.mono (zx.ge I.sB (zh.new h _)))
theorem ka {es:List Expr}{g:En->R (List T)}{x1}(h:ZI X Y es g):Snd X Y (.Tuple es x1 pos) (ZX g):= .mk λρ=>PE.imp (Vf (h ρ)) λσ H Q ⟨B,I,q⟩=>
 step I q λts vs H1 _ s1 r1 I1 q1=>by
  split at q1
  ·rename_i hb;refine⟨by rw[r1.length];exact zV hb,λp hp=>q1 _ _ (zh.new hp _) (Ut I1 r1 hp)⟩
  ·exact q1.elim
theorem kd {es:List Expr}{g:En->R (List T)}(h:ZI X Y es g):Snd X Y (.List es pos) (ja g):= .mk λρ=>PE.imp (qk (h ρ)) λσ H Q ⟨B,I,q⟩=>
 step I q λts vs H1 _ s1 r1 I1 q1=>by
  split at q1
  ·rename_i hb;refine⟨by rw[r1.length];exact zV hb,λp hp=>q1 _ _ (zh.new hp _) (Qn I1 r1 hp)⟩
  ·exact q1.elim
end
end PV
namespace PV
open PySem PySem.Spec PyProof.Rows L2
noncomputable def eqL (f:T->T->Option Bool):List T->List T->Option Bool
 | [],[]=>some true
 | [],_ :: _=>some false
 | _ :: _,[]=>some false
 | x :: xs,y :: ys=>match f x y with
  | none=>none
  | some b=>match eqL f xs ys with
   | none=>none
   | some c=>some (b && c)
noncomputable def b2 (b:Bool):Int:=if b then 1 else 0
def eqF:Nat->T->T->Option Bool
 | _,.non,.non=>some true
 | _,.bl a,.bl b=>some (a == b)
 | _,.bl a,.int j=>some (b2 a == j)
 | _,.int i,.bl b=>some (i == b2 b)
 | _,.int i,.int j=>some (i == j)
 | _,.str x,.str y=>some (x == y)
 | n+1,.tup xs,.tup ys=>eqL (eqF n) xs ys
 | n+1,.lst xs,.lst ys=>eqL (eqF n) xs ys
 | n+1,.fz xs,.lst ys=>eqL (eqF n) xs ys
 | n+1,.lst xs,.fz ys=>eqL (eqF n) xs ys
 | n+1,.fz xs,.fz ys=>eqL (eqF n) xs ys
 | 0,.tup _,.tup _=>none
 | 0,.lst _,.lst _=>none
 | 0,.fz _,.lst _=>none
 | 0,.lst _,.fz _=>none
 | 0,.fz _,.fz _=>none
 | _,.non,_=>some false
 | _,.bl _,_=>some false
 | _,.int _,_=>some false
 | _,.str _,_=>some false
 | _,.tup _,_=>some false
 | _,.lst _,_=>some false
 | _,.fz _,_=>some false
mutual
theorem Rep.fn {H:Hp}:∀{v:V} {t t' :T},Rep H v t->Rep H v t' ->t=t'
 | _,_,_,.non,q=>by cases q;rfl
 | _,_,_,.bl _,q=>by cases q;rfl
 | _,_,_,.int _,q=>by cases q;rfl
 | _,_,_,.str _,q=>by cases q;rfl
 | _,_,_,.tup h r,q=>by cases q <;> rename_i r' h' <;> rw[h]at h' <;> cases h';rw[zC.fn r r']
 | _,_,_,.lst h r,q=>by cases q <;> rename_i r' h' <;> rw[h]at h' <;> cases h';rw[zC.fn r r']
 | _,_,_,.fz h r,q=>by cases q <;> rename_i r' h' <;> rw[h]at h' <;> cases h';rw[zC.fn r r']
theorem zC.fn {H:Hp}:∀{v:List V} {t t' :List T},zC H v t->zC H v t' ->t=t'
 | _,_,_,.nil,q=>by cases q;rfl
 | _,_,_,.cons h r,q=>by
  cases q with
  | cons h' r' =>rw[Rep.fn h h',zC.fn r r']
end
theorem Zk {f:T->T->Option Bool}(hf:∀x b,f x x=some b->b=true):∀(xs:List T) (b:Bool),eqL f xs xs=some b->b=true
 | [],b,h=>by
  have h' :=h;cases h';rfl
 | x :: xs,b,h=>by
  unfold eqL at h;cases e:f x x with
  | none=>rw[e]at h;cases h
  | some c=>
   rw[e]at h;cases e' :eqL f xs xs with
   | none=>rw[e']at h;cases h
   | some d=>
    rw[e']at h;cases h;rw[hf x c e,Zk hf xs d e'];rfl
theorem Zl:∀(n:Nat) (t:T) (b:Bool),eqF n t t=some b->b=true
 | n,.non,b,h=>by unfold eqF at h;cases h;rfl
 | n,.bl x,b,h=>by unfold eqF at h;cases h;simp
 | n,.int x,b,h=>by unfold eqF at h;cases h;simp
 | n,.str x,b,h=>by unfold eqF at h;cases h;simp
 | 0,.tup x,b,h=>by cases h
 | 0,.lst x,b,h=>by cases h
 | 0,.fz x,b,h=>by cases h
 | n+1,.tup x,b,h=>by exact Zk (Zl n) x b h
 | n+1,.lst x,b,h=>by exact Zk (Zl n) x b h
 | n+1,.fz x,b,h=>by exact Zk (Zl n) x b h
theorem Uu {f:T->T->Option Bool}:∀{xs ys:List T} {b:Bool},eqL f xs ys=some b->
  ∃e:Nat->Bool,(∀j x y,xs[j]? =some x->ys[j]? =some y->f x y=some (e j))/\((bM (min xs.length ys.length)).all e && xs.length == ys.length)=b
 | [],[],b,h=>by
  have h' :=h;cases h';exact⟨λ_=>true,λj x y h=>by simp at h,by simp⟩
 | [],y :: ys,b,h=>by
  have h' :=h;cases h';exact⟨λ_=>true,λj x y h=>by simp at h,by simp⟩
 | x :: xs,[],b,h=>by
  have h' :=h;cases h';exact⟨λ_=>true,λj x y h h' =>by simp at h',by simp⟩
 | x :: xs,y :: ys,b,h=>by
  unfold eqL at h;cases e:f x y with
  | none=>rw[e]at h;cases h
  | some c=>
   rw[e]at h;cases e' :eqL f xs ys with
   | none=>rw[e']at h;cases h
   | some d=>
    rw[e']at h;cases h;obtain⟨g,h1,h2⟩:=Uu e';refine⟨λj=>match j with | 0=>c | j+1=>g j,λj u v hu hv=> ?_, ?_⟩
    ·cases j with
     | zero=>simp at hu hv;subst hu hv;exact e
     | succ j=>exact h1 j u v (by simpa using hu) (by simpa using hv)
    ·have z:min (x :: xs).length (y :: ys).length=min xs.length ys.length+1:=by simp only[ac];omega
     rw[z,dH,cY,eY];have z2:((x :: xs).length == (y :: ys).length)=(xs.length == ys.length):=by simp
     rw[z2,← h2,Bool.and_assoc];rfl
section
variable {X:Cx}{pins:List (Addr×Obj)}{σ:Sg}{H:Hp}{s:Shared}
theorem Zo {a:Addr}{xs:List V}{ts:List T}(I:L2.Inv X pins σ H s)(h:H a=some (.tup xs))(r:zC H xs ts):∃its:List Value,zM xs its/\s.heap.IsTuple a its.toArray/\ts.length=its.length/\xs.length<=sizeLine:=by
 obtain⟨its,rv,p,z⟩:=I.tuple (SqT.of h);exact⟨its,rv,p,by rw[← r.length];exact rv.length,z⟩
theorem zI {a:Addr}{xs:List V}{ts:List T}(I:L2.Inv X pins σ H s)(h:Rd H a (.lst xs))(r:zC H xs ts):∃its:List Value,zM xs its/\s.heap.IsList a its.toArray/\ts.length=its.length/\xs.length<=sizeLine:=by
 obtain⟨its,rv,p,z⟩:=I.list (.inl h);exact⟨its,rv,p.isList,by rw[← r.length];exact rv.length,z⟩
end
noncomputable abbrev EqN (A:Around)(s:Shared)(u u' :Value)(b:Bool):Prop:=c9 A s u u' b/\dI A s u u' b/\cQ A s u u' (!b)
section
variable {X:Cx}{pins:List (Addr×Obj)}{σ:Sg}{H:Hp}{s:Shared}
theorem Uv {xs ys:List V}{ts us:List T}{its its' :List Value}{A:Around}{f:T->T->Option Bool}{e:Nat->Bool}(r:zC H xs ts)(r' :zC H ys us)(v:zM xs its)(v' :zM ys its')
  (he:∀(j:Nat) (x y:T),ts[j]? =some x->us[j]? =some y->f x y=some (e j))
  (ih:∀(x y:T) (b:Bool) (p q:V) (u w:Value),f x y=some b->Rep H p x->Rep H q y->zT p u->zT q w->EqN A s u w b) (j:Nat) (h1:j < its.toArray.size) (h2:j < its'.toArray.size):
  c9 A s its.toArray[j] its'.toArray[j] (e j):=by
 have l1:=v.length;have l2:=v'.length;have k1:j < xs.length:=by simp at h1;omega
 have k2:j < ys.length:=by simp at h2;omega
 obtain⟨t,et,rt⟩:=r.getV (az k1);obtain⟨t',et',rt'⟩:=r'.getV (az k2);obtain⟨u,eu,ru⟩:=v.get (az k1);obtain⟨u',eu',ru'⟩:=v'.get (az k2);have q1:=by
  have:its[j]? =some its.toArray[j]:=by simp at h1 ⊢
  rw[eu]at this;exact(aq this).symm
 have q2:=by
  have:its'[j]? =some its'.toArray[j]:=by simp at h2 ⊢
  rw[eu']at this;exact(aq this).symm
 rw[q1,q2];exact(ih t t' _ _ _ u u' (he j t t' et et') rt rt' ru ru').1
theorem Qo {A:Around}{a c:Addr}{xs ys:List V}{ts us:List T}{b:Bool}{f:T->T->Option Bool}(I:L2.Inv X pins σ H s)(hu:A.units < cLine)(ha:H a=some (.tup xs))(hc:H c=some (.tup ys))(r:zC H xs ts)(r' :zC H ys us)
  (hb:eqL f ts us=some b) (hr:∀x b,f x x=some b->b=true)
  (ih:∀(x y:T) (b:Bool) (p q:V) (u w:Value),f x y=some b->Rep H p x->Rep H q y->zT p u->zT q w->EqN A.in1 s u w b):EqN A s (.ref a) (.ref c) b:=by
 obtain⟨its,v,p,l,_⟩:=Zo I ha r;obtain⟨its',v',p',l',_⟩:=Zo I hc r';obtain⟨e,he,hb'⟩:=Uu hb;have hp:=Uv r r' v v' he ih;have z:((bM (min its.toArray.size its'.toArray.size)).all e && its.toArray.size == its'.toArray.size)=b:=by
  rw[← hb'];simp[l,l']
 have R:=dI.tuples p p' hu hp;have N:=cQ.tuples p p' hu hp;rw[z]at R;have N' :cQ A s (.ref a) (.ref c) (!b):=by
  rw[← z];exact N
 refine⟨?_,R,N'⟩
 by_cases hac:a=c
 ·subst hac;rw[ha]at hc;cases hc;have:=r.fn r';subst this;rw[Zk hr ts b hb];exact fJ _
 ·exact eL hac R
theorem w9 {A:Around}{a c:Addr}{xs ys:List V}{ts us:List T}{b:Bool}{f:T->T->Option Bool}(I:L2.Inv X pins σ H s)(hu:A.units < cLine)(ha:Rd H a (.lst xs))(hc:Rd H c (.lst ys))(r:zC H xs ts)(r' :zC H ys us)
  (hb:eqL f ts us=some b) (hr:∀x b,f x x=some b->b=true)
  (ih:∀(x y:T) (b:Bool) (p q:V) (u w:Value),f x y=some b->Rep H p x->Rep H q y->zT p u->zT q w->EqN A.in1 s u w b):EqN A s (.ref a) (.ref c) b:=by
 obtain⟨its,v,p,l,_⟩:=zI I ha r;obtain⟨its',v',p',l',_⟩:=zI I hc r';obtain⟨e,he,hb'⟩:=Uu hb;have hp:=Uv r r' v v' he ih;have RN:dI A s (.ref a) (.ref c) b/\cQ A s (.ref a) (.ref c) (!b):=by
  by_cases hl:its.toArray.size=its'.toArray.size
  ·have z:(bM its.toArray.size).all e=b:=by
    rw[← hb'];have:ts.length=us.length:=by simp at hl;omega
    rw[this];have k:its.toArray.size=us.length:=by simp;omega
    rw[k];simp
   have R:=dI.lists p p' hl hu hp;have N:=cQ.lists p p' hl hu hp;rw[z]at R;refine⟨R, ?_⟩;rw[← z];exact N
  ·have hl' :(its.toArray.size != its'.toArray.size)=true:=by simpa using hl
   have z:b=false:=by
    rw[← hb'];have:¬ ts.length=us.length:=by simp at hl;omega
    simp[this]
   subst z;exact⟨dI.lists_lengths p p' hl' hu,cQ.lists_lengths p p' hl' hu⟩
 refine⟨?_,RN.1,RN.2⟩
 by_cases hac:a=c
 ·subst hac;have hxy:xs=ys:=by
   rcases ha with ha | ⟨o,ha⟩ <;> rcases hc with hc | ⟨o',hc⟩ <;> (rw[ha]at hc;cases hc) <;> rfl
  subst hxy;have:=r.fn r';subst this;rw[Zk hr ts b hb];exact fJ _
 ·exact eL hac RN.1
end
section
variable {X:Cx}{pins:List (Addr×Obj)}{σ:Sg}{H:Hp}{s:Shared}
theorem jh {A:Around}:A.in1.units=A.units+1:=rfl
set_option maxHeartbeats 2000000 in
theorem Uw (I:L2.Inv X pins σ H s):∀(A:Around),A.units < cLine->∀(x y:T) (b:Bool) (p q:V) (u w:Value),eqF 0 x y=some b->Rep H p x->Rep H q y->zT p u->zT q w->EqN A s u w b:=by
 intro A hu x y b p q u w h rp rq ru rw';have hu' :=hu;cases rp with
 | non=>
  obtain rfl:u=Value.none:=ru;cases rq with
  | non=>obtain rfl:w=Value.none:=rw';unfold eqF at h;cases h;exact⟨.same _,.none_none,.none_none⟩
  | bl c=>obtain rfl:w=Value.bool c:=rw';unfold eqF at h;cases h;exact⟨.none_bool _,.none_bool _,.none_bool _⟩
  | int c=>obtain⟨t,rfl⟩:=rw';unfold eqF at h;cases h;exact⟨.none_int _ _,.none_int _ _,.none_int _ _⟩
  | str c=>obtain⟨t,rfl⟩:=rw';unfold eqF at h;cases h;exact⟨.none_str _ _,.none_str _ _,.none_str _ _⟩
  | tup h1 r1=>obtain rfl:w=Value.ref _:=rw';unfold eqF at h;cases h;obtain⟨i,_,p,_⟩:=Zo I h1 r1;exact⟨.none_tuple p hu',.none_tuple p hu',.none_tuple p hu'⟩
  | lst h1 r1=>obtain rfl:w=Value.ref _:=rw';unfold eqF at h;cases h;obtain⟨i,_,p,_⟩:=zI I (.inl h1) r1;exact⟨.none_list p hu',.none_list p hu',.none_list p hu'⟩
  | fz h1 r1=>obtain rfl:w=Value.ref _:=rw';unfold eqF at h;cases h;obtain⟨i,_,p,_⟩:=zI I (.inr ⟨_,h1⟩) r1;exact⟨.none_list p hu',.none_list p hu',.none_list p hu'⟩
 | bl d=>
  obtain rfl:u=Value.bool d:=ru;cases rq with
  | non=>obtain rfl:w=Value.none:=rw';unfold eqF at h;cases h;exact⟨.bool_none _,.bool_none _,.bool_none _⟩
  | bl c=>obtain rfl:w=Value.bool c:=rw';unfold eqF at h;cases h;exact⟨.bool_bool _ _,.bool_bool _ _,.bool_bool _ _⟩
  | int c=>obtain⟨t,rfl⟩:=rw';unfold eqF at h;cases h;exact⟨.bool_int _ _ _,.bool_int _ _ _,.bool_int _ _ _⟩
  | str c=>obtain⟨t,rfl⟩:=rw';unfold eqF at h;cases h;exact⟨.bool_str _ _ _,.bool_str _ _ _,.bool_str _ _ _⟩
  | tup h1 r1=>obtain rfl:w=Value.ref _:=rw';unfold eqF at h;cases h;obtain⟨i,_,p,_⟩:=Zo I h1 r1;exact⟨.bool_tuple _ p hu',.bool_tuple _ p hu',.bool_tuple _ p hu'⟩
  | lst h1 r1=>obtain rfl:w=Value.ref _:=rw';unfold eqF at h;cases h;obtain⟨i,_,p,_⟩:=zI I (.inl h1) r1;exact⟨.bool_list _ p hu',.bool_list _ p hu',.bool_list _ p hu'⟩
  | fz h1 r1=>obtain rfl:w=Value.ref _:=rw';unfold eqF at h;cases h;obtain⟨i,_,p,_⟩:=zI I (.inr ⟨_,h1⟩) r1;exact⟨.bool_list _ p hu',.bool_list _ p hu',.bool_list _ p hu'⟩
 | int d=>
  obtain⟨t0,rfl⟩:=ru;cases rq with
  | non=>obtain rfl:w=Value.none:=rw';unfold eqF at h;cases h;exact⟨.int_none _ _,.int_none _ _,.int_none _ _⟩
  | bl c=>obtain rfl:w=Value.bool c:=rw';unfold eqF at h;cases h;exact⟨.int_bool _ _ _,.int_bool _ _ _,.int_bool _ _ _⟩
  | int c=>obtain⟨t,rfl⟩:=rw';unfold eqF at h;cases h;exact⟨.int_int _ _ _ _,.int_int _ _ _ _,.int_int _ _ _ _⟩
  | str c=>obtain⟨t,rfl⟩:=rw';unfold eqF at h;cases h;exact⟨.int_str _ _ _ _,.int_str _ _ _ _,.int_str _ _ _ _⟩
  | tup h1 r1=>obtain rfl:w=Value.ref _:=rw';unfold eqF at h;cases h;obtain⟨i,_,p,_⟩:=Zo I h1 r1;exact⟨.int_tuple _ _ p hu',.int_tuple _ _ p hu',.int_tuple _ _ p hu'⟩
  | lst h1 r1=>obtain rfl:w=Value.ref _:=rw';unfold eqF at h;cases h;obtain⟨i,_,p,_⟩:=zI I (.inl h1) r1;exact⟨.int_list _ _ p hu',.int_list _ _ p hu',.int_list _ _ p hu'⟩
  | fz h1 r1=>obtain rfl:w=Value.ref _:=rw';unfold eqF at h;cases h;obtain⟨i,_,p,_⟩:=zI I (.inr ⟨_,h1⟩) r1;exact⟨.int_list _ _ p hu',.int_list _ _ p hu',.int_list _ _ p hu'⟩
 | str d=>
  obtain⟨t0,rfl⟩:=ru;cases rq with
  | non=>obtain rfl:w=Value.none:=rw';unfold eqF at h;cases h;exact⟨.str_none _ _,.str_none _ _,.str_none _ _⟩
  | bl c=>obtain rfl:w=Value.bool c:=rw';unfold eqF at h;cases h;exact⟨.str_bool _ _ _,.str_bool _ _ _,.str_bool _ _ _⟩
  | int c=>obtain⟨t,rfl⟩:=rw';unfold eqF at h;cases h;exact⟨.str_int _ _ _ _,.str_int _ _ _ _,.str_int _ _ _ _⟩
  | str c=>obtain⟨t,rfl⟩:=rw';unfold eqF at h;cases h;exact⟨.str_str _ _ _ _,.str_str _ _ _ _,.str_str _ _ _ _⟩
  | tup h1 r1=>obtain rfl:w=Value.ref _:=rw';unfold eqF at h;cases h;obtain⟨i,_,p,_⟩:=Zo I h1 r1;exact⟨.str_tuple _ _ p hu',.str_tuple _ _ p hu',.str_tuple _ _ p hu'⟩
  | lst h1 r1=>obtain rfl:w=Value.ref _:=rw';unfold eqF at h;cases h;obtain⟨i,_,p,_⟩:=zI I (.inl h1) r1;exact⟨.str_list _ _ p hu',.str_list _ _ p hu',.str_list _ _ p hu'⟩
  | fz h1 r1=>obtain rfl:w=Value.ref _:=rw';unfold eqF at h;cases h;obtain⟨i,_,p,_⟩:=zI I (.inr ⟨_,h1⟩) r1;exact⟨.str_list _ _ p hu',.str_list _ _ p hu',.str_list _ _ p hu'⟩
 | tup h0 r0=>
  obtain rfl:u=Value.ref _:=ru;obtain⟨i0,_,p0,_⟩:=Zo I h0 r0;cases rq with
  | non=>obtain rfl:w=Value.none:=rw';unfold eqF at h;cases h;exact⟨.tuple_none p0 hu',.tuple_none p0 hu',.tuple_none p0 hu'⟩
  | bl c=>obtain rfl:w=Value.bool c:=rw';unfold eqF at h;cases h;exact⟨.tuple_bool _ p0 hu',.tuple_bool _ p0 hu',.tuple_bool _ p0 hu'⟩
  | int c=>obtain⟨t,rfl⟩:=rw';unfold eqF at h;cases h;exact⟨.tuple_int _ _ p0 hu',.tuple_int _ _ p0 hu',.tuple_int _ _ p0 hu'⟩
  | str c=>obtain⟨t,rfl⟩:=rw';unfold eqF at h;cases h;exact⟨.tuple_str _ _ p0 hu',.tuple_str _ _ p0 hu',.tuple_str _ _ p0 hu'⟩
  | tup h1 r1=>unfold eqF at h;cases h
  | lst h1 r1=>obtain rfl:w=Value.ref _:=rw';unfold eqF at h;cases h;obtain⟨i,_,p,_⟩:=zI I (.inl h1) r1;exact⟨.tuple_list p0 p hu',.tuple_list p0 p hu',.tuple_list p0 p hu'⟩
  | fz h1 r1=>obtain rfl:w=Value.ref _:=rw';unfold eqF at h;cases h;obtain⟨i,_,p,_⟩:=zI I (.inr ⟨_,h1⟩) r1;exact⟨.tuple_list p0 p hu',.tuple_list p0 p hu',.tuple_list p0 p hu'⟩
 | lst h0 r0=>
  obtain rfl:u=Value.ref _:=ru;obtain⟨i0,_,p0,_⟩:=zI I (.inl h0) r0;cases rq with
  | non=>obtain rfl:w=Value.none:=rw';unfold eqF at h;cases h;exact⟨.list_none p0 hu',.list_none p0 hu',.list_none p0 hu'⟩
  | bl c=>obtain rfl:w=Value.bool c:=rw';unfold eqF at h;cases h;exact⟨.list_bool _ p0 hu',.list_bool _ p0 hu',.list_bool _ p0 hu'⟩
  | int c=>obtain⟨t,rfl⟩:=rw';unfold eqF at h;cases h;exact⟨.list_int _ _ p0 hu',.list_int _ _ p0 hu',.list_int _ _ p0 hu'⟩
  | str c=>obtain⟨t,rfl⟩:=rw';unfold eqF at h;cases h;exact⟨.list_str _ _ p0 hu',.list_str _ _ p0 hu',.list_str _ _ p0 hu'⟩
  | tup h1 r1=>obtain rfl:w=Value.ref _:=rw';unfold eqF at h;cases h;obtain⟨i,_,p,_⟩:=Zo I h1 r1;exact⟨.list_tuple p0 p hu',.list_tuple p0 p hu',.list_tuple p0 p hu'⟩
  | lst h1 r1=>unfold eqF at h;cases h
  | fz h1 r1=>unfold eqF at h;cases h
 | fz h0 r0=>
  obtain rfl:u=Value.ref _:=ru;obtain⟨i0,_,p0,_⟩:=zI I (.inr ⟨_,h0⟩) r0;cases rq with
  | non=>obtain rfl:w=Value.none:=rw';unfold eqF at h;cases h;exact⟨.list_none p0 hu',.list_none p0 hu',.list_none p0 hu'⟩
  | bl c=>obtain rfl:w=Value.bool c:=rw';unfold eqF at h;cases h;exact⟨.list_bool _ p0 hu',.list_bool _ p0 hu',.list_bool _ p0 hu'⟩
  | int c=>obtain⟨t,rfl⟩:=rw';unfold eqF at h;cases h;exact⟨.list_int _ _ p0 hu',.list_int _ _ p0 hu',.list_int _ _ p0 hu'⟩
  | str c=>obtain⟨t,rfl⟩:=rw';unfold eqF at h;cases h;exact⟨.list_str _ _ p0 hu',.list_str _ _ p0 hu',.list_str _ _ p0 hu'⟩
  | tup h1 r1=>obtain rfl:w=Value.ref _:=rw';unfold eqF at h;cases h;obtain⟨i,_,p,_⟩:=Zo I h1 r1;exact⟨.list_tuple p0 p hu',.list_tuple p0 p hu',.list_tuple p0 p hu'⟩
  | lst h1 r1=>unfold eqF at h;cases h
  | fz h1 r1=>unfold eqF at h;cases h
set_option maxHeartbeats 2000000 in
theorem Ux (I:L2.Inv X pins σ H s):∀(n:Nat) (A:Around),A.units+n < cLine->∀(x y:T) (b:Bool) (p q:V) (u w:Value),eqF n x y=some b->Rep H p x->Rep H q y->zT p u->zT q w->EqN A s u w b:=by
 intro n
 induction n with
 | zero=>exact λA hu x y b p q u w h=>Uw I A (by omega) x y b p q u w h
 | succ n ih=>
  intro A hu x y b p q u w h rp rq ru rw';have low:=λh=>Uw I A (by omega) x y b p q u w h rp rq ru rw'
  have hu' :A.units < cLine:=by omega
  have ih' :=ih A.in1 (by rw[jh];omega)
  cases rp with
  | tup h0 r0=>
   cases rq with
   | tup h1 r1=>
    obtain rfl:u=Value.ref _:=ru;obtain rfl:w=Value.ref _:=rw';exact Qo I hu' h0 h1 r0 r1 h (Zl n) ih'
   | _=>exact low (by exact h)
  | lst h0 r0=>
   cases rq with
   | lst h1 r1=>
    obtain rfl:u=Value.ref _:=ru;obtain rfl:w=Value.ref _:=rw';exact w9 I hu' (.inl h0) (.inl h1) r0 r1 h (Zl n) ih'
   | fz h1 r1=>
    obtain rfl:u=Value.ref _:=ru;obtain rfl:w=Value.ref _:=rw';exact w9 I hu' (.inl h0) (.inr ⟨_,h1⟩) r0 r1 h (Zl n) ih'
   | _=>exact low (by exact h)
  | fz h0 r0=>
   cases rq with
   | lst h1 r1=>
    obtain rfl:u=Value.ref _:=ru;obtain rfl:w=Value.ref _:=rw';exact w9 I hu' (.inr ⟨_,h0⟩) (.inl h1) r0 r1 h (Zl n) ih'
   | fz h1 r1=>
    obtain rfl:u=Value.ref _:=ru;obtain rfl:w=Value.ref _:=rw';exact w9 I hu' (.inr ⟨_,h0⟩) (.inr ⟨_,h1⟩) r0 r1 h (Zl n) ih'
   | _=>exact low (by exact h)
  | _=>exact low (by cases rq <;> (exact h))
end
section
variable {X:Cx}{Y:Fx}{a b c d:Expr}{fa fb fc fd:En->R T}{pos:Pos}
def rG (Y:Fx)(g:T->T->R T):R2:=λx y H Q=>∃B t t',zh B H/\Rep B x t/\Rep B y t' /\Po Y rC B H (g t t') Q
def z9 (g:T->T->R T)(fa fb:En->R T):En->R T:=λρ=>(fa ρ).bind λx=>(fb ρ).bind λy=>g x y
theorem Uy {op:Operator}{g:T->T->R T}(ho:OpR X (binaryOp op) (rG Y g))(ha:Snd X Y a fa)(hb:Snd X Y b fb):Snd X Y (.BinOp a op b pos) (z9 g fa fb):= .mk λρ=>
 PE.imp (XN ho (ha ρ) (hb ρ)) λσ H Q ⟨B,I,q⟩=>step I q λt v H1 _ s1 r1 I1 q1=>step I1 q1 λt' v' H2 _ s2 r2 I2 q2=>
  ⟨_,t,t',I2.sB,r1.mono (zx.ge I1.sB s2),r2,q2⟩
theorem po0 {g:R T}{B H:Hp}{Q:VK}{t:T}{v:V}(sB:zh B H)(q:Po Y rC B H g Q)(e:g= .ok t)(r:Rep B v t):Q v H:=by
 subst e;exact q v H (zh.refl H) (by rw[zx.self B H sB];exact r)
theorem Vt {g:R T}{B H:Hp}{Q:VK}{ts:List T}{xs:List V}{p:Addr}(sB:zh B H)(q:Po Y rC B H g Q)(e:g= .ok (.tup ts))(r:zC B xs ts)(h:H p=none):Q (.ref p) (upd H p (.tup xs)):=by
 subst e;exact q _ _ (zh.new h _) (.tup (ju h _) (r.mono (zx.ge sB (zh.new h _))))
theorem ke {g:R T}{B H:Hp}{Q:VK}{ts:List T}{xs:List V}{p:Addr}(sB:zh B H)(q:Po Y rC B H g Q)(e:g= .ok (.lst ts))(r:zC B xs ts)(h:H p=none):Q (.ref p) (upd H p (.lst xs)):=by
 subst e;exact q _ _ (zh.new h _) (.lst (ju h _) (r.mono (zx.ge sB (zh.new h _))))
def zf:T->T->R T
 | .int i,.int j=> .ok (.int (i+j))
 | .bl x,.int j=> .ok (.int (b2 x+j))
 | .int i,.bl y=> .ok (.int (i+b2 y))
 | .str x,.str y=>if x.length+y.length<=bnd then .ok (.str (x++y)) else .bad
 | .tup xs,.tup ys=>if xs.length+ys.length<=bnd then .ok (.tup (xs++ys)) else .bad
 | .lst xs,.lst ys=>if xs.length+ys.length<=bnd then .ok (.lst (xs++ys)) else .bad
 | _,_=> .bad
theorem Yc {prog:Program}{w:World}{A:Around}{E:Value->Shared->Prop}{s:Shared}{t b:Addr}{vs ws:List Value}{Q:Value->Shared->Prop}(ht:IsTup s.heap t vs.toArray)(hb:IsTup s.heap b ws.toArray)(hv:vs=[])
  (h1:Q (.ref b) s):wpAny (model prog w) A (binaryOp .Add (.ref t) (.ref b)) Q E s:=by
 obtain⟨⟨cls,dd,data,sl⟩,ho,hc,n,hd⟩:=id ht;obtain⟨⟨cls2,dd2,data2,sl2⟩,ho2,hc2,n2,hd2⟩:=id hb;subst hc hd hc2 hd2;exact concat_meets ⟨_,ho,rfl⟩ ⟨_,ho2,rfl⟩ noFill_tuple_add seq_tuple_add cP cJ (cA _ _)
   (tuple_addW0 t b _ _ n n2 dd dd2 sl sl2 (by simp[hv])) ⟨ho,ho2,h1⟩
theorem Uz:OpR X (binaryOp .Add) (rG Y zf):=by
 intro pins s σ H x y v u Q I rx ry h;obtain⟨B,t,t',sB,r,r',q⟩:=h;cases r with
 | int i=>
  cases r' with
  | int j=>exact V8 pins s σ H _ _ v u Q I rx ry ⟨i,j,rfl,rfl,po0 sB q rfl (.int _)⟩
  | bl y=>exact Uj pins s σ H _ _ v u Q I rx ry ⟨i,y,rfl,rfl,po0 sB q rfl (.int _)⟩
  | _=>exact q.elim
 | bl x=>
  cases r' with
  | int j=>
   obtain rfl:v=Value.bool x:=rx;obtain⟨tk,rfl⟩:=ry;exact IntBool.add_bool_int (⟨.int _,H,I.tok _,⟨_,rfl⟩,po0 sB q rfl (.int _)⟩)
  | _=>exact q.elim
 | str x=>
  cases r' with
  | str y=>
   by_cases hb:x.length+y.length<=bnd
   ·exact uB pins s σ H _ _ v u Q I rx ry ⟨x,y,rfl,rfl,zV hb,po0 sB q (if_pos hb) (.str _)⟩
   ·rw[show zf (.str x) (.str y)= .bad from if_neg hb]at q;exact q.elim
  | _=>exact q.elim
 | @tup a xs ts h1 r1=>
  cases r' with
  | @tup a' ys us h2 r2=>
   by_cases hb:ts.length+us.length<=bnd
   ·have eg:zf (.tup ts) (.tup us)= .ok _:=if_pos hb;have hz:xs.length+ys.length<=sizeLine:=by rw[r1.length,r2.length];exact zV hb
    by_cases hx:xs=[]
    ·obtain rfl:v=Value.ref a:=rx;obtain rfl:u=Value.ref a' :=ry;obtain⟨its,rv,p,_⟩:=I.tuple (SqT.of (sB _ _ h1));obtain⟨its',rv',p',_⟩:=I.tuple (SqT.of (sB _ _ h2));have et:=r1.nil_iff.mp hx;refine Yc p p' (rv.nil_iff.mpr hx) ⟨.ref a',H,I,rfl,po0 sB q eg ?_⟩;rw[et];exact .tup h2 r2
    ·refine Qf _ s σ H _ _ v u Q I rx ry ⟨a,a',xs,ys,rfl,rfl,SqT.of (sB _ _ h1),SqT.of (sB _ _ h2),hx,hz,λhy=> ?_,λhy p hp=> ?_⟩
     ·refine po0 sB q eg ?_;rw[r2.nil_iff.mp hy,aT];exact .tup h1 r1
     ·exact Vt sB q eg (r1.append r2) hp
   ·rw[show zf (.tup ts) (.tup us)= .bad from if_neg hb]at q;exact q.elim
  | _=>exact q.elim
 | @lst a xs ts h1 r1=>
  cases r' with
  | @lst a' ys us h2 r2=>
   by_cases hb:ts.length+us.length<=bnd
   ·have eg:zf (.lst ts) (.lst us)= .ok _:=if_pos hb;have hz:xs.length+ys.length<=sizeLine:=by rw[r1.length,r2.length];exact zV hb
    exact Vn _ s σ H _ _ v u Q I rx ry ⟨a,a',xs,ys,rfl,rfl,sB _ _ h1,sB _ _ h2,hz,λp hp=>ke sB q eg (r1.append r2) hp⟩
   ·rw[show zf (.lst ts) (.lst us)= .bad from if_neg hb]at q;exact q.elim
  | _=>exact q.elim
 | _=>cases r' <;> exact q.elim
theorem kf (ha:Snd X Y a fa)(hb:Snd X Y b fb):Snd X Y (.BinOp a .Add b pos) (z9 zf fa fb):=Uy Uz ha hb
noncomputable def JB:T->T->R T
 | .int i,.int j=> .ok (.int (i - j))
 | _,_=> .bad
noncomputable def J8:T->T->R T
 | .int i,.int j=>if 0 < j then .ok (.int (i % j)) else .bad
 | _,_=> .bad
noncomputable def J9:T->T->R T
 | .int i,.int j=>if 0 < j/\j < 1073741824 then .ok (.int (i / j)) else .bad
 | _,_=> .bad
instance (i j:Int):Decidable (Wy i j):=by unfold Wy;infer_instance
def ZT:T->T->R T
 | .int i,.int j=>if Wy i j then .ok (.int (i*j)) else .bad
 | .lst xs,.int k=>if 0<=k/\k < 1000000/\xs.length*k.toNat<=bnd then .ok (.lst (av k.toNat xs).flatten) else .bad
 | .tup xs,.int k=>if 2<=k/\k < 1000000/\xs ≠ []/\xs.length*k.toNat<=bnd then .ok (.tup (av k.toNat xs).flatten) else .bad
 | _,_=> .bad
theorem Qp:OpR X (binaryOp .Sub) (rG Y JB):=by
 intro pins s σ H x y v u Q I rx ry h;obtain⟨B,t,t',sB,r,r',q⟩:=h;cases r with
 | int i=>
  cases r' with
  | int j=>exact V9 _ s σ H _ _ v u Q I rx ry ⟨i,j,rfl,rfl,po0 sB q rfl (.int _)⟩
  | _=>exact q.elim
 | _=>cases r' <;> exact q.elim
theorem Qq:OpR X (binaryOp .Mod) (rG Y J8):=by
 intro pins s σ H x y v u Q I rx ry h;obtain⟨B,t,t',sB,r,r',q⟩:=h;cases r with
 | int i=>
  cases r' with
  | int j=>
   by_cases hj:0 < j
   ·exact Vb _ s σ H _ _ v u Q I rx ry ⟨i,j,rfl,rfl,hj,po0 sB q (if_pos hj) (.int _)⟩
   ·rw[show J8 (.int i) (.int j)= .bad from if_neg hj]at q;exact q.elim
  | _=>exact q.elim
 | _=>cases r' <;> exact q.elim
theorem Yd:OpR X (binaryOp .FloorDiv) (rG Y J9):=by
 intro pins s σ H x y v u Q I rx ry h;obtain⟨B,t,t',sB,r,r',q⟩:=h;cases r with
 | int i=>
  cases r' with
  | int j=>
   by_cases hj:0 < j/\j < 1073741824
   ·exact Q6 _ s σ H _ _ v u Q I rx ry ⟨i,j,rfl,rfl,hj,po0 sB q (if_pos hj) (.int _)⟩
   ·rw[show J9 (.int i) (.int j)= .bad from if_neg hj]at q;exact q.elim
  | _=>exact q.elim
 | _=>cases r' <;> exact q.elim
theorem uF (l:Addr)(items:Array Value)(n:Nat)(dd:Option Addr)(sl:Array (Option Value))(x:Int)(u:Tok)(h1:2<=x)(h2:x < 1000000)(hne:items.isEmpty=false)(hsz:items.size*x.toNat<=sizeLine):
  Meets (Builtin.«tuple.__mul__» ⟨[.ref l,.int x u],[]⟩) (λ_ R s=>s.heap.get? l=some { cls:= .type "tuple",dict:=dd,data:= .seq items n,slots:=sl }/\
   R (.ok (.ret (Value.ref s.heap.objs.size))) { s with heap:=s.heap.push { cls:=Value.type "tuple",data:=Data.seq (dg (λx1 x2=>x1++x2) #[] (av x.toNat items)) },toks:=s.toks }):=
 .of_wp λprog w A R s h=>by
  obtain⟨hl,h⟩:=h;have e0:(items.size:Int)*x=((items.size*x.toNat:Nat):Int):=by
   have:x=((x.toNat:Nat):Int):=by omega
   rw[Int.natCast_mul,← this]
  have sl1:(sizeLine:Nat)=16777216:=c8;have c1:¬ (decide (x < -(2 ^ 63)) || decide (x ≥ 2 ^ 63))=true:=by simp;omega
  have c2:¬ (items.isEmpty || x == 1)=true:=by simp[hne];omega
  have c3:¬ (decide (x<=0) || items.isEmpty)=true:=by simp[hne];omega
  have c4:¬ ((items.size:Int)*x > (2 ^ 63 - 1) / 8):=by rw[e0];omega
  have c5:¬ dh ((items.size:Int)*x)=true:=by
   unfold dh;rw[e0];intro z;have:=of_decide_eq_true z;omega
  unfold Builtin.«tuple.__mul__»
  wp_walk using wpAny_loadPart' hl
  rw[if_neg c1]
  wp_walk using wpAny_loadPart' hl
  rw[if_neg c2]
  try dsimp only
  rw[if_neg c3]
  try dsimp only
  rw[if_neg c4]
  try dsimp only
  rw[if_neg c5]
  try dsimp only
  have hsz' :sizeOk (.seq (dg (λx1 x2=>x1++x2) #[] (av x.toNat items))):=by
   show (dg (λx1 x2=>x1++x2) #[] _).size<=sizeLine;have:=jg items.toList x.toNat [];have q:=by
    simpa using this
   rw[q,aD,JZ,dF];exact hsz
  exact a8 (bW (aw ⟨_,rfl,h⟩) hsz')
theorem W1:seqRepeat? (.type "tuple")=pure (some (.builtin "tuple.__mul__")):=by
 unfold seqRepeat?;rw[fx (name:="__mul__") dy.lookup (by decide+kernel),fx (name:="__rmul__") eZ.lookup (by decide+kernel)]
 rfl
theorem jO:fillsNumberSlot (.type "tuple") "mul"=pure false:=
 PySem.fillsNumberSlot_seq dy.lookup (by decide+kernel) eZ.lookup (by decide+kernel)
theorem JE (a:Int)(t:Tok)(l:Addr)(items:Array Value)(n:Nat)(dd:Option Addr)(sl:Array (Option Value)):
  Meets (Builtin.«int.__rmul__» ⟨[.int a t,.ref l],[]⟩) (λ_ R s=>s.heap.get? l=some { cls:= .type "tuple",dict:=dd,data:= .seq items n,slots:=sl }/\R (.ok (.ret Value.notImplemented)) s):=
 .of_wp λprog w A R s h=>by obtain⟨hl,h⟩:=h;wp_walk;exact⟨_,rfl,h⟩
theorem Qr {prog:Program}{w:World}{A:Around}{E:Value->Shared->Prop}{s:Shared}{l:Addr}{its:List Value}{k:Int}{t:Tok}{Q:Value->Shared->Prop}(p:IsTup s.heap l its.toArray)(hne:its ≠ [])(h1:2<=k)(h2:k < 1000000)
  (hsz:its.length*k.toNat<=sizeLine) (q:Q (.ref s.heap.objs.size) { s with heap:=s.heap.push { cls:= .type "tuple",data:= .seq (av k.toNat its).flatten.toArray } }):
  wpAny (model prog w) A (binaryOp .Mult (.ref l) (.int k t)) Q E s:=by
 obtain⟨⟨cls,dd,data,sl⟩,ho,hc,n,hd⟩:=id p;subst hc hd;refine wpAny_binaryOp_repeat_ref (by decide) ⟨_,ho,rfl⟩ (λs' =>typeIs_int s' k t) jO fI d8 W1 fu.lookup
  (bO d8 (typeIs_int s k t) fv (eX _ _) (JE k t l _ n dd sl)
   ⟨ho,rfl,⟨_,ho,rfl⟩,bO dy ⟨_,ho,rfl⟩ F.entry_tuple_mul (F.args_tuple_mul_2 _ _) (uF l _ n dd sl k t h1 h2 (by simpa using hne) (by simpa using hsz)) ⟨ho, ?_⟩⟩)
 have:=jg its k.toNat [];rw[this];exact q
theorem Qs:OpR X (binaryOp .Mult) (rG Y ZT):=by
 intro pins s σ H x y v u Q I rx ry h;obtain⟨B,t,t',sB,r,r',q⟩:=h;cases r with
 | int i=>
  cases r' with
  | int j=>
   by_cases hj:Wy i j
   ·exact Va _ s σ H _ _ v u Q I rx ry ⟨i,j,rfl,rfl,hj,po0 sB q (if_pos hj) (.int _)⟩
   ·rw[show ZT (.int i) (.int j)= .bad from if_neg hj]at q;exact q.elim
  | _=>exact q.elim
 | @lst l xs ts h1 r1=>
  cases r' with
  | int k=>
   by_cases hk:0<=k/\k < 1000000/\ts.length*k.toNat<=bnd
   ·have eg:ZT (.lst ts) (.int k)= .ok _:=if_pos hk;exact Vo _ s σ H _ _ v u Q I rx ry ⟨l,k,xs,rfl,rfl,sB _ _ h1,by omega,by omega,by rw[r1.length];exact zV hk.2.2,λp hp=>ke sB q eg (r1.rep _) hp⟩
   ·rw[show ZT (.lst ts) (.int k)= .bad from if_neg hk]at q;exact q.elim
  | _=>exact q.elim
 | @tup l xs ts h1 r1=>
  cases r' with
  | int k=>
   by_cases hk:2<=k/\k < 1000000/\ts ≠ []/\ts.length*k.toNat<=bnd
   ·have eg:ZT (.tup ts) (.int k)= .ok _:=if_pos hk;obtain rfl:v=Value.ref l:=rx;obtain⟨tk,rfl⟩:=ry;obtain⟨its,rv,p,_⟩:=I.tuple (SqT.of (sB _ _ h1));have ln:=r1.length.symm.trans rv.length;have hne:its ≠ []:=λz=>hk.2.2.1 (by rw[z]at ln;exact bh.mp ln)
    refine Qr p hne hk.1 hk.2.1 (by rw[← ln];exact zV hk.2.2.2) ⟨.ref _,upd H _ (.tup (av k.toNat xs).flatten),I.laid (λb u e=>a7 _ e) (aj _) ?_,rfl, ?_⟩
    ·exact⟨by rw[JZ,r1.length,dF];exact zV hk.2.2.2,(av _ its).flatten,rv.rep _,⟨_,am _ rfl,rfl,_,rfl⟩,.inr ⟨_,am _ rfl,rfl⟩⟩
    ·exact Vt sB q eg (r1.rep _) (I.hok.fresh (aj _))
   ·rw[show ZT (.tup ts) (.int k)= .bad from if_neg hk]at q;exact q.elim
  | _=>exact q.elim
 | _=>cases r' <;> exact q.elim
theorem kg (ha:Snd X Y a fa)(hb:Snd X Y b fb):Snd X Y (.BinOp a .Sub b pos) (z9 JB fa fb):=Uy Qp ha hb
theorem kh (ha:Snd X Y a fa)(hb:Snd X Y b fb):Snd X Y (.BinOp a .Mod b pos) (z9 J8 fa fb):=Uy Qq ha hb
theorem Vu (ha:Snd X Y a fa)(hb:Snd X Y b fb):Snd X Y (.BinOp a .FloorDiv b pos) (z9 J9 fa fb):=Uy Yd ha hb
theorem ki (ha:Snd X Y a fa)(hb:Snd X Y b fb):Snd X Y (.BinOp a .Mult b pos) (z9 ZT fa fb):=Uy Qs ha hb
def WD (fa:En->R T):En->R T:=λρ=>(fa ρ).bind λx=>match x with
 | .int i=> .ok (.int (-i))
 | _=> .bad
theorem kl (ha:Snd X Y a fa):Snd X Y (.UnaryOp .USub a pos) (WD fa):= .mk λρ=>PE.imp (XO Vc (ha ρ)) λσ H Q ⟨B,I,q⟩=>step I q λt v H1 _ s1 r1 I1 q1=>by
 cases r1 with
 | int i=>exact⟨i,rfl,po0 I1.sB q1 rfl (.int _)⟩
 | _=>exact q1.elim
def wa (g:T->T->R Bool):R2:=λx y H Q=>∃t t' b,Rep H x t/\Rep H y t' /\g t t' = .ok b/\Q (.bl b) H
def yT (g:T->T->R Bool)(fa fb:En->R T):En->R T:=λρ=>(fa ρ).bind λx=>(fb ρ).bind λy=>(g x y).bind λb=> .ok (.bl b)
def zY (g:T->T->R Bool)(fa fb:En->R T):En->R Bool:=λρ=>(fa ρ).bind λx=>(fb ρ).bind λy=>g x y
noncomputable def Nx (g:T->T->R Bool):Prop:=∀t t' c,g t t' ≠ .ex c
theorem km {op:CmpOp}{g:T->T->R Bool}(nx:Nx g)(ho:OpR X (compareOp op) (wa g))(ha:ZR X Y a fa)(hb:ZR X Y b fb)(hm:behindInMarks op b=false):Snd X Y (.Compare a [op] [b] pos) (yT g fa fb):= .mk λρ=>
 PE.imp (Q7 ho (ha ρ) (hb ρ) hm) λσ H Q ⟨B,I,q⟩=>step I q λt v H1 _ s1 r1 I1 q1=>step I1 q1 λt' v' H2 _ s2 r2 I2 q2=>by
  cases e:g t t' with
  | bad=>rw[e]at q2;exact q2.elim
  | ex c=>exact absurd e (nx _ _ _)
  | ok b=>rw[e]at q2;exact⟨t,t',b,r1.mono s2,r2,e,Zi I2 q2 (.bl b)⟩
theorem uG {op:CmpOp}{g:T->T->R Bool}(nx:Nx g)(ho:OpR X (compareOp op) (wa g))(ha:ZR X Y a fa)(hb:ZR X Y b fb)(hm:behindInMarks op b=false):JL X Y (.Compare a [op] [b] pos) (zY g fa fb):= .mk λρ=>
 PT.imp (Q9 ho (ha ρ) (hb ρ) hm) λσ H Q ⟨B,I,q⟩=>step I q λt v H1 _ s1 r1 I1 q1=>step I1 q1 λt' v' H2 _ s2 r2 I2 q2=>by
  cases e:g t t' with
  | bad=>rw[e]at q2;exact q2.elim
  | ex c=>exact absurd e (nx _ _ _)
  | ok b=>rw[e]at q2;exact⟨t,t',b,r1.mono s2,r2,e,b,rfl,Zi I2 q2 rfl⟩
def eqC (t t' :T):R Bool:=match eqF 30 t t' with
 | some b=> .ok b
 | none=> .bad
def neC (t t' :T):R Bool:=match eqF 30 t t' with
 | some b=> .ok (!b)
 | none=> .bad
theorem Qt:Nx eqC:=λt t' c h=>by unfold eqC at h;split at h <;> cases h
theorem Vv:Nx neC:=λt t' c h=>by unfold neC at h;split at h <;> cases h
theorem UA (hu:X.A.units+64 < cLine):OpR X (compareOp .Eq) (wa eqC):=by
 intro pins s σ H x y v u Q I rx ry h;obtain⟨t,t',b,r,r',e,q⟩:=h;unfold eqC at e;split at e
 ·rename_i k ek;have e' :=by injection e
  subst e';exact(Ux I 30 X.A (by omega) t t' k x y v u ek r r' rx ry).2.1 _ _ _ _ ⟨.bl k,H,I,rfl,q⟩
 ·cases e
theorem qo (hu:X.A.units+64 < cLine):OpR X (compareOp .NotEq) (wa neC):=by
 intro pins s σ H x y v u Q I rx ry h;obtain⟨t,t',b,r,r',e,q⟩:=h;unfold neC at e;split at e
 ·rename_i k ek;cases e;exact(Ux I 30 X.A (by omega) t t' k x y v u ek r r' rx ry).2.2 _ _ _ _ ⟨.bl _,H,I,rfl,q⟩
 ·cases e
noncomputable def ltC:T->T->R Bool
 | .int i,.int j=> .ok (decide (i < j))
 | _,_=> .bad
noncomputable def leC:T->T->R Bool
 | .int i,.int j=> .ok (decide (i<=j))
 | .str x,.str y=> .ok (!decide (y.cps.toList < x.cps.toList))
 | _,_=> .bad
noncomputable def gtC:T->T->R Bool
 | .int i,.int j=> .ok (decide (j < i))
 | _,_=> .bad
theorem kn:Nx ltC:=λt t' c h=>by unfold ltC at h;split at h <;> cases h
theorem WF:Nx leC:=λt t' c h=>by unfold leC at h;split at h <;> cases h
theorem ko:Nx gtC:=λt t' c h=>by unfold gtC at h;split at h <;> cases h
theorem Vw:OpR X (compareOp .Lt) (wa ltC):=by
 intro pins s σ H x y v u Q I rx ry h;obtain⟨t,t',b,r,r',e,q⟩:=h;unfold ltC at e;split at e
 ·rename_i i j;cases e;cases r;cases r';exact XR _ s σ H _ _ v u Q I rx ry ⟨i,j,rfl,rfl,q⟩
 ·cases e
theorem Vx:OpR X (compareOp .Gt) (wa gtC):=by
 intro pins s σ H x y v u Q I rx ry h;obtain⟨t,t',b,r,r',e,q⟩:=h;unfold gtC at e;split at e
 ·rename_i i j;cases e;cases r;cases r';exact XT _ s σ H _ _ v u Q I rx ry ⟨i,j,rfl,rfl,q⟩
 ·cases e
theorem Ja:OpR X (compareOp .LtE) (wa leC):=by
 intro pins s σ H x y v u Q I rx ry h;obtain⟨t,t',b,r,r',e,q⟩:=h;unfold leC at e;split at e
 ·rename_i i j;cases e;cases r;cases r';exact XS _ s σ H _ _ v u Q I rx ry ⟨i,j,rfl,rfl,q⟩
 ·cases e;cases r;cases r';obtain⟨t1,rfl⟩:=rx;obtain⟨t2,rfl⟩:=ry;exact PySem.P.le_str ⟨.bl _,H,I,rfl,q⟩
 ·cases e
end
section
variable {X:Cx}{Y:Fx}{a b c d:Expr}{fa fb fc fd:En->R T}{pos:Pos}
noncomputable def Ye (f:T->Option Bool):List T->Option Bool
 | []=>some false
 | t :: r=>match f t with
  | none=>none
  | some b=>match Ye f r with
   | none=>none
   | some c=>some (b || c)
def inC (t t' :T):R Bool:=match t' with
 | .tup ys=>match Ye (λy=>eqF 30 y t) ys with | some b=> .ok b | none=> .bad
 | .lst ys=>match Ye (λy=>eqF 30 y t) ys with | some b=> .ok b | none=> .bad
 | _=> .bad
def Yg (t t' :T):R Bool:=(inC t t').bind λb=> .ok (!b)
theorem Vy:Nx inC:=λt t' c h=>by
 unfold inC at h;split at h
 ·split at h <;> cases h
 ·split at h <;> cases h
 ·cases h
theorem Vz:Nx Yg:=λt t' c h=>by
 unfold Yg at h;cases e:inC t t' with
 | bad=>rw[e]at h;cases h
 | ex k=>exact absurd e (Vy _ _ _)
 | ok k=>rw[e]at h;cases h
open Classical in
theorem WG {H:Hp}(f:T->Option Bool):∃e:Value->Bool,∀(v:V) (t:T) (u:Value) (b:Bool),zT v u->Rep H v t->f t=some b->e u=b:=by
 refine⟨λu=>decide (∃v t,zT v u/\Rep H v t/\f t=some true),λv t u b rv r e=> ?_⟩;cases b with
 | true=>exact decide_eq_true ⟨v,t,rv,r,e⟩
 | false=>
  refine decide_eq_false ?_
  rintro⟨v',t',rv',r',e'⟩
  have:=rv.inj rv';subst this;have:=r.fn r';subst this;rw[e]at e';cases e'
theorem UB {H:Hp}{f:T->Option Bool}{e:Value->Bool}(he:∀(v:V) (t:T) (u:Value) (b:Bool),zT v u->Rep H v t->f t=some b->e u=b):∀{xs:List V} {ts:List T} {its:List Value} {b:Bool},
  zM xs its->zC H xs ts->Ye f ts=some b->its.any e=b/\∀u∈its,∃v t k,zT v u/\Rep H v t/\f t=some k
 | _,_,_,b,.nil,.nil,h=>by
  have h' :=h;cases h';exact⟨rfl,λu hu=>by simp at hu⟩
 | _,_,_,b,.cons rv vs,.cons r rs,h=>by
  rename_i v u vals us t ts;unfold Ye at h;cases q:f t with
  | none=>rw[q]at h;cases h
  | some k=>
   rw[q]at h;cases q' :Ye f ts with
   | none=>rw[q']at h;cases h
   | some k' =>
    rw[q']at h;cases h;obtain⟨h1,h2⟩:=UB he vs rs q';refine⟨by rw[List.any_cons,h1,he v t u k rv r q],λw hw=> ?_⟩
    rcases ak.mp hw with rfl | hw
    ·exact⟨v,t,k,rv,r,q⟩
    ·exact h2 w hw
theorem Qu (hu:X.A.units+64 < cLine)(neg:Bool):OpR X (compareOp (if neg then .NotIn else .In)) (wa (if neg then Yg else inC)):=by
 intro pins s σ H x y v u Q I rx ry h;obtain⟨t,t',b,r,r',e,q⟩:=h;have hs:∃k,inC t t' = .ok k/\b=(if neg then !k else k):=by
  cases neg with
  | false=>exact⟨b,e,rfl⟩
  | true=>
   have e' :Yg t t' = .ok b:=e;unfold Yg at e';cases z:inC t t' with
   | bad=>rw[z]at e';cases e'
   | ex k=>exact absurd z (Vy _ _ _)
   | ok k=>rw[z]at e';cases e';exact⟨k,rfl,rfl⟩
 obtain⟨k,ek,rfl⟩:=hs;unfold inC at ek;obtain⟨f,hf⟩:=WG λy=>eqF 30 y t;have eqa:∀w,(∃v t' k,zT v w/\Rep H v t' /\eqF 30 t' t=some k)->c9 X.A.in1 s w v (f w):=λw ⟨v',t',k,rv,rr,ee⟩=>by
  rw[hf v' t' w k rv rr ee];exact(Ux I 30 _ (by rw[jh];omega) t' t k v' x w v ee rr r rv rx).1
 split at ek
 ·split at ek
  ·rename_i k' hk;cases ek;cases r' with
   | @tup l xs _ h1 r1=>
    obtain rfl:u=Value.ref l:=ry;obtain⟨its,rv,p,_⟩:=Zo I h1 r1;obtain⟨h2,h3⟩:=UB hf rv r1 hk;have h4:its.toArray.any f=k:=by simpa using h2
    cases neg with
    | false=>exact SeqAt.in_tupleAt f p (λw hw=>eqa w (h3 w (by simpa using hw))) (by rw[h4];exact⟨.bl k,H,I,rfl,q⟩)
    | true=>exact SeqAt.notIn_tupleAt f p (λw hw=>eqa w (h3 w (by simpa using hw))) (by rw[h4];exact⟨.bl _,H,I,rfl,q⟩)
  ·cases ek
 ·split at ek
  ·rename_i k' hk;cases ek;cases r' with
   | @lst l xs _ h1 r1=>
    obtain rfl:u=Value.ref l:=ry;obtain⟨its,rv,p,_⟩:=zI I (.inl h1) r1;obtain⟨h2,h3⟩:=UB hf rv r1 hk;have h4:its.toArray.any f=k:=by simpa using h2
    cases neg with
    | false=>exact SeqAt.in_listAt f p (λw hw=>eqa w (h3 w (by simpa using hw))) (by rw[h4];exact⟨.bl k,H,I,rfl,q⟩)
    | true=>exact SeqAt.notIn_listAt f p (λw hw=>eqa w (h3 w (by simpa using hw))) (by rw[h4];exact⟨.bl _,H,I,rfl,q⟩)
  ·cases ek
 ·cases ek
theorem Qv (hu:X.A.units+64 < cLine):OpR X (compareOp .NotIn) (wa Yg):=Qu hu true
noncomputable def isNC (t t' :T):R Bool:=match t' with
 | .non=>match t with | .non=> .ok true | _=> .ok false
 | .bl k=>match t with | .bl j=> .ok (j == k) | _=> .ok false
 | _=> .bad
def chE (g g' :T->T->R Bool)(fa fb fc:En->R T):En->R T:=λρ=>(fa ρ).bind λx=>(fb ρ).bind λy=>(g x y).bind λk=>if k=true then (fc ρ).bind λz=>(g' y z).bind λk' => .ok (.bl k') else .ok (.bl false)
def chT (g g' :T->T->R Bool)(fa fb fc:En->R T):En->R Bool:=λρ=>(fa ρ).bind λx=>(fb ρ).bind λy=>(g x y).bind λk=>if k=true then (fc ρ).bind λz=>g' y z else .ok false
theorem Qw {op op' :CmpOp}{g g' :T->T->R Bool}(nx:Nx g)(nx' :Nx g')(ho:OpR X (compareOp op) (wa g))(ho' :OpR X (compareOp op') (wa g'))(ha:ZR X Y a fa)(hb:ZR X Y b fb)(hc:ZR X Y c fc)
  (hm:lastMarks [op,op'] [b,c]=false:=by with_unfolding_all rfl):Snd X Y (.Compare a [op,op'] [b,c] pos) (chE g g' fa fb fc):= .mk λρ=>
 PE.imp (Y5 ho ho' (ha ρ) (hb ρ) (hc ρ) hm) λσ H Q ⟨B,I,q⟩=>step I q λt v H1 _ s1 r1 I1 q1=>step I1 q1 λt' v' H2 _ s2 r2 I2 q2=>by
  cases e:g t t' with
  | bad=>rw[e]at q2;exact q2.elim
  | ex c=>exact absurd e (nx _ _ _)
  | ok k=>
   rw[e]at q2;refine⟨t,t',k,r1.mono s2,r2,e,k,rfl, ?_⟩;cases k with
   | false=>exact Zi I2 q2 (.bl _)
   | true=>
    refine step I2 q2 λt3 v3 H3 _ s3 r3 I3 q3=> ?_
    ·cases e:g' t' t3 with
     | bad=>rw[e]at q3;exact q3.elim
     | ex c=>exact absurd e (nx' _ _ _)
     | ok k=>rw[e]at q3;exact⟨t',t3,k,r2.mono s3,r3,e,Zi I3 q3 (.bl k)⟩
theorem Qx {op op' :CmpOp}{g g' :T->T->R Bool}(nx:Nx g)(nx' :Nx g')(ho:OpR X (compareOp op) (wa g))(ho' :OpR X (compareOp op') (wa g'))(ha:ZR X Y a fa)(hb:ZR X Y b fb)(hc:ZR X Y c fc)
  (hm:lastMarks [op,op'] [b,c]=false:=by with_unfolding_all rfl):JL X Y (.Compare a [op,op'] [b,c] pos) (chT g g' fa fb fc):= .mk λρ=>
 PT.imp (Y6 ho ho' (ha ρ) (hb ρ) (hc ρ) hm) λσ H Q ⟨B,I,q⟩=>step I q λt v H1 _ s1 r1 I1 q1=>step I1 q1 λt' v' H2 _ s2 r2 I2 q2=>by
  cases e:g t t' with
  | bad=>rw[e]at q2;exact q2.elim
  | ex c=>exact absurd e (nx _ _ _)
  | ok k=>
   rw[e]at q2;refine⟨t,t',k,r1.mono s2,r2,e,k,rfl, ?_⟩;cases k with
   | false=>exact⟨false,rfl,Zi I2 q2 rfl⟩
   | true=>
    refine step I2 q2 λt3 v3 H3 _ s3 r3 I3 q3=> ?_
    ·cases e:g' t' t3 with
     | bad=>rw[e]at q3;exact q3.elim
     | ex c=>exact absurd e (nx' _ _ _)
     | ok k=>rw[e]at q3;exact⟨t',t3,k,r2.mono s3,r3,e,k,rfl,Zi I3 q3 rfl⟩
def Qy (r r' r'' :R2)(ta tb tc td:TE):TE:=λσ H Q=>ta σ H λx H1=>tb σ H1 λy H2=>r x y H2 λz H3=>∃k,z= .bl k/\
 (if k=true then tc σ H3 λw' H4=>r' y w' H4 λz' H5=>∃k',z' = .bl k' /\(if k' =true then td σ H5 λw2 H6=>r'' w' w2 H6 Q else Q (.bl false) H5) else Q (.bl false) H3)
theorem UC {op op' op'' :CmpOp}{r r' r'' :R2}{ta tb tc td:TE}(ho:OpR X (compareOp op) r)(ho' :OpR X (compareOp op') r')(ho'' :OpR X (compareOp op'') r'')(ha:PE X a ta)(hb:PE X b tb)(hc:PE X c tc)(hd:PE X d td)
  (hm:lastMarks [op,op',op''] [b,c,d]=false:=by with_unfolding_all rfl):PE X (.Compare a [op,op',op''] [b,c,d] pos) (Qy r r' r'' ta tb tc td):=by
 intro pins s σ H Q I h;refine Compare_chain (thn (ha _ s σ H _ I h) λv s1 ⟨x,H1,I1,r1,q1⟩=>chain_link (thn (hb _ s1 σ H1 _ I1 q1) λu s2 ⟨y,H2,I2,r2,q2⟩=>
  thn (ho _ s2 σ H2 x y v u _ I2 r1 r2 q2) λd' s3 ⟨z,H3,I3,r3,k,e,q3⟩=> ?_)) hm
 subst e;cases r3;refine ba ?_;cases k with
 | false=>exact ite_ff ⟨.bl _,H3,I3,rfl,q3⟩
 | true=>
  refine ite_tt (chain_link (thn (hc _ s3 σ H3 _ I3 q3) λw' s4 ⟨z',H4,I4,r4,q4⟩=>thn (ho' _ s4 σ H4 y z' u w' _ I4 r2 r4 q4) λd2 s5 ⟨z5,H5,I5,r5,k5,e5,q5⟩=> ?_));subst e5;cases r5;refine ba ?_;cases k5 with
  | false=>exact ite_ff ⟨.bl _,H5,I5,rfl,q5⟩
  | true=>exact ite_tt (chain_last (thn (hd _ s5 σ H5 _ I5 q5) λw6 s6 ⟨z6,H6,I6,r6,q6⟩=>ho'' _ s6 σ H6 z' z6 w' w6 Q I6 r4 r6 q6))
def gu (g g' g'' :T->T->R Bool)(fa fb fc fd:En->R T):En->R T:=λρ=>(fa ρ).bind λx=>(fb ρ).bind λy=>(g x y).bind λk=>if k=true then (fc ρ).bind λz=>(g' y z).bind λk' =>
 if k' =true then (fd ρ).bind λw=>(g'' z w).bind λk'' => .ok (.bl k'') else .ok (.bl false) else .ok (.bl false)
theorem Yh {op op' op'' :CmpOp}{g g' g'' :T->T->R Bool}(nx:Nx g)(nx' :Nx g')(nx'' :Nx g'')(ho:OpR X (compareOp op) (wa g))(ho' :OpR X (compareOp op') (wa g'))(ho'' :OpR X (compareOp op'') (wa g''))
  (ha:ZR X Y a fa) (hb:ZR X Y b fb) (hc:ZR X Y c fc) (hd:ZR X Y d fd)
  (hm:lastMarks [op,op',op''] [b,c,d]=false:=by with_unfolding_all rfl):Snd X Y (.Compare a [op,op',op''] [b,c,d] pos) (gu g g' g'' fa fb fc fd):= .mk λρ=>
 PE.imp (UC ho ho' ho'' (ha ρ) (hb ρ) (hc ρ) (hd ρ) hm) λσ H Q ⟨B,I,q⟩=>step I q λt v H1 _ s1 r1 I1 q1=>step I1 q1 λt' v' H2 _ s2 r2 I2 q2=>by
  cases e:g t t' with
  | bad=>rw[e]at q2;exact q2.elim
  | ex c=>exact absurd e (nx _ _ _)
  | ok k=>
   rw[e]at q2;refine⟨t,t',k,r1.mono s2,r2,e,k,rfl, ?_⟩;cases k with
   | false=>exact Zi I2 q2 (.bl _)
   | true=>
    refine step I2 q2 λt3 v3 H3 _ s3 r3 I3 q3=> ?_
    ·cases e:g' t' t3 with
     | bad=>rw[e]at q3;exact q3.elim
     | ex c=>exact absurd e (nx' _ _ _)
     | ok k=>
      rw[e]at q3;refine⟨t',t3,k,r2.mono s3,r3,e,k,rfl, ?_⟩;cases k with
      | false=>exact Zi I3 q3 (.bl _)
      | true=>
       refine step I3 q3 λt4 v4 H4 _ s4 r4 I4 q4=> ?_
       ·cases e:g'' t3 t4 with
        | bad=>rw[e]at q4;exact q4.elim
        | ex c=>exact absurd e (nx'' _ _ _)
        | ok k=>rw[e]at q4;exact⟨t3,t4,k,r3.mono s4,r4,e,Zi I4 q4 (.bl k)⟩
variable {rest:List Expr}{ga gb:En->R Bool}
def WH (fa fb:En->R T):En->R T:=λρ=>(fa ρ).bind λx=>match x with
 | .bl true=>fb ρ
 | .bl false=> .ok (.bl false)
 | _=> .bad
def gw (fa:En->R T):En->R T:=λρ=>(fa ρ).bind λx=>match x with
 | .bl k=> .ok (.bl (!k))
 | _=> .bad
theorem kq {op}(h:Snd X Y a fa):Snd X Y (.BoolOp op [a] pos) fa:= .mk λρ=>V4 (h ρ)
theorem ku (ha:Snd X Y a fa)(hb:Snd X Y (.BoolOp .And (b :: rest) pos) fb):Snd X Y (.BoolOp .And (a :: b :: rest) pos) (WH fa fb):= .mk λρ=>
 PE.imp (V5 (ha ρ) (hb ρ)) λσ H Q ⟨B,I,q⟩=>step I q λt v H1 _ s1 r1 I1 q1=>by
  cases r1 with
  | bl k=>
   refine⟨k,rfl, ?_⟩;cases k with
   | true=>exact⟨_,I1,q1⟩
   | false=>exact Zi I1 q1 (.bl _)
  | _=>exact q1.elim
theorem kv (ha:Snd X Y a fa):Snd X Y (.UnaryOp .Not a pos) (gw fa):= .mk λρ=>
 PE.imp (V6 (ha ρ)) λσ H Q ⟨B,I,q⟩=>step I q λt v H1 _ s1 r1 I1 q1=>by
  cases r1 with
  | bl k=>exact⟨k,rfl,Zi I1 q1 (.bl _)⟩
  | _=>exact q1.elim
structure U4 (X:Cx) (Y:Fx) (e:Expr) (f:En->R Bool):Prop where
 mk ::
 go:∀ρ,PW X e (tS Y rE f ρ)
instance {X:Cx}{Y:Fx}{e:Expr}{f:En->R Bool}:CoeFun (U4 X Y e f) λ_=>∀ρ,PW X e (tS Y rE f ρ):=⟨U4.go⟩
theorem U4.t {e:Expr}{f:En->R Bool}(h:U4 X Y e f):JL X Y e f:= .mk λρ=>(h ρ).pt
theorem PW.imp {e:Expr}{t t' :TT}(h:PW X e t)(i:∀σ H Q,t' σ H Q->t σ H Q):PW X e t' :=λwh pins s σ H Q I q=>h wh _ s σ H Q I (i σ H Q q)
def Qz (fa fb:En->R Bool):En->R Bool:=λρ=>(fa ρ).bind λx=>if x=true then fb ρ else .ok false
def orT (fa fb:En->R Bool):En->R Bool:=λρ=>(fa ρ).bind λx=>if x=true then .ok true else fb ρ
def wb (fa:En->R Bool):En->R Bool:=λρ=>(fa ρ).bind λx=> .ok (!x)
theorem VA (h:JL X Y a ga):U4 X Y (.BoolOp .And [a] pos) ga:= .mk λρ=>Q4 (h ρ)
theorem kx (h:JL X Y a ga):U4 X Y (.BoolOp .Or [a] pos) ga:= .mk λρ=>V1 (h ρ)
theorem ky (ha:JL X Y a ga)(hb:U4 X Y (.BoolOp .And (b :: rest) pos) gb):U4 X Y (.BoolOp .And (a :: b :: rest) pos) (Qz ga gb):= .mk λρ=>
 PW.imp (V2 (ha ρ) (hb ρ)) λσ H Q ⟨B,I,q⟩=>step I q λt v H1 _ s1 r1 I1 q1=>by
  have r1' :=r1;subst r1';cases v with
  | true=>exact⟨_,I1,q1⟩
  | false=>exact Zi I1 q1 rfl
theorem G6 (ha:JL X Y a ga)(hb:U4 X Y (.BoolOp .Or (b :: rest) pos) gb):U4 X Y (.BoolOp .Or (a :: b :: rest) pos) (orT ga gb):= .mk λρ=>
 PW.imp (Xz (ha ρ) (hb ρ)) λσ H Q ⟨B,I,q⟩=>step I q λt v H1 _ s1 r1 I1 q1=>by
  have r1' :=r1;subst r1';cases v with
  | false=>exact⟨_,I1,q1⟩
  | true=>exact Zi I1 q1 rfl
theorem kz (ha:JL X Y a ga):JL X Y (.UnaryOp .Not a pos) (wb ga):= .mk λρ=>
 PT.imp (V3 (ha ρ)) λσ H Q ⟨B,I,q⟩=>step I q λt v H1 _ s1 r1 I1 q1=>by
  have r1' :=r1;subst r1';exact Zi I1 q1 rfl
noncomputable def tru:T->R Bool
 | .bl k=> .ok k
 | .non=> .ok false
 | .int i=> .ok (i != 0)
 | .tup xs=> .ok (!xs.isEmpty)
 | .lst xs=> .ok (!xs.isEmpty)
 | _=> .bad
def jP (fa:En->R T):En->R Bool:=λρ=>(fa ρ).bind tru
theorem isE {H:Hp}{xs:List V}{ts:List T}(r:zC H xs ts):(!xs.isEmpty)= !ts.isEmpty:=by cases r <;> rfl
theorem kA (ha:ZR X Y a fa)(he:∀whole,isTrue a X.env whole=(do let v ← whole;standAt a.pos;holding [v] (truthy v)):=by intro _;rfl):JL X Y a (jP fa):= .mk λρ=>
 PT.imp (Y7 (ha ρ) he) λσ H Q ⟨B,I,q⟩=>step I q λt v H1 _ s1 r1 I1 q1=>by
  cases r1 with
  | bl k=>exact⟨k,rfl,Zi I1 q1 rfl⟩
  | non=>exact⟨false,rfl,Zi I1 q1 rfl⟩
  | int i=>exact⟨_,rfl,Zi I1 q1 rfl⟩
  | tup h r=>exact⟨_,.inr (.inl ⟨_,SqT.of h,rfl⟩),Zi I1 q1 (isE r)⟩
  | lst h r=>exact⟨_,.inl ⟨_,SqL.of h,rfl⟩,Zi I1 q1 (isE r)⟩
  | _=>exact q1.elim
def ifE (g:En->R Bool)(fa fb:En->R T):En->R T:=λρ=>(g ρ).bind λk=>if k=true then fa ρ else fb ρ
theorem G7 (hc:JL X Y c ga)(ha:Snd X Y a fa)(hb:Snd X Y b fb):Snd X Y (.IfExp c a b pos) (ifE ga fa fb):= .mk λρ=>
 PE.imp (Y1 (hc ρ) (ha ρ) (hb ρ)) λσ H Q ⟨B,I,q⟩=>step I q λt v H1 _ s1 r1 I1 q1=>by
  have r1' :=r1;subst r1';cases v with
  | true=>exact⟨_,I1,q1⟩
  | false=>exact⟨_,I1,q1⟩
end
end PV
namespace PV
open PySem PySem.Spec PyProof.Rows L2
section
variable {X:Cx}{Y:Fx}{a b c d:Expr}{fa fb fc fd:En->R T}{pos p:Pos}
def ap1 (g:T->R T)(fa:En->R T):En->R T:=λρ=>(fa ρ).bind g
noncomputable abbrev St1 (X:Cx)(a:Expr):Prop:=starEach [a] X.env=[(false,eval a X.env)]
theorem qp {id:String}{x:Str}{r:List V->Hp->VK->Prop}{g:T->R T}(hc:Zw X (.builtin id) r)(hr:∀v t B H Q,Rep H v t->zh B H->Po Y rC B H (g t) Q->r [v] H Q)
  (gl:Gl X x) (mg:X.mg x=none) (bt:bootBuiltins x=some (.builtin id)) (ha:ZR X Y a fa) (hs:St1 X a:=by exact st1 rfl) (hn:x ≠ "__name__":=by decide) (hd:(x == ("__debug__":Str))=false:=by decide):Snd X Y (.Call (.Name x p) [a] [] pos) (ap1 g fa):= .mk λρ=>
 PE.imp (ZQ hc gl mg bt (zk (ha ρ) zB hs) hn hd hs rfl) λσ H Q ⟨B,I,q⟩=>step I q λt v H1 _ s1 r1 I1 q1=>hr v t _ H1 Q r1 I1.sB q1
theorem qq {id:String}{x:Str}{r:List V->Hp->VK->Prop}{g:T->R T}(hc:Zw X (.type id) r)(hr:∀v t B H Q,Rep B v t->zh B H->Po Y rC B H (g t) Q->r [v] H Q)
  (gl:Gl X x) (mg:X.mg x=none) (bt:bootBuiltins x=some (.type id)) (ha:Snd X Y a fa) (hs:St1 X a:=by exact st1 rfl) (hn:x ≠ "__name__":=by decide) (hd:(x == ("__debug__":Str))=false:=by decide):Snd X Y (.Call (.Name x p) [a] [] pos) (ap1 g fa):= .mk λρ=>
 PE.imp (wV hc gl mg bt (zk (ha ρ) zB hs) hn hd hs rfl) λσ H Q ⟨B,I,q⟩=>step I q λt v H1 _ s1 r1 I1 q1=>hr v t _ H1 Q r1 I1.sB q1
def Zx:T->R T
 | .tup xs=> .ok (.int xs.length)
 | .lst xs=> .ok (.int xs.length)
 | .fz xs=> .ok (.int xs.length)
 | .str x=>if x.length<=bnd then .ok (.int x.length) else .bad
 | _=> .bad
theorem kB (v:V)(t:T)(B H:Hp)(Q:VK)(r:Rep H v t)(sB:zh B H)(q:Po Y rC B H (Zx t) Q):
  (∃p ys,[v]=[V.ref p]/\(SqL X.K H p ys\/SqT X.K H p ys)/\Q (V.int ys.length) H)\/(∃z,[v]=[V.str z]/\z.length<=sizeLine/\Q (V.int z.length) H):=by
 cases r with
 | tup h r=>exact .inl ⟨_,_,rfl,.inr (SqT.of h),po0 sB q rfl (by rw[r.length];exact .int _)⟩
 | lst h r=>exact .inl ⟨_,_,rfl,.inl (SqL.of h),po0 sB q rfl (by rw[r.length];exact .int _)⟩
 | fz h r=>exact .inl ⟨_,_,rfl,.inl (.inl (.inr ⟨_,h⟩)),po0 sB q rfl (by rw[r.length];exact .int _)⟩
 | str x=>
  by_cases hb:x.length<=bnd
  ·exact .inr ⟨x,rfl,zV hb,po0 sB q (if_pos hb) (.int _)⟩
  ·rw[show Zx (.str x)= .bad from if_neg hb]at q;exact q.elim
 | _=>exact q.elim
theorem kC (gl:Gl X "len")(mg:X.mg "len"=none)(ha:ZR X Y a fa)(hs:St1 X a:=by exact st1 rfl):Snd X Y (.Call (.Name "len" p) [a] [] pos) (ap1 Zx fa):=
 qp (wX.or wY) kB gl mg PySem.boot_len ha hs
noncomputable def qr:T->R T
 | .tup xs=> .ok (.tup xs)
 | .lst xs=> .ok (.tup xs)
 | _=> .bad
theorem VB (v:V)(t:T)(B H:Hp)(Q:VK)(r:Rep B v t)(sB:zh B H)(q:Po Y rC B H (qr t) Q):
  ∃p ys,[v]=[V.ref p]/\((SqL X.K H p ys/\∀l,H l=none->Q (.ref l) (upd H l (.tup ys)))\/(SqT X.K H p ys/\Q (.ref p) H)):=by
 cases r with
 | tup h r=>exact⟨_,_,rfl,.inr ⟨SqT.of (sB _ _ h),po0 sB q rfl (.tup h r)⟩⟩
 | lst h r=>exact⟨_,_,rfl,.inl ⟨SqL.of (sB _ _ h),λl hl=>Vt sB q rfl r hl⟩⟩
 | _=>exact q.elim
theorem QA (gl:Gl X "tuple")(mg:X.mg "tuple"=none)(ha:Snd X Y a fa)(hs:St1 X a:=by exact st1 rfl):Snd X Y (.Call (.Name "tuple" p) [a] [] pos) (ap1 qr fa):=
 qq je VB gl mg (PyProof.Rows.Boot.«tuple») ha hs
noncomputable def tyN:T->String
 | .non=>"NoneType"
 | .bl _=>"bool"
 | .int _=>"int"
 | .str _=>"str"
 | .tup _=>"tuple"
 | .lst _=>"list"
 | .fz _=>"list"
def isT (n:String)(t:T):Bool:=tyN t == n || (n == "int" && tyN t == "bool")
theorem kD {H:Hp}{v:V}{t:T}(K:a6)(r:Rep H v t):uC K H v (.type (tyN t)):=by
 cases r with
 | non=>exact .non
 | bl b=>exact .bl b
 | int b=>exact .int b
 | str b=>exact .str b
 | tup h _=>exact .tup h
 | lst h _=>exact .lst h
 | fz h _=>exact .frz h
theorem Yi:Zw X (.builtin "isinstance") (λxs H Q=>∃v n t,xs=[v,.ty n]/\Rep H v t/\aH X.K (.type (tyN t)) (.type n)=some (isT n t)/\Q (.bl (isT n t)) H):=by
 intro pins s σ H xs us Q I rv h;obtain⟨v,n,t,rfl,r,hk,q⟩:=h;obtain⟨u,w,rfl,ru,rw'⟩:=Y8 rv;obtain rfl:w=Value.type n:=rw';exact Um I ru (kD X.K r) hk λtk=>⟨.bl _,H,I.tok tk,rfl,q⟩
def qs (n:String)(t:T):R T:= .ok (.bl (isT n t))
theorem QB (K:a6)(t:T):aH K (.type (tyN t)) (.type "int")=some (isT "int" t):=by cases t <;> rfl
theorem Yj (K:a6)(t:T):aH K (.type (tyN t)) (.type "bool")=some (isT "bool" t):=by cases t <;> rfl
theorem QC (K:a6)(t:T):aH K (.type (tyN t)) (.type "str")=some (isT "str" t):=by cases t <;> rfl
theorem UD (K:a6)(t:T):aH K (.type (tyN t)) (.type "tuple")=some (isT "tuple" t):=by cases t <;> rfl
theorem Yk {n:String}{p' :Pos}(hk:∀t,aH X.K (.type (tyN t)) (.type n)=some (isT n t))(gl:Gl X "isinstance")(mg:X.mg "isinstance"=none)(gl' :Gl X (aW n))(mg' :X.mg (aW n)=none)(bt:bootBuiltins (aW n)=some (.type n))(ha:ZR X Y a fa)
  (hs:starEach [a,.Name (aW n) p'] X.env=[(false,eval a X.env),(false,eval (.Name (aW n) p') X.env)]:=by exact st2 rfl rfl) (hs2:starEach [.Name (aW n) p'] X.env=[(false,eval (.Name (aW n) p') X.env)]:=by exact st1 rfl)
  (hn:aW n ≠ "__name__":=by decide) (hd:(aW n == ("__debug__":Str))=false:=by decide) (hz:((backTo pos (starEach [.Name (aW n) p'] X.env)).any λx=>x.fst)=false:=by exact Z0 rfl):
  Snd X Y (.Call (.Name "isinstance" p) [a,.Name (aW n) p'] [] pos) (ap1 (qs n) fa):= .mk λρ=>
 PE.imp (ZQ Yi gl mg PyProof.Rows.Boot.«isinstance» (zk (ha ρ) (zk (Uc (v:= .ty n) gl' mg' bt rfl hn hd) zB hs2) (by rw[hs,hs2])) (by decide) (by decide) (by rw[hs,hs2]) hz) λσ H Q ⟨B,I,q⟩=>
  step I q λt v H1 _ s1 r1 I1 q1=>⟨v,n,t,rfl,r1,hk t,po0 I1.sB q1 rfl (.bl _)⟩
def atT (xs:List T)(i:Int):R T:=match atI xs i with
 | some t=> .ok t
 | none=> .bad
def ixT:T->T->R T
 | .tup xs,.int i=>atT xs i
 | .lst xs,.int i=>atT xs i
 | .fz xs,.int i=>atT xs i
 | .str z,.int i=>if z.length<=bnd then match atI z.cps.toList i with | some c=> .ok (.str ⟨#[c]⟩) | none=> .bad else .bad
 | _,_=> .bad
theorem UE {H:Hp}{xs:List V}{ts:List T}{i:Int}{t:T}(r:zC H xs ts)(h:atI ts i=some t):∃v,atI xs i=some v/\Rep H v t:=by
 unfold atI at h ⊢;rw[r.length];cases e:ixN _ i with
 | none=>rw[e]at h;cases h
 | some j=>
  rw[e]at h;obtain⟨v,h1,h2⟩:=r.get (h);exact⟨v,h1,h2⟩
theorem G8 (ha:Snd X Y a fa)(hb:Snd X Y b fb)(hs:Uo b:=by exact λ_ _=>rfl):Snd X Y (.Subscript a b pos) (z9 ixT fa fb):= .mk λρ=>
 PE.imp (XY Vl (ha ρ) (hb ρ) hs) λσ H Q ⟨B,I,q⟩=>step I q λt v H1 _ s1 r1 I1 q1=>step I1 q1 λt' v' H2 _ s2 r2 I2 q2=>by
  have r1:=r1.mono (zx.ge I1.sB s2);cases r2 with
  | int i=>
   cases r1 with
   | @tup _ xs ts h r=>
    have q2:Po Y rC _ H2 (atT ts i) Q:=q2;unfold atT at q2;split at q2
    ·rename_i t' e;obtain⟨w,e1,e2⟩:=UE r e;exact .inr (.inl ⟨_,xs,i,w,rfl,rfl,SqT.of (I2.sB _ _ h),e1,po0 I2.sB q2 rfl e2⟩)
    ·exact q2.elim
   | @lst _ xs ts h r=>
    have q2:Po Y rC _ H2 (atT ts i) Q:=q2;unfold atT at q2;split at q2
    ·rename_i t' e;obtain⟨w,e1,e2⟩:=UE r e;exact .inl ⟨_,xs,i,w,rfl,rfl,SqL.of (I2.sB _ _ h),e1,po0 I2.sB q2 rfl e2⟩
    ·exact q2.elim
   | @fz _ _ xs ts h r=>
    have q2:Po Y rC _ H2 (atT ts i) Q:=q2;unfold atT at q2;split at q2
    ·rename_i t' e;obtain⟨w,e1,e2⟩:=UE r e;exact .inl ⟨_,xs,i,w,rfl,rfl,.inl (.inr ⟨_,I2.sB _ _ h⟩),e1,po0 I2.sB q2 rfl e2⟩
    ·exact q2.elim
   | str z=>
    have q2:Po Y rC _ H2 (if z.length<=bnd then match atI z.cps.toList i with | some c=> .ok _ | none=> .bad else .bad) Q:=q2
    split at q2
    ·rename_i hb;split at q2
     ·rename_i c e;exact .inr (.inr ⟨z,i,c,rfl,rfl,zV hb,e,po0 I2.sB q2 rfl (.str _)⟩)
     ·exact q2.elim
    ·exact q2.elim
   | _=>exact q2.elim
  | _=>cases r1 <;> exact q2.elim
structure QD (X:Cx) (Y:Fx) (e:Option Expr) (f:En->R (Option Int)):Prop where
 mk ::
 go:∀ρ,PO X e (tS Y rE f ρ)
instance {X:Cx}{Y:Fx}{e:Option Expr}{f:En->R (Option Int)}:CoeFun (QD X Y e f) λ_=>∀ρ,PO X e (tS Y rE f ρ):=⟨QD.go⟩
def noO:En->R (Option Int):=λ_=> .ok none
def zn (fa:En->R T):En->R (Option Int):=λρ=>(fa ρ).bind λt=>match t with
 | .int i=> .ok (some i)
 | _=> .bad
theorem PO.imp {e:Option Expr}{t t' :TO}(h:PO X e t)(i:∀σ H Q,t' σ H Q->t σ H Q):PO X e t' :=λpins s σ H Q I q=>h _ s σ H Q I (i σ H Q q)
theorem VC:QD X Y none noO:= .mk λρ=>PO.imp Qd λσ H Q ⟨B,I,q⟩=>Zi I q rfl
theorem VD (ha:Snd X Y a fa):QD X Y (some a) (zn fa):= .mk λρ=>PO.imp (Qe (ha ρ)) λσ H Q ⟨B,I,q⟩=>step I q λt v H1 _ s1 r1 I1 q1=>by
 cases r1 with
 | int i=>exact⟨i,rfl,Zi I1 q1 rfl⟩
 | _=>exact q1.elim
noncomputable def UF (t t' :T):R T:=match t,t' with
 | .int i,.int j=> .ok (.int (if j < i then j else i))
 | _,_=> .bad
theorem VE (hc:X.calm=true)(gl:Gl X "min")(mg:X.mg "min"=none)(ha:Snd X Y a fa)(hb:Snd X Y b fb)
  (hs:starEach [a,b] X.env=[(false,eval a X.env),(false,eval b X.env)]:=by exact st2 rfl rfl) (hs2:starEach [b] X.env=[(false,eval b X.env)]:=by exact st1 rfl):
  Snd X Y (.Call (.Name "min" p) [a,b] [] pos) (z9 UF fa fb):= .mk λρ=>
 PE.imp (ZQ (Uk hc) gl mg PyProof.Rows.Boot.«min» (zk (ha ρ) (zk (hb ρ) zB hs2) (by rw[hs,hs2])) (by decide) (by decide) (by rw[hs,hs2]) (by rw[hs2];rfl)) λσ H Q ⟨B,I,q⟩=>
  step I q λt v H1 _ s1 r1 I1 q1=>step I1 q1 λt' v' H2 _ s2 r2 I2 q2=>by
   cases r1 with
   | int i=>
    cases r2 with
    | int j=>exact⟨i,j,rfl,po0 I2.sB q2 rfl (.int _)⟩
    | _=>exact q2.elim
   | _=>cases r2 <;> exact q2.elim
noncomputable def U5:List T->Option Bool
 | []=>some true
 | .bl k :: r=>match U5 r with | some j=>some (k && j) | none=>none
 | _ :: _=>none
def vO:T->R T
 | .lst ts=>match U5 ts with | some k=> .ok (.bl k) | none=> .bad
 | _=> .bad
theorem UG:∀{H:Hp} {xs:List V} {ts:List T} {its:List Value} {k:Bool},zC H xs ts->zM xs its->U5 ts=some k->∃tr:Nat->Bool,(∀i v,its[i]? =some v->v=Value.bool (tr i))/\(bM its.length).all tr=k
 | _,_,_,_,k,.nil,.nil,h=>by
  have h' :=h;cases h';exact⟨λ_=>true,λi v e=>by simp at e,rfl⟩
 | H,_,_,_,k,.cons r rs,.cons (b:=u) rv vs,h=>by
  cases r with
  | bl b=>
   unfold U5 at h;split at h
   ·rename_i j e;cases h;obtain⟨tr,h1,h2⟩:=UG rs vs e;obtain rfl:u=Value.bool b:=rv;refine⟨λi=>match i with | 0=>b | i+1=>tr i,λi v e=> ?_, ?_⟩
    ·cases i with
     | zero=>simp at e;exact e.symm
     | succ i=>exact h1 i v (by simpa using e)
    ·rw[ac,dH,cY,eY,← h2];rfl
   ·cases h
  | _=>cases h
theorem UH (hh:X.A.handled=none):Zw X (.builtin "all") (λvs H Q=>∃l xs ts k,vs=[.ref l]/\H l=some (.lst xs)/\zC H xs ts/\U5 ts=some k/\Q (.bl k) H):=by
 intro pins s σ H vs us Q I rv h;obtain⟨l,xs,ts,k,rfl,hl,r,hk,q⟩:=h;obtain⟨u,rfl,ru⟩:=ZL rv;obtain rfl:u=Value.ref l:=ru;obtain⟨its,rv,p,_⟩:=zI I (.inl hl) r;obtain⟨tr,h1,h2⟩:=UG r rv hk;refine call_all_walk (wpAny_pyIter_list p ?_);have hlt:=I.hok.lt hl;have old:∀b o,s.heap.get? b=some o->(s.heap.push { cls:= .type "list_iterator",data:= .fields #[.ref l,.int 0 0] }).get? b=some o:=λb o e=>a7 _ e;refine⟨s.heap.objs.size,_,_,_,_,_,tr,rfl,Walks.list (A:=X.A.in1) hh _ l (aB hlt) its.toArray, ?_, ?_,λh' tk hk' => ?_⟩
 ·refine⟨?_,p.at λo e=>old _ o e⟩;exact⟨_,am _ rfl,rfl,rfl⟩
 ·intro i v s' Q' E' hi hq;rw[h1 i v (by simpa using hi)]
  exact ba hq
 ·rw[aD,h2];refine⟨.bl k,H,I.kept (λb o e=>hk' b o ?_ (old b o e)),rfl,q⟩;simp;exact aB (ag e)
theorem kF (hh:X.A.handled=none)(gl:Gl X "all")(mg:X.mg "all"=none)(ha:ZR X Y a fa)(hs:St1 X a:=by exact st1 rfl):Snd X Y (.Call (.Name "all" p) [a] [] pos) (ap1 vO fa):=
 qp (UH hh) (λv t B H Q r sB q=>by
  cases r with
  | @lst l xs ts h r=>
   have q:Po Y rC B H (match U5 ts with | some k=> .ok _ | none=> .bad) Q:=q
   split at q
   ·rename_i k e;exact⟨l,xs,ts,k,rfl,h,r,e,po0 sB q rfl (.bl k)⟩
   ·exact q.elim
  | _=>exact q.elim) gl mg PyProof.Rows.Boot.«all» ha hs
end
inductive RS where
 | nx (ρ:En) | rt (t:T) | bk (ρ:En) | ct (ρ:En) | ex (c:Nat) | bad | rf (ts:List T)
noncomputable def R.s {α:Type}(r:R α)(k:α->RS):RS:=match r with
 | .ok a=>k a
 | .ex c=> .ex c
 | .bad=> .bad
def PoS (Y:Fx)(B:Hp)(r:RS)(D:Ends):Prop:=match r with
 | .nx ρ' =>∀σ' H' B',zh B B' ->SI Y B' ρ' σ' H' ->D.nx σ' H'
 | .rt t=>∀v H',zh Y.H0 H' ->Rep (zx Y.B0 Y.H0 H') v t->D.rt v H'
 | .bk ρ' =>∀σ' H' B',zh B B' ->SI Y B' ρ' σ' H' ->D.bk σ' H'
 | .ct ρ' =>∀σ' H' B',zh B B' ->SI Y B' ρ' σ' H' ->D.ct σ' H'
 | .ex c=>XP Y B c
 | .bad=>False
 | .rf ts=>∀a xs H' B',zh Y.H0 H' ->Y.H0 a=none->H' a=some (.lst xs)->zC B' xs ts->B' a=none->zh B' (zx Y.B0 Y.H0 H')->D.rt (.ref a) H'
theorem PoS.up {Y:Fx}{B B' :Hp}{r:RS}{D:Ends}(s:zh B B')(h:PoS Y B r D):PoS Y B' r D:=by
 cases r with
 | nx ρ=>exact λσ' H' B2 s2 I=>h σ' H' B2 (s.trans s2) I
 | bk ρ=>exact λσ' H' B2 s2 I=>h σ' H' B2 (s.trans s2) I
 | ct ρ=>exact λσ' H' B2 s2 I=>h σ' H' B2 (s.trans s2) I
 | rt t=>exact h
 | rf t=>exact h
 | ex c=>exact λd H' s0 sB=>h d H' s0 (s.trans sB)
 | bad=>exact h
def tSS (Y:Fx)(f:En->RS)(ρ:En):TS:=λD σ H=>∃B,SI Y B ρ σ H/\PoS Y B (f ρ) D
structure ZJ (X:Cx) (Y:Fx) (e:Stmt) (f:En->RS):Prop where
 mk ::
 go:∀ρ,PS X e (tSS Y f ρ)
instance {X:Cx}{Y:Fx}{e:Stmt}{f:En->RS}:CoeFun (ZJ X Y e f) λ_=>∀ρ,PS X e (tSS Y f ρ):=⟨ZJ.go⟩
structure jF (X:Cx) (Y:Fx) (e:List Stmt) (f:En->RS):Prop where
 mk ::
 go:∀ρ,PSs X e (tSS Y f ρ)
instance {X:Cx}{Y:Fx}{e:List Stmt}{f:En->RS}:CoeFun (jF X Y e f) λ_=>∀ρ,PSs X e (tSS Y f ρ):=⟨jF.go⟩
theorem Jb {α β:Type}{Y:Fx}{rel:Hp->Hp->β->α->Prop}{f:En->R α}{k:α->RS}{ρ:En}{B:Hp}{σ:Sg}{H:Hp}{D:Ends}{K:β->Hp->Prop}
  (I:SI Y B ρ σ H) (h:PoS Y B ((f ρ).s k) D)
  (n:∀a b H1,f ρ= .ok a->zh H H1->rel (zx B H H1) H1 b a->SI Y (zx B H H1) ρ σ H1->PoS Y (zx B H H1) (k a) D->K b H1):tS Y rel f ρ σ H K:=by
 refine⟨B,I, ?_⟩;cases e:f ρ with
 | bad=>rw[e]at h;exact h
 | ex c=>rw[e]at h;exact h
 | ok a=>
  rw[e]at h;exact λb H1 s r=>n a b H1 e s r (I.grow s) (PoS.up (zx.ge I.sB s) h)
theorem zA {α:Type}{xs:List α}{i j:Nat}{x y:α}(h:(xs.set i x)[j]? =some y):(j=i/\y=x)\/(j ≠ i/\xs[j]? =some y):=by
 by_cases e:j=i
 ·subst e
  by_cases hl:j < xs.length
  ·rw[aX hl]at h;exact .inl ⟨rfl,(aq h).symm⟩
  ·rw[bH (by rw[bU];omega)]at h;cases h
 ·rw[aE (bu e)]at h;exact .inr ⟨e,h⟩
theorem u7 {α:Type}{xs:List α}{i:Nat}{x y:α}(h:(xs.set i x)[i]? =some y):i < xs.length:=by
 by_cases hl:i < xs.length
 ·exact hl
 ·rw[bH (by rw[bU];omega)]at h;cases h
theorem StI.set {Y:Fx}{B:Hp}{ρ:En}{σ:Sg}{H:Hp}{as:List Addr}{O:Addr->Option (Nat×Nat)}(x:StI Y B ρ σ H as O)(i:Nat)(s:Sl)(v:Option V)(h1:s.isO=false)(h3:∀ts,s ≠ .ow ts):StI Y B (ρ.set i s) (σ.set i v) H as O:=
 x.on (λj y hy h=>by
  rcases zA h with ⟨_,e⟩ | ⟨hj,h'⟩
  ·rw[e,h1]at hy;cases hy
  ·exact⟨h',aE (bu hj)⟩) (zh.refl _) rfl rfl (zh.refl _) λb o hb b0 h0 _=>⟨hb,b0,h0,λok j us h=>by
  rcases zA h with ⟨_,e⟩ | ⟨hj,h'⟩
  ·exact absurd e.symm (h3 us)
  ·rw[aE (bu hj)];exact ok j us h'⟩
theorem SI.setV {Y:Fx}{B:Hp}{ρ:En}{σ:Sg}{H:Hp}(I:SI Y B ρ σ H)(i:Nat){v:V}{t:T}(r:Rep B v t):SI Y B (ρ.set i (.vl t)) (σ.set i (some v)) H where
 s0:=I.s0
 sH:=I.sH
 sB:=I.sB
 old:=I.old
 len:=by rw[bU,bU];exact I.len
 vl:=λj u h=>by
  rcases zA h with ⟨rfl,e⟩ | ⟨hj,h'⟩
  ·cases e;exact⟨v,aX (by rw[← I.len];exact u7 h),r⟩
  ·obtain⟨w,e,rr⟩:=I.vl j u h';exact⟨w,by rw[aE (bu hj)];exact e,rr⟩
 ow:=λj us h=>by
  rcases zA h with ⟨rfl,e⟩ | ⟨hj,h'⟩
  ·cases e
  ·obtain⟨a,xs,e,b0,h0,hh,rr,d⟩:=I.ow j us h';refine⟨a,xs,by rw[aE (bu hj)];exact e,b0,h0,hh,rr,λk ws hk hw=> ?_⟩
   rcases zA hw with ⟨rfl,e'⟩ | ⟨hk',hw'⟩
   ·cases e'
   ·rw[aE (bu hk')];exact d k ws hk hw'
 xc:=λj c h=>by
  rcases zA h with ⟨rfl,e⟩ | ⟨hj,h'⟩
  ·cases e
  ·obtain⟨a,e,r⟩:=I.xc j c h';exact⟨a,by rw[aE (bu hj)];exact e,r⟩
 st:=let ⟨as,O,x⟩:=I.st;⟨as,O,x.set i _ _ rfl (λ_=>Sl.noConfusion)⟩
theorem SI.newO {Y:Fx}{B:Hp}{ρ:En}{σ:Sg}{H:Hp}(I:SI Y B ρ σ H)(i:Nat){p:Addr}{xs:List V}{ts:List T}(hp:H p=none)(r:zC B xs ts):SI Y B (ρ.set i (.ow ts)) (σ.set i (some (.ref p))) (upd H p (.lst xs)) where
 s0:=I.s0
 sH:=I.sH.trans (zh.new hp _)
 sB:=I.sB.trans (zh.new hp _)
 old:=I.old
 len:=by rw[bU,bU];exact I.len
 vl:=λj u h=>by
  rcases zA h with ⟨rfl,e⟩ | ⟨hj,h'⟩
  ·cases e
  ·obtain⟨w,e,rr⟩:=I.vl j u h';exact⟨w,by rw[aE (bu hj)];exact e,rr⟩
 ow:=λj us h=>by
  have op:∀k ws a,ρ[k]? =some (Sl.ow ws)->σ[k]? =some (some (V.ref a))->a ≠ p:=λk ws a h1 h2=>by
   obtain⟨a',xs',e,_,_,hh,_⟩:=I.ow k ws h1;rw[e]at h2;cases h2;exact zm hh hp
  rcases zA h with ⟨rfl,e⟩ | ⟨hj,h'⟩
  ·cases e;refine⟨p,xs,aX (by rw[← I.len];exact u7 h),I.sB.free hp,I.sH.free hp,zl,r,λk ws hk hw=> ?_⟩
   rcases zA hw with ⟨rfl,e'⟩ | ⟨hk',hw'⟩
   ·exact absurd rfl hk
   ·rw[aE (bu hk')];exact λz=>op k ws p hw' z rfl
  ·obtain⟨a,xs',e,b0,h0,hh,rr,d⟩:=I.ow j us h';refine⟨a,xs',by rw[aE (bu hj)];exact e,b0,h0,by rw[zg (op j us a h' e)];exact hh,rr,λk ws hk hw=> ?_⟩
   rcases zA hw with ⟨rfl,e'⟩ | ⟨hk',hw'⟩
   ·rw[aX (by rw[← I.len];exact u7 hw)]
    intro z;exact op j us a h' e (by injection z with z;injection z with z;injection z with z;exact z.symm)
   ·rw[aE (bu hk')];exact d k ws hk hw'
 xc:=λj c h=>by
  rcases zA h with ⟨rfl,e⟩ | ⟨hj,h'⟩
  ·cases e
  ·obtain⟨a,e,r⟩:=I.xc j c h';exact⟨a,by rw[aE (bu hj)];exact e,r⟩
 st:=by
  obtain⟨as,O,x⟩:=I.st;refine⟨as,O,x.on (λj y hy h=> ?_) (zh.refl _) rfl rfl (zh.refl _) λb o hb b0 h0 _=> ?_⟩
  ·rcases zA h with ⟨_,e⟩ | ⟨hj,h'⟩
   ·subst e;cases hy
   ·exact⟨h',aE (bu hj)⟩
  ·have hne:b ≠ p:=zm hb hp;refine⟨by rw[zg hne];exact hb,b0,h0,λok j us h=> ?_⟩
   rcases zA h with ⟨rfl,e⟩ | ⟨hj,h'⟩
   ·rw[aX (by rw[← I.len];exact u7 h)]
    intro z;injection z with z;injection z with z;injection z with z;exact hne z.symm
   ·rw[aE (bu hj)];exact ok j us h'
theorem SI.chg {Y:Fx}{B:Hp}{ρ:En}{σ:Sg}{H:Hp}(I:SI Y B ρ σ H)(i:Nat){p:Addr}{ts us:List T}{ys:List V}(hi:ρ[i]? =some (.ow ts))(he:σ[i]? =some (some (.ref p)))(r:zC B ys us):SI Y B (ρ.set i (.ow us)) σ (upd H p (.lst ys)):=by
 obtain⟨p',xs,e,b0,h0,hh,rr,d⟩:=I.ow i ts hi;rw[he]at e;cases e;have nb:∀b o,B b=some o->b ≠ p:=λb o h z=>by subst z;rw[b0]at h;cases h
 have n0:∀b o,Y.H0 b=some o->b ≠ p:=λb o h z=>by subst z;rw[h0]at h;cases h
 refine⟨I.s0,λb o h=>by rw[zg (n0 b o h)];exact I.sH b o h,λb o h=>by rw[zg (nb b o h)];exact I.sB b o h,I.old,by rw[bU];exact I.len,λj u h=> ?_,λj ws h=> ?_,λj c h=> ?_, ?_⟩
 rotate_right
 ·obtain⟨as,O,x⟩:=I.st;refine⟨as,O,x.on (λj y hy h=> ?_) (zh.refl _) rfl rfl (zh.refl _) λb o hb b0' h0' cs=> ?_⟩
  ·rcases zA h with ⟨_,e⟩ | ⟨hj,h'⟩
   ·subst e;cases hy
   ·exact⟨h',rfl⟩
  ·have hne:b ≠ p:=λz=>by
    subst z;rcases cs with ⟨C,dx,vs,ez⟩ | ok
    ·rw[hh]at hb;cases hb;cases ez
    ·exact ok i ts hi he
   refine⟨by rw[zg hne];exact hb,b0',h0',λok j us h=> ?_⟩
   rcases zA h with ⟨rfl,e⟩ | ⟨hj,h'⟩
   ·rw[he];intro z;injection z with z;injection z with z;injection z with z;exact hne z.symm
   ·exact ok j us h'
 rotate_right
 ·rcases zA h with ⟨rfl,z⟩ | ⟨hj,h'⟩
  ·cases z
  ·exact I.xc j c h'
 ·rcases zA h with ⟨rfl,z⟩ | ⟨hj,h'⟩
  ·cases z
  ·exact I.vl j u h'
 ·rcases zA h with ⟨rfl,z⟩ | ⟨hj,h'⟩
  ·cases z;refine⟨p,ys,he,b0,h0,zl,r,λk vs hk hw=> ?_⟩;rcases zA hw with ⟨rfl,e'⟩ | ⟨hk',hw'⟩
   ·exact absurd rfl hk
   ·exact d k vs hk hw'
  ·obtain⟨a,xs',e,c0,g0,gg,ss,d'⟩:=I.ow j ws h';have hne:a ≠ p:=λz=>by subst z;exact d j ws hj h' e
   refine⟨a,xs',e,c0,g0,by rw[zg hne];exact gg,ss,λk vs hk hw=> ?_⟩
   rcases zA hw with ⟨rfl,e'⟩ | ⟨hk',hw'⟩
   ·rw[he];intro z;injection z with z;injection z with z;injection z with z;exact hne z.symm
   ·exact d' k vs hk hw'
noncomputable def yU:Sl->Sl
 | .ow ts=> .vl (.lst ts)
 | .ob _ _=> .un
 | .st _=> .un
 | x=>x
def frz (ρ:En):En:=ρ.map yU
theorem SI.up {Y:Fx}{B:Hp}{ρ:En}{σ:Sg}{H:Hp}(I:SI Y B ρ σ H):zh B (zx B Y.H0 H):=λb o h=>by
 cases q:Y.H0 b with
 | none=>rw[zD q];exact I.sB b o h
 | some u=>rw[zF q];exact h
theorem SI.frz {Y:Fx}{B:Hp}{ρ:En}{σ:Sg}{H:Hp}(I:SI Y B ρ σ H):SI Y (zx B Y.H0 H) (PV.frz ρ) σ H:=by
 have up:zh B (zx B _ H):=λb o h=>by
  cases q:Y.H0 b with
  | none=>rw[zD q];exact I.sB b o h
  | some u=>rw[zF q];exact h
 refine⟨I.s0,I.sH,λb o h=> ?_,λb o h=>by rw[zF h];exact I.old b o h,by unfold PV.frz;rw[ah];exact I.len,λj t h=> ?_,λj ts h=> ?_,λj c h=> ?_, ?_⟩
 rotate_right
 ·have no:∀(j:Nat) (y:Sl),y.isS=true->(PV.frz ρ)[j]? ≠ some y:=λj y hy h=>by
   unfold PV.frz at h;rw[ax]at h;cases e:ρ[j]? with
   | none=>rw[e]at h;cases h
   | some x=>rw[e]at h;cases x <;> (cases h;cases hy)
  obtain⟨as,O,x⟩:=I.st;refine⟨Y.as,λ_=>none,dw _,λi os e=>(no i _ rfl e).elim,λi j os os' e=>(no i _ rfl e).elim,λi k n e=>(no i _ rfl e).elim,λi k fs h=> ?_,λi os e=>(no i _ rfl e).elim⟩;have h' :ρ[i]? =some (Sl.oc k fs):=by
   unfold PV.frz at h;rw[ax]at h;cases e:ρ[i]? with
   | none=>rw[e]at h;cases h
   | some x=>rw[e]at h;cases x <;> (cases h;try rfl)
  obtain⟨a,C,dx,vs,e1,e2,e3,e4,e5⟩:=x.oc i k fs h';exact⟨a,C,dx,vs,e1,e2,e3,e4,e5.mono up (zh.refl _)⟩
 rotate_right
 ·unfold PV.frz at h;rw[ax]at h;cases e:ρ[j]? with
  | none=>rw[e]at h;cases h
  | some x=>
   rw[e]at h;cases x with
   | xc d=>
    cases h;obtain⟨a,e1,r⟩:=I.xc j _ e;exact⟨a,e1,up a _ r⟩
   | un=>cases h
   | vl _=>cases h
   | ow _=>cases h
   | ob _ _=>cases h
   | oc _ _=>cases h
   | st _=>cases h
 ·cases q:Y.H0 b with
  | none=>rw[zD q]at h;exact h
  | some u=>rw[zF q]at h;exact I.sB b o h
 ·unfold PV.frz at h;rw[ax]at h;cases e:ρ[j]? with
  | none=>rw[e]at h;cases h
  | some x=>
   rw[e]at h;cases x with
   | un=>cases h
   | vl u=>
    cases h;obtain⟨v,e1,r⟩:=I.vl j _ e;exact⟨v,e1,r.mono up⟩
   | ow us=>
    cases h;obtain⟨a,xs,e1,b0,h0,hh,rr,_⟩:=I.ow j us e;exact⟨.ref a,e1,.lst (by rw[zD h0];exact hh) (rr.mono up)⟩
   | xc _=>cases h
   | ob _ _=>cases h
   | oc _ _=>cases h
   | st _=>cases h
 ·unfold PV.frz at h;rw[ax]at h;cases e:ρ[j]? with
  | none=>rw[e]at h;cases h
  | some x=>
   rw[e]at h;cases x with
   | un=>cases h
   | vl u=>cases h
   | ow us=>cases h
   | xc _=>cases h
   | ob _ _=>cases h
   | oc _ _=>cases h
   | st _=>cases h
theorem qt {Y:Fx}{B H H' :Hp}(s0:zh Y.H0 H)(old:∀b o,Y.H0 b=some o->B b=Y.B0 b)(s:zh H H')(sB:zh B H):zh (zx B H H') (zx Y.B0 Y.H0 H'):=λb o h=>by
 cases q:H b with
 | none=>
  rw[zD q]at h;rw[zD (s0.free q)];exact h
 | some u=>
  rw[zF q]at h;cases z:Y.H0 b with
  | none=>rw[zD z];exact s b o (sB b o h)
  | some w=>rw[zF z,← old b w z];exact h
section
variable {X:Cx}{Y:Fx}{a b c d:Expr}{fa fb fc fd:En->R T}{pos p:Pos}{st:Stmt}{sts sts' :List Stmt}{f g:En->RS}
def nxS:En->RS:=λρ=> .nx ρ
def zp (f g:En->RS):En->RS:=λρ=>match f ρ with
 | .nx ρ' =>g ρ'
 | r=>r
theorem kG:jF X Y [] nxS:= .mk λρ=>PSs.imp Q5 λD σ H ⟨B,I,q⟩=>q σ H B (zh.refl B) I
theorem kH (h:ZJ X Y st f):jF X Y [st] f:= .mk λρ=>Ud (h ρ)
theorem VF (h1:ZJ X Y st f)(h2:jF X Y sts g):jF X Y (st :: sts) (zp f g):= .mk λρ=>by
 refine PSs.imp (Y2 (u:=λD σ H=>∃ρ',tSS Y g ρ' D σ H) (h1 ρ) ?_) ?_
 ·intro pins s σ H D I ⟨ρ',q⟩;exact h2 ρ' _ s σ H D I q
 ·intro D σ H ⟨B,I,q⟩;refine⟨B,I, ?_⟩;unfold zp at q;cases e:f ρ with
  | nx ρ' =>
   rw[e]at q;intro σ' H' B' s' I';exact⟨ρ',B',I',PoS.up s' q⟩
  | rt t=>rw[e]at q;exact q
  | rf t=>rw[e]at q;exact q
  | bk ρ' =>rw[e]at q;exact q
  | ct ρ' =>rw[e]at q;exact q
  | ex c=>rw[e]at q;exact q
  | bad=>rw[e]at q;exact q
def zR (i:Nat)(fa:En->R T):En->RS:=λρ=>(fa ρ).s λt=> .nx (ρ.set i (.vl t))
theorem VG {i:Nat}{x:Str}{p' :Pos}(hN:X.N.Nodup)(hi:X.N[i]? =some x)(hx:L2.Loc X.env.scope x)(ha:Snd X Y a fa)(hs:swapsWith a (some (.Name x p')) pos.line X.env=pure false:=by rfl)
  (hf:X.fn x=true\/X.env.scope.names.lookup x=some .local:=by first | exact .inl rfl | exact .inr rfl | assumption):ZJ X Y (.Assign [.Name x p'] a pos) (zR i fa):= .mk λρ=>
 PS.imp (qg hN hi hx (ha ρ) hs hf) λD σ H ⟨B,I,q⟩=>Jb I q λt v H1 _ s1 r1 I1 q1=>q1 _ _ _ (zh.refl _) (I1.setV i r1)
def UI (i:Nat)(ga:En->R (List T)):En->RS:=λρ=>(ga ρ).s λts=>if ts.length<=bnd then .nx (ρ.set i (.ow ts)) else .bad
theorem VH {i:Nat}{x:Str}{p' :Pos}{es:List Expr}{ga:En->R (List T)}(hN:X.N.Nodup)(hi:X.N[i]? =some x)(hx:L2.Loc X.env.scope x)(ha:ZI X Y es ga)(hs:swapsWith (.List es p) (some (.Name x p')) pos.line X.env=pure false:=by rfl)
  (hf:X.fn x=true\/X.env.scope.names.lookup x=some .local:=by first | exact .inl rfl | exact .inr rfl | assumption):ZJ X Y (.Assign [.Name x p'] (.List es p) pos) (UI i ga):= .mk λρ=>
 PS.imp (qg hN hi hx (qk (ha ρ)) hs hf) λD σ H ⟨B,I,q⟩=>Jb I q λts vs H1 _ s1 r1 I1 q1=>by
  split at q1
  ·rename_i hb;exact⟨by rw[r1.length];exact zV hb,λp hp=>q1 _ _ _ (zh.refl _) (I1.newO i hp r1)⟩
  ·exact q1.elim
def zE (fa:En->R T):En->RS:=λρ=>(fa (frz ρ)).s λt=> .rt t
theorem kI (ha:Snd X Y a fa):ZJ X Y (.Return (some a) pos) (zE fa):= .mk λρ=>
 PS.imp (qe (ha _)) λD σ H ⟨B,I,q⟩=>by
  refine⟨_,I.frz, ?_⟩;unfold zE at q;cases e:fa _ with
  | bad=>rw[e]at q;exact q
  | ex c=>
   rw[e]at q;exact λd H' s0 sG=>q d H' s0 (I.up.trans sG)
  | ok t=>
   rw[e]at q;intro v H' s r;have J:=I.frz;exact q v H' (I.sH.trans s) (r.mono (qt J.sH J.old s J.sB))
def ifS (g:En->R Bool)(f1 f2:En->RS):En->RS:=λρ=>(g ρ).s λk=>if k=true then f1 ρ else f2 ρ
theorem kJ {ga:En->R Bool}(hc:JL X Y c ga)(h1:jF X Y sts f)(h2:jF X Y sts' g):ZJ X Y (.If c sts sts' pos) (ifS ga f g):= .mk λρ=>
 PS.imp (XI (hc ρ) (h1 ρ) (h2 ρ)) λD σ H ⟨B,I,q⟩=>Jb I q λt v H1 _ s1 r1 I1 q1=>by
  have r1' :=r1;subst r1';cases v with
  | true=>exact⟨_,I1,q1⟩
  | false=>exact⟨_,I1,q1⟩
def UJ (fa:En->R T):En->RS:=λρ=>(fa ρ).s λ_=> .nx ρ
theorem VI (ha:Snd X Y a fa)(hs:swapsWith a none pos.line X.env=pure false:=by rfl):ZJ X Y (.Expr a pos) (UJ fa):= .mk λρ=>
 PS.imp (WA (ha ρ) hs) λD σ H ⟨B,I,q⟩=>Jb I q λt v H1 _ s1 r1 I1 q1=>q1 _ _ _ (zh.refl _) I1
def W2 (i:Nat)(fa:En->R T):En->RS:=λρ=>match ρ[i]? with
 | some (.ow ts)=>(fa ρ).s λt=>if ts.length < bnd then .nx (ρ.set i (.ow (ts++[t]))) else .bad
 | _=> .bad
def Wz (i:Nat)(fa:En->R T):En->RS:=λρ=>match ρ[i]? with
 | some (.ow ts)=>(fa ρ).s λt=>match t with
  | .lst us=>if ts.length+us.length<=bnd then .nx (ρ.set i (.ow (ts++us))) else .bad
  | _=> .bad
 | _=> .bad
theorem VJ {n:Nat}(h:n < bnd):n < sizeLine:=by exact h
theorem kK {i:Nat}{x:Str}{px pa:Pos}(hv:PE X (.Name x px) (Y0 i))(ha:Snd X Y a fa)(hb:attributeBase (.Name x px) "append" X.env (eval (.Name x px) X.env)=eval (.Name x px) X.env:=by rfl)(hs:St1 X a:=by exact st1 rfl)
  (hz:(pa.endLine == p.line)=true:=by rfl) (hw:swapsWith (.Call (.Attribute (.Name x px) "append" pa) [a] [] p) none pos.line X.env=pure false:=by rfl):ZJ X Y (.Expr (.Call (.Attribute (.Name x px) "append" pa) [a] [] p) pos) (W2 i fa):= .mk λρ=>by
 have e1:(((((backTo p (starEach [a] X.env)).all λx=> !x.fst) && (backToKw p (keywordEach [] X.env)).all λx=>x.fst.isSome) && decide (([a].length+([]:List Keyword).length+if ([]:List Keyword).isEmpty=true then 0 else 1) < 30))=true):=by rw[hs];rfl
 refine PS.imp (WA (jZ b_ PySem.F.slot_list_append PySem.F.type_list_append J0 hv (zk (ha ρ) zB hs) hb e1 hz hs rfl) hw) λD σ H ⟨B,I,q⟩=> ?_;unfold W2 at q;split at q
 ·rename_i ts e;obtain⟨l,xs,e1,b0,h0,hh,rr,d⟩:=I.ow i ts e;refine⟨.ref l,e1,.inl ⟨rfl,_,SqL.of hh⟩, ?_⟩;refine Jb I q λt v H1 _ s1 r1 I1 q1=> ?_;split at q1
  ·rename_i hb;refine⟨l,xs,v,rfl,rfl,s1 _ _ hh,by rw[rr.length];exact VJ hb, ?_⟩
   exact q1 _ _ _ (zh.refl _) (I1.chg i e e1 ((rr.mono (zx.ge I.sB s1)).append (.cons r1 .nil)))
  ·exact q1.elim
 ·exact q.elim
theorem kL {i:Nat}{x:Str}{px pa:Pos}(hv:PE X (.Name x px) (Y0 i))(ha:Snd X Y a fa)(hb:attributeBase (.Name x px) "extend" X.env (eval (.Name x px) X.env)=eval (.Name x px) X.env:=by rfl)(hs:St1 X a:=by exact st1 rfl)
  (hz:(pa.endLine == p.line)=true:=by rfl) (hw:swapsWith (.Call (.Attribute (.Name x px) "extend" pa) [a] [] p) none pos.line X.env=pure false:=by rfl):ZJ X Y (.Expr (.Call (.Attribute (.Name x px) "extend" pa) [a] [] p) pos) (Wz i fa):= .mk λρ=>by
 have e1:(((((backTo p (starEach [a] X.env)).all λx=> !x.fst) && (backToKw p (keywordEach [] X.env)).all λx=>x.fst.isSome) && decide (([a].length+([]:List Keyword).length+if ([]:List Keyword).isEmpty=true then 0 else 1) < 30))=true):=by rw[hs];rfl
 refine PS.imp (WA (jZ b_ PySem.F.slot_list_extend PySem.F.type_list_extend Up hv (zk (ha ρ) zB hs) hb e1 hz hs rfl) hw) λD σ H ⟨B,I,q⟩=> ?_;unfold Wz at q;split at q
 ·rename_i ts e;obtain⟨l,xs,e1,b0,h0,hh,rr,d⟩:=I.ow i ts e;refine⟨.ref l,e1,.inl ⟨rfl,_,SqL.of hh⟩, ?_⟩;refine Jb I q λt v H1 _ s1 r1 I1 q1=> ?_;cases r1 with
  | @lst b zs us hb r=>
   have q1:PoS Y _ (if ts.length+us.length<=bnd then .nx _ else .bad) D:=q1
   split at q1
   ·rename_i hl;refine⟨l,b,xs,zs,rfl,rfl,s1 _ _ hh,I1.sB _ _ hb,by rw[rr.length,r.length];exact zV hl, ?_⟩
    exact q1 _ _ _ (zh.refl _) (I1.chg i e e1 ((rr.mono (zx.ge I.sB s1)).append r))
   ·exact q1.elim
  | _=>exact q1.elim
 ·exact q.elim
end
def spP (cl:Nat->Value)(n:Nat)(g:List T->R T):Sp:=λvs H Q E=>∃B ts,ts.length=n/\zh B H/\zC B vs ts/\Po ⟨B,H,E,cl,[]⟩ rC B H (g ts) Q
theorem spP.len {cl:Nat->Value}{n:Nat}{g:List T->R T}(vs:List V)(H:Hp)(Q:VK)(E:XK)(h:spP cl n g vs H Q E):vs.length=n:=by
 obtain⟨B,ts,hl,_,r,_⟩:=h;rw[r.length,hl]
def z8 (n:Nat)(g:List T->R T)(ga:En->R (List T)):En->R T:=λρ=>(ga ρ).bind λts=>if ts.length=n then g ts else .bad
section
variable {X:Cx}{Y:Fx}{a b c d:Expr}{fa fb fc fd:En->R T}{pos p:Pos}
theorem qu {CX:CXT}{k n:Nat}{f:Addr}{fd:FuncData}{ps:List Str}{g:List T->R T}{x:Str}{es:List Expr}{ga:En->R (List T)}(F:WZ X.prog X.w X.K X.mg X.base CX k f fd ps (spP Y.cl n g))(hr:Z8 k X.A)(gl:Gl X x)(mg:X.mg x=some (.ref f))
  (kp:bJ X.K (.ref f)=true) (bd:L2.Binds X.K fd ps []) (hx:zO CX X Y.E) (ha:ZI X Y (a :: es) ga) (hd:(x == ("__debug__":Str))=false:=by decide)
  (hs:starEach (a :: es) X.env=(false,eval a X.env) :: starEach es X.env:=by exact zy rfl) (hz:((backTo pos (starEach es X.env)).any λx=>x.fst)=false:=by exact Z0 rfl):Snd X Y (.Call (.Name x p) (a :: es) [] pos) (z8 n g ga):= .mk λρ=>
 PE.imp (Qb F hr gl mg kp bd .nil hx (ha ρ) hd hs hz) λσ H Q ⟨B,I,q⟩=>step I q λts vs H1 _ s1 r1 I1 q1=>by
  split at q1
  ·rename_i hn;rw[aT];refine⟨_,ts,hn,I1.sB,r1, ?_⟩;revert q1;cases g ts with
   | bad=>exact λq1=>q1
   | ex c=>exact λq1 d H' s sB=>q1 d H' (I1.sH.trans s) sB
   | ok t=>exact λq1=>q1
  ·exact q1.elim
end
noncomputable def zr:RS->R T
 | .rt t=> .ok t
 | .rf ts=> .ok (.lst ts)
 | .nx _=> .ok .non
 | .ex c=> .ex c
 | _=> .bad
def en0 (n:Nat)(ts:List T):En:=ts.map Sl.vl++av (n - ts.length) Sl.un
theorem zC.vl {H:Hp}:∀{vs:List V} {ts:List T} {i:Nat} {t:T} {n m:Nat},zC H vs ts->(ts.map Sl.vl++av n Sl.un)[i]? =some (Sl.vl t)->∃v:V,(vs.map some++av m none)[i]? =some (some v)/\Rep H v t
 | _,_,i,t,n,m,.nil,h=>by
  simp only[cu,bV]at h;rw[aA]at h;split at h
  ·cases h
  ·cases h
 | _,_,0,t,n,m,.cons r _,h=>by
  simp at h;subst h;exact⟨_,rfl,r⟩
 | _,_,i+1,t,n,m,.cons _ q,h=>by
  obtain⟨v,h1,h2⟩:=zC.vl q (by simpa using h)
  exact⟨v,by simpa using h1,h2⟩
theorem qw {n:Nat}:∀{ts:List T} {i:Nat} {us:List T},(ts.map Sl.vl++av n Sl.un)[i]? =some (Sl.ow us)->False
 | [],i,us,h=>by
  simp only[cu,bV]at h;rw[aA]at h;split at h
  ·cases h
  ·cases h
 | t :: ts,0,us,h=>by simp at h
 | t :: ts,i+1,us,h=>qw (by simpa using h)
theorem qx {n:Nat}:∀{ts:List T} {i:Nat} {c:Nat},(ts.map Sl.vl++av n Sl.un)[i]? =some (Sl.xc c)->False
 | [],i,us,h=>by
  simp only[cu,bV]at h;rw[aA]at h;split at h
  ·cases h
  ·cases h
 | t :: ts,0,us,h=>by simp at h
 | t :: ts,i+1,us,h=>qx (by simpa using h)
theorem UK {n:Nat}{x:Sl}(h1:∀t,x ≠ .vl t)(h2:x ≠ .un):∀{ts:List T} {i:Nat},(ts.map Sl.vl++av n Sl.un)[i]? =some x->False
 | [],i,h=>by
  simp only[cu,bV]at h;rw[aA]at h;split at h
  ·exact h2 (aq h).symm
  ·cases h
 | t :: ts,0,h=>h1 t (aq (by simpa using h)).symm
 | t :: ts,i+1,h=>UK h1 h2 (by simpa using h)
theorem SI.start {Y:Fx}{N:List Str}{vs:List V}{ts:List T}(s:zh Y.B0 Y.H0)(r:zC Y.B0 vs ts):SI Y Y.B0 (en0 N.length ts) (L2.start N vs) Y.H0 where
 s0:=s
 sH:=zh.refl _
 sB:=s
 old:=λ_ _ _=>rfl
 len:=by unfold en0 L2.start;simp[r.length]
 vl:=λi t h=>r.vl h
 ow:=λi ts h=>(qw h).elim
 xc:=λi c h=>(qx h).elim
 st:=StI.no λi s hs h=>UK (λt z=>by rw[z]at hs;cases hs) (λz=>by rw[z]at hs;cases hs) h
section
variable {P:Program}{w:World}{K:a6}{mg:Str->Option Value}{base:Heap}
theorem kM {cl:Nat->Value}{x qual:Str}{st:Stmt}{f:Addr}{fd:FuncData}{N ps:List Str}{k n:Nat}{fb:En->RS}{g:List T->R T}(F:Fun K x qual st f fd)(S:Z6 N ps (za st))(hn:n=ps.length)
  (hb:∀(cdv:Value) (A:Around) (outer:List Env) (s:Shared) (H:Hp) (E:XK) (Y:Fx),Y.cl=cl->Z8 k (A.deeper (envOfC qual (za st) s.heap.objs.size f cdv))->
   jF (Z4 CX0 P w K mg base N qual (za st) f cdv A outer s H E).nox Y (zv st) fb)
  (hg:∀ts,ts.length=n->g ts=zr (fb (en0 N.length ts))):WZ P w K mg base CX0 (k+1) f fd ps (spP cl n g):=by
 subst hn;refine F.ok S spP.len λcdv A outer s H vs Q E hr ⟨B,ts,hl,sB,r,q⟩=> ?_;refine⟨_,hb cdv A _ s H E ⟨B,H,E,cl,[]⟩ rfl hr _,B,SI.start sB r, ?_⟩;rw[hg ts hl]at q;revert q;cases fb _ with
 | rt t=>exact λq v H' s r=>q v H' s r
 | rf t=>exact λq a xs H' B' s0 n e r _ l=>q _ H' s0 (.lst (by rw[zD n];exact e) (r.mono l))
 | nx ρ=>exact λq σ' H' B' _ I=>q _ H' I.sH .non
 | ex c=>exact λq=>q
 | bk ρ=>exact λq=>q.elim
 | ct ρ=>exact λq=>q.elim
 | bad=>exact λq=>q
end
abbrev rI:Hp->Hp->It->List T->Prop:=λB1 _ J ts=>∀B2 H2,zh B1 B2->zh B2 H2->(∀i,i < ts.length->J.go i H2)/\(∀(i:Nat) t x H3,ts[i]? =some t->J.yld i H2 x H3->zh H2 H3/\Rep (zx B2 H2 H3) x t)/\(∀i,ts.length<=i->J.stop i H2)
structure wc (X:Cx) (Y:Fx) (tg iter:Expr) (f:En->R (List T)):Prop where
 mk ::
 go:∀ρ,PI X tg iter (tS Y rI f ρ)
instance {X:Cx}{Y:Fx}{tg iter:Expr}{f:En->R (List T)}:CoeFun (wc X Y tg iter f) λ_=>∀ρ,PI X tg iter (tS Y rI f ρ):=⟨wc.go⟩
section
variable {X:Cx}{Y:Fx}{a b c d tg:Expr}{fa fb fc fd:En->R T}{pos p:Pos}
theorem PI.imp {e:Expr}{t t' :TI}(h:PI X tg e t)(i:∀σ H Q,t' σ H Q->t σ H Q):PI X tg e t' :=λpins s σ H Q I q=>h _ s σ H Q I (i σ H Q q)
theorem VL {K:a6}{B1 H1:Hp}{a:Addr}{xs:List V}{ts:List T}(h:B1 a=some (.tup xs))(r:zC B1 xs ts):rI B1 H1 (Itt K a) ts:=λB2 H2 s1 s2=>by
 have h2:=s2 _ _ (s1 _ _ h);refine⟨λi hi=> ?_,λi t x H3 e y=> ?_,λi hi=>⟨xs,SqT.of h2,by rw[r.length];exact hi⟩⟩
 ·obtain⟨v,e,_⟩:=r.get (az hi);exact⟨xs,v,SqT.of h2,e⟩
 ·obtain⟨rfl,y⟩:=y;obtain⟨v,e1,r1⟩:=r.get e;have:=y xs (SqT.of h2);rw[e1]at this;cases this;refine⟨zh.refl _, ?_⟩;rw[zx.self B2 _ s2];exact r1.mono s1
theorem VM {K:a6}{B1 H1:Hp}{a:Addr}{xs:List V}{ts:List T}(h:B1 a=some (.lst xs))(r:zC B1 xs ts):rI B1 H1 (Itl K a) ts:=λB2 H2 s1 s2=>by
 have h2:=s2 _ _ (s1 _ _ h);refine⟨λi hi=> ?_,λi t x H3 e y=> ?_,λi hi=>⟨xs,SqL.of h2,by rw[r.length];exact hi⟩⟩
 ·obtain⟨v,e,_⟩:=r.get (az hi);exact⟨xs,v,SqL.of h2,e⟩
 ·obtain⟨rfl,y⟩:=y;obtain⟨v,e1,r1⟩:=r.get e;have:=y xs (SqL.of h2);rw[e1]at this;cases this;refine⟨zh.refl _, ?_⟩;rw[zx.self B2 _ s2];exact r1.mono s1
noncomputable def rng (lo:Int)(n:Nat):List T:=(bM n).map λ(i:Nat)=>T.int (lo+(i:Int))
theorem VN {B1 H1:Hp}{lo:Int}{n:Nat}:rI B1 H1 (Itr lo n) (rng lo n):=λB2 H2 s1 s2=>by
 have hl:(rng lo n).length=n:=by unfold rng;simp
 refine⟨λi hi=>by rw[hl]at hi;exact hi,λi t x H3 e y=> ?_,λi hi=>by rw[hl]at hi;exact hi⟩
 obtain⟨rfl,rfl⟩:=y;refine⟨zh.refl _, ?_⟩;unfold rng at e;rw[ax]at e
 by_cases hi:i < n
 ·rw[List.getElem?_range hi]at e;cases e;exact .int _
 ·rw[bH (by simp;omega)]at e;cases e
def jv (fa:En->R T):En->R (List T):=λρ=>(fa ρ).bind λt=>match t with
 | .int j=>if -1000000 < j/\j < 1000000 then .ok (rng 0 j.toNat) else .bad
 | _=> .bad
theorem VO (gl:Gl X "range")(mg:X.mg "range"=none)(ha:Snd X Y a fa)(hs:St1 X a:=by exact st1 rfl):wc X Y tg (.Call (.Name "range" p) [a] [] pos) (jv fa):= .mk λρ=>PI.imp (Uh gl mg (zk (ha ρ) zB hs) hs) λσ H R ⟨B,I,q⟩=>step I q λt v H1 _ s1 r1 I1 q1=>by
 cases r1 with
 | int j=>
  have q1:Po Y rI _ H1 (if -1000000 < j/\j < 1000000 then .ok _ else .bad) R:=q1
  split at q1
  ·exact⟨j,rfl,by omega,by omega,Zi I1 q1 VN⟩
  ·exact q1.elim
 | _=>exact q1.elim
def VP (X:Cx)(Y:Fx)(tg:Expr)(g:T->En->R En):Prop:=∃t:TG,PG X tg t/\∀B ρ σ H v x Q,SI Y B ρ σ H->Rep B v x->(match g x ρ with | .ok ρ' =>∀σ',SI Y B ρ' σ' H->Q σ' H | _=>False)->t v σ H Q
def Z5 (i:Nat):T->En->R En:=λt ρ=> .ok (ρ.set i (.vl t))
theorem qy {i:Nat}{x:Str}(hN:X.N.Nodup)(hi:X.N[i]? =some x)(hx:L2.Loc X.env.scope x)(hf:X.fn x=true\/X.env.scope.names.lookup x=some .local:=by first | exact .inl rfl | exact .inr rfl | assumption):VP X Y (.Name x pos) (Z5 i):=
 ⟨jN i,ZK hN hi hx hf,λB ρ σ H v x Q I r q=>q _ (I.setV i r)⟩
def Z9 (i j:Nat):T->En->R En:=λt ρ=>match t with
 | .tup [x,y]=> .ok ((ρ.set i (.vl x)).set j (.vl y))
 | _=> .bad
theorem VQ {i j:Nat}{x y:Str}{p' p2:Pos}{k:Nat}(hc:X.calm=true)(hN:X.N.Nodup)(hi:X.N[i]? =some x)(hj:X.N[j]? =some y)(hx:L2.Loc X.env.scope x)(hy:L2.Loc X.env.scope y)
  (hf:X.fn x=true\/X.env.scope.names.lookup x=some .local:=by first | exact .inl rfl | exact .inr rfl | assumption) (hf' :X.fn y=true\/X.env.scope.names.lookup y=some .local:=by first | exact .inl rfl | exact .inr rfl | assumption):
  VP X Y (.Tuple [.Name x pos,.Name y p'] k p2) (Z9 i j):=by
 refine⟨Xl X.K 2 _,qf hc (jS (ZK hN hi hx hf) (jS (ZK hN hj hy hf') Uf)),λB ρ σ H v t Q I r q=> ?_⟩;cases r with
 | @tup l xs ts h r=>
  cases r with
  | nil=>exact q.elim
  | cons r1 rr=>
   cases rr with
   | nil=>exact q.elim
   | cons r2 rr=>
    cases rr with
    | cons _ _=>exact q.elim
    | nil=>
     exact⟨l,_,rfl,SqT.of (I.sB _ _ h),rfl,_,_,rfl,_,_,rfl,rfl,q _ ((I.setV i r1).setV j r2)⟩
 | _=>exact q.elim
def JF (g:T->En->R En)(fb:En->RS):List T->En->RS
 | [],ρ=> .nx ρ
 | t :: ts,ρ=>match g t ρ with
  | .ok ρ1=>match fb ρ1 with
   | .nx ρ2=>JF g fb ts ρ2
   | .ct ρ2=>JF g fb ts ρ2
   | .bk ρ2=> .nx ρ2
   | r=>r
  | .ex c=> .bad
  | .bad=> .bad
def UL (fi:En->R (List T))(g:T->En->R En)(fb:En->RS):En->RS:=λρ=>(fi ρ).s λts=>JF g fb ts ρ
theorem VR {iter:Expr}{sts:List Stmt}{fi:En->R (List T)}{g:T->En->R En}{fb:En->RS}(hp:PassesOwn (model X.prog X.w) X.A X.env X.xe)(hc:X.calm=true)(hi:wc X Y tg iter fi)(hg:VP X Y tg g)(hb:jF X Y sts fb)
  (hs:∀x,foldedSetIterable iter X.env x=pure x:=by intro _;rfl):ZJ X Y (.For tg iter sts [] pos) (UL fi g fb):= .mk λρ=>by
 obtain⟨tG,hG,hG'⟩:=hg;refine PS.imp (V7 (tb:=λD σ H=>∃ρ',tSS Y fb ρ' D σ H) hp hc (hi ρ) hG (λpins s σ H D I ⟨ρ',q⟩=>hb ρ' _ s σ H D I q) hs) λD σ H ⟨B,I,q⟩=> ?_;refine Jb I q λts J H1 _ s1 r1 I1 q1=> ?_;refine⟨λi m σ' H' =>m=ts.length - i/\i<=ts.length/\∃ρ' B',SI Y B' ρ' σ' H' /\zh _ B' /\PoS Y B' (JF g fb (ts.drop i) ρ') D,⟨ts.length,by simp,bE _,ρ,_,I1,zh.refl _,q1⟩, ?_⟩
 rintro i m σ' H' ⟨rfl,hi,ρ',B',I',sB',q'⟩
 obtain⟨hgo,hyld,hstop⟩:=r1 B' H' sB' I'.sB
 by_cases hlt:i < ts.length
 ·refine .inr ⟨hgo i hlt,λσ2 H2=>∃ρ2 B2,SI Y B2 ρ2 σ2 H2/\zh _ B2/\PoS Y B2 _ D,λσ2 H2 ⟨ρ2,B2,I2,s2,q2⟩=>⟨ts.length - (i+1),by omega,rfl,hlt,ρ2,B2,I2,s2,q2⟩,λx H2 y=> ?_⟩
  obtain⟨s2,r2⟩:=hyld i _ x H2 (az hlt) y;rw[bc hlt]at q';unfold JF at q';refine hG' _ ρ' σ' H2 x _ _ (I'.grow s2) r2 ?_;cases eg:g _ ρ' with
  | bad=>rw[eg]at q';exact q'
  | ex c=>rw[eg]at q';exact q'
  | ok ρ1=>
   rw[eg]at q';intro σ1 J1;refine⟨ρ1,_,J1, ?_⟩;have q2:=PoS.up (zx.ge I'.sB s2) q';dsimp only at q2;have s3:=sB'.trans (zx.ge I'.sB s2);revert q2;cases fb ρ1 with
   | nx ρ2=>exact λq2 σ3 H3 B3 s4 I3=>⟨ρ2,B3,I3,s3.trans s4,PoS.up s4 q2⟩
   | ct ρ2=>exact λq2 σ3 H3 B3 s4 I3=>⟨ρ2,B3,I3,s3.trans s4,PoS.up s4 q2⟩
   | bk ρ2=>exact λq2=>q2
   | rt t=>exact λq2=>q2
   | rf t=>exact λq2=>q2
   | ex c=>exact λq2=>q2
   | bad=>exact λq2=>q2
 ·have e:i=ts.length:=by omega
  subst e;rw[cU]at q';exact .inl ⟨hstop _ (aj _),q' σ' H' B' (zh.refl _) I'⟩
end
theorem Jc {env:Env}:∀(ns:List (Str×NameKind)) (acc:List (Str×Addr)),(∀x∈ns,x.2=NameKind.free->∃c,env.cells.lookup x.1=some c)->(∀x c,acc.lookup x=some c->env.cells.lookup x=some c)->
  ∃cl,(forIn ns acc (λ(x:Str×NameKind) (r:List (Str×Addr))=>if (x.2 == NameKind.free)=true then (do let c ← cellOf env x.1;pure (ForInStep.yield ((x.1,c) :: r))) else pure (ForInStep.yield r)):Sem _)=pure cl/\
   (∀x c,cl.lookup x=some c->env.cells.lookup x=some c)/\(∀x c,acc.lookup x=some c->∃c',cl.lookup x=some c')/\(∀x∈ns,x.2=NameKind.free->∃c,cl.lookup x.1=some c)
 | [],acc,_,h=>⟨acc,rfl,h,λx c e=>⟨c,e⟩,λx hx=>by simp at hx⟩
 | (n,k) :: ns,acc,hf,h=>by
  by_cases hk:k=NameKind.free
  ·obtain⟨c,hc⟩:=hf _ ai hk;have h' :∀x d,((n,c) :: acc).lookup x=some d->env.cells.lookup x=some d:=λx d e=>by
    by_cases hx:x=n
    ·subst hx;have e' :=by simpa[ao] using e
     cases e';exact hc
    ·have e' :=by
      rw[ao,(beq_eq_false_iff_ne.mpr hx)]at e;exact e
     exact h x d e'
   obtain⟨cl,e,h1,h2,h3⟩:=Jc ns _ (λx hx=>hf x (aa _ hx)) h';refine⟨cl, ?_,h1,λx d ed=> ?_,λx hx hxf=> ?_⟩
   ·rw[d9];subst hk;have q:cellOf env n=pure c:=by unfold cellOf;rw[hc]
    simp only[beq_self_eq_true,if_true,q];exact e
   ·by_cases hx:x=n
    ·subst hx;exact h2 x c (by simp[ao])
    ·exact h2 x d (by rw[ao,(beq_eq_false_iff_ne.mpr hx)];exact ed)
   ·rcases ak.mp hx with rfl | hx
    ·exact h2 n c (by simp[ao])
    ·exact h3 x hx hxf
  ·obtain⟨cl,e,h1,h2,h3⟩:=Jc ns acc (λx hx=>hf x (aa _ hx)) h;refine⟨cl, ?_,h1,h2,λx hx hxf=> ?_⟩
   ·rw[d9];have q:(k == NameKind.free)=false:=by simpa using hk
    simp only[q,aF,if_false];exact e
   ·rcases ak.mp hx with rfl | hx
    ·exact absurd hxf hk
    ·exact h3 x hx hxf
theorem wd {scope:Scope}{env:Env}(hf:∀x∈scope.names,x.2=NameKind.free->∃c,env.cells.lookup x.1=some c):
  ∃cl,closureFor scope env=pure cl/\(∀x c,cl.lookup x=some c->env.cells.lookup x=some c)/\(∀x∈scope.names,x.2=NameKind.free->∃c,cl.lookup x.1=some c):=by
 obtain⟨cl,e,h1,_,h3⟩:=Jc _ [] hf (λx c e=>by simp at e)
 refine⟨cl, ?_,h1,h3⟩;unfold closureFor;exact(by simpa using e)
def cxC (X:Cx)(scope:Scope)(N' :List Str)(cl:List (Str×Addr))(C:Addr)(s3:Shared)(H3:Hp)(fp:List Addr)(pins:List (Addr×Obj)):Cx:=
 { X with N:=N',s₀:=s3,H₀:=H3,env:=compEnvC scope cl C X.env,outer:=X.stack,stack:=X.stack,ex:=fp,fn:=λ_=>false,pn:=X.pn++pins,xe:=λ_ _=>False }
structure CSc (X:Cx) (scope:Scope):Prop where
 kind:scope.kind= .function
 nocell:∀x∈scope.names,x.2 ≠ .cell
 loc:∀x∈scope.names,x.2= .local->scope.names.lookup x.1=some .local
 fre:∀x∈scope.names,x.2= .free->X.env.kindOf x.1=some .cell\/X.env.kindOf x.1=some .free
theorem ji {scope:Scope}{env:Env}{x:Str}{k:NameKind}(h:(relabel scope env).names.lookup x=some k)(hk:k= .cell\/k= .free)(hn:∀x∈scope.names,x.2 ≠ NameKind.cell):∃y∈scope.names,y.1=x/\y.2= .free:=by
 have go:∀ns:List (Str×NameKind),(∀x∈ns,x.2 ≠ NameKind.cell)->(ns.map λ(n,k)=>if (k == NameKind.free && env.scope.kind == .function && env.kindOf n == some .cell) then (n,NameKind.cell) else (n,k)).lookup x=some k->∃y∈ns,y.1=x/\y.2= .free:=by
  intro ns
  induction ns with
  | nil=>intro _ h;simp at h
  | cons y ns ih=>
   intro hn h;obtain⟨n,k'⟩:=y
   by_cases hx:x=n
   ·subst hx;refine⟨(x,k'),ai,rfl, ?_⟩;rw[aZ]at h
    by_cases hc:(k' == NameKind.free && env.scope.kind == .function && env.kindOf x == some .cell)=true
    ·rw[a9,a9]at hc;exact eq_of_beq hc.1.1
    ·simp only[if_neg hc,ao,beq_self_eq_true]at h;cases h;rcases hk with rfl | rfl
     ·exact absurd rfl (hn _ ai)
     ·rfl
   ·obtain⟨z,hz,h1,h2⟩:=ih (λz hz=>hn z (aa _ hz)) (by
     rw[aZ]at h
     by_cases hc:(k' == NameKind.free && env.scope.kind == .function && env.kindOf n == some .cell)=true
     ·simp only[if_pos hc,ao,(beq_eq_false_iff_ne.mpr hx)]at h;exact h
     ·simp only[if_neg hc,ao,(beq_eq_false_iff_ne.mpr hx)]at h;exact h)
    exact⟨z,aa _ hz,h1,h2⟩
 exact go _ hn h
section
variable {X:Cx}{pins:List (Addr×Obj)}{σ:Sg}{H:Hp}{s:Shared}
theorem W3 {scope:Scope}{N' :List Str}{cl:List (Str×Addr)}{fp:List Addr}{h' :Heap}{tk:Nat}{σ' :Sg}(I:L2.Inv X pins σ H s)(S:CSc X scope)(hc:X.calm=true)
  (hcl:∀x c,cl.lookup x=some c->X.env.cells.lookup x=some c) (hcf:∀x∈scope.names,x.2=NameKind.free->∃c,cl.lookup x.1=some c)
  (hfp:∀b∈fp,jW X pins H b) (hfo:∀b∈fp,∃o,s.heap.get? b=some o)
  (hns:h'.Ns s.heap.objs.size (λ_=>none)) (hk:∀b o,s.heap.get? b=some o->h'.get? b=some o)
  (hl:σ'.length=N'.length) (hσ:∀(i:Nat) (x:Str) (v:V),N'[i]? =some x->σ'[i]? =some (some v)->∃j:Nat,X.N[j]? =some x/\σ[j]? =some (some v)/\Vis X.env.scope x/\(scope.names.lookup x=some .free)/\(X.env.kindOf x=some .cell\/X.env.kindOf x=some .free)):
  L2.Inv (cxC X scope N' cl s.heap.objs.size s H fp pins) [] σ' H { s with heap:=h',toks:=tk }:=by
 have stk:=I.stkSub;have hlt:=λb hb=>let ⟨o,e⟩:=hfo b hb;ag e;have fresh:=I.hok.fresh (aj _);refine⟨⟨I.ok.mod,S.kind,I.ok.glob,I.ok.blt,aj _,λx y c h1 h2=>I.ok.inj x y c (hcl _ _ h1) (hcl _ _ h2),λx hx=> ?_,λx c h _=>(aQ h).elim,λ_=>I.ok.hd hc,I.ok.frames,.inl rfl,λb hb=> ?_,I.bs,
   aC I.ok.bsz I.sz,λb o e hb=> ?_,λb hb hb' => ?_,I.stack,I.stkFree⟩,rfl,I.bare,Un.kept hk,⟨_,hns,λi x v h1 h2 h3=> ?_⟩,λx c e=> ?_,fresh,λx c e=>I.freeC x c (hcl _ _ e),λp hp=> ?_,I.hok.kept hk,hl⟩
 ·have hx' :=hx;obtain⟨y,hy,rfl,hyf⟩:∃y∈scope.names,y.1=x/\y.2= .free:=by
   rcases hx' with h | h
   ·exact ji h (.inl rfl) S.nocell
   ·exact ji h (.inr rfl) S.nocell
  exact hcf y hy hyf
 ·refine⟨aB (hlt b hb),λx c e=>(hfp b hb).2.2.2.2.1 x c (hcl _ _ e)⟩
 ·rcases(hfp b hb).2.2.2.1 with h | h
  ·exact I.ok.noex b o e h
  ·exact absurd (ar (ag e) (aC I.ok.bsz h)) (aS _)
 ·have q:=hfp b hb;rcases ak.mp (stk b hb') with z | z
  ·exact q.2.1 z
  ·exact q.2.2.1 z
 ·obtain⟨j,e1,e2,e3,e4,e5⟩:=hσ i x v h1 h2;obtain⟨m,hn,hloc⟩:=I.loc;obtain⟨u,ru,lk⟩:=hloc j x v e1 e2 e3;refine⟨u,ru,.inr ⟨?_, ?_⟩⟩
  ·rcases h3 with h | h | h
   ·exfalso;have:∀ns:List _,ns.lookup x=some .free->(ns.map λ(n,k)=>if (k == NameKind.free && X.env.scope.kind == .function && X.env.kindOf n == some .cell) then (n,NameKind.cell) else (n,k)).lookup x ≠ some .local:=by
     intro ns
     induction ns with
     | nil=>intro z;simp at z
     | cons y ns ih=>
      obtain⟨n,k⟩:=y;intro z w;rw[aZ]at w
      by_cases hx:x=n
      ·subst hx;have hkf:=by simpa[ao] using z
       by_cases hcn:(k == NameKind.free && X.env.scope.kind == .function && X.env.kindOf x == some .cell)=true
       ·simp only[if_pos hcn,ao,beq_self_eq_true]at w;cases w
       ·simp only[if_neg hcn,ao,beq_self_eq_true]at w;rw[hkf]at w;cases w
      ·have z' :=by rw[ao,(beq_eq_false_iff_ne.mpr hx)]at z;exact z
       refine ih z' ?_
       by_cases hcn:(k == NameKind.free && X.env.scope.kind == .function && X.env.kindOf n == some .cell)=true
       ·simp only[if_pos hcn,ao,(beq_eq_false_iff_ne.mpr hx)]at w;exact w
       ·simp only[if_neg hcn,ao,(beq_eq_false_iff_ne.mpr hx)]at w;exact w
    exact this _ e4 h
   ·exact .inl h
   ·exact .inr h
  ·rcases lk with ⟨hk',_⟩ | ⟨_,c,hc',hcell⟩
   ·rcases e5 with z | z <;> (rw[z]at hk';cases hk')
   ·obtain⟨c',hc2⟩:=hcf _ (aR e4) rfl;have:=hcl x c' hc2;rw[hc']at this;cases this;obtain⟨o,eo,ed⟩:=hcell;exact⟨c,hc2,o,hk _ _ eo,ed⟩
 ·obtain⟨v,o,eo,ed⟩:=I.cell x c (hcl _ _ e);exact⟨v,o,hk _ _ eo,ed⟩
 ·have hp' :=by
   have:=hp;rwa[aT]at this
  obtain⟨e,n,ne,nf,dc⟩:=I.pin p hp';refine⟨hk _ _ e,n,aB (ag e),λhb=> ?_,dc⟩;rcases ak.mp (stk _ hb) with z | z
  ·exact ne z
  ·exact nf z
end
def PIf (X:Cx)(ifs:List Expr)(t:TT):Prop:=
 ∀(pins:List (Addr×Obj)) (s:Shared) (σ:Sg) (H:Hp) (Q:Bool->Hp->Prop),L2.Inv X pins σ H s->t σ H Q->
  wpAny (model X.prog X.w) X.A (forIn ifs true λc r=>if r=true then do let ok ← isTrue c X.env (eval c X.env);pure (ForInStep.yield ok) else pure (ForInStep.yield r)) (TP X pins σ Q) X.xe s
theorem QE {X:Cx}:PIf X [] (λ_ H Q=>Q true H):=λ_ _ σ H _ I h=>wpAny_tests_nil ⟨H,I,h⟩
noncomputable abbrev XE (X:Cx)(xe:Value->Shared->Prop):Cx:={ X with xe:=xe }
theorem W4 {X:Cx}{pins:List (Addr×Obj)}{σ:Sg}{H:Hp}{s:Shared}{xe:Value->Shared->Prop}(I:L2.Inv X pins σ H s):L2.Inv (XE X xe) pins σ H s:=
 ⟨⟨I.ok.mod,I.ok.kind,I.ok.glob,I.ok.blt,I.ok.above,I.ok.inj,I.ok.has,I.ok.cab,I.ok.hd,I.ok.frames,I.ok.stk,I.ok.exf,I.ok.bs,I.ok.bsz,I.ok.noex,I.ok.exfs,I.ok.funs,I.ok.frf⟩,I.os,I.bare,I.base,I.loc,I.cell,I.free,I.freeC,I.pin,I.hok,I.len⟩
theorem u8 {X:Cx}{pins:List (Addr×Obj)}{σ:Sg}{H:Hp}{s:Shared}{xe:Value->Shared->Prop}(I:L2.Inv (XE X xe) pins σ H s):L2.Inv X pins σ H s:=(W4 I:L2.Inv _ _ σ H s)
theorem VS {X:Cx}{e:Expr}{t:TG}{xe:Value->Shared->Prop}(hx:X.xe=λ_ _=>False)(h:PG X e t):PG (XE X xe) e t:=λpins s σ H v u Q I r q=>aG (h _ s σ H v u Q (u8 I) r q) (λ_ s' ⟨σ',H',I',q'⟩=>⟨σ',H',W4 I',q'⟩) λe s' z=>by rw[hx]at z;exact z.elim
theorem qz {X:Cx}{e:List Expr}{t:TT}{xe:Value->Shared->Prop}(hx:X.xe=λ_ _=>False)(h:PIf X e t):PIf (XE X xe) e t:=λpins s σ H Q I q=>aG (h _ s σ H Q (u8 I) q) (λ_ s' ⟨H',I',q'⟩=>⟨H',W4 I',q'⟩) λe s' z=>by rw[hx]at z;exact z.elim
theorem Jd {α:Type}{M:Model}{A:Around}{m:Sem α}{Q:α->Shared->Prop}{E E' :Value->Shared->Prop}{s:Shared}(hE:∀e s',E' e s' ->E e s')(h:wpAny M A m Q E' s):wpAny M A m Q E s:=aG h (λ_ _ q=>q) hE
def W5 (J:It)(D:Addr)(g:TG)(tt:TT)(te:TE)(fin:Sg->Hp->Prop)(W:Nat->Nat->List V->Sg->Hp->Prop):Prop:=
 ∀i m ys σ H,W i m ys σ H->H D=some (.lst ys)/\((J.stop i H/\fin σ H)\/(J.go i H/\∀x H2,J.yld i H x H2->g x σ H2 λσ3 H3=>tt σ3 H3 λk H4=>
  if k=true then te σ3 H4 λv H5=>H5 D=some (.lst ys)/\ys.length < sizeLine/\∃m',m' < m/\W (i+1) m' (ys++[v]) σ3 (upd H5 D (.lst (ys++[v]))) else ∃m',m' < m/\W (i+1) m' ys σ3 H4))
theorem UM {X:Cx}{R:Result->Shared->Prop}(hx:∀e s',X.xe e s' ->notedBy (model X.prog X.w) X.A X.env (λe s' =>R (.error e) s') e s')(hc:X.calm=true){tg iter elt:Expr}{ifs:List Expr}{scope:Scope}{pos:Pos}{J:It}{fp:List Addr}{it:Addr}{tn:Nat->Heap->Prop}(TJ:U2 X.prog X.w X.K tg J fp it tn)
  {g:TG} {tt:TT} {te:TE} (hg:PG X tg g) (ht:PIf X ifs tt) (he:PE X elt te) {D:Addr} {fin:Sg->Hp->Prop} (W:Nat->Nat->List V->Sg->Hp->Prop) (turn:W5 J D g tt te fin W)
  (hR:∀s σ H,L2.Inv X [] σ H s->fin σ H->R (.ok .next) s) {m0:Nat} {σ0:Sg} {H0:Hp} {s0:Shared} (w0:W 0 m0 [] σ0 H0) (I0:L2.Inv X [] σ0 H0 s0) (t0:tn 0 s0.heap) (f0:∀b∈fp,jW X [] H0 b):
  codeAny (model X.prog X.w) X.A (.compLoop (.ListComp elt [⟨tg,iter,ifs,0⟩] scope pos) 0 (.ref it) (.ref D) X.env) R s0:=by
 have stat:∀{H' :Hp},(∀b∈fp,H' b=none)->∀b∈fp,jW X [] H' b:=λhn b hb=>⟨hn b hb,(f0 b hb).2⟩;refine codeAny_loop rfl (λn s' =>∃i ys σ' H',L2.Inv X [] σ' H' s' /\tn i s'.heap/\(∀b∈fp,H' b=none)/\W i n ys σ' H') (λn s3 h3=> ?_) m0 ⟨0,[],σ0,H0,I0,t0,λb hb=>(f0 b hb).1,w0⟩;obtain⟨i,ys,σ3,H3,I3,st3,fr3,w3⟩:=h3;show wpAny _ X.A ((compTurn _ 0 _ _ _).onRaise (λx=>do noteFrame x _;theTreesLotGoes x)) _ _ s3
 refine wpAny_noted ?_;obtain⟨hD,h⟩:=turn i n ys σ3 H3 w3;rcases h with ⟨stop,qn⟩ | ⟨go,next⟩
 ·refine a8 (aN (a8 (thn (TJ.done X rfl rfl rfl hc i [] s3 σ3 H3 _ I3 (stat fr3) st3 stop) λr s4 ⟨hr,I4⟩=> ?_)));subst hr;exact aw (hR s4 σ3 H3 I4 qn)
 ·refine a8 (aN (a8 (thn (TJ.item X rfl rfl rfl hc i [] s3 σ3 H3 _ I3 (stat fr3) st3 go) λr s4 ⟨u,hr,h4⟩=> ?_)));subst hr;refine a8 (thn h4 λ_ s5 ⟨x,H5,I5,r5,y5,st5,fr5⟩=> ?_);have I5' :=I5.pinned (stat fr5) (TJ.obj _ _ st5);refine a8 (Jd hx (thn (hg _ s5 σ3 H5 x u _ I5' r5 (next x H5 y5)) λ_ s6 ⟨σ6,H6,I6,q6⟩=> ?_));have again:∀{σ7:Sg} {H7:Hp} {s7:Shared} {ys' :List V},L2.Inv X _ σ7 H7 s7->(∃m',m' < n/\W (i+1) m' ys' σ7 H7)->∃m,m < n/\∃i ys σ' H',L2.Inv X [] σ' H' s7/\tn i _/\(∀b∈fp,H' b=none)/\W i m ys σ' H' :=λ{σ7 H7 s7 ys'} I7 ⟨m',hm,w7⟩=>by
   refine⟨m',hm,i+1,ys',σ7,H7,I7.unpinned,TJ.keep _ _ _ st5 λb hb o e=>(I7.pin _ (au _ (au _ (zU hb e)))).1,λb hb=> ?_,w7⟩;obtain⟨o,e,d⟩:=TJ.obj _ _ st5 b hb;exact(I7.pin _ (au _ (au _ (zU hb e)))).2.1
  refine a8 (Jd hx (thn (ht _ s6 σ6 H6 _ I6 q6) λk s7 ⟨H7,I7,q7⟩=> ?_));cases k with
  | false=>exact aw ⟨rfl,again I7 q7⟩
  | true=>
   refine a8 (a8 (Jd hx (thn (he _ s7 σ6 H7 _ I7 q7) λv s8 ⟨y,H8,I8,r8,hD8,hlen,q8⟩=> ?_)));refine a8 (Jd hx (thn (J0 _ s8 σ6 H8 (.ref D) [y] _ [v] (λ_ H9=>∃m',m' < n/\W _ m' _ σ6 H9) I8 rfl (.cons r8 .nil) ⟨D,ys,y,rfl,rfl,hD8,hlen,q8⟩) λw s9 ⟨_,H9,I9,_,q9⟩=> ?_));exact aw (aw ⟨rfl,again I9 q9⟩)
def jw (k:Nat)(js:List Nat)(σ:Sg):Sg:=av k none++js.map λj=>(σ[j]?).getD none
section
variable {X:Cx}
abbrev WI (X:Cx)(scope:Scope)(N' :List Str)(P:Cx->Prop):Prop:=∀cl C s3 H3 fp pins,P (cxC X scope N' cl C s3 H3 fp pins)
abbrev Yl (X:Cx)(scope:Scope)(N' :List Str)(E:XK)(P:Cx->Prop):Prop:=∀cl C s3 H3 fp pins xe,zO (CX1 X.prog X.w) (XE (cxC X scope N' cl C s3 H3 fp pins) xe) E->P (XE (cxC X scope N' cl C s3 H3 fp pins) xe)
structure Ym (X:Cx) (scope:Scope) (N' :List Str) (k:Nat) (js:List Nat):Prop where
 len:N'.length=k+js.length
 cap:∀(i j:Nat),js[i]? =some j->∃x,N'[k+i]? =some x/\X.N[j]? =some x/\Vis X.env.scope x/\scope.names.lookup x=some .free/\(X.env.kindOf x=some .cell\/X.env.kindOf x=some .free)
theorem u9 {E:XK}(hp:Us X E){tg iter elt:Expr}{ifs:List Expr}{scope:Scope}{pos pos' :Pos}{N' :List Str}{k:Nat}{js:List Nat}{wi:TI}{g:TG}{tt:TT}{te:TE}{use:Option (Value->Sem Unit)}(S:CSc X scope)(CP:Ym X scope N' k js)(hc:X.calm=true)
  (hi:PI X tg iter wi) (hg:WI X scope N' λXC=>PG XC tg g) (ht:WI X scope N' λXC=>PIf XC ifs tt) (he:Yl X scope N' E λXC=>PE XC elt te) {pins:List (Addr×Obj)} {σ:Sg} {H:Hp} {s:Shared} {Q:Value->Shared->Prop} {F:Addr->Hp->Prop} (I:L2.Inv X pins σ H s)
  (h:wi σ H λJ H1=>∀D,H1 D=none->∃W,(∃m,W 0 m [] (jw k js σ) (upd H1 D (.lst [])))/\W5 J D g tt te (λ_ H' =>F D H') W)
  (hQ:∀D C H' s',L2.Inv X pins σ H' s' ->F D H' ->H' C=none->(X.s₀.heap.objs.size<=C)->C ≠ X.env.locals->(∀x c,X.env.cells.lookup x=some c->c ≠ C)->(∀p∈X.pn++pins,p.1 ≠ C)->(∃m,s'.heap.Ns C m)->compPost (model X.prog X.w) X.A X.xe use Q (.ref D) C (.ok .next) s')
  (hs:∀x,foldedSetIterable iter X.env x=pure x:=by intro _;rfl):
  wpAny (model X.prog X.w) X.A (comprehension (.ListComp elt [⟨tg,iter,ifs,0⟩] scope pos) scope X.env pos' (newList []) false (eval iter X.env) use) Q X.xe s:=by
 obtain⟨cl,ecl,hcl,hcf⟩:=wd (scope:=scope) (env:=X.env) λx hx hf=>I.ok.has x.1 (S.fre x hx hf);refine wpAny_comprehension_free rfl hs ecl S.kind S.loc ?_;refine thn (hi pins s σ H _ I h) λv s1 h1=>thn h1 λitv s2 h2=> ?_;obtain⟨it,fp,tn,J,H2,e,I2,TJ,st2,f2,q2⟩:=h2;subst e;refine bW ?_;have hD:=I2.hok.fresh (aj _);have I3:L2.Inv X pins σ (upd H2 s2.heap.objs.size (.lst [])) { s2 with heap:=s2.heap.push { cls:= .type "list",data:= .seq _ } }:=
  I2.laid (t' :=s2.toks) (λb u e=>a7 _ e) (aj _) ⟨bE _,[],_,.nil,am _ rfl⟩
 obtain⟨W,⟨m0,w0⟩,turn⟩:=q2 s2.heap.objs.size hD;have f3:∀b∈fp,jW X pins (upd H2 s2.heap.objs.size (.lst [])) b:=λb hb=>by
  obtain⟨o,eo,_⟩:=TJ.obj _ _ st2 b hb;exact⟨by rw[zg (aB (ag eo))];exact(f2 b hb).1,(f2 b hb).2⟩
 have o3:∀b∈fp,∃o,(s2.heap.push { cls:= .type "list",data:= .seq ([]:List Value).toArray }).get? b=some o:=λb hb=>by
  obtain⟨o,eo,_⟩:=TJ.obj _ _ st2 b hb;exact⟨o,a7 _ eo⟩
 refine wpAny_newFunctionEnv S.nocell (by intro y hy;simp at hy) (λh4 hns4 hsb4=> ?_) S.kind
 generalize hG:s2.heap.push _=G3 at I3 o3 hns4 hsb4 ⊢;have s3e:∃s3:Shared,s3={ s2 with heap:=G3 }:=⟨_,rfl⟩;obtain⟨s3,es3⟩:=s3e;have hh3:s3.heap=s2.heap.push { cls:= .type "list",data:= .seq ([]:List Value).toArray }:=by rw[es3,hG]
 have hg3:G3=s3.heap:=by rw[es3]
 rw[← es3]at I3;rw[hg3]at hns4 hsb4 o3;have k4:=λb o e=>hsb4.extBut b o (aB (ag e)) (a7 _ e);have IC:=W3 (N' :=N') (cl:=cl) (fp:=fp) (σ' :=jw k js σ) (tk:=s3.toks+([]:List (Str×Value)).length) I3 S hc hcl hcf f3 o3 hns4 k4 (by unfold jw;simp[CP.len]) (λi x v h1 h2=>by
  unfold jw at h2
  by_cases hik:i < k
  ·rw[aP (by simpa using hik),aA,if_pos hik]at h2
   cases h2
  ·have hk' :k<=i:=by omega
   rw[aJ (by simpa using hk'),aV,ax]at h2
   cases ej:js[i - k]? with
   | none=>rw[ej]at h2;cases h2
   | some j=>
    rw[ej]at h2;obtain⟨y,e1,e2,e3,e4,e5⟩:=CP.cap (i - k) j ej;have:k+(i - k)=i:=by omega
    rw[this,h1]at e1;cases e1;refine⟨j,e2, ?_,e3,e4,e5⟩;have h2' :some ((σ[j]?).getD none)=some (some v):=h2;cases ez:σ[j]? with
    | none=>rw[ez]at h2';cases h2'
    | some z=>rw[ez]at h2';exact congrArg some (aq h2'))
 have TC:U2 _ _ _ tg J fp it tn:=TJ;have t4:tn 0 h4:=TJ.keep _ _ _ st2 λb hb o e=>k4 b o (by rw[hh3];exact a7 _ e)
 have fC:∀b∈fp,jW (cxC X scope N' cl s3.heap.objs.size s3 (upd H2 s2.heap.objs.size (.lst [])) fp pins) [] _ b:=λb hb=>by
  obtain⟨q0,q1,q2,q3,q4,q5⟩:=f3 b hb;obtain⟨o,eo⟩:=o3 b hb;refine⟨q0,aB (ag eo),λhb' => ?_,.inl hb,λx c e=>q4 x c (hcl _ _ e),λp hp=> ?_⟩
  ·rcases ak.mp (I3.stkSub b hb') with z | z
   ·exact q1 z
   ·exact q2 z
  ·exact q5 p (by
    have:=hp;rwa[aT]at this)
 have fin:∀(s5:Shared) (σ5:Sg) (H5:Hp),L2.Inv (cxC X scope N' cl s3.heap.objs.size s3 (upd H2 s2.heap.objs.size (.lst [])) fp pins) [] σ5 H5 s5->F s2.heap.objs.size H5->compPost (model X.prog X.w) X.A X.xe use Q _ s3.heap.objs.size (.ok .next) s5:=λs5 σ5 H5 I5 q5=>by
  have J5:=I3.call' (ch:=fp) I5.os I5.base I5.hok I5.bare λb hb=>by
   obtain⟨q0,q1,q2,q3,q4,q5⟩:=f3 b hb;exact⟨q3,q1,q4,q5⟩
  refine hQ _ _ H5 s5 J5 q5 I5.free I3.sz (ce I3.lt) (λx c e z=> ?_) (λp hp z=> ?_) (let ⟨m,hm,_⟩:=I5.loc;⟨m,hm⟩)
  ·obtain⟨v',o,eo,_⟩:=I3.cell x c e;exact absurd (ag eo) (by rw[z];exact aS _)
  ·exact absurd (ag (I3.pin p hp).1) (by rw[z];exact aS _)
 have pass:zO (CX1 X.prog X.w) (XE (cxC X scope N' cl s3.heap.objs.size s3 (upd H2 s2.heap.objs.size (.lst [])) fp pins) (notedBy (model X.prog X.w) X.A (compEnvC scope cl s3.heap.objs.size X.env) λe s' =>compPost (model X.prog X.w) X.A X.xe use Q (.ref s2.heap.objs.size) s3.heap.objs.size (.error e) s')) E:=by
  intro pins1 σ1 H1 s1 e s' I1 c1;have J1:=I3.call' I1.os I1.base I1.hok I1.bare λb hb=>by
   obtain⟨q0,q1,q2,q3,q4,q5⟩:=f3 b hb;exact⟨q3,q1,q4,q5⟩
  obtain⟨m1,hm1,_⟩:=I1.loc;refine thn (hp pins σ H1 s1 e s' _ m1 _ _ J1 hm1 I1.free I3.sz (λz=> ?_) rfl c1) λ_ s'' q=> ?_
  ·obtain⟨_,o,eo,_⟩:=I3.stack.mem z;exact absurd (ag eo) (aS _)
  ·cases use <;> exact q
 have loop:=UM (X:=XE (cxC X scope N' cl _ s3 _ fp _) (notedBy _ X.A _ λe s' =>compPost _ X.A _ use Q _ _ _ s')) (iter:=iter) (scope:=scope) (pos:=pos) (λ_ _ z=>z) hc TC (VS rfl (hg _ _ _ _ _ _)) (qz rfl (ht _ _ _ _ _ _)) (he _ _ _ _ _ _ _ pass) W turn (λs5 σ5 H5 I5=>fin s5 σ5 H5 (u8 I5)) w0 (W4 IC) t4 fC;rw[es3]at loop;exact codeAny_compStart_list loop (TJ.self _ _ _ _ _ t4 loop)
end
def zt (g:T->En->R En)(ft:En->R Bool)(fe:En->R T):List T->En->R (List T)
 | [],_=> .ok []
 | t :: ts,ρ=>(g t ρ).bind λρ1=>(ft ρ1).bind λk=>if k=true then (fe ρ1).bind λv=>(zt g ft fe ts ρ1).bind λvs=> .ok (v :: vs) else zt g ft fe ts ρ1
noncomputable def WJ:Option Sl->Sl
 | some (.vl t)=> .vl t
 | some (.ob k _)=> .oc k []
 | some (.oc k fs)=> .oc k fs
 | _=> .un
def JC (k:Nat)(js:List Nat)(ρ:En):En:=av k .un++js.map λj=>WJ ρ[j]?
noncomputable def quiet {α:Type}:R α->R α
 | .ok a=> .ok a
 | _=> .bad
def Zr (g:T->En->R En)(ft:En->R Bool)(fe:En->R T)(k:Nat)(js:List Nat)(ρ:En)(ts:List T):R (List T):=if ts.length<=bnd then quiet (zt g ft fe ts (JC k js ρ)) else .bad
def Zd (fi:En->R (List T))(g:T->En->R En)(ft:En->R Bool)(fe:En->R T)(k:Nat)(js:List Nat):En->R T:=λρ=>(fi ρ).bind λts=>(Zr g ft fe k js ρ ts).bind λvs=> .ok (.lst vs)
def GOk (tG:TG)(g:T->En->R En):Prop:=∀Y B ρ σ H v x Q,SI Y B ρ σ H->Rep B v x->(match g x ρ with | .ok ρ' =>∀σ',SI Y B ρ' σ' H->Q σ' H | _=>False)->tG v σ H Q
theorem we (i:Nat):GOk (jN i) (Z5 i):=λY B ρ σ H v x Q I r q=>q _ (I.setV i r)
theorem Yn (K:a6)(i j:Nat):GOk (Xl K 2 (Ue (jN i) (Ue (jN j) XJ))) (Z9 i j):=λY B ρ σ H v t Q I r q=>by
 cases r with
 | @tup l xs ts h r=>
  cases r with
  | nil=>exact q.elim
  | cons r1 rr=>
   cases rr with
   | nil=>exact q.elim
   | cons r2 rr=>
    cases rr with
    | cons _ _=>exact q.elim
    | nil=>exact⟨l,_,rfl,SqT.of (I.sB _ _ h),rfl,_,_,rfl,_,_,rfl,rfl,q _ ((I.setV i r1).setV j r2)⟩
 | _=>exact q.elim
theorem SI.blockS {Y:Fx}{B:Hp}{ρ:En}{σ:Sg}{H H' :Hp}(I:SI Y B ρ σ H)(k:Nat)(js:List Nat)(E:XK)(s:zh H H'):SI ⟨B,H,E,Y.cl,[]⟩ B (JC k js ρ) (jw k js σ) H' where
 s0:=I.sB
 sH:=s
 sB:=I.sB.trans s
 old:=λ_ _ _=>rfl
 len:=by unfold JC jw;simp
 vl:=λi t h=>by
  unfold JC at h;unfold jw
  by_cases hik:i < k
  ·rw[aP (by simpa using hik),aA,if_pos hik]at h;cases h
  ·have hk' :k<=i:=by omega
   rw[aJ (by simpa using hk'),aV,ax]at h ⊢
   cases ej:js[i - k]? with
   | none=>rw[ej]at h;cases h
   | some j=>
    rw[ej]at h;have h' :WJ ρ[j]? = .vl t:=aq h;unfold WJ at h';split at h'
    ·rename_i u e;cases h';obtain⟨v,e1,r⟩:=I.vl j _ e;exact⟨v,by show some ((σ[j]?).getD none)=_;rw[e1];rfl,r⟩
    all_goals cases h'
 ow:=λi ts h=>by
  exfalso;unfold JC at h
  by_cases hik:i < k
  ·rw[aP (by simpa using hik),aA,if_pos hik]at h;cases h
  ·have hk' :k<=i:=by omega
   rw[aJ (by simpa using hk'),aV,ax]at h
   cases ej:js[i - k]? with
   | none=>rw[ej]at h;cases h
   | some j=>
    rw[ej]at h;have h' :WJ ρ[j]? = .ow ts:=aq h;unfold WJ at h';split at h' <;> cases h'
 xc:=λi c h=>by
  exfalso;unfold JC at h
  by_cases hik:i < k
  ·rw[aP (by simpa using hik),aA,if_pos hik]at h;cases h
  ·have hk' :k<=i:=by omega
   rw[aJ (by simpa using hk'),aV,ax]at h
   cases ej:js[i - k]? with
   | none=>rw[ej]at h;cases h
   | some j=>
    rw[ej]at h;have h' :WJ ρ[j]? = .xc c:=aq h;unfold WJ at h';split at h' <;> cases h'
 st:=by
  have get:∀(i:Nat) (x:Sl),x.isO=true->(JC k js ρ)[i]? =some x->∃j,js[i - k]? =some j/\k<=i/\WJ ρ[j]? =x:=λi x hx h=>by
   unfold JC at h
   by_cases hik:i < k
   ·rw[aP (by simpa using hik),aA,if_pos hik]at h
    cases h;cases hx
   ·have hk' :k<=i:=by omega
    rw[aJ (by simpa using hk'),aV,ax]at h
    cases ej:js[i - k]? with
    | none=>rw[ej]at h;cases h
    | some j=>
     rw[ej]at h;exact⟨j,rfl,hk',aq h⟩
  refine⟨[],λ_=>none,dw _,λi os h=> ?_,λi _ os _ h=> ?_,λi k' n h=> ?_,λi k' fs h=> ?_,λi os h=> ?_⟩
  ·obtain⟨j,_,_,e⟩:=get i _ rfl h;unfold WJ at e;split at e <;> cases e
  ·obtain⟨j,_,_,e⟩:=get i _ rfl h;unfold WJ at e;split at e <;> cases e
  ·obtain⟨j,_,_,e⟩:=get i _ rfl h;unfold WJ at e;split at e <;> cases e
  ·obtain⟨j,ej,hk',e⟩:=get i _ rfl h;have sg:(jw k js σ)[i]? =some ((σ[j]?).getD none):=by
    unfold jw;rw[aJ (by simpa using hk'),aV,ax,ej];rfl
   obtain⟨as,O,x⟩:=I.st;unfold WJ at e;split at e
   ·cases e
   ·rename_i k2 n2 e2;cases e;obtain⟨a,C,dx,vs,_,e3,e4,e5,_,_,e6⟩:=x.ob j _ _ e2;exact⟨a,C,dx,vs,by rw[sg,e3];rfl,e4,e5,e6,λm f d z=>by cases z⟩
   ·rename_i k2 fs2 e2;cases e;obtain⟨a,C,dx,vs,e3,e4,e5,e6,e7⟩:=x.oc j _ _ e2;exact⟨a,C,dx,vs,by rw[sg,e3];rfl,e4,I.sH _ _ e5,e6,e7.mono (zh.refl _) I.sH⟩
   ·cases e
  ·obtain⟨j,_,_,e⟩:=get i _ rfl h;unfold WJ at e;split at e <;> cases e
theorem SI.block {Y:Fx}{B:Hp}{ρ:En}{σ:Sg}{H H3:Hp}{D:Addr}(I:SI Y B ρ σ H)(k:Nat)(js:List Nat)(E:XK)(hD:H D=none)(o:HO):SI ⟨B,H,E,Y.cl,[]⟩ B (JC k js ρ) (jw k js σ) (upd H D o):=I.blockS k js E (zh.new hD _)
theorem SI.acc {Y:Fx}{B:Hp}{ρ:En}{σ:Sg}{H:Hp}{D:Addr}(I:SI Y B ρ σ H)(hb:B D=none)(h0:Y.H0 D=none)(ho:∀(i:Nat) (ts:List T),ρ[i]? =some (Sl.ow ts)->σ[i]? ≠ some (some (V.ref D)))(hso:∀(i:Nat) (x:Sl),ρ[i]? =some x->Sl.isS x=true->False)(o:HO):SI Y B ρ σ (upd H D o) where
 s0:=I.s0
 sH:=λb u h=>by
  rw[zg (λz=>by subst z;rw[h0]at h;cases h)];exact I.sH b u h
 sB:=λb u h=>by
  rw[zg (λz=>by subst z;rw[hb]at h;cases h)];exact I.sB b u h
 old:=I.old
 len:=I.len
 vl:=I.vl
 ow:=λi ts h=>by
  obtain⟨a,xs,e,b0,h0',hh,r,d⟩:=I.ow i ts h;refine⟨a,xs,e,b0,h0', ?_,r,d⟩;rw[zg (λz=>ho i ts h (by rw[e,z]))];exact hh
 xc:=I.xc
 st:=let ⟨as,O,x⟩:=I.st;⟨as,O,x.pre,λi os h=>hso i _ h rfl |>.elim,λi j os os' h=>hso i _ h rfl |>.elim,λi k n h=>hso i _ h rfl |>.elim,x.oc,λi os h=>hso i _ h rfl |>.elim⟩
def QF (ρ:En):Prop:=∀(i:Nat) (x:Sl),ρ[i]? =some x->(∀ts,x ≠ Sl.ow ts)/\(x.isS=true->False)
theorem ua (k:Nat)(js:List Nat)(ρ:En):QF (JC k js ρ):=λi x h=>by
 unfold JC at h
 by_cases hik:i < k
 ·rw[aP (by simpa using hik),aA,if_pos hik]at h
  cases h;exact⟨λ_=>Sl.noConfusion,aQ⟩
 ·have hk' :=by omega
  rw[aJ (by simpa using hk'),aV,ax]at h
  cases ej:js[i - k]? with
  | none=>rw[ej]at h;cases h
  | some j=>
   rw[ej]at h;have h' :WJ _=x:=aq h;unfold WJ at h';split at h' <;> (subst h';exact⟨λ_=>Sl.noConfusion,aQ⟩)
theorem wf {ρ:En}{i:Nat}{t:T}(h:QF ρ):QF (ρ.set i (.vl t)):=λj x e=>by
 rcases zA e with ⟨_,z⟩ | ⟨_,z⟩
 ·subst z;exact⟨λ_=>Sl.noConfusion,aQ⟩
 ·exact h j x z
def GNo (g:T->En->R En):Prop:=(∀t ρ ρ',QF ρ->g t ρ= .ok ρ' ->QF ρ')/\∀t ρ c,g t ρ ≠ .ex c
theorem wg (i:Nat):GNo (Z5 i):=⟨λt ρ ρ' h e=>by
 cases e;exact wf h,λt ρ c e=>by cases e⟩
theorem Yo (i j:Nat):GNo (Z9 i j):=⟨λt ρ ρ' h e=>(by
 unfold Z9 at e;split at e
 ·cases e;exact wf (wf h)
 ·cases e),λt ρ c e=>by unfold Z9 at e;split at e <;> cases e⟩
section
variable {X:Cx}{Y:Fx}{tg iter elt:Expr}{ifs:List Expr}{scope:Scope}{pos pos' :Pos}{N' :List Str}{k:Nat}{js:List Nat}{fi:En->R (List T)}{tG:TG}{g:T->En->R En}{ft:En->R Bool}{fe:En->R T}
structure jj (X:Cx) (Y:Fx) (ifs:List Expr) (f:En->R Bool):Prop where
 mk ::
 go:∀ρ,PIf X ifs (tS Y rE f ρ)
instance {X:Cx}{Y:Fx}{ifs:List Expr}{f:En->R Bool}:CoeFun (jj X Y ifs f) λ_=>∀ρ,PIf X ifs (tS Y rE f ρ):=⟨jj.go⟩
theorem PIf.imp {X:Cx}{e:List Expr}{t t' :TT}(h:PIf X e t)(i:∀σ H Q,t' σ H Q->t σ H Q):PIf X e t' :=λpins s σ H Q I q=>h _ s σ H Q I (i σ H Q q)
def Zb:En->R Bool:=λ_=> .ok true
theorem VT {X:Cx}:jj X Y [] Zb:= .mk λρ=>PIf.imp QE λσ H Q ⟨B,I,q⟩=>Zi I q rfl
noncomputable def gy (r:R (List T))(P:List T->Prop)(Z:Nat->Prop):Prop:=match r with
 | .ok vs=>P vs
 | .ex c=>Z c
 | .bad=>False
theorem JM {B1 H1:Hp}{σ:Sg}{ρ:En}{J:It}{ts:List T}{r:R (List T)}{D:Addr}{E0:XK}(hG:GOk tG g)(hN:GNo g)(I:SI Y B1 ρ σ H1)(rI' :rI B1 H1 J ts)(hl:ts.length<=bnd)(ev:zt g ft fe ts (JC k js ρ)=r)(hD:H1 D=none){F:Hp->Prop}
  (hF:gy r (λvs=>∀H' xs B',zh H1 H' ->H' D=some (.lst xs)->zC B' xs vs->zh B' (zx B1 H1 H')->B' D=none->zh B1 B' ->F H') λc=>∀d H',zh H1 H' ->zh B1 H' ->E0 (Y.cl c) d H'):
  ∃W,(∃m,W 0 m [] (jw k js σ) (upd H1 D (.lst [])))/\W5 J D tG (λσ H Q=>∃Y' ρ',Y'.cl=Y.cl/\tS Y' rE ft ρ' σ H Q) (λσ H Q=>∃Y' ρ',Y'.cl=Y.cl/\Y'.E=E0/\tS Y' rC fe ρ' σ H Q) (λ_ H' =>F H') W:=by
 refine⟨λi m ys σ' H' =>m=ts.length - i/\i<=ts.length/\ys.length<=i/\H' D=some (.lst ys)/\∃ρ' B' us,SI ⟨B1,H1,E0,Y.cl,[]⟩ B' ρ' σ' H' /\QF ρ' /\zh B1 B' /\B' D=none/\zC B' ys us/\((zt g ft fe (ts.drop i) ρ').bind λws=> .ok (us++ws))=r,
  ⟨ts.length,by simp,bE _,bE _,zl,_,B1,[],I.block (H3:=H1) k js _ hD _,ua k js ρ,zh.refl _,I.sB.free hD,.nil,by rw[dX,ev];cases r <;> rfl⟩, ?_⟩
 rintro i m ys σ' H' ⟨rfl,hi,hyl,hDl,ρ',B',us,I',no',s1',bD,r',ew⟩
 refine⟨hDl, ?_⟩;obtain⟨hgo,hyld,hstop⟩:=rI' B' H' s1' I'.sB;have tD:∀H2,zh H' H2->zx B' H' H2 D=none:=λH2 s=>by rw[zF hDl];exact bD
 by_cases hlt:i < ts.length
 ·refine .inr ⟨hgo i hlt,λx H2 y=> ?_⟩;obtain⟨s2,r2⟩:=hyld i _ x H2 (az hlt) y;rw[bc hlt]at ew;unfold zt at ew;have I2:=I'.grow s2;refine hG _ _ ρ' σ' H2 x _ _ I2 r2 ?_;cases eg:g ts[i] ρ' with
  | bad=>rw[eg]at ew;subst ew;exact hF
  | ex c=>exact(hN.2 _ _ _ eg).elim
  | ok ρ1=>
   rw[eg]at ew;have no1:=hN.1 _ _ _ no' eg;intro σ1 J1;refine⟨⟨B1,H1,E0,Y.cl,[]⟩,ρ1,rfl,_,J1, ?_⟩;have ew1:((ft ρ1).bind (λk=>if k=true then (fe ρ1).bind λv=>(zt g ft fe (ts.drop (i+1)) ρ1).bind λvs=> .ok (v :: vs) else zt g ft fe (ts.drop _) ρ1)).bind (λws=> .ok _)=r:=ew
   cases ef:ft ρ1 with
   | bad=>rw[ef]at ew1;subst ew1;exact hF
   | ex c=>
    rw[ef]at ew1;subst ew1;exact λd H' a b=>hF d H' a ((s1'.trans (zx.ge I'.sB s2)).trans b)
   | ok kk=>
    rw[ef]at ew1;intro b H3 s3 eb;have eb' :=eb;subst eb';have ew2:=ew1;have J2:=J1.grow s3;have hD3:H3 D=some _:=s3 _ _ (s2 _ _ hDl);have bD3:zx (zx B' H' H2) H2 H3 D=none:=by rw[zF (s2 _ _ hDl)];exact tD H2 s2
    have sB3:=(zx.ge I'.sB s2).trans (zx.ge I2.sB s3);cases b with
    | false=>exact⟨ts.length - (i+1),by omega,rfl,hlt,by omega,hD3,ρ1,_,us,J2,no1,s1'.trans sB3,bD3,r'.mono sB3,ew2⟩
    | true=>
     refine⟨⟨B1,H1,E0,Y.cl,[]⟩,ρ1,rfl,rfl,_,J2, ?_⟩;have ew3:=ew2;cases ee:fe ρ1 with
     | bad=>rw[ee]at ew3;subst ew3;exact hF
     | ex c=>
      rw[ee]at ew3;subst ew3;exact λd H' a b=>hF d H' a ((s1'.trans sB3).trans b)
     | ok v=>
      rw[ee]at ew3;have ew4:=ew3;have ew5:(zt g ft fe (ts.drop (i+1)) ρ1).bind (λws=> .ok ((us++[v])++ws))=r:=by
       rw[← ew4];cases zt g ft fe _ ρ1 with
       | ok ws=>show R.ok _=R.ok _;rw[bx];rfl
       | _=>rfl
      intro w H4 s4 rw4;have hD4:=s4 _ _ hD3;have J3:=J2.grow s4;have bD4:zx (zx (zx B' H' H2) H2 H3) H3 H4 D=none:=by rw[zF hD3];exact bD3
      have sB4:=sB3.trans (zx.ge J2.sB s4);refine⟨hD4,ar (di hyl hlt) (zV hl),ts.length - (i+1),by omega,rfl,hlt,by rw[ae,bF];omega,zl,ρ1,_,us++[v], ?_,no1,s1'.trans sB4,bD4,(r'.mono sB4).append (.cons rw4 .nil),ew5⟩
      exact J3.acc bD4 hD (λj ts' e=>((no1 j _ e).1 ts' rfl).elim) (λj x e=>(no1 j x e).2) _
 ·have e:i=ts.length:=by omega
  subst e;refine .inl ⟨hstop _ (aj _), ?_⟩;rw[cU]at ew;have ew' :R.ok _=r:=ew;rw[aT]at ew';subst ew';refine hF H' ys B' I'.sH hDl r' (λb o h=> ?_) bD s1';cases q:H1 b with
  | none=>rw[zD q];exact I'.sB b o h
  | some u=>
   rw[zF q];have z:B' b=B1 b:=I'.old b u q;rw[← z];exact h
theorem W6 {B1 H1:Hp}{σ:Sg}{ρ:En}{J:It}{ts vs:List T}{D:Addr}(hG:GOk tG g)(hN:GNo g)(I:SI Y B1 ρ σ H1)(rI' :rI B1 H1 J ts)(hl:ts.length<=bnd)(ev:zt g ft fe ts (JC k js ρ)= .ok vs)(hD:H1 D=none){F:Hp->Prop}
  (hF:∀H' xs B',zh H1 H' ->H' D=some (.lst xs)->zC B' xs vs->zh B' (zx B1 H1 H')->B' D=none->zh B1 B' ->F H'):
  ∃W,(∃m,W 0 m [] (jw k js σ) (upd H1 D (.lst [])))/\W5 J D tG (λσ H Q=>∃Y' ρ',Y'.cl=Y.cl/\tS Y' rE ft ρ' σ H Q) (λσ H Q=>∃Y' ρ',Y'.cl=Y.cl/\(Y'.E=λ_ _ _=>False)/\tS Y' rC fe ρ' σ H Q) (λ_ H' =>F H') W:=JM hG hN I rI' hl ev hD hF
structure W7 (X:Cx) (Y:Fx) (tg iter elt:Expr) (ifs:List Expr) (scope:Scope) (N' :List Str) (k:Nat) (js:List Nat) (fi:En->R (List T)) (tG:TG) (g:T->En->R En) (ft:En->R Bool) (fe:En->R T):Prop where
 sc:CSc X scope
 cp:Ym X scope N' k js
 cm:X.calm=true
 it:wc X Y tg iter fi
 gt:WI X scope N' λXC=>PG XC tg tG
 gk:GOk tG g
 gn:GNo g
 tt:∀Y',Y'.cl=Y.cl->WI X scope N' λXC=>jj XC Y' ifs ft
 el:∀Y',Y'.cl=Y.cl->Yl X scope N' Y'.E λXC=>Snd XC Y' elt fe
 hs:∀x,foldedSetIterable iter X.env x=pure x
theorem qA (C:W7 X Y tg iter elt ifs scope N' k js fi tG g ft fe):Snd X Y (.ListComp elt [⟨tg,iter,ifs,0⟩] scope pos) (Zd fi g ft fe k js):= .mk λρ=>by
 intro pins s σ H Q I ⟨B,J,q⟩;refine u9 (JK rfl) (F:=λD H' =>Q (.ref D) H') (te:=λσ H Q=>∃Y' ρ',Y'.cl=Y.cl/\(Y'.E=λ_ _ _=>False)/\tS Y' rC fe ρ' σ H Q) (tt:=λσ H Q=>∃Y' ρ',Y'.cl=Y.cl/\tS Y' rE ft ρ' σ H Q) C.sc C.cp C.cm (C.it ρ) C.gt
  (λcl Cx' s3 H3 fp pins pins' s σ H Q I ⟨Y',ρ',ey,q⟩=>C.tt Y' ey cl Cx' s3 H3 fp _ ρ' _ s σ H Q I q) (λcl Cx' s3 H3 fp pins xe hp pins' s σ H Q I ⟨Y',ρ',ey,eE,q⟩=>C.el Y' ey cl Cx' s3 H3 fp _ xe (eE ▸ hp) ρ' _ s σ H Q I q) I ?_ ?_ C.hs
 ·refine step J q λts it' H1 _ s1 r1 J1 q1=> ?_;intro D hD;unfold Zr at q1;split at q1
  ·rename_i hl;cases ev:zt g ft fe ts _ with
   | bad=>rw[ev]at q1;exact q1.elim
   | ex c=>rw[ev]at q1;exact q1.elim
   | ok vs=>
    rw[ev]at q1;refine W6 C.gk C.gn J1 r1 hl ev hD λH' xs B' s' e' r' l' b' sb' => ?_;refine(show Po Y rC _ H1 _ Q from q1) _ H' s' ?_;exact .lst (by rw[zD hD];exact e') (r'.mono l')
  ·exact q1.elim
 ·intro D Cc H' s' I' q' hC h0 hL hcell hpin hns;obtain⟨m,hm⟩:=hns;refine⟨m,hm,λh' hsb=>⟨.ref D,H', ?_,rfl,q'⟩⟩;exact I'.turned (λb o hb e=>hsb.extBut b o hb e) hC (bu hL).symm (.inr h0) hcell hpin
def UN (g:T->En->R En)(ft:En->R Bool)(fe:En->R T)(k:Nat)(js:List Nat)(ρ:En)(ts:List T):R (List T):=if ts.length<=bnd then zt g ft fe ts (JC k js ρ) else .bad
def Je (fi:En->R (List T))(g:T->En->R En)(ft:En->R Bool)(fe:En->R T)(k:Nat)(js:List Nat):En->R T:=λρ=>(fi ρ).bind λts=>(UN g ft fe k js ρ ts).bind λvs=> .ok (.lst vs)
end
section
variable {X:Cx}{Y:Fx}{tg iter elt:Expr}{ifs:List Expr}{scope:Scope}{pos pos' :Pos}{N' :List Str}{k:Nat}{js:List Nat}{fi:En->R (List T)}{tG:TG}{g:T->En->R En}{ft:En->R Bool}{fe:En->R T}
theorem VU {i:Nat}{x:Str}{pc p' :Pos}(C:W7 X Y tg iter elt ifs scope N' k js fi tG g ft fe)(hN:X.N.Nodup)(hi:X.N[i]? =some x)(hx:L2.Loc X.env.scope x)
  (hsw:swapsWith (.ListComp elt [⟨tg,iter,ifs,0⟩] scope pc) (some (.Name x p')) pos.line X.env=pure true) (hf:X.fn x=true\/X.env.scope.names.lookup x=some .local:=by first | exact .inl rfl | exact .inr rfl | assumption):
  ZJ X Y (.Assign [.Name x p'] (.ListComp elt [⟨tg,iter,ifs,0⟩] scope pc) pos) (zR i (Zd fi g ft fe k js)):= .mk λρ=>by
 intro pins s σ H D I ⟨B,J,q⟩;rw[exec_Assign_Name_used _ _ _ _ hsw];refine a8 (aN (a8 ?_));refine a8 (thn (u9 (JK rfl) (F:=λD' H' =>D.nx (σ.set i (some (.ref D'))) H') (te:=λσ H Q=>∃Y' ρ',Y'.cl=Y.cl/\(Y'.E=λ_ _ _=>False)/\tS Y' rC fe ρ' σ H Q) (tt:=λσ H Q=>∃Y' ρ',Y'.cl=Y.cl/\tS Y' rE ft ρ' σ H Q) C.sc C.cp C.cm (C.it ρ) C.gt
  (λcl Cx' s3 H3 fp pins pins' s σ H Q I ⟨Y',ρ',ey,q⟩=>C.tt Y' ey cl Cx' s3 H3 fp _ ρ' _ s σ H Q I q) (λcl Cx' s3 H3 fp pins xe hp pins' s σ H Q I ⟨Y',ρ',ey,eE,q⟩=>C.el Y' ey cl Cx' s3 H3 fp _ xe (eE ▸ hp) ρ' _ s σ H Q I q) I ?_ ?_ C.hs) λ_ s' hq=>aw (aw hq))
 ·have q' :PoS Y B (((fi ρ).s λts=>(Zr g ft fe k js ρ ts).s λvs=> .nx (ρ.set i (.vl (.lst vs))))) D:=by
   unfold zR Zd at q;revert q;cases fi ρ with
   | bad=>exact λq=>q
   | ex c=>exact λq=>q
   | ok ts=>
    intro q;have q2:PoS Y B (((Zr g ft fe k js ρ ts).bind λvs=>R.ok _).s λt=>RS.nx _) D:=q;show PoS Y B ((Zr g ft fe k js ρ ts).s λvs=>RS.nx _) D;revert q2;cases Zr g ft fe k js ρ ts with
    | bad=>exact λq=>q
    | ex c=>exact λq=>q
    | ok vs=>exact λq=>q
  refine Jb J q' λts it' H1 _ s1 r1 J1 q1=> ?_;intro D' hD;unfold Zr at q1;split at q1
  ·rename_i hl;cases ev:zt g ft fe ts _ with
   | bad=>rw[ev]at q1;exact q1.elim
   | ex c=>rw[ev]at q1;exact q1.elim
   | ok vs=>
    rw[ev]at q1;refine W6 C.gk C.gn J1 r1 hl ev hD λH' xs B' s' e' r' l' b' sb' => ?_;have rr:Rep _ _ _:= .lst (by rw[zD hD];exact e') (r'.mono l')
    exact q1 _ _ _ (zx.ge J1.sB s') ((J1.grow s').setV i rr)
  ·exact q1.elim
 ·intro D' Cc H' s' I' q' hC h0 hL hcell hpin hns;obtain⟨m,hm⟩:=hns;refine wpAny_assign_Name (wO (v:= .ref D') I' hN hi hx rfl (λs'' I'' ⟨a,hsb,ha⟩=> ?_) hf);have hne:Cc ≠ a:=by
   rcases ha with rfl | ha
   ·exact hL
   ·exact(hcell x a ha).symm
  refine⟨m,hm.sameBut hsb hne,λh' hsb' =>⟨_,H', ?_,q'⟩⟩;exact I''.turned (λb o hb e=>hsb'.extBut b o hb e) hC hL (.inr h0) hcell hpin
end
noncomputable def Itc (x:Str):It:=⟨λi _=>i < x.cps.size,λi H v H' =>H' =H/\∃c,x.cps[i]? =some c/\v= .str ⟨#[c]⟩,λi _=>x.cps.size<=i⟩
theorem JN {P:Program}{w:World}{K:a6}{tg:Expr}{x:Str}{t:Tok}{ty:String}(it:Addr)(hty:ty="str_ascii_iterator"\/ty="str_iterator"):U2 P w K tg (Itc x) [it] it (λi h=>h.IsStrIter it ty x t i):=by
 have W:∀A:Around,A.handled=none->Walks P w A it [it] [it] x.cps.size (SignAt x) (λi h=>h.IsStrIter it ty x t i):=λA hA=>by
  rcases hty with rfl | rfl
  ·exact Walks.strAscii hA it x t
  ·exact Walks.strWide hA it x t
 have hn:["enumerate","zip","dict_itemiterator","dict_reverseitemiterator","odict_iterator","itertools.zip_longest","itertools.pairwise"].contains ty=false:=by rcases hty with rfl | rfl <;> decide
 refine⟨by simp,λi h st b hb=> ?_,λi h h' st k=> ?_, ?_, ?_,λA i s Q E st h=> ?_⟩
 ·have e:b=it:=by simpa using hb
  subst e;obtain⟨o,e,c,d⟩:=st;exact⟨o,e,λv z=>by rw[d]at z;cases z⟩
 ·obtain⟨o,e,r⟩:=st;exact⟨o,k it (by simp) o e,r⟩
 ·intro X hP hw hK hc i pins s σ H E I hf st hg;obtain⟨f0,f1,f2,f3,f4,f5⟩:=hf it (by simp)
  refine(W X.A (I.ok.hd hc)).item i s _ _ hg st λv h' tk hv st' kk=> ?_;obtain⟨c,u,hc',rfl⟩:=hv;have I1:L2.Inv X _ σ H { s with heap:=h',toks:=tk }:=I.turned (λb o hb e=>kk b o (by simpa using hb) e) f0 f1 f3 f4 f5
  obtain⟨o,e,cl,d⟩:=id st';exact⟨_,rfl,Y3 e cl d hn ⟨.str _,H,I1,⟨u,rfl⟩,⟨rfl,c,hc',rfl⟩,st',λb hb=>(hf b hb).1⟩⟩
 ·intro X hP hw hK hc i pins s σ H E I hf st hg;obtain⟨f0,f1,f2,f3,f4,f5⟩:=hf it (by simp)
  have hx:=dJ hg;rcases hty with rfl | rfl
  ·exact wpAny_pyNext_ascii_end (I.ok.hd hc) st hx λh' eb=>⟨rfl,I.turned (λb o hb e=>eb b o hb e) f0 f1 f3 f4 f5⟩
  ·exact wpAny_pyNext_wide_end (I.ok.hd hc) st hx λh' eb=>⟨rfl,I.turned (λb o hb e=>eb b o hb e) f0 f1 f3 f4 f5⟩
 ·rcases hty with rfl | rfl
  ·exact wpAny_pyIter_striter_ascii st h
  ·exact wpAny_pyIter_striter_wide st h
noncomputable def Zy (x:Str):List T:=x.cps.toList.map λc=>T.str ⟨#[c]⟩
theorem Yp {B1 H1:Hp}{x:Str}:rI B1 H1 (Itc x) (Zy x):=λB2 H2 s1 s2=>by
 have hl:(Zy x).length=x.cps.size:=by unfold Zy;simp
 refine⟨λi hi=>by rw[hl]at hi;exact hi,λi t v H3 e y=> ?_,λi hi=>by rw[hl]at hi;exact hi⟩
 obtain⟨rfl,c,hc,rfl⟩:=y;refine⟨zh.refl _, ?_⟩;unfold Zy at e;rw[ax]at e;have hc' :x.cps.toList[i]? =some c:=by simpa using hc
 rw[hc']at e;cases e;exact .str _
section
variable {X:Cx}{Y:Fx}{a b c d tg:Expr}{fa fb fc fd:En->R T}{pos p:Pos}
theorem VV {l:Expr}{tl:TE}(hl:PE X l tl):PI X tg l (λσ H R=>tl σ H λx H1=>(∃a,x= .ref a/\(((∃xs,SqL X.K H1 a xs)/\R (Itl X.K a) H1)\/((∃xs,SqT X.K H1 a xs)/\R (Itt X.K a) H1)))\/(∃z,x= .str z/\R (Itc z) H1)):=by
 intro pins s σ H R I h;refine thn (hl _ s σ H _ I h) λv s1 ⟨x,H1,I1,r1,q1⟩=> ?_;have ok:∀b∈[s1.heap.objs.size],jW X _ H1 b:=λb hb=>by
  have e:=by simpa using hb
  subst e;exact I1.fpOk (aj _) (I1.hok.fresh (aj _))
 rcases q1 with ⟨a,e,q⟩ | ⟨z,e,q⟩
 ·subst e;obtain rfl:v=Value.ref a:=r1;rcases q with ⟨⟨xs,hq⟩,q⟩ | ⟨⟨xs,hq⟩,q⟩
  ·obtain⟨its,rv,p,hz⟩:=I1.list hq;exact wpAny_pyIter_list p.isList ⟨s1.heap.objs.size,[s1.heap.objs.size],_,_,H1,rfl,I1.kept λb o e=>a7 _ e,Ug a _,⟨_,am _ rfl,rfl,rfl⟩,ok,q⟩
  ·obtain⟨its,rv,p,hz⟩:=I1.tuple hq;exact wpAny_pyIter_tuple (show s1.heap.IsTuple a _ from p) ⟨s1.heap.objs.size,[s1.heap.objs.size],_,_,H1,rfl,I1.kept λb o e=>a7 _ e,uy a _,⟨_,am _ rfl,rfl,rfl⟩,ok,q⟩
 ·subst e;obtain⟨t,rfl⟩:=r1;cases ha:z.cps.all _
  ·exact wpAny_pyIter_wide ha ⟨s1.heap.objs.size,[s1.heap.objs.size],_,_,H1,rfl,I1.kept λb o e=>a7 _ e,JN _ (.inr rfl),⟨_,am _ rfl,rfl,rfl⟩,ok,q⟩
  ·exact wpAny_pyIter_ascii ha ⟨s1.heap.objs.size,[s1.heap.objs.size],_,_,H1,rfl,I1.kept λb o e=>a7 _ e,JN _ (.inl rfl),⟨_,am _ rfl,rfl,rfl⟩,ok,q⟩
def Jf:T->R (List T)
 | .lst xs=> .ok xs
 | .tup xs=> .ok xs
 | .str x=> .ok (Zy x)
 | _=> .bad
def jx (fa:En->R T):En->R (List T):=λρ=>(fa ρ).bind Jf
theorem kN (ha:Snd X Y a fa):wc X Y tg a (jx fa):= .mk λρ=>PI.imp (VV (ha ρ)) λσ H R ⟨B,I,q⟩=>step I q λt v H1 _ s1 r1 I1 q1=>by
 cases r1 with
 | @tup l xs ts h r=>
  exact .inl ⟨l,rfl,.inr ⟨⟨xs,SqT.of (I1.sB _ _ h)⟩,Zi I1 (show Po Y rI _ H1 _ R from q1) (VL h r)⟩⟩
 | @lst l xs ts h r=>
  exact .inl ⟨l,rfl,.inl ⟨⟨xs,SqL.of (I1.sB _ _ h)⟩,Zi I1 (show Po Y rI _ H1 _ R from q1) (VM h r)⟩⟩
 | str z=>exact .inr ⟨z,rfl,Zi I1 (show Po Y rI _ H1 _ R from q1) Yp⟩
 | _=>exact q1.elim
end
theorem Inv.laidT {X:Cx}{pins:List (Addr×Obj)}{σ:Sg}{H:Hp}{s:Shared}{h' :Heap}{tk:Nat}{ch:List Addr}{a:Addr}{xs:List V}(I:L2.Inv X pins σ H s)(hf:∀b∈ch,jW X pins H b)(k:∀b o,b ∉ ch->s.heap.get? b=some o->h'.get? b=some o)
  (th:∀b o,b∈ch->s.heap.get? b=some o->∃o',h'.get? b=some o') (ha:s.heap.objs.size<=a) (new:zZ X.prog X.w (upd H a (.tup xs)) h' a (.tup xs)):L2.Inv X pins σ (upd H a (.tup xs)) { s with heap:=h',toks:=tk }:=by
 have hn:=I.hok.fresh ha;have nch:∀b u,H b=some u->b ∉ ch:=λb u e hb=>by rw[(hf b hb).1]at e;cases e
 refine I.call' rfl ⟨λb o e n _ hc=>k b o hc e,λb o e n _ hc=>⟨o.slots,k b o hc e⟩,λb o e n _=>by rw[zg (aB (ar (ag e) ha))];exact n,λb o e hc=>⟨o,k b o hc e⟩,
  λb ys e=>by rw[zg (zm e hn)];exact e,λb o u e=>by rw[zg (zm e hn)];exact e,λb ps q e=>by rw[zg (zm e hn)];exact e⟩ (λb u e=> ?_) I.bare λb hb=> ?_
 ·by_cases hb:b=a
  ·subst hb;rw[zl]at e;cases e;exact new
  ·rw[zg hb]at e;refine(I.hok b u e).stay (λc v hc q=> ?_) (λc q=>by rw[zg (zm q hn)];exact q) (λc ys q=>by rw[zg (zm q hn)];exact q) λc o u q=>by rw[zg (zm q hn)];exact q
   rcases hc with rfl | hc
   ·exact k c v (nch c u e) q
   ·exact k c v (nch c _ hc) q
 ·obtain⟨f0,f1,f2,f3,f4,f5⟩:=hf b hb;exact⟨f3,f1,f4,f5⟩
def Ite (K:a6)(l:Addr):It:=
 ⟨λi H=>∃xs x,SqL K H l xs/\xs[i]? =some x,λi H v H' =>∃p x,H p=none/\v= .ref p/\(∀xs,SqL K H l xs->xs[i]? =some x)/\H' =upd H p (.tup [.int i,x]),λi H=>∃xs,SqL K H l xs/\xs.length<=i⟩
theorem UO {P:Program}{w:World}{K:a6}{elts:List Expr}{kk:Nat}{pt:Pos}(e it l:Addr)(hei:e ≠ it)(hle:l ≠ e)(hli:l ≠ it):
  U2 P w K (.Tuple elts kk pt) (Ite K l) [e,it] e (λi h=>(∃old,IsEnum h e it i old)/\h.IsListIter it l i) where
 mem:=by simp
 obj:=λi h st b hb=>by
  obtain⟨⟨old,he⟩,o,e1,c,d⟩:=st;rcases ak.mp hb with rfl | hb
  ·exact⟨_,he,λv z=>nomatch z⟩
  ·have z:b=it:=by simpa using hb
   subst z;exact⟨o,e1,λv z=>by rw[d]at z;cases z⟩
 keep:=λi h h' st k=>by
  obtain⟨⟨old,he⟩,hit⟩:=st;exact⟨⟨old,k e (by simp) _ he⟩,hit.at λo x=>k it (by simp) o x⟩
 item:=by
  intro X hP hw hK hc i pins s σ H E I hf st hg;subst hP hw hK;obtain⟨xs,x,hq,hx⟩:=hg;obtain⟨its,rv,p,hz⟩:=I.list hq;obtain⟨u,hu,ru⟩:=rv.get hx;obtain⟨⟨old,he⟩,hit⟩:=st;have hi:i < its.toArray.size:=by
   have:=(aO.mp hu).1;simpa using this
  refine(fy (prog:=X.prog) (w:=X.w) (I.ok.hd hc) e it l hei hle hli its.toArray).item i s _ _ hi ⟨⟨old,he⟩,hit,p.isList⟩ λT vals h' tk hP hT hTup hM hk=> ?_;obtain⟨t,y,hy,rfl⟩:=hP;have hyu:y=u:=by
   have:its[i]? =some y:=by simpa using hy
   rw[hu]at this;exact(aq this).symm
  subst hyu;refine⟨.ref T,rfl, ?_⟩;refine(fy (prog:=X.prog) (w:=X.w) (I.ok.hd hc) e it l hei hle hli its.toArray).go elts kk pt i T _ _ _ hM λh2 hst2 hk2=> ?_;have hTn:H T=none:=I.hok.fresh hT;have hTne:∀b∈[e,it],b ≠ T:=λb hb z=>by
   obtain⟨_,_,_,h3,h4⟩:=hM;rcases ak.mp hb with rfl | hb
   ·exact h3 z.symm
   ·have:b=it:=by simpa using hb
    subst this;exact h4 z.symm
  have U6:IsTup h2 T #[.int i t,y]:=by
   obtain⟨o,eo,r⟩:=hTup;exact⟨o,hk2 T o (λhb=>hTne T hb rfl) eo,r⟩
  refine⟨.ref T,upd H T (.tup [.int i,x]),Inv.laidT (s:=s) (h' :=h2) (ch:=[e,it]) (tk:=tk) I hf (λb o hb e=>hk2 b o hb (hk b o hb e)) (λb o hb _=> ?_) hT ⟨by rw[c8];show 2<=16777216;decide,[.int i t,y],.cons ⟨t,rfl⟩ (.cons ru .nil),U6,.inl ⟨_,_,rfl⟩⟩,rfl,⟨T,x,hTn,rfl,λys hy=>by rw[I.list_inj hy hq];exact hx,rfl⟩,⟨hst2.1,hst2.2.1⟩,λb hb=> ?_⟩
  ·obtain⟨⟨old2,he2⟩,⟨o2,eo2,_⟩,_⟩:=hst2;rcases ak.mp hb with rfl | hb
   ·exact⟨_,he2⟩
   ·have:b=it:=by simpa using hb
    subst this;exact⟨o2,eo2⟩
  ·rw[zg (hTne b hb)];exact(hf b hb).1
 done:=by
  intro X hP hw hK hc i pins s σ H E I hf st hg;subst hP hw hK;obtain⟨xs,hq,hx⟩:=hg;obtain⟨its,rv,p,hz⟩:=I.list hq;obtain⟨⟨old,he⟩,hit⟩:=st;have hl:=rv.length;refine wpAny_pyNext_enum_end (I.ok.hd hc) he hit p.isList (dJ (by simp;omega)) λh' hk=>⟨rfl, ?_⟩
  obtain⟨f0,f1,f2,f3,f4,f5⟩:=hf it (by simp)
  exact I.turned (t' :=s.toks) (λb o hb e=>hk b o hb e) f0 f1 f3 f4 f5
 self:=λ_ _ _ _ _ st h=>let ⟨⟨_,he⟩,_⟩:=st;wpAny_pyIter_enum he h
noncomputable def jk (xs:List T):List T:=(xs.zipIdx).map λp=>T.tup [.int (p.2:Nat),p.1]
theorem W8 {xs:List T}{i:Nat}{t:T}(h:(jk xs)[i]? =some t):∃x,xs[i]? =some x/\t= .tup [.int (i:Nat),x]:=by
 unfold jk at h;rw[ax,dY]at h;cases e:xs[i]? with
 | none=>rw[e]at h;cases h
 | some x=>rw[e]at h;cases h;exact⟨x,rfl,by simp⟩
theorem jG (xs:List T):(jk xs).length=xs.length:=by unfold jk;simp
theorem QG {K:a6}{B1 H1:Hp}{a:Addr}{xs:List V}{ts:List T}(h:B1 a=some (.lst xs))(r:zC B1 xs ts):rI B1 H1 (Ite K a) (jk ts):=λB2 H2 s1 s2=>by
 have h2:=s2 _ _ (s1 _ _ h);rw[jG];refine⟨λi hi=> ?_,λi t x H3 e y=> ?_,λi hi=>⟨xs,SqL.of h2,by rw[r.length];exact hi⟩⟩
 ·obtain⟨v,e,_⟩:=r.get (az hi);exact⟨xs,v,SqL.of h2,e⟩
 ·obtain⟨p,v,hp,rfl,y,rfl⟩:=y;obtain⟨t',et,rfl⟩:=W8 e;obtain⟨v',e1,r1⟩:=r.get et;have:=y xs (SqL.of h2);rw[e1]at this;cases this;refine⟨zh.new hp _,.tup (ju hp _) (.cons (.int _) (.cons ?_ .nil))⟩;exact(r1.mono s1).mono (zx.ge s2 (zh.new hp _))
section
variable {X:Cx}{Y:Fx}{a:Expr}{fa:En->R T}{pos p pt:Pos}{elts:List Expr}{kk:Nat}
theorem QH {ta:TA}(hg:Gl X "enumerate")(hm:X.mg "enumerate"=none)(ha:PA X [a] ta)(hs:St1 X a:=by exact st1 rfl):
  PI X (.Tuple elts kk pt) (.Call (.Name "enumerate" p) [a] [] pos) (λσ H R=>ta σ H λvs H1=>∃l xs,vs=[.ref l]/\H1 l=some (.lst xs)/\R (Ite X.K l) H1):=by
 intro pins s σ H R I h;refine Call_ (jd I hg hm PyProof.Rows.Boot.«enumerate» (bP (thn (ha pos _ s σ H _ I h) λus s1 ⟨vs,H1,I1,r1,q1⟩=> ?_) hs rfl));obtain⟨l,xs,e,hl,q⟩:=q1;subst e;obtain⟨u,rfl,ru⟩:=ZL r1;obtain rfl:u=Value.ref l:=ru;obtain⟨_,its,n,rv,eo⟩:=(show zZ _ X.w H1 _ l _ from I1.hok l _ hl);have hlt:=ag eo;refine call_enumerate_1 eo λh' he hit hsz hk=>wpAny_pyIter_enum he ?_;have f:∀b∈[s1.heap.objs.size+1,s1.heap.objs.size],jW X _ H1 b:=λb hb=>by
  rcases ak.mp hb with rfl | hb
  ·exact I1.fpOk (dZ _) (I1.hok.fresh (dZ _))
  ·have z:=by simpa using hb
   subst z;exact I1.fpOk (aj _) (I1.hok.fresh (aj _))
 exact⟨s1.heap.objs.size+1,[s1.heap.objs.size+1,s1.heap.objs.size],_,_,H1,rfl,I1.kept hk,UO _ _ l (fA _) (aB (cj hlt)) (aB hlt),⟨⟨_,he⟩,hit⟩,f,q⟩
def QI (fa:En->R T):En->R (List T):=λρ=>(fa ρ).bind λt=>match t with
 | .lst xs=> .ok (jk xs)
 | _=> .bad
theorem VW (hg:Gl X "enumerate")(hm:X.mg "enumerate"=none)(ha:Snd X Y a fa)(hs:St1 X a:=by exact st1 rfl):wc X Y (.Tuple elts kk pt) (.Call (.Name "enumerate" p) [a] [] pos) (QI fa):= .mk λρ=>
 PI.imp (QH hg hm (zk (ha ρ) zB hs) hs) λσ H R ⟨B,I,q⟩=>step I q λt v H1 _ s1 r1 I1 q1=>by
  cases r1 with
  | @lst l xs ts h r=>exact⟨l,xs,rfl,I1.sB _ _ h,Zi I1 (show Po Y rI _ H1 _ R from q1) (QG h r)⟩
  | _=>exact q1.elim
noncomputable def WK:List T->Option (List Str)
 | []=>some []
 | .str x :: r=>match WK r with | some ys=>some (x :: ys) | none=>none
 | _ :: _=>none
def WL (sep:Str):T->R T
 | .lst ts=>match WK ts with
  | some ys=>if (ys.map (·.length)).sum+ys.length*sep.length<=16777216 then .ok (.str (Txt.join sep ys)) else .bad
  | none=> .bad
 | _=> .bad
theorem wj {H:Hp}:∀{xs:List V} {ts:List T} {its:List Value} {ys:List Str},zC H xs ts->zM xs its->WK ts=some ys->StrsAre its ys
 | _,_,_,ys,.nil,q,h=>by
  have h' :=h;cases q;cases h';exact .nil
 | _,_,_,ys,.cons r rs,q,h=>by
  cases q with
  | cons rv vs=>
  cases r with
  | str x=>
   unfold WK at h;split at h
   ·rename_i zs e;cases h;obtain⟨tk,rfl⟩:=rv;exact .cons x tk (wj rs vs e)
   ·cases h
  | _=>cases h
theorem QJ:MtR X "str.join" (λx xs H Q=>∃z l zs ts ys,x= .str z/\xs=[.ref l]/\H l=some (.lst zs)/\zC H zs ts/\WK ts=some ys/\(ys.map (·.length)).sum+ys.length*z.length<=16777216/\Q (.str (Txt.join z ys)) H):=by
 intro pins s σ H x xs v us Q I rx rv h;obtain⟨z,l,zs,ts,ys,rfl,rfl,hl,r,e,hb,q⟩:=h;obtain⟨t,rfl⟩:=rx;obtain⟨u,rfl,ru⟩:=ZL rv;obtain rfl:u=Value.ref l:=ru;obtain⟨its,rv,p,_⟩:=zI I (.inl hl) r;exact join_list p (by simpa using wj r rv e) hb λt' k=>⟨.str _,H,I.tok k,⟨t',rfl⟩,q⟩
theorem VX {z:Str}{kc:Nat}{pz pa:Pos}(ha:ZR X Y a fa)(hb:attributeBase (.Constant (.str z) kc pz) "join" X.env (eval (.Constant (.str z) kc pz) X.env)=eval (.Constant (.str z) kc pz) X.env:=by rfl)(hs:St1 X a:=by exact st1 rfl)
  (hz:(pa.endLine == p.line)=true:=by rfl):Snd X Y (.Call (.Attribute (.Constant (.str z) kc pz) "join" pa) [a] [] p) (ap1 (WL z) fa):= .mk λρ=>by
 have e1:(((((backTo p (starEach [a] X.env)).all λx=> !x.fst) && (backToKw p (keywordEach [] X.env)).all λx=>x.fst.isSome) && decide (([a].length+([]:List Keyword).length+if ([]:List Keyword).isEmpty=true then 0 else 1) < 30))=true):=by rw[hs];rfl
 refine PE.imp (jZ bp PySem.F.slot_str_join PySem.F.type_str_join QJ Ua (zk (ha ρ) zB hs) hb e1 hz hs rfl) λσ H Q ⟨B,I,q⟩=> ?_;refine⟨rfl,step I q λt v H1 _ s1 r1 I1 q1=> ?_⟩;cases r1 with
 | @lst l xs ts h r=>
  have q1:Po Y rC _ H1 (match WK ts with | some ys=>if (ys.map _).sum+ys.length*z.length<=16777216 then .ok _ else .bad | none=> .bad) Q:=q1
  split at q1
  ·rename_i ys e;split at q1
   ·rename_i hl;exact⟨z,l,xs,ts,ys,rfl,rfl,h,r,e,hl,po0 I1.sB q1 rfl (.str _)⟩
   ·exact q1.elim
  ·exact q1.elim
 | _=>exact q1.elim
end
noncomputable def dd:List Str->List Str->List Str
 | acc,[]=>acc
 | acc,x :: r=>dd (if x∈acc then acc else acc++[x]) r
section
variable {prog:Program}{w:World}{A:Around}{R:Result->Shared->Prop}{I:Addr}{fp wr:List Addr}{n:Nat}{P:Nat->Value->Prop}{St:Nat->Heap->Prop}
theorem ZS {h h' :Heap}{S:Addr}{f g:Str->Bool}{m k:Nat}(x:h.SetOf (strKind prog w) S f m)(e:∀o,h.get? S=some o->h'.get? S=some o)(ef:f=g)(em:m=k):h'.SetOf (strKind prog w) S g k:=by
 subst ef em;obtain⟨o,es,ep,t,ho,r⟩:=x;exact⟨o,es,ep,t,e o ho,r⟩
theorem Yq (W:Walks prog w A.in1 I fp wr n P St)(S:Addr)(hSf:S ∉ fp)(val:Nat->Str)(hval:∀i v,P i v->∃t,v=Value.str (val i) t)(hb:n+1 < scanBound):
  ∀(k i:Nat) (acc:List Str) (s:Shared),n - i=k->i<=n->acc.length<=i->St i s.heap->s.heap.SetOf (strKind prog w) S (λx=>decide (x∈acc)) acc.length->
   (∀h' tk,(∀b o,b ∉ S :: wr->s.heap.get? b=some o->h'.get? b=some o)->h'.SetOf (strKind prog w) S (λx=>decide (x∈dd acc ((fF i k).map val))) (dd acc ((fF i k).map val)).length->
    R (.ok (.ret .none)) { s with heap:=h',toks:=tk })->codeAny (model prog w) A (.builtin "set.update.loop" ⟨[.ref S,.ref I],[]⟩) R s:=by
 intro k
 induction k with
 | zero=>
  intro i acc s hk hi hal hst hS hR;obtain rfl:i=n:=by omega
  refine codeAny_builtin dz ?_;refine a8 (W.done s _ _ hst λh' tk hk' =>aw ?_);exact hR h' tk (λb o hb e=>hk' b o (λz=>hb (aa _ z)) e) (ZS hS (λo e=>hk' S o (λz=>hSf (W.sub _ z)) e) rfl rfl)
 | succ k ih=>
  intro i acc s hk hi hal hst hS hR;refine codeAny_builtin dz ?_;refine a8 (W.item i s _ _ (by omega) hst λv h1 tk1 hP hst1 hk1=> ?_)
  obtain⟨t,rfl⟩:=hval i v hP;have hS1:=ZS hS (λo e=>hk1 S o (λz=>hSf (W.sub _ z)) e) rfl rfl;refine a8 (m:=holding _ _) (a_ ?_);unfold setAdd;have isk:(strKind prog w).is (val i) (.str (val i) t)=true:=strKind_is _ _ _ _;refine a_ (a8 ((strKind _ w).pyHash isk ?_));refine wpAny_setAddHashed_of isk rfl hS1 (by omega) λh2 hsb hS2=> ?_
  have e2:(if decide (val i∈acc)=true then acc.length else acc.length+1)=(if val i∈acc then acc else acc++[val i]).length:=by
   by_cases hm:val i∈acc
   ·simp[hm]
   ·simp[hm]
  have e1:(λx=>decide (x∈acc) || decide (x=val i))=(λx=>decide (x∈(if val i∈acc then acc else acc++[val i]))):=by
   funext x
   by_cases hm:val i∈acc
   ·simp only[if_pos hm]
    by_cases hx:x=val i
    ·subst hx;simp[hm]
    ·simp[hx]
   ·simp[hm,Bool.decide_or]
  have hS3:=ZS hS2 (λo e=>e) e1 e2;refine aw ⟨plainId_quiet F.plain_set_update_loop _,ih _ _ _ (by omega) (by omega) ?_ (W.frame _ h1 _ hst1 λb hb o e=> ?_) hS3 λh3 tk3 hk3 hS4=> ?_⟩
  ·split
   ·omega
   ·rw[ae,bF];omega
  ·exact(hsb.2 b (λz=>hSf (z ▸ hb))).trans e
  ·refine hR h3 tk3 (λb o hb e=>hk3 b o hb ?_) hS4;exact(hsb.2 b (λz=>hb (z ▸ ai))).trans (hk1 b o (λz=>hb (aa _ z)) e)
end
section
variable {prog:Program}{w:World}{A:Around}{E:Value->Shared->Prop}{s:Shared}
set_option maxRecDepth 100000 in
set_option maxHeartbeats 3200000 in
theorem UP {l:Addr}{its:List Value}{ys:List Str}{Q:Value->Shared->Prop}(hh:A.handled=none)(hl:s.heap.IsList l its.toArray)(hi:StrsAre its ys)(hb:its.length+1 < scanBound)
  (h:∀(h' :Heap) (tk:Nat),h'.SetOf (strKind prog w) s.heap.objs.size (λx=>decide (x∈dd [] ys)) (dd [] ys).length->(∀b o,b < s.heap.objs.size->s.heap.get? b=some o->h'.get? b=some o)->
   Q (.ref s.heap.objs.size) { s with heap:=h',toks:=tk }):wpAny (model prog w) A (call (.type "set") [.ref l]) Q E s:=by
 have getv:∀{its:List Value} {ys:List Str},StrsAre its ys->its.length=ys.length/\∀(i:Nat) (v:Value),its[i]? =some v->∃t,v=Value.str (ys.getD i ⟨#[]⟩) t:=λ{its ys} hi=>by
  induction hi with
  | nil=>exact⟨rfl,λi v e=>by simp at e⟩
  | cons y t _ ih=>
   refine⟨by simp[ih.1],λi v e=> ?_⟩
   cases i with
   | zero=>exact⟨t,by simpa using e.symm⟩
   | succ i=>exact ih.2 i v (by simpa using e)
 obtain⟨hlen,hget⟩:=getv hi;have hys:(fF 0 its.length).map (λi=>ys.getD i ⟨#[]⟩)=ys:=by
  rw[hlen];refine List.ext_getElem? λi=> ?_;rw[ax]
  by_cases hi' :i < ys.length
  ·rw[List.getElem?_range' hi',az hi'];simp[az hi']
  ·rw[bH (by simp;omega),bH (by omega)]
   rfl
 obtain⟨c,tl,hmro⟩:=ci.mro;have hmade:=ci.made;have hsub:=ci.sub;have h1:=ci.notType;have h2:=ci.canCreate;have hct:=F.typeCall_set_1 (.ref l);refine wpAny_call (codeAny_of_tree (show wpAny _ _ (callAny (.type "set") _) _ _ _ from ?_));refine aw ⟨dj _ (by decide+kernel),codeAny_builtin e_ ?_⟩
 rw[eM (weight_type_call_type "set" [.ref l] []) rfl]
 repeat any_goals (first | assumption | wp_step)
 refine codeAny_mono (code_set_new_1 (.ref l) (E:=E) (Q₁:=λobj s₁=>∃led:Bool,obj= .ref s.heap.objs.size/\s₁={ s with heap:=s.heap.push { cls:= .type "set",dict:=none,data:= .set #[] 0 (.fresh 0 0 led) } }) λled=>⟨led,rfl,rfl⟩) λr s₁ hr=> ?_;cases r with
 | error e=>exact hr
 | ok fl=>
  cases fl with
  | ret obj=>
   obtain⟨led,rfl,rfl⟩:=hr;generalize hG:s.heap.push { cls:= .type "set",dict:=none,data:= .set #[] 0 (.fresh 0 0 led) }=G;have hS:G.get? s.heap.objs.size=some { cls:= .type "set",dict:=none,data:= .set #[] 0 (.fresh 0 0 led) }:=by rw[← hG];exact am _ rfl
   have hGs:G.objs.size=s.heap.objs.size+1:=by rw[← hG,dk]
   have hGk:∀b o,s.heap.get? b=some o->G.get? b=some o:=λb o e=>by rw[← hG];exact a7 _ e
   have hT:Shared.TypeIs { s with heap:=G } (.ref s.heap.objs.size) "set":=⟨_,hS,rfl⟩;have hli:=ci.init.lookup;have hbi:=ci.init.bind (.ref s.heap.objs.size)
   repeat any_goals (first | assumption | wp_step)
   refine codeAny_mono (codeAny_call_builtin (R:=wants (λr s₂=>r= .none/\∃h' tk,s₂={ s with heap:=h',toks:=tk }/\h'.SetOf (strKind prog w) s.heap.objs.size (λx=>decide (x∈dd [] ys)) (dd [] ys).length/\
     (∀b o,b < s.heap.objs.size->s.heap.get? b=some o->h'.get? b=some o)) E) ci.init.plain F.entry_set_init (check_set_init_1 hT ?_)) λr₂ s₂ hr₂=> ?_
   ·obtain⟨⟨ocls,odict,odata,oslots⟩,hol,hcl,nl,hdl⟩:=hl;simp only at hcl hdl;subst hcl;subst hdl;have hol' :=hGk _ _ hol;have hsls:=F.sub_list_set;have hslf:=F.sub_list_frozenset;have hne:(Value.type "list" == Value.type "dict")=false:=by decide
    have hl1:G.IsList l its.toArray:=⟨_,hol',rfl,nl,rfl⟩;have hlS:l < s.heap.objs.size:=ag hol;unfold Builtin.«set.__init__» noKeywords Builtin.Frozenset.updateFrom;generalize hPI:pyIter=PI
    wp_walk
    subst hPI;refine wpAny_pyIter_list hl1 (a8 (wpAny_runValue ?_));have hSf:s.heap.objs.size ∉ [G.objs.size,l]:=by
     rw[hGs];intro z;rcases ak.mp z with z | z
     ·exact absurd z (aB (fB _))
     ·exact absurd (br.mp z) (ce hlS)
    refine Yq (Walks.list (A:=A.in1.in1.in1) (by simp[hh]) G.objs.size l (by rw[hGs];exact aB (cj hlS)) its.toArray) s.heap.objs.size hSf (λi=>ys.getD i ⟨#[]⟩) (λi v e=>hget i v (by simpa using e)) (by simpa using hb) its.length 0 [] _ (by simp) (bE _) (aj _)
     ⟨⟨_,am _ rfl,rfl,rfl⟩,hl1.push _⟩ ?_ ?_
    ·have hget' :(G.push { cls:= .type "list_iterator",data:= .fields #[.ref l,.int 0 0] }).get? s.heap.objs.size=some { cls:= .type "set",dict:=none,data:= .set #[] 0 (.fresh 0 0 led) }:=a7 _ hS;exact ZS ((PyProof.Rows.setObjOf_fresh (knd:=strKind prog w) led).setOf hget' (by unfold scanBound;omega)) (λo e=>e) (by funext x;simp) rfl
    ·intro h' tk' hm hS';rw[hys]at hS';refine aw (show wpAny _ _ (ret Value.none) _ _ _ from aw ⟨rfl,h',tk',rfl,hS',λb o hb e=> ?_⟩);refine hm b o (λz=> ?_) (a7 _ (hGk b o e));rcases ak.mp z with z | z
     ·exact absurd z (aB hb)
     ·have z' :b=G.objs.size:=br.mp z;rw[hGs]at z';exact absurd z' (aB (cj hb))
   ·cases r₂ with
    | error e=>exact hr₂
    | ok fl₂=>
     cases fl₂ with
     | ret r=>
      obtain⟨rfl,h',tk,rfl,hS',hk'⟩:=hr₂
      repeat any_goals (first | assumption | wp_step)
      exact h _ _ hS' hk'
     | _=>exact hr₂.elim
  | _=>exact hr.elim
end
section
variable {X:Cx}{Y:Fx}{a b:Expr}{fa fb:En->R T}{pos pos' p p' :Pos}
theorem UQ (hh:X.A.handled=none):Zw X (.type "set") (λvs H Q=>∃l xs ts ys,vs=[.ref l]/\H l=some (.lst xs)/\zC H xs ts/\WK ts=some ys/\ts.length+1 < 4096/\
  ∀q,H q=none->Q (.ref q) (upd H q (.ext λh=>h.SetOf (strKind X.prog X.w) q (λx=>decide (x∈dd [] ys)) (dd [] ys).length))):=by
 intro pins s σ H vs us Q I rv h;obtain⟨l,xs,ts,ys,rfl,hl,r,ey,hb,q⟩:=h;obtain⟨u,rfl,ru⟩:=ZL rv;obtain rfl:u=Value.ref l:=ru;obtain⟨its,rv,pl,hln,_⟩:=zI I (.inl hl) r;refine UP hh pl (wj r rv ey) (by unfold scanBound;omega) λh' tk hS hk=> ?_
 refine⟨.ref _,_,I.laid (λb u e=>hk b u (ag e) e) (aj _) ?_,rfl,q _ (I.hok.fresh (aj _))⟩;obtain⟨o,es,ep,t,ho,rr⟩:=id hS;exact⟨hS,⟨o,ho⟩,λh1 h2 ⟨o1,es1,ep1,t1,ho1,rr1⟩ e=>⟨o1,es1,ep1,t1,e _ ho1,rr1⟩⟩
theorem UR:Zw X (.builtin "len") (λvs H Q=>∃q φ f n,vs=[.ref q]/\H q=some (.ext φ)/\(∀h:Heap,φ h->h.SetOf (strKind X.prog X.w) q f n)/\Q (.int n) H):=by
 intro pins s σ H vs us Q I rv h;obtain⟨l,φ,f,n,rfl,hl,hφ,q⟩:=h;obtain⟨u,rfl,ru⟩:=ZL rv;obtain rfl:u=Value.ref l:=ru;obtain⟨h1,_,_⟩:=(show zZ _ X.w H _ l _ from I.hok l _ hl);obtain⟨o,es,ep,t,ho,hex,hd,_,_,hb,hf,hn⟩:=hφ _ h1;refine call_len_set ho hex hd hf ?_ ⟨.int _,H,I.tok _,⟨_,rfl⟩,by rw[hn];exact q⟩
 have:es.size < 4096:=hb;omega
def Yr:T->R T
 | .lst ts=>match WK ts with
  | some ys=>if ts.length+1 < 4096 then .ok (.int (dd [] ys).length) else .bad
  | none=> .bad
 | _=> .bad
theorem VY (hh:X.A.handled=none)(gl:Gl X "len")(mg:X.mg "len"=none)(gl' :Gl X "set")(mg' :X.mg "set"=none)(ha:ZR X Y a fa)(hs:St1 X a:=by exact st1 rfl)(hs' :St1 X (.Call (.Name "set" p') [a] [] pos'):=by exact st1 rfl):
  Snd X Y (.Call (.Name "len" p) [.Call (.Name "set" p') [a] [] pos'] [] pos) (ap1 Yr fa):= .mk λρ=>
 PE.imp (ZQ UR gl mg PySem.boot_len (zk (wV (UQ hh) gl' mg' PyProof.Rows.Boot.«set» (zk (ha ρ) zB hs) (by decide) (by decide) hs rfl) zB hs') (by decide) (by decide) hs' rfl) λσ H Q ⟨B,I,q⟩=>
  step I q λt v H1 _ s1 r1 I1 q1=>by
   cases r1 with
   | @lst l xs ts h r=>
    have q1:Po Y rC _ H1 (match WK ts with | some ys=>if ts.length+1 < 4096 then .ok _ else .bad | none=> .bad) Q:=q1
    split at q1
    ·rename_i ys e;split at q1
     ·rename_i hl;refine⟨l,xs,ts,ys,rfl,h,r,e,hl,λz hz=>⟨z,_,_,_,rfl,zl,λh hh=>hh, ?_⟩⟩;exact q1 _ _ (zh.new hz _) (.int _)
     ·exact q1.elim
    ·exact q1.elim
   | _=>exact q1.elim
end
theorem QK {X:Cx}{E:XK}:zO CX0 X E:=λ_ _ _ _ _ _ _ h=>h.elim
section
variable {X:Cx}{Y:Fx}{a b:Expr}{fa fb:En->R T}{pos pos' p p' :Pos}
theorem QL {cl:Nat->Value}{k j n:Nat}{f:Addr}{fd:FuncData}{ps:List Str}{g:List T->R T}{x:Str}{es:List Expr}{ga:En->R (List T)}(hy:Y.cl=cl)(F:WZ X.prog X.w X.K X.mg X.base CX0 j f fd ps (spP cl n g))(hr:Z8 k X.A)(hj:j<=k)(gl:Gl X x)
  (mg:X.mg x=some (.ref f)) (kp:bJ X.K (.ref f)=true) (bd:L2.Binds X.K fd ps []) (ha:ZI X Y (a :: es) ga) (hd:(x == ("__debug__":Str))=false:=by decide)
  (hs:starEach (a :: es) X.env=(false,eval a X.env) :: starEach es X.env:=by exact zy rfl) (hz:((backTo pos (starEach es X.env)).any λx=>x.fst)=false:=by exact Z0 rfl):Snd X Y (.Call (.Name x p) (a :: es) [] pos) (z8 n g ga):=by
 subst hy;exact qu F (hr.mono hj) gl mg kp bd QK ha hd hs hz
theorem US {x:Str}{i:Int}{u:Value}(gl:Gl X x)(mg:X.mg x=some u)(hu:∃t,u=Value.int i t)(hd:(x == ("__debug__":Str))=false:=by decide):Snd X Y (.Name x pos) (cE (.int i)):= .mk λρ=>
 PE.imp (Ub (v:= .int i) gl mg hu hd) λσ H Q ⟨B,I,q⟩=>Zi I q (.int i)
end
noncomputable def Ys (scope sc0:Scope):Bool:=(scope.kind == .function) && scope.names.all (λx=>x.2 != .cell) && scope.names.all (λx=>x.2 != .local || scope.names.lookup x.1 == some .local) &&
 scope.names.all (λx=>x.2 != .free || sc0.names.lookup x.1 == some .cell || sc0.names.lookup x.1 == some .free)
theorem ub {X:Cx}{scope:Scope}(sc0:Scope)(h0:X.env.scope=sc0)(h:Ys scope sc0=true):CSc X scope:=by
 unfold Ys at h;simp only[a9,aI]at h;obtain⟨⟨⟨h1,h2⟩,h3⟩,h4⟩:=h;refine⟨eq_of_beq h1,λx hx=>by simpa using h2 x hx,λx hx hl=> ?_,λx hx hf=> ?_⟩
 ·have:=h3 x hx;rw[hl]at this;simpa using this
 ·have:=h4 x hx;rw[hf]at this;show X.env.scope.names.lookup x.1=_\/X.env.scope.names.lookup x.1=_;rw[h0];simpa using this
noncomputable def UT (N N' :List Str)(scope sc0:Scope)(k:Nat)(js:List Nat):Bool:=(N'.length == k+js.length) && (bM js.length).all λi=>match js[i]? with
 | none=>true
 | some j=>match N'[k+i]?,N[j]? with
  | some x,some y=>(x == y) && (sc0.names.lookup x == some .cell || sc0.names.lookup x == some .free) && (scope.names.lookup x == some .free)
  | _,_=>false
theorem Jg {X:Cx}{scope:Scope}{N' :List Str}{k:Nat}{js:List Nat}(N:List Str)(sc0:Scope)(hN:X.N=N)(h0:X.env.scope=sc0)(h:UT N N' scope sc0 k js=true):Ym X scope N' k js:=by
 unfold UT at h;simp only[a9,aI]at h;obtain⟨h1,h2⟩:=h;refine⟨eq_of_beq h1,λi j e=> ?_⟩;have hi:=(aO.mp e).1;have q:=h2 i (dR.mpr hi);rw[e]at q;dsimp only at q;split at q
 ·rename_i x y e1 e2;simp only[a9,Bool.or_eq_true,beq_iff_eq]at q;obtain⟨⟨rfl,q2⟩,q3⟩:=q;refine⟨x,e1,by rw[hN];exact e2, ?_,q3, ?_⟩
  ·rw[h0];exact .inr q2
  ·show X.env.scope.names.lookup x=_\/X.env.scope.names.lookup x=_;rw[h0];exact q2
 ·cases q
theorem qB {X:Cx}{Y:Fx}{tg iter elt:Expr}{ifs:List Expr}{scope:Scope}{k:Nat}{js:List Nat}{fi:En->R (List T)}{tG:TG}{g:T->En->R En}{ft:En->R Bool}{fe:En->R T}(N' :List Str)(N:List Str)(sc0:Scope)(hN:X.N=N)(h0:X.env.scope=sc0)
  (h:(Ys scope sc0 && UT N N' scope sc0 k js)=true) (cm:X.calm=true) (it:wc X Y tg iter fi) (gt:WI X scope N' λXC=>PG XC tg tG) (gk:GOk tG g) (gn:GNo g) (tt:∀Y',Y'.cl=Y.cl->WI X scope N' λXC=>jj XC Y' ifs ft)
  (el:∀Y',Y'.cl=Y.cl->Yl X scope N' Y'.E λXC=>Snd XC Y' elt fe) (hs:∀x,foldedSetIterable iter X.env x=pure x:=by intro _;rfl):W7 X Y tg iter elt ifs scope N' k js fi tG g ft fe:=by
 rw[a9]at h;exact⟨ub sc0 h0 h.1,Jg N sc0 hN h0 h.2,cm,it,gt,gk,gn,tt,el,hs⟩
end PV
namespace PV
open PySem PySem.Spec PyProof.Rows L2 PySem.W
section
variable {X:Cx}{Y:Fx}{a b:Expr}{fa fb:En->R T}{pos pos' p p' :Pos}
theorem QM {cl:Nat->Value}{k j n:Nat}{f:Addr}{fd:FuncData}{ps:List Str}{g:List T->R T}{x:Str}{es:List Expr}{ga:En->R (List T)}(hy:Y.cl=cl)(hp:zO (CX1 X.prog X.w) X Y.E)(F:WZ X.prog X.w X.K X.mg X.base (CX1 X.prog X.w) j f fd ps (spP cl n g))(hr:Z8 k X.A)(hj:j<=k)(gl:Gl X x)
  (mg:X.mg x=some (.ref f)) (kp:bJ X.K (.ref f)=true) (bd:L2.Binds X.K fd ps []) (ha:ZI X Y (a :: es) ga) (hd:(x == ("__debug__":Str))=false:=by decide)
  (hs:starEach (a :: es) X.env=(false,eval a X.env) :: starEach es X.env:=by exact zy rfl) (hz:((backTo pos (starEach es X.env)).any λx=>x.fst)=false:=by exact Z0 rfl):Snd X Y (.Call (.Name x p) (a :: es) [] pos) (z8 n g ga):=by
 subst hy;exact qu F (hr.mono hj) gl mg kp bd hp ha hd hs hz
end
def ZO (c:Nat):En->RS:=λ_=> .ex c
section
variable {P:Program}{w:World}{K:a6}{mg:Str->Option Value}{base:Heap}{N:List Str}{qual:Str}{scope:Scope}{f:Addr}{cd:Value}{A:Around}{outer:List Env}{s:Shared}{H:Hp}{E:XK}{Y:Fx}
theorem UU {x m:Str}{C:Addr}{bm bmN:List Value}{Bn Bb newId nid initId inN:String}{np cpos pos ap:Pos}{j c:Nat}(O:OwnCls x C bm newId mg base)(Fn:ExcBaseFacts Bn newId inN bmN)(hBn:bm.contains (.type Bn)=true)(FB:ExcBaseFacts Bb nid initId bm)
  (hY:Y.E=E) (hc:Y.cl c= .ref C) (hg:Gl (Z4 (CX1 P w) P w K mg base N qual scope f cd A outer s H E) x) (hd:(x == ("__debug__":Str))=false:=by decide):
  ZJ (Z4 (CX1 P w) P w K mg base N qual scope f cd A outer s H E) Y (.Raise (some (.Call (.Name x np) [.Constant (.str m) j ap] [] cpos)) none pos) (ZO c):= .mk λρ=>by
 subst hY;refine PS.imp (Uq O Fn hBn FB hg ((qm Vs w8:ZI _ Y _ _) ρ) (zy rfl) hd) λD σ H1 ⟨B,I,q⟩=>⟨B,I,λvs H2 s2 r2=> ?_⟩;refine⟨?_, ?_⟩
 ·rw[r2.length];exact(by decide:1<=sizeLine)
 ·have:=q none H2 (I.sH.trans s2) (I.sB.trans s2);rw[hc]at this;exact this
theorem Fun.okX {x qual:Str}{st:Stmt}{f:Addr}{fd:FuncData}{N ps:List Str}{k:Nat}{sp:Sp}(F:Fun K x qual st f fd)(S:Z6 N ps (za st))(len:∀vs H Q E,sp vs H Q E->vs.length=ps.length)
  (hbody:∀(cdv:Value) (A:Around) (outer:List Env) (s:Shared) (H:Hp) (vs:List V) (Q:VK) (E:XK),Z8 k (A.deeper (envOfC qual (za st) s.heap.objs.size f cdv))->sp vs H Q E->
   ∃t,PSs (Z4 (CX1 P w) P w K mg base N qual (za st) f cdv A outer s H E) (zv st) t/\t { nx:=λ_ H' =>Q .non H',rt:=Q } (start N vs) H):WZ P w K mg base (CX1 P w) (k+1) f fd ps sp:=by
 obtain⟨oc,od,kV,doc,pm,an,cdv,ct,osl,rfl,lk,hcd⟩:=F.ex;exact Vi lk hcd S len λA outer s H vs Q E hr hsp=>hbody cdv A _ s H vs Q E hr hsp
theorem VZ {cl:Nat->Value}{x qual:Str}{st:Stmt}{f:Addr}{fd:FuncData}{N ps:List Str}{k n:Nat}{fb:En->RS}{g:List T->R T}(F:Fun K x qual st f fd)(S:Z6 N ps (za st))(hn:n=ps.length)
  (hb:∀(cdv:Value) (A:Around) (outer:List Env) (s:Shared) (H:Hp) (E:XK) (Y:Fx),Y.cl=cl->Y.E=E->Z8 k (A.deeper (envOfC qual (za st) s.heap.objs.size f cdv))->
   jF (Z4 (CX1 P w) P w K mg base N qual (za st) f cdv A outer s H E) Y (zv st) fb)
  (hg:∀ts,ts.length=n->g ts=zr (fb (en0 N.length ts))):WZ P w K mg base (CX1 P w) (k+1) f fd ps (spP cl n g):=by
 subst hn;refine Fun.okX F S spP.len λcdv A outer s H vs Q E hr ⟨B,ts,hl,sB,r,q⟩=> ?_;refine⟨_,hb cdv A _ s H E ⟨B,H,E,cl,[]⟩ rfl rfl hr _,B,SI.start sB r, ?_⟩;rw[hg ts hl]at q;revert q;cases fb _ with
 | rt t=>exact λq v H' s r=>q v H' s r
 | rf t=>exact λq a xs H' B' s0 n e r _ l=>q _ H' s0 (.lst (by rw[zD n];exact e) (r.mono l))
 | nx ρ=>exact λq σ' H' B' s' I' =>q _ H' I'.sH .non
 | bk ρ=>exact λq=>q.elim
 | ct ρ=>exact λq=>q.elim
 | ex c=>exact λq=>q
 | bad=>exact λq=>q
end
end PV
namespace PySem.W
open PySem PySem.Calls PyProof.Rows PySem.Spec Builtin Builtin.ObjectAttr Builtin.Getset_descriptor
section
variable {prog:Program}{w:World}{A:Around}{E:Value->Shared->Prop}{s:Shared}{K:Frag}{x C:Addr}
theorem W9 {tp:Value}{R:Result->Shared->Prop}(X:K.In s.heap)(L0:Looks (model prog w) s.heap (typeOf (.ref x)) (.ref C))(hm:mroIn K C (.type "object")=some true)
  (h:R (.ok (.ret (.ref C))) s):codeAny (model prog w) A (.call (.builtin "getset_descriptor.__get__") ⟨[.builtin "object.__class__",.ref x,tp],[]⟩) R s:=by
 have L1:=looks_mroIn (M:=model prog w) X hm;refine codeAny_call_builtin KF.slot_gs.plain KF.entry_gs (KF.slot_gs.check _ _ _ _ _ _ _ _ KF.type_class (KF.args_gs _ _ _) ?_);refine a8 (aw ?_);unfold descrGetter descrCheckInstance descrNameAndClass isInstance;simp only[KF.owner_class]
 repeat lk
 refine⟨dj _ (by decide+kernel),codeAny_builtin KF.entry_class ?_⟩
 repeat lk
 exact h
theorem QN {M:Model}{h:Heap}(X:K.In h)(ha:findIn K (.ref C) "__class__"=some (some (.builtin "object.__class__")))(hn:specialIn K (.builtin "object.__class__") "__get__"=some (some (.builtin "getset_descriptor.__get__")))
  (htk:takesIn K (.builtin "object.__class__")=some true):Looks M h (find (.ref x) (.ref C) "__class__") (.bind (.builtin "getset_descriptor.__get__") (.builtin "object.__class__")):=by
 have L1:=looks_findIn (M:=M) X ha;have L2:Looks M h _ _:=looks_specialIn X hn;have L3:=looks_takesIn (M:=M) X htk;refine L1.andThen (L2.andThen ?_);exact(show Looks M h (dataDescriptor? (some _) (some _)) _ from L3.andThen .now).andThen (Looks.tag .now)
theorem Yt {M:Model}{nameV:Value}{Q:Unit->Shared->Prop}(L0:Looks M s.heap (typeOf (.ref x)) (.ref C))(L1:Looks M s.heap (isSubtype (.ref C) (.type "BaseException")) true)(hq:Q () s):wpAny M A (checkBuiltinCall "BaseException.__getattribute__" ⟨[.ref x,nameV],[]⟩) Q E s:=by
 have hk:builtinKind "BaseException.__getattribute__"=some .slot:=by decide+kernel
 have hsplit:splitId "BaseException.__getattribute__"=some ("BaseException","__getattribute__"):=by decide+kernel
 simp only[checkBuiltinCall,hk,hsplit]
 repeat (first | lk | wp_step)
 exact hq
end
end PySem.W
namespace PySem.W
open PySem PySem.Calls PyProof.Rows PySem.Spec Builtin Builtin.ObjectAttr Builtin.Getset_descriptor
section
variable {prog:Program}{w:World}{A:Around}{E:Value->Shared->Prop}{s:Shared}{K:Frag}{x C:Addr}
structure XCls (K:Frag) (C:Addr):Prop where
 ga:findIn K (.ref C) "__getattribute__"=some (some (.builtin "BaseException.__getattribute__"))
 gt:findIn K (.ref C) "__getattr__"=some none
 ca:findIn K (.ref C) "__class__"=some (some (.builtin "object.__class__"))
 sp:specialIn K (.builtin "object.__class__") "__get__"=some (some (.builtin "getset_descriptor.__get__"))
 tk:takesIn K (.builtin "object.__class__")=some true
 ob:mroIn K C (.type "object")=some true
 be:mroIn K C (.type "BaseException")=some true
 cl:(clsIn K C).isSome=true
theorem Yu {tk:Tok}{Q:Fin->Shared->Prop}(X:K.In s.heap)(c:XCls K C)(L0:Looks (model prog w) s.heap (typeOf (.ref x)) (.ref C))(hq:Q (.done (.ret (.ref C))) s):
  wpAny (model prog w) A (Builtin.«object.__getattribute__» ⟨[.ref x,.str "__class__" tk],[]⟩) Q E s:=by
 have L1:=QN (M:=model prog w) (x:=x) X c.ca c.sp c.tk;refine a8 (aw (a8 (aw (a8 (L0.at (a8 (L1.at ?_)))))));refine a8 (wpAny_call (W9 X L0 c.ob ?_));exact aw hq
end
end PySem.W
namespace PySem.W
open PySem PySem.Calls PyProof.Rows PySem.Spec Builtin Builtin.ObjectAttr Builtin.Getset_descriptor
section
variable {prog:Program}{w:World}{A:Around}{E:Value->Shared->Prop}{s:Shared}{K:Frag}{x C:Addr}
theorem Yv {Q:Option Value->Shared->Prop}(X:K.In s.heap)(c:XCls K C)(L0:Looks (model prog w) s.heap (typeOf (.ref x)) (.ref C))(h:Q (some (.ref C)) { s with toks:=s.toks+1 }):wpAny (model prog w) A (getAttr? (.ref x) "__class__") Q E s:=by
 have L1:=looks_findIn (M:=model prog w) X c.ga;have L2:=looks_findIn (M:=model prog w) X c.gt;have L3:=looks_mroIn (M:=model prog w) X c.be;have fb:=dA.ga.bind (.ref x);refine a8 (wpAny_mkText (a8 (wpAny_attempt (a_ (a8 (L0.at (a8 (L1.at ?_))))))));refine a8 ?_;refine L2.at ?_;refine a8 (wpAny_attempt (a_ ?_));unfold callGetattribute;unfold boundAndCalled;rw[fb];refine wpAny_call (codeAny_call_builtin dA.ga.plain PySem.F.entry_bexc_ga (Yt L0 L3 (Yu X c L0 ?_)));exact handed_on rfl (aw h)
theorem QO (c:XCls K C):KitX K (.ref x) (.ref C) (λh=>∃o,h.get? x=some o/\o.cls= .ref C) where
 ty:=λM h _ ⟨o,h1,h2⟩=>h2 ▸ (Looks.ld h1).andThen .now
 it:=λ_ _ X _=>by
  obtain⟨cdD,hcD⟩:=bZ.mp c.cl;unfold clsIn at hcD;split at hcD
  ·rename_i c' d' cd' sl' ho;intro A' Q' E' s' k q;unfold isType loadHead;exact a8 (wpAny_loadPart (k _ _ (X _ _ ho)) (aw q))
  ·cases hcD
 ne:=λh tp dd its n sl X htp=>by
  obtain⟨cdD,hcD⟩:=bZ.mp c.cl;refine Bool.eq_false_iff.mpr λq=> ?_;have e:C=tp:=Value.ref.inj (beq_iff_eq.mp q);subst e;unfold clsIn at hcD;split at hcD
  ·rename_i c' d' cd' sl' ho;have z:=(X _ _ ho).symm.trans htp;cases z
  ·cases hcD
 ca:=λ{prog w A E Q s} X ⟨o,h1,h2⟩ k=>Yv X c (h2 ▸ (Looks.ld h1).andThen .now) k
end
end PySem.W
namespace PV
open PySem PySem.Spec PyProof.Rows L2 PySem.W
section
variable {X:Cx}{Y:Fx}{a b:Expr}{fa fb:En->R T}{pos pos' p p' :Pos}
def jQ (i:Nat)(ok tab:Nat->Bool):En->R T:=λρ=>match ρ[i]? with
 | some (.xc c)=>if ok c=true then .ok (.bl (tab c)) else .bad
 | _=> .bad
theorem Wa:Zw X (.builtin "isinstance") (λxs H Q=>∃a C v b,xs=[.ref a,v]/\H a=some (.ext (Ur (.ref C) a))/\XCls X.K C/\(∀u,zT v u->kitOne X.K (.ref C) u=some b)/\Q (.bl b) H):=by
 intro pins s σ H xs us Q I rv h;obtain⟨a,C,v,b,rfl,e,c,hk,q⟩:=h;obtain⟨u,w,rfl,ru,rw'⟩:=Y8 rv;obtain rfl:u=Value.ref a:=ru;obtain⟨hx,_,_⟩:=(show zZ _ X.w H _ a _ from I.hok a _ e);exact kia_one (QO c) I.kIn hx (hk w rw') (λz=>nomatch z) λtk=>⟨.bl _,H,I.tok tk,rfl,q⟩
structure XK1 (K:Frag) (cl:Nat->Value) (ok:Nat->Bool):Prop where
 at_:∀c,ok c=true->∃C,cl c= .ref C/\XCls K C
theorem ZY {i:Nat}{ok tab:Nat->Bool}{y cn:Str}{C:Addr}{yp cp:Pos}(hK:XK1 X.K Y.cl ok)(ht:∀c,ok c=true->kitOne X.K (Y.cl c) (.ref C)=some (tab c))(gl:Gl X "isinstance")(mg:X.mg "isinstance"=none)(hv:PE X (.Name y yp) (Y0 i))(gl' :Gl X cn)(mg' :X.mg cn=some (.ref C))
  (hd:(cn == ("__debug__":Str))=false:=by decide):Snd X Y (.Call (.Name "isinstance" p) [.Name y yp,.Name cn cp] [] pos) (jQ i ok tab):= .mk λρ=>
 PE.imp (ZQ Wa gl mg PyProof.Rows.Boot.«isinstance» (zk hv (zk (Ub (v:= .ref C) gl' mg' rfl hd) zB (st1 rfl)) (st2 rfl rfl)) (by decide) (by decide) (by rw[st2 rfl rfl,st1 rfl]) (Z0 rfl)) λσ H Q ⟨B,I,q⟩=>by
  unfold jQ at q;split at q
  ·rename_i c e;split at q
   ·rename_i hc;obtain⟨a,e1,r⟩:=I.xc i c e;obtain⟨Cc,e2,xc⟩:=hK.at_ c hc;have ht' :=ht c hc;rw[e2]at r ht';exact⟨_,e1,a,Cc,_,_,rfl,I.sB a _ r,xc,λu ru=>by obtain rfl:u=Value.ref C:=ru;exact ht',Zi I q (.bl _)⟩
   ·exact q.elim
  ·exact q.elim
theorem QP {i:Nat}{ok tab:Nat->Bool}{y:Str}{n:String}{yp cp:Pos}(hK:XK1 X.K Y.cl ok)(ht:∀c,ok c=true->kitOne X.K (Y.cl c) (.type n)=some (tab c))(gl:Gl X "isinstance")(mg:X.mg "isinstance"=none)(hv:PE X (.Name y yp) (Y0 i))(gl' :Gl X (aW n))(mg' :X.mg (aW n)=none)
  (bt:bootBuiltins (aW n)=some (.type n)) (hn:aW n ≠ "__name__":=by decide) (hd:(aW n == ("__debug__":Str))=false:=by decide):Snd X Y (.Call (.Name "isinstance" p) [.Name y yp,.Name (aW n) cp] [] pos) (jQ i ok tab):= .mk λρ=>
 PE.imp (ZQ Wa gl mg PyProof.Rows.Boot.«isinstance» (zk hv (zk (Uc (v:= .ty n) gl' mg' bt rfl hn hd) zB (st1 rfl)) (st2 rfl rfl)) (by decide) (by decide) (by rw[st2 rfl rfl,st1 rfl]) (Z0 rfl)) λσ H Q ⟨B,I,q⟩=>by
  unfold jQ at q;split at q
  ·rename_i c e;split at q
   ·rename_i hc;obtain⟨a,e1,r⟩:=I.xc i c e;obtain⟨Cc,e2,xc⟩:=hK.at_ c hc;have ht' :=ht c hc;rw[e2]at r ht';exact⟨_,e1,a,Cc,_,_,rfl,I.sB a _ r,xc,λu ru=>by obtain rfl:u=Value.type n:=ru;exact ht',Zi I q (.bl _)⟩
   ·exact q.elim
  ·exact q.elim
def spC (cl:Nat->Value)(gx:Nat->R T):Sp:=λvs H Q E=>∃B a c,vs=[V.ref a]/\zh B H/\B a=some (.ext (Ur (cl c) a))/\Po ⟨B,H,E,cl,[]⟩ rC B H (gx c) Q
end
section
variable {P:Program}{w:World}{K:a6}{mg:Str->Option Value}{base:Heap}
def enC (n c:Nat):En:= .xc c :: av (n - 1) .un
theorem SI.startC {Y:Fx}{N:List Str}{a:Addr}{c:Nat}(s:zh Y.B0 Y.H0)(hN:1<=N.length)(r:Y.B0 a=some (.ext (Ur (Y.cl c) a))):SI Y Y.B0 (enC N.length c) (L2.start N [V.ref a]) Y.H0 where
 s0:=s
 sH:=zh.refl _
 sB:=s
 old:=λ_ _ _=>rfl
 len:=by unfold enC L2.start;simp
 vl:=λi t h=>by
  unfold enC at h;cases i with
  | zero=>cases h
  | succ i=>rw[c6,aA]at h;split at h <;> cases h
 ow:=λi t h=>by
  unfold enC at h;cases i with
  | zero=>cases h
  | succ i=>rw[c6,aA]at h;split at h <;> cases h
 xc:=λi d h=>by
  unfold enC at h;cases i with
  | zero=>
   cases h;exact⟨a,by unfold L2.start;rfl,r⟩
  | succ i=>rw[c6,aA]at h;split at h <;> cases h
 st:=StI.no λi y hy h=>by
  unfold enC at h;cases i with
  | zero=>cases h;cases hy
  | succ i=>
   rw[c6,aA]at h;split at h
   ·cases h;cases hy
   ·cases h
end
end PV
namespace PySem.ZG
open PySem PySem.Spec PySem.Builtin.SmallTypes
end PySem.ZG
namespace PySem.ZG
open PySem PySem.Spec PySem.Builtin.SmallTypes
end PySem.ZG
namespace PySem.ZG
open PySem PySem.Spec PySem.Builtin.SmallTypes
end PySem.ZG
namespace PySem.ZG
open PySem PySem.Spec PySem.Builtin.SmallTypes
end PySem.ZG
namespace PySem.ZG
open PySem PySem.Spec PySem.Builtin.SmallTypes
end PySem.ZG
namespace PV
open PySem PySem.Spec PyProof.Rows L2 PySem.ZG
end PV
namespace PV
open PySem PySem.Spec PyProof.Rows L2
def eqs (y:T):List T->Option (List Bool)
 | []=>some []
 | t :: ts=>match eqF 30 t y with
  | none=>none
  | some b=>match eqs y ts with
   | none=>none
   | some bs=>some (b :: bs)
def kO (y:T)(ts:List T):R T:=match eqs y ts with
 | some bs=> .ok (.int (bs.count true))
 | none=> .bad
def kQ (y:T)(ts:List T):R T:=match eqs y ts with
 | some bs=>if true∈bs then .ok (.int (bs.idxOf true)) else .bad
 | none=> .bad
def Xn (g:T->List T->R T)(fa fb:En->R T):En->R T:=λρ=>(fa ρ).bind λt=>match t with
 | .lst ts=>(fb ρ).bind λu=>g u ts
 | _=> .bad
theorem UV {H:Hp}{y:T}{e:Value->Bool}(he:∀(v:V) (t:T) (u:Value) (b:Bool),zT v u->Rep H v t->eqF 30 t y=some b->e u=b):∀{xs:List V} {ts:List T} {its:List Value} {bs:List Bool},
  zM xs its->zC H xs ts->eqs y ts=some bs->its.map e=bs/\∀u∈its,∃v t k,zT v u/\Rep H v t/\eqF 30 t y=some k
 | _,_,_,_,.nil,.nil,h=>by
  cases h;exact⟨rfl,λu hu=>by simp at hu⟩
 | _,_,_,_,.cons rv vs,.cons r rs,h=>by
  rename_i v u vals us t ts;unfold eqs at h;cases q:eqF 30 t y with
  | none=>rw[q]at h;cases h
  | some k=>
   rw[q]at h;cases q' :eqs y ts with
   | none=>rw[q']at h;cases h
   | some k' =>
    rw[q']at h;cases h;obtain⟨h1,h2⟩:=UV he vs rs q';refine⟨by rw[aZ,h1,he v t u k rv r q],λw hw=> ?_⟩
    rcases ak.mp hw with z | hw
    ·exact⟨v,t,k,z ▸ rv,r,q⟩
    ·exact h2 w hw
section
variable {X:Cx}{Y:Fx}{a b:Expr}{fa fb:En->R T}{pos p p' pos' :Pos}
theorem UW {e:Value->Bool}:∀its:List Value,List.countP e its=(its.map e).count true
 | []=>rfl
 | u :: us=>by
  rw[List.countP_cons,aZ,List.count_cons,UW us];cases e u <;> rfl
theorem Yw (hu:X.A.units+64 < cLine):MtR X "list.count" (λx xs H Q=>∃l ys ts v t bs,x= .ref l/\xs=[v]/\H l=some (.lst ys)/\zC H ys ts/\Rep H v t/\eqs t ts=some bs/\Q (.int (bs.count true)) H):=by
 intro pins s σ H x xs v0 us Q I rx rv h;obtain⟨l,ys,ts,v,t,bs,rfl,rfl,hl,r,rt,e,q⟩:=h;obtain rfl:v0=Value.ref l:=rx;obtain⟨u,rfl,ru⟩:=ZL rv;obtain⟨hz,its,n,ri,eo⟩:=(show zZ _ X.w H _ l _ from I.hok l _ hl);obtain⟨f,hf⟩:=WG λz=>eqF 30 z t;obtain⟨h2,h3⟩:=UV hf ri r e;refine bO dB ⟨_,eo,rfl⟩ PySem.F.entry_list_count (PySem.F.args_list_count_2 _ _) (SeqAt.list_countAt l _ n _ #[] u f) ⟨eo,λw hw=> ?_, ?_⟩
 ·obtain⟨v',t',k,rv',rr,ee⟩:=h3 w (by simpa using hw)
  rw[hf v' t' w k rv' rr ee];exact(Ux I 30 _ (by rw[jh];omega) t' t k v' v w u ee rr rt rv' ru).1
 ·rw[UW,h2];exact⟨.int _,H,I.tok _,⟨_,rfl⟩,q⟩
theorem Yx (hu:X.A.units+64 < cLine):MtR X "list.index" (λx xs H Q=>∃l ys ts v t bs,x= .ref l/\xs=[v]/\H l=some (.lst ys)/\zC H ys ts/\Rep H v t/\eqs t ts=some bs/\true∈bs/\Q (.int (bs.idxOf true)) H):=by
 intro pins s σ H x xs v0 us Q I rx rv h;obtain⟨l,ys,ts,v,t,bs,rfl,rfl,hl,r,rt,e,hm,q⟩:=h;obtain rfl:v0=Value.ref l:=rx;obtain⟨u,rfl,ru⟩:=ZL rv;obtain⟨hz,its,n,ri,eo⟩:=(show zZ _ X.w H _ l _ from I.hok l _ hl);obtain⟨f,hf⟩:=WG λz=>eqF 30 z t;obtain⟨h2,h3⟩:=UV hf ri r e;have hj:=List.idxOf_lt_length_iff.mpr hm;have hlen:bs.length=its.length:=by rw[← h2,ah]
 have hri:=ri.length;rw[c8]at hz;have hat:∀m (hm:m < its.length),f its[m]=bs[m]'(by rw[hlen];exact hm):=λm hm=>by
  have:(its.map f)[m]'(by rw[ah];exact hm)=bs[m]'(by rw[hlen];exact hm):=by simp only[h2]
  rw[← this,List.getElem_map]
 refine bO dC ⟨_,eo,rfl⟩ PySem.F.entry_list_index (PySem.F.args_list_index_2 _ _) (SeqAt.list_indexAt l _ n _ #[] u f _ (by rw[aD,← hlen];exact hj) (by omega) ?_ ?_) ⟨eo,λw hw=> ?_, ?_⟩
 ·rw[d_,hat];exact List.getElem_idxOf hj
 ·intro m hm hlt;rw[d_,hat m (by simpa using hm)]
  have:=List.not_of_lt_findIdx hlt;simpa using this
 ·obtain⟨v',t',k,rv',rr,ee⟩:=h3 w (by simpa using hw)
  rw[hf v' t' w k rv' rr ee];exact(Ux I 30 _ (by rw[jh];omega) t' t k v' v w u ee rr rt rv' ru).1
 ·exact⟨.int _,H,I.tok _,⟨_,rfl⟩,q⟩
theorem QR {pa:Pos}(hu:X.A.units+64 < cLine)(ha:ZR X Y a fa)(hb:ZR X Y b fb)(hb1:attributeBase a "count" X.env (eval a X.env)=eval a X.env:=by rfl)(hs:St1 X b:=by exact st1 rfl)(hz:(pa.endLine == p.line)=true:=by rfl):
  Snd X Y (.Call (.Attribute a "count" pa) [b] [] p) (Xn kO fa fb):= .mk λρ=>by
 have e1:(((((backTo p (starEach [b] X.env)).all λx=> !x.fst) && (backToKw p (keywordEach [] X.env)).all λx=>x.fst.isSome) && decide (([b].length+([]:List Keyword).length+if ([]:List Keyword).isEmpty=true then 0 else 1) < 30))=true):=by rw[hs];rfl
 refine PE.imp (jZ b_ dB PySem.F.type_list_count (Yw hu) (ha ρ) (zk (hb ρ) zB hs) hb1 e1 hz hs rfl) λσ H Q ⟨B,I,q⟩=>step I q λt v H1 _ s1 r1 I1 q1=> ?_;cases t with
 | lst ts=>
  cases r1 with
  | @lst l xs _ h r=>
   refine⟨.inl ⟨rfl,_,SqL.of h⟩,step I1 q1 λu v' H2 _ s2 r2 I2 q2=> ?_⟩;unfold kO at q2;split at q2
   ·rename_i bs e;exact⟨l,xs,ts,v',u,bs,rfl,rfl,s2 _ _ h,r.mono s2,r2,e,Zi I2 q2 (.int _)⟩
   ·exact q2.elim
 | _=>exact q1.elim
theorem QS {pa:Pos}(hu:X.A.units+64 < cLine)(ha:ZR X Y a fa)(hb:ZR X Y b fb)(hb1:attributeBase a "index" X.env (eval a X.env)=eval a X.env:=by rfl)(hs:St1 X b:=by exact st1 rfl)(hz:(pa.endLine == p.line)=true:=by rfl):
  Snd X Y (.Call (.Attribute a "index" pa) [b] [] p) (Xn kQ fa fb):= .mk λρ=>by
 have e1:(((((backTo p (starEach [b] X.env)).all λx=> !x.fst) && (backToKw p (keywordEach [] X.env)).all λx=>x.fst.isSome) && decide (([b].length+([]:List Keyword).length+if ([]:List Keyword).isEmpty=true then 0 else 1) < 30))=true):=by rw[hs];rfl
 refine PE.imp (jZ b_ dC PySem.F.type_list_index (Yx hu) (ha ρ) (zk (hb ρ) zB hs) hb1 e1 hz hs rfl) λσ H Q ⟨B,I,q⟩=>step I q λt v H1 _ s1 r1 I1 q1=> ?_;cases t with
 | lst ts=>
  cases r1 with
  | @lst l xs _ h r=>
   refine⟨.inl ⟨rfl,_,SqL.of h⟩,step I1 q1 λu v' H2 _ s2 r2 I2 q2=> ?_⟩;unfold kQ at q2;split at q2
   ·rename_i bs e;split at q2
    ·rename_i hm;exact⟨l,xs,ts,v',u,bs,rfl,rfl,s2 _ _ h,r.mono s2,r2,e,hm,Zi I2 q2 (.int _)⟩
    ·exact q2.elim
   ·exact q2.elim
 | _=>exact q1.elim
end
end PV
namespace PySem.RV
open PySem PySem.Spec PyProof.Rows PySem.Builtin.SmallTypes
end PySem.RV
namespace PySem.RV
open PySem PySem.Spec PyProof.Rows
end PySem.RV
namespace PV
open PySem PySem.Spec PyProof.Rows L2
end PV
namespace PySem.RV
open PySem PySem.Spec PyProof.Rows PySem.Builtin.SmallTypes
end PySem.RV
namespace PV
open PySem PySem.Spec PyProof.Rows L2
end PV
namespace PySem.RW37
open PySem PySem.Spec PyProof.Rows L2
end PySem.RW37
namespace PV
open PySem PySem.Spec PyProof.Rows L2 PySem.RW37
end PV
namespace PV
open PySem PySem.Spec PyProof.Rows L2
end PV
namespace PySem.RV
open PySem PySem.Spec PyProof.Rows PySem.Builtin.SmallTypes
end PySem.RV
namespace PV
open PySem PySem.Spec PyProof.Rows L2
noncomputable def uc (t t' :T):R Bool:=match t,t' with
 | .str x,.str y=> .ok (Txt.contains y x)
 | _,_=> .bad
theorem x6:Nx uc:=λt t' c h=>by
 unfold uc at h;split at h <;> cases h
section
variable {X:Cx}{Y:Fx}{a b c:Expr}{fa fb fc:En->R T}{pos p:Pos}
theorem QT:OpR X (compareOp .In) (wa uc):=by
 intro pins s σ H x y v u Q I rx ry h;obtain⟨t,t',k,r,r',e,q⟩:=h;unfold uc at e;split at e
 ·cases e;cases r;cases r';obtain⟨t1,rfl⟩:=rx;obtain⟨t2,rfl⟩:=ry;exact P.in_str ⟨.bl _,H,I,rfl,q⟩
 ·cases e
def smE (g:Str->T->R T)(fa fb:En->R T):En->R T:=λρ=>(fa ρ).bind λt=>match t with
 | .str x=>(fb ρ).bind λu=>g x u
 | _=> .bad
noncomputable def yV (x:Str):T->R T
 | .str y=> .ok (.bl (bK x y))
 | _=> .bad
noncomputable def vP (x:Str):T->R T
 | .str y=> .ok (.bl (bX x y))
 | _=> .bad
def vQ (x:Str):T->R T
 | .str y=>if x.length<=bnd/\(y.length == 0)=false then .ok (.tup [.str (bo x y).1,.str (bo x y).2.1,.str (bo x y).2.2]) else .bad
 | _=> .bad
def x8 (x:Str):T->R T
 | .str y=>if x.length<=bnd/\(y.length == 0)=false then .ok (.tup [.str (bg x y).1,.str (bg x y).2.1,.str (bg x y).2.2]) else .bad
 | _=> .bad
noncomputable def Xo (x:Str):T->R T
 | .str y=>if x.length<=1000/\(y.length == 0)=false then .ok (.lst ((cV x y).map T.str)) else .bad
 | _=> .bad
def Yy (fa fb fc:En->R T):En->R T:=λρ=>(fa ρ).bind λt=>match t with
 | .str x=>(fb ρ).bind λu=>(fc ρ).bind λw=>match u,w with
  | .str y,.int i=> .ok (.bl (cG x y i))
  | _,_=> .bad
 | _=> .bad
theorem qC:MtR X "str.startswith" (λx xs H Q=>(∃z y,x= .str z/\xs=[.str y]/\Q (.bl (bK z y)) H)\/∃z y i,x= .str z/\xs=[.str y,.int i]/\Q (.bl (cG z y i)) H):=by
 intro pins s σ H x xs v us Q I rx rv h;rcases h with ⟨z,y,rfl,rfl,q⟩ | ⟨z,y,i,rfl,rfl,q⟩
 ·obtain⟨t,rfl⟩:=rx;obtain⟨u,rfl,ru⟩:=ZL rv;obtain⟨t2,rfl⟩:=ru;exact call_gives F.slot_str_startswith (cf _ _ _) F.entry_str_startswith (F.args_str_startswith_2 _ _) (gives_str_startswith z y t t2) ⟨.bl _,H,I,rfl,q⟩
 ·obtain⟨t,rfl⟩:=rx;obtain⟨u,u3,rfl,ru,r3⟩:=Y8 rv;obtain⟨t2,rfl⟩:=ru;obtain⟨t3,rfl⟩:=r3;refine SC.startswith3 ?_;exact⟨.bl _,H,I,rfl,q⟩
theorem x9:MtR X "str.endswith" (λx xs H Q=>∃z y,x= .str z/\xs=[.str y]/\Q (.bl (bX z y)) H):=by
 intro pins s σ H x xs v us Q I rx rv h;obtain⟨z,y,rfl,rfl,q⟩:=h;obtain⟨t,rfl⟩:=rx;obtain⟨u,rfl,ru⟩:=ZL rv;obtain⟨t2,rfl⟩:=ru;exact call_gives F.slot_str_endswith (cf _ _ _) F.entry_str_endswith (F.args_str_endswith_2 _ _) (gives_str_endswith z y t t2) ⟨.bl _,H,I,rfl,q⟩
theorem jl {pins:List (Addr×Obj)}{s:Shared}{σ:L2.St}{H:Hp}(I:Inv X pins σ H s)(x y z:Str)(t1 t2 t3:Tok)(k:Nat){Q:VK}(q:∀p,H p=none->Q (.ref p) (upd H p (.tup [.str x,.str y,.str z]))):
  EP X pins σ Q (.ref s.heap.objs.size) { s with heap:=s.heap.push { cls:= .type "tuple",data:= .seq [.str x t1,.str y t2,.str z t3].toArray },toks:=k }:=
 ⟨.ref _,upd H _ (.tup [.str x,.str y,.str z]),I.laid (λb u e=>a7 _ e) (aj _) ⟨by show 3<=16777216;decide,[.str x t1,.str y t2,.str z t3],.cons ⟨_,rfl⟩ (.cons ⟨_,rfl⟩ (.cons ⟨_,rfl⟩ .nil)),⟨_,am _ rfl,rfl,_,rfl⟩,.inr ⟨_,am _ rfl,rfl⟩⟩,rfl,q _ (I.hok.fresh (aj _))⟩
theorem xa:MtR X "str.partition" (λx xs H Q=>∃z y,x= .str z/\xs=[.str y]/\z.length<=bnd/\(y.length == 0)=false/\∀p,H p=none->Q (.ref p) (upd H p (.tup [.str (bo z y).1,.str (bo z y).2.1,.str (bo z y).2.2]))):=by
 intro pins s σ H x xs v us Q I rx rv h;obtain⟨z,y,rfl,rfl,hz,hy,q⟩:=h;obtain⟨t,rfl⟩:=rx;obtain⟨u,rfl,ru⟩:=ZL rv;obtain⟨t2,rfl⟩:=ru;refine bO F.slot_str_partition (cf _ _ _) F.entry_str_partition (F.args_str_partition_2 _ _) (meets_str_partition z y t t2 hy (zV hz)) ?_;unfold bo at q;revert q;cases bL z y 0 _ 1 with
 | nil=>exact λq=>jl I _ _ _ _ _ _ _ q
 | cons i r=>exact λq=>jl I _ _ _ _ _ _ _ q
theorem xb:MtR X "str.rpartition" (λx xs H Q=>∃z y,x= .str z/\xs=[.str y]/\z.length<=bnd/\(y.length == 0)=false/\∀p,H p=none->Q (.ref p) (upd H p (.tup [.str (bg z y).1,.str (bg z y).2.1,.str (bg z y).2.2]))):=by
 intro pins s σ H x xs v us Q I rx rv h;obtain⟨z,y,rfl,rfl,hz,hy,q⟩:=h;obtain⟨t,rfl⟩:=rx;obtain⟨u,rfl,ru⟩:=ZL rv;obtain⟨t2,rfl⟩:=ru;refine bO F.slot_str_rpartition (cf _ _ _) F.entry_str_rpartition (F.args_str_rpartition_2 _ _) (meets_str_rpartition z y t t2 hy (zV hz)) ?_;unfold bg at q;revert q;cases Builtin.Str.lastOccurrence z y 0 _ with
 | none=>exact λq=>jl I _ _ _ _ _ _ _ q
 | some i=>exact λq=>jl I _ _ _ _ _ _ _ q
theorem Wb:∀l:List (Str×Tok),zM (l.map λp=>V.str p.1) (strValues l)
 | []=> .nil
 | (x,t) :: r=> .cons ⟨t,rfl⟩ (Wb r)
theorem wk {pins:List (Addr×Obj)}{s:Shared}{σ:L2.St}{H:Hp}(I:Inv X pins σ H s)(l:List (Str×Tok))(k:Nat){ys:List Str}(hl:l.map (·.1)=ys)(hz:ys.length<=sizeLine){Q:VK}(q:∀p,H p=none->Q (.ref p) (upd H p (.lst (ys.map V.str)))):
  EP X pins σ Q (.ref s.heap.objs.size) { s with heap:=s.heap.push { cls:= .type "list",data:= .seq (strValues l).toArray },toks:=k }:=by
 subst hl;have e:(l.map (·.1)).map V.str=l.map λp=>V.str p.1:=by rw[bz];rfl
 rw[e]at q;refine⟨.ref _,upd H _ (.lst (l.map λp=>V.str p.1)),I.laid (λb u e=>a7 _ e) (aj _) ⟨?_,strValues l,0,Wb l,am _ rfl⟩,rfl,q _ (I.hok.fresh (aj _))⟩;rw[ah]at hz ⊢;exact hz
theorem UX (x y:Str):(cV x y).length<=x.length+2:=by
 unfold cV;have e1:=dQ x y 0 x.length (x.length+1);split
 ·simp
 ·split
  ·simp
  ·rw[length_partsBetween];omega
theorem xf:MtR X "str.split" (λx xs H Q=>∃z y,x= .str z/\xs=[.str y]/\z.length<=1000/\(y.length == 0)=false/\∀p,H p=none->Q (.ref p) (upd H p (.lst ((cV z y).map V.str)))):=by
 intro pins s σ H x xs v us Q I rx rv h;obtain⟨z,y,rfl,rfl,hz,hy,q⟩:=h;obtain⟨t,rfl⟩:=rx;obtain⟨u,rfl,ru⟩:=ZL rv;obtain⟨t2,rfl⟩:=ru;have hs:(cV z y).length<=sizeLine:=by
  have:=UX z y;rw[c8];omega
 have hn:(Builtin.Str.partsBetween z (bL z y 0 z.length (z.length+1)) y.length).length<=sizeLine:=by
  have e1:=dQ z y 0 z.length (z.length+1);rw[length_partsBetween,c8];omega
 cases h1:(decide (z.length < y.length) || decide (eB z < eB y))
 ·cases hf:(bL z y 0 _ _).isEmpty
  ·refine bO dD (cf _ _ _) dt (dm _ _) (meets_str_split_sep z y t t2 h1 hy hf (by rw[c8];omega) hn) ?_
   rw[strsFrom_eq];exact wk I _ _ ((numbered_texts _ _).trans ((if_neg (ne_true_of_eq_false h1)).trans (if_neg (ne_true_of_eq_false hf))).symm) hs q
  ·refine bO dD (cf _ _ _) dt (dm _ _) (meets_str_split_not_found z y t t2 h1 hy hf) ?_;exact wk I [(z,t)] _ ((if_neg (ne_true_of_eq_false h1)).trans (if_pos hf)).symm hs q
 ·refine bO dD (cf _ _ _) dt (dm _ _) (meets_str_split_cannot_occur z y t t2 h1) ?_;exact wk I [(z,t)] _ (if_pos h1).symm hs q
section
variable {pa:Pos}
theorem xg {b:Expr}{p:Pos}(hs:St1 X b):(((((backTo p (starEach [b] X.env)).all λx=> !x.fst) && (backToKw p (keywordEach [] X.env)).all λx=>x.fst.isSome) && decide (([b].length+([]:List Keyword).length+if ([]:List Keyword).isEmpty=true then 0 else 1) < 30))=true):=by rw[hs];rfl
theorem kR (ha:Snd X Y a fa)(hb:Snd X Y b fb)(hb1:attributeBase a "startswith" X.env (eval a X.env)=eval a X.env:=by rfl)(hs:St1 X b:=by exact st1 rfl)(hz:(pa.endLine == p.line)=true:=by rfl):
  Snd X Y (.Call (.Attribute a "startswith" pa) [b] [] p) (smE yV fa fb):= .mk λρ=>
 PE.imp (jZ bp db de qC (ha ρ) (zk (hb ρ) zB hs) hb1 (xg hs) hz hs rfl) λσ H Q ⟨B,I,q⟩=>step I q λt v H1 _ s1 r1 I1 q1=>by
  cases r1 with
  | str x=>
   refine⟨rfl,step I1 q1 λu v' H2 _ s2 r2 I2 q2=> ?_⟩;cases r2 with
   | str y=>exact .inl ⟨x,y,rfl,rfl,po0 I2.sB q2 rfl (.bl _)⟩
   | _=>exact q2.elim
  | _=>exact q1.elim
theorem xh (ha:Snd X Y a fa)(hb:Snd X Y b fb)(hc:Snd X Y c fc)(hb1:attributeBase a "startswith" X.env (eval a X.env)=eval a X.env:=by rfl)(hs:starEach [b,c] X.env=[(false,eval b X.env),(false,eval c X.env)]:=by exact st2 rfl rfl)(hs2:St1 X c:=by exact st1 rfl)(hz:(pa.endLine == p.line)=true:=by rfl):
  Snd X Y (.Call (.Attribute a "startswith" pa) [b,c] [] p) (Yy fa fb fc):= .mk λρ=>
 PE.imp (jZ bp db de qC (ha ρ) (zk (hb ρ) (zk (hc ρ) zB hs2) (by rw[hs,hs2])) hb1 (by rw[hs];rfl) hz (by rw[hs,hs2]) (by rw[hs2];rfl)) λσ H Q ⟨B,I,q⟩=>step I q λt v H1 _ s1 r1 I1 q1=>by
  cases r1 with
  | str x=>
   refine⟨rfl,step I1 q1 λu v' H2 _ s2 r2 I2 q2=>step I2 q2 λw v3 H3 _ s3 r3 I3 q3=> ?_⟩;cases r2 with
   | str y=>
    cases r3 with
    | int i=>exact .inr ⟨x,y,i,rfl,rfl,po0 I3.sB q3 rfl (.bl _)⟩
    | _=>exact q3.elim
   | _=>cases r3 <;> exact q3.elim
  | _=>exact q1.elim
theorem kS (ha:Snd X Y a fa)(hb:Snd X Y b fb)(hb1:attributeBase a "endswith" X.env (eval a X.env)=eval a X.env:=by rfl)(hs:St1 X b:=by exact st1 rfl)(hz:(pa.endLine == p.line)=true:=by rfl):
  Snd X Y (.Call (.Attribute a "endswith" pa) [b] [] p) (smE vP fa fb):= .mk λρ=>
 PE.imp (jZ bp PySem.F.slot_str_endswith PySem.F.type_str_endswith x9 (ha ρ) (zk (hb ρ) zB hs) hb1 (xg hs) hz hs rfl) λσ H Q ⟨B,I,q⟩=>step I q λt v H1 _ s1 r1 I1 q1=>by
  cases r1 with
  | str x=>
   refine⟨rfl,step I1 q1 λu v' H2 _ s2 r2 I2 q2=> ?_⟩;cases r2 with
   | str y=>exact⟨x,y,rfl,rfl,po0 I2.sB q2 rfl (.bl _)⟩
   | _=>exact q2.elim
  | _=>exact q1.elim
theorem xi {H:Hp}(x y z:Str):zC H [V.str x,.str y,.str z] [T.str x,.str y,.str z]:= .cons (.str _) (.cons (.str _) (.cons (.str _) .nil))
theorem xj {H:Hp}:∀ys:List Str,zC H (ys.map V.str) (ys.map T.str)
 | []=> .nil
 | _ :: r=> .cons (.str _) (xj r)
theorem kT (ha:Snd X Y a fa)(hb:Snd X Y b fb)(hb1:attributeBase a "partition" X.env (eval a X.env)=eval a X.env:=by rfl)(hs:St1 X b:=by exact st1 rfl)(hz:(pa.endLine == p.line)=true:=by rfl):
  Snd X Y (.Call (.Attribute a "partition" pa) [b] [] p) (smE vQ fa fb):= .mk λρ=>
 PE.imp (jZ bp PySem.F.slot_str_partition PySem.F.type_str_partition xa (ha ρ) (zk (hb ρ) zB hs) hb1 (xg hs) hz hs rfl) λσ H Q ⟨B,I,q⟩=>step I q λt v H1 _ s1 r1 I1 q1=>by
  cases r1 with
  | str x=>
   refine⟨rfl,step I1 q1 λu v' H2 _ s2 r2 I2 q2=> ?_⟩;cases r2 with
   | str y=>
    have q2:Po Y rC _ H2 (if x.length<=bnd/\(y.length == 0)=false then .ok _ else .bad) Q:=q2
    split at q2
    ·rename_i hc;exact⟨x,y,rfl,rfl,hc.1,hc.2,λz hz=>Vt I2.sB q2 rfl (xi _ _ _) hz⟩
    ·exact q2.elim
   | _=>exact q2.elim
  | _=>exact q1.elim
theorem kU (ha:Snd X Y a fa)(hb:Snd X Y b fb)(hb1:attributeBase a "rpartition" X.env (eval a X.env)=eval a X.env:=by rfl)(hs:St1 X b:=by exact st1 rfl)(hz:(pa.endLine == p.line)=true:=by rfl):
  Snd X Y (.Call (.Attribute a "rpartition" pa) [b] [] p) (smE x8 fa fb):= .mk λρ=>
 PE.imp (jZ bp PySem.F.slot_str_rpartition PySem.F.type_str_rpartition xb (ha ρ) (zk (hb ρ) zB hs) hb1 (xg hs) hz hs rfl) λσ H Q ⟨B,I,q⟩=>step I q λt v H1 _ s1 r1 I1 q1=>by
  cases r1 with
  | str x=>
   refine⟨rfl,step I1 q1 λu v' H2 _ s2 r2 I2 q2=> ?_⟩;cases r2 with
   | str y=>
    have q2:Po Y rC _ H2 (if x.length<=bnd/\(y.length == 0)=false then .ok _ else .bad) Q:=q2
    split at q2
    ·rename_i hc;exact⟨x,y,rfl,rfl,hc.1,hc.2,λz hz=>Vt I2.sB q2 rfl (xi _ _ _) hz⟩
    ·exact q2.elim
   | _=>exact q2.elim
  | _=>exact q1.elim
theorem kW (ha:Snd X Y a fa)(hb:Snd X Y b fb)(hb1:attributeBase a "split" X.env (eval a X.env)=eval a X.env:=by rfl)(hs:St1 X b:=by exact st1 rfl)(hz:(pa.endLine == p.line)=true:=by rfl):
  Snd X Y (.Call (.Attribute a "split" pa) [b] [] p) (smE Xo fa fb):= .mk λρ=>
 PE.imp (jZ bp PySem.F.slot_str_split PySem.F.type_str_split xf (ha ρ) (zk (hb ρ) zB hs) hb1 (xg hs) hz hs rfl) λσ H Q ⟨B,I,q⟩=>step I q λt v H1 _ s1 r1 I1 q1=>by
  cases r1 with
  | str x=>
   refine⟨rfl,step I1 q1 λu v' H2 _ s2 r2 I2 q2=> ?_⟩;cases r2 with
   | str y=>
    have q2:Po Y rC _ H2 (if x.length<=1000/\(y.length == 0)=false then .ok _ else .bad) Q:=q2
    split at q2
    ·rename_i hc;exact⟨x,y,rfl,rfl,hc.1,hc.2,λz hz=>ke I2.sB q2 rfl (xj _) hz⟩
    ·exact q2.elim
   | _=>exact q2.elim
  | _=>exact q1.elim
end
end
def Zm (fa:En->R T)(fl fh:En->R (Option Int)):En->R T:=λρ=>(fa ρ).bind λt=>(fl ρ).bind λlo=>(fh ρ).bind λhi=>match t with
 | .str x=>if x.length<=bnd then .ok (.str (bR x lo hi)) else .bad
 | _=> .bad
noncomputable def QU (i:Int):Str:=aW (toString i)
def txO:T->Option Str
 | .int i=>if i.natAbs < 1000000 then some (QU i) else none
 | .str x=>if x.length<=1000000 then some x else none
 | _=>none
def txV:V->Option Str
 | .int i=>if i.natAbs < 1000000 then some (QU i) else none
 | .str x=>if x.length<=1000000 then some x else none
 | _=>none
def wN (t:T):R T:=match txO t with
 | some x=> .ok (.str x)
 | none=> .bad
def f3T (z:Str)(t u:T):R T:=match txO t,txO u with
 | some x,some y=>if (x++z++y).length<=bnd then .ok (.str (x++z++y)) else .bad
 | _,_=> .bad
def f3E (z:Str)(fa fb:En->R T):En->R T:=λρ=>(fa ρ).bind λt=>match txO t with
 | some x=>if (x++z).length<=bnd then (fb ρ).bind λu=>f3T z t u else .bad
 | none=> .bad
def rdI (x:Str):Option Int:=((bM 199).map λ(k:Nat)=>(k:Int) - 99).find? λn=>QU n == x
theorem Wc {i:Int}(h:i.natAbs < 1000000):i.natAbs.log2 < 1920:=by
 by_cases h0:i.natAbs=0
 ·rw[h0];decide
 ·have:i.natAbs.log2 < 20:=(Nat.log2_lt h0).mpr (by omega)
  omega
section
variable {X:Cx}{Y:Fx}{a b c:Expr}{fa fb fc:En->R T}{pos p p1 p2 p3:Pos}{kc:Nat}
theorem xk:SlR X (λx lo hi H Q=>∃z,x= .str z/\z.length<=bnd/\Q (.str (bR z lo hi)) H):=by
 intro pins s σ H x v vl vu lo hi sl Q I rx hs pl pu h;obtain⟨z,rfl,hz,q⟩:=h;obtain⟨t,rfl⟩:=rx;refine⟨"str",_,F.slot_str_getitem.lookup,cf _ _ _, ?_⟩;have fin:∀t' k,EP X pins σ Q _ _:=λt' k=>⟨.str _,H,I.tok k,⟨t',rfl⟩,q⟩;have hl:=aC (Txt.slice_le z lo hi) (zV hz);cases pl with
 | none=>
  cases pu with
  | none=>exact wpAny_getItem_str_slice (l:=none) (u:=none) (st:=none) hs rfl (post_val_or_str ⟨hl,fin⟩)
  | int j tj=>exact wpAny_getItem_str_slice (l:=none) (u:=some (j,tj)) (st:=none) hs rfl (post_val_or_str ⟨hl,fin⟩)
 | int i ti=>
  cases pu with
  | none=>exact wpAny_getItem_str_slice (l:=some (i,ti)) (u:=none) (st:=none) hs rfl (post_val_or_str ⟨hl,fin⟩)
  | int j tj=>exact wpAny_getItem_str_slice (l:=some (i,ti)) (u:=some (j,tj)) (st:=none) hs rfl (post_val_or_str ⟨hl,fin⟩)
theorem kX {lo hi:Option Expr}{fl fh:En->R (Option Int)}(ha:Snd X Y a fa)(hl:QD X Y lo fl)(hh:QD X Y hi fh):Snd X Y (.Subscript a (.Slice lo hi none p2) pos) (Zm fa fl fh):= .mk λρ=>
 PE.imp (Y9 xk (ha ρ) (hl ρ) (hh ρ)) λσ H Q ⟨B,I,q⟩=>step I q λt v H1 _ s1 r1 I1 q1=>step I1 q1 λl l' H2 _ s2 el I2 q2=>step I2 q2 λh h' H3 _ s3 eh I3 q3=>by
  have el' :=el;have eh' :=eh;subst el' eh';cases r1 with
  | str x=>
   have q3:Po Y rC _ H3 (if x.length<=bnd then .ok _ else .bad) Q:=q3
   split at q3
   ·rename_i hb;exact⟨x,rfl,hb,po0 I3.sB q3 rfl (.str _)⟩
   ·exact q3.elim
  | _=>exact q3.elim
theorem Yz:Zw X (.type "str") (λxs H Q=>∃v x,xs=[v]/\txV v=some x/\Q (.str x) H):=by
 intro pins s σ H xs us Q I r h;obtain⟨v,x,rfl,e,q⟩:=h;obtain⟨u,rfl,ru⟩:=ZL r;unfold txV at e;split at e
 ·split at e
  ·rename_i i hi;obtain⟨t,rfl⟩:=ru;cases e;exact P.str_of_int (Wc hi) ⟨.str _,H,I.tok _,⟨_,rfl⟩,q⟩
  ·cases e
 ·split at e
  ·obtain⟨t,rfl⟩:=ru;cases e;exact P.str_of_str ⟨.str _,H,I,⟨_,rfl⟩,q⟩
  ·cases e
 ·cases e
theorem UY {H:Hp}{v:V}{t:T}{x:Str}(r:Rep H v t)(e:txO t=some x):txV v=some x:=by
 cases r with
 | int i=>exact e
 | str y=>exact e
 | _=>cases e
theorem xl (gl:Gl X "str")(mg:X.mg "str"=none)(ha:Snd X Y a fa)(hs:St1 X a:=by exact st1 rfl):Snd X Y (.Call (.Name "str" p) [a] [] pos) (ap1 wN fa):=
 qq Yz (λv t B H Q r sB q=>by
  unfold wN at q;split at q
  ·rename_i x e;exact⟨v,x,rfl,UY r e,po0 sB q rfl (.str _)⟩
  ·exact q.elim) gl mg (PyProof.Rows.Boot.«str») ha hs
theorem qD {prog:Program}{w:World}{A:Around}{E:Value->Shared->Prop}{s:Shared}{v:V}{u:Value}{x:Str}{Q:Value->Shared->Prop}(r:zT v u)(e:txV v=some x)(h:∀t k,Q (.str x t) { s with toks:=k }):wpAny (model prog w) A (formatField u Str.empty) Q E s:=by
 unfold txV at e;split at e
 ·split at e
  ·rename_i i hi;obtain⟨t,rfl⟩:=r;cases e;exact wpAny_formatField_int (Wc hi) (h _ _)
  ·cases e
 ·split at e
  ·obtain⟨t,rfl⟩:=r;cases e;exact wpAny_formatField_str (h _ _) (h _ _) (by rw[c8];omega)
  ·cases e
 ·cases e
theorem kY {z:Str}{ta tb:TE}(ha:PE X a ta)(hb:PE X b tb):PE X (.JoinedStr [.FormattedValue a (-1) none p1,.Constant (.str z) kc p2,.FormattedValue b (-1) none p3] pos)
  (λσ H Q=>ta σ H λv H1=>∃x,txV v=some x/\(x++z).length<=sizeLine/\tb σ H1 λv' H2=>∃y,txV v' =some y/\(x++z++y).length<=sizeLine/\Q (.str (x++z++y)) H2):=by
 intro pins s σ H Q I h;refine wpAny_JoinedStr ?_;refine wpAny_FormattedValue_plain (thn (ha _ s σ H _ I h) λu s1 ⟨v,H1,I1,r1,x,ex,hz,q1⟩=>qD r1 ex λt k=>⟨x,t,rfl, ?_, ?_⟩)
 ·rw[fD];exact aC (by rw[f7];omega) hz
 rw[fD];have I1:=I1.tok k;refine thn (Ua _ _ σ H1 (λv' H' =>v' =V.str z/\H' =H1) I1 ⟨rfl,rfl⟩) λu2 s2 ⟨v2,H2,I2,r2,e1,e2⟩=> ?_;subst e1 e2;obtain⟨t2,rfl⟩:=r2;refine⟨z,t2,rfl,hz, ?_⟩;refine wpAny_FormattedValue_plain (thn (hb _ s2 σ H2 _ I2 q1) λu3 s3 ⟨v3,H3,I3,r3,y,ey,hz3,q3⟩=>qD r3 ey λt k=>⟨y,t,rfl,hz3,hz3, ?_⟩);exact⟨.str _,H3,(I3.tok k).tok _,⟨_,rfl⟩,q3⟩
theorem G9 {z:Str}(ha:Snd X Y a fa)(hb:Snd X Y b fb):Snd X Y (.JoinedStr [.FormattedValue a (-1) none p1,.Constant (.str z) kc p2,.FormattedValue b (-1) none p3] pos) (f3E z fa fb):= .mk λρ=>
 PE.imp (kY (ha ρ) (hb ρ)) λσ H Q ⟨B,I,q⟩=>step I q λt v H1 _ s1 r1 I1 q1=>by
  cases e:txO t with
  | none=>rw[e]at q1;exact q1.elim
  | some x=>
   rw[e]at q1;have q1:Po Y rC _ H1 (if (x++z).length<=bnd then (fb ρ).bind λu=>f3T z t u else .bad) Q:=q1
   split at q1
   ·rename_i hl;refine⟨x,UY r1 e,zV hl,step I1 q1 λu v' H2 _ s2 r2 I2 q2=> ?_⟩;unfold f3T at q2;rw[e]at q2;cases e2:txO u with
    | none=>rw[e2]at q2;exact q2.elim
    | some y=>
     rw[e2]at q2;have q2:Po Y rC _ H2 (if (x++z++y).length<=bnd then .ok _ else .bad) Q:=q2
     split at q2
     ·rename_i hl2;exact⟨y,UY r2 e2,zV hl2,po0 I2.sB q2 rfl (.str _)⟩
     ·exact q2.elim
   ·exact q1.elim
end
def kZ (x:Str):It:=
 ⟨λi _=>i < x.cps.size,λi H v H' =>∃p c,H p=none/\v= .ref p/\x.cps[i]? =some c/\H' =upd H p (.tup [.int i,.str ⟨#[c]⟩]),λi _=>x.cps.size<=i⟩
theorem QV (x:Str):strIterType x="str_ascii_iterator"\/strIterType x="str_iterator":=by
 unfold strIterType;split
 ·exact .inl rfl
 ·exact .inr rfl
theorem Wd {prog:Program}{w:World}{A:Around}(hh:A.handled=none)(it:Addr)(x:Str)(t:Tok){ty:String}(hty:ty="str_ascii_iterator"\/ty="str_iterator"):Draws prog w A it [it] x.cps.size (SignAt x) (λi h=>h.IsStrIter it ty x t i):=by
 rcases hty with rfl | rfl
 ·exact Draws.strAscii hh it x t
 ·exact Draws.strWide hh it x t
theorem uH {P:Program}{w:World}{K:a6}{elts:List Expr}{kk:Nat}{pt:Pos}{x:Str}{tt:Tok}{ty:String}(hty:ty="str_ascii_iterator"\/ty="str_iterator")(e it:Addr)(hei:e ≠ it):
  U2 P w K (.Tuple elts kk pt) (kZ x) [e,it] e (λi h=>i<=x.cps.size/\(∃old,IsEnum h e it i old)/\h.IsStrIter it ty x tt i) where
 mem:=by simp
 obj:=λi h st b hb=>by
  obtain⟨_,⟨old,he⟩,o,e1,c,d⟩:=st;rcases ak.mp hb with rfl | hb
  ·exact⟨_,he,λv z=>nomatch z⟩
  ·have z:b=it:=by simpa using hb
   subst z;exact⟨o,e1,λv z=>by rw[d]at z;cases z⟩
 keep:=λi h h' st k=>by
  obtain⟨hn,⟨old,he⟩,o,e1,r⟩:=st;exact⟨hn,⟨old,k e (by simp) _ he⟩,o,k it (by simp) o e1,r⟩
 item:=by
  intro X hP hw hK hc i pins s σ H E I hf st hg;subst hP hw hK;obtain⟨hin,⟨old,he⟩,hit⟩:=st;have D:=Wd (prog:=X.prog) (w:=X.w) (A:=X.A.in1) (I.ok.hd hc) it x tt hty;have hef:e ∉ [it]:=λz=>hei (br.mp z);have WE:=WalksT.enumerateD D e hei hef (.head _);refine WE.item i s _ _ hg ⟨⟨old,he⟩,hit⟩ λT vals h' tk hP hT hTup hM hk=> ?_;obtain⟨t,y,⟨c,u,hc',rfl⟩,rfl⟩:=hP;refine⟨.ref T,rfl, ?_⟩;refine WE.go elts kk pt i T _ _ _ hM λh2 hst2 hk2=> ?_;have hTn:H T=none:=I.hok.fresh hT;have hTne:∀b∈[e,it],b ≠ T:=λb hb z=>by
   obtain⟨_,_,h3,h4⟩:=hM;rcases ak.mp hb with rfl | hb
   ·exact h3 z.symm
   ·have:b=it:=by simpa using hb
    subst this;exact h4 z.symm
  have U6:IsTup h2 T #[.int i t,.str ⟨#[c]⟩ u]:=by
   obtain⟨o,eo,r⟩:=hTup;exact⟨o,hk2 T o (λhb=>hTne T hb rfl) eo,r⟩
  refine⟨.ref T,upd H T (.tup [.int i,.str ⟨#[c]⟩]),Inv.laidT (s:=s) (h' :=h2) (ch:=[e,it]) (tk:=tk) I hf (λb o hb e=>hk2 b o hb (hk b o hb e)) (λb o hb _=> ?_) hT ⟨by rw[c8];show 2<=16777216;decide,[.int i t,.str ⟨#[c]⟩ u],.cons ⟨t,rfl⟩ (.cons ⟨u,rfl⟩ .nil),U6,.inl ⟨_,_,rfl⟩⟩,rfl,⟨T,c,hTn,rfl,hc',rfl⟩,⟨hg,hst2.1,hst2.2⟩,λb hb=> ?_⟩
  ·obtain⟨⟨old2,he2⟩,⟨o2,eo2,_⟩⟩:=hst2;rcases ak.mp hb with rfl | hb
   ·exact⟨_,he2⟩
   ·have:b=it:=by simpa using hb
    subst this;exact⟨o2,eo2⟩
  ·rw[zg (hTne b hb)];exact(hf b hb).1
 done:=by
  intro X hP hw hK hc i pins s σ H E I hf st hg;subst hP hw hK;obtain⟨hin,⟨old,he⟩,hit⟩:=st;have D:=Wd (prog:=X.prog) (w:=X.w) (A:=X.A.in1) (I.ok.hd hc) it x tt hty;have hn:x.cps.size=i:=Nat.le_antisymm hg hin;refine wpAny_pyNext_enum_endD D he (by rw[hn];exact hit) λh' hk=>⟨rfl, ?_⟩
  obtain⟨f0,f1,f2,f3,f4,f5⟩:=hf it (by simp)
  exact I.turned (t' :=s.toks) (λb o hb e=>hk b o hb e) f0 f1 f3 f4 f5
 self:=λ_ _ _ _ _ st h=>let ⟨_,⟨_,he⟩,_⟩:=st;wpAny_pyIter_enum he h
theorem YA {B1 H1:Hp}{x:Str}:rI B1 H1 (kZ x) (jk (Zy x)):=λB2 H2 s1 s2=>by
 have hl:(jk (Zy x)).length=x.cps.size:=by rw[jG];unfold Zy;simp
 refine⟨λi hi=>by rw[hl]at hi;exact hi,λi t v H3 e y=> ?_,λi hi=>by rw[hl]at hi;exact hi⟩
 obtain⟨p,c,hp,rfl,hc,rfl⟩:=y;obtain⟨t',et,rfl⟩:=W8 e;have hc' :x.cps.toList[i]? =some c:=by simpa using hc
 unfold Zy at et;rw[ax,hc']at et;cases et;exact⟨zh.new hp _,.tup (ju hp _) (.cons (.int _) (.cons (.str _) .nil))⟩
def UZ (fa:En->R T):En->R (List T):=λρ=>(fa ρ).bind λt=>match t with
 | .str x=> .ok (jk (Zy x))
 | _=> .bad
section
variable {X:Cx}{Y:Fx}{a:Expr}{fa:En->R T}{pos p pt:Pos}{elts:List Expr}{kk:Nat}
theorem YB {ta:TA}(hg:Gl X "enumerate")(hm:X.mg "enumerate"=none)(ha:PA X [a] ta)(hs:St1 X a:=by exact st1 rfl):
  PI X (.Tuple elts kk pt) (.Call (.Name "enumerate" p) [a] [] pos) (λσ H R=>ta σ H λvs H1=>∃x,vs=[.str x]/\R (kZ x) H1):=by
 intro pins s σ H R I h;refine Call_ (jd I hg hm PyProof.Rows.Boot.«enumerate» (bP (thn (ha pos _ s σ H _ I h) λus s1 ⟨vs,H1,I1,r1,q1⟩=> ?_) hs rfl));obtain⟨x,e,q⟩:=q1;subst e;obtain⟨u,rfl,ru⟩:=ZL r1;obtain⟨tt,rfl⟩:=ru;refine call_enumerate_str λh' he hit hsz hk=>wpAny_pyIter_enum he ?_;have f:∀b∈[s1.heap.objs.size+1,s1.heap.objs.size],jW X _ H1 b:=λb hb=>by
  rcases ak.mp hb with rfl | hb
  ·exact I1.fpOk (dZ _) (I1.hok.fresh (dZ _))
  ·have z:=by simpa using hb
   subst z;exact I1.fpOk (aj _) (I1.hok.fresh (aj _))
 exact⟨s1.heap.objs.size+1,[s1.heap.objs.size+1,s1.heap.objs.size],_,_,H1,rfl,I1.kept hk,uH (QV x) _ _ (fA _),⟨bE _,⟨_,he⟩,hit⟩,f,q⟩
theorem QW (hg:Gl X "enumerate")(hm:X.mg "enumerate"=none)(ha:Snd X Y a fa)(hs:St1 X a:=by exact st1 rfl):wc X Y (.Tuple elts kk pt) (.Call (.Name "enumerate" p) [a] [] pos) (UZ fa):= .mk λρ=>
 PI.imp (YB hg hm (zk (ha ρ) zB hs) hs) λσ H R ⟨B,I,q⟩=>step I q λt v H1 _ s1 r1 I1 q1=>by
  cases r1 with
  | str x=>exact⟨x,rfl,Zi I1 (show Po Y rI _ H1 _ R from q1) YA⟩
  | _=>exact q1.elim
end
end PV
namespace PV
open PySem PySem.W PyProof.Rows
section
variable {O:KeyOrd}{n:Nat}{key:Nat->O.α}
variable (hk:∀i j,i < n->j < n->key i=key j->i=j)
include hk
omit hk in
omit hk in
omit hk in
omit hk in
end
end PV
namespace PV
open PySem PySem.Spec PyProof.Rows L2
section
open PySem.W PySem.Calls
variable {O:KeyOrd}{n:Nat}{key:Nat->O.α}
end
section
variable {prog:Program}{w:World}{A:Around}{E:Value->Shared->Prop}{s:Shared}
open PySem.W PySem.Calls
end
end PV
namespace PV
open PySem PySem.Spec PyProof.Rows L2
section
variable {prog:Program}{w:World}{A:Around}{E:Value->Shared->Prop}{s:Shared}
open HT in
open HT in
end
end PV
namespace PV
open PySem PySem.Spec PyProof.Rows L2
end PV
namespace L2
open PySem PySem.Spec PyProof.Rows PySem.W
structure Lm (X:Cx) (c P:Addr) (q:Str):Prop where
 code:X.env.code= .ref c
 hd:codeHdIn X.K c P=true
 bt:X.base.BuiltinsAt X.mg P
 ql:X.env.qual++"<lambda>"=q
def Jh (H:Hp)(q:Str)(c:Addr):Prop:=∃oc vs t,H c=some (.frz oc (.own c))/\oc.data= .fields vs/\vs[1]? =some (.str q t)
theorem Jh.mono {H H' :Hp}{q:Str}{c:Addr}(s:zh H H')(h:Jh H q c):Jh H' q c:=let ⟨oc,vs,t,e,r⟩:=h;⟨oc,vs,t,s _ _ e,r⟩
theorem Jh.rec {P:Program}{w:World}{H:Hp}{q:Str}{c:Addr}{h:Heap}(x:Jh H q c)(ok:HOk P w H h):h.CodeRec (.ref c) q:=by
 obtain⟨oc,vs,t,e,d,v⟩:=x;exact⟨c,oc,vs,t,rfl,(ok c _ e).1,d,v⟩
theorem JO {p p' :Pos}{c cv:Value}:∀(l:List Value),TriplesOk l->codeAmong p (l++[rawInt p'.line,rawInt p'.col,c])=some cv->codeAmong p l=some cv\/cv=c
 | [],_,h=>by
  right
  simp only[bV,rawInt,codeAmong]at h;split at h
  ·exact(aq h).symm
  ·cases h
 | .int a t :: .int b u :: x :: r,ok,h=>by
  simp only[cW,codeAmong]at h ⊢;split at h
  ·rename_i z;rw[if_pos z];exact .inl h
  ·rename_i z;rw[if_neg z];exact JO r (by simpa only[TriplesOk] using ok) h
noncomputable abbrev YC (q:Str)(params:Arguments)(body:Expr)(scope:Scope)(clos:List (Str×Addr))(pm ctv:Value)(c:Addr):Obj:=kla_obj "<lambda>" q params body scope clos pm c ctv
theorem qF {X:Cx}{c P:Addr}{q:Str}{params:Arguments}{body:Expr}{scope:Scope}{pos:Pos}{clos:List (Str×Addr)}(L:Lm X c P q)(hdef:defaultsOf params X.env=([],[]))(hcl:closureFor scope X.env=pure clos):
  PE X (.Lambda params body scope pos) (λσ H Q=>H P=some (.tbl #[] q)/\∀f c' pm ctv H',zh H H' ->H' f=some (.frz (YC q params body scope clos pm ctv c') (.own f))->Jh H' q c' ->Q (.ref f) H'):=by
 intro pins s σ H Q I ⟨hP,h⟩;obtain⟨more,eP,tr,al⟩:=I.hok P _ hP;have C:=codeHd_of_K I.kIn L.hd;have hg:=I.ok.mod.glob.keeps I.bk;have hB:s.heap.BuiltinsAt X.mg P:=by
  obtain⟨bm,o,b1,b2,b3,b4,b5,b6⟩:=L.bt;exact⟨bm,o,b1,b2,b3,b4,I.bk _ _ b5,b6⟩
 have hgP:mainGlobals ≠ P:=λz=>by
  obtain⟨o,es,ep,e,hd,_⟩:=hg;rw[z,eP]at e;cases e;cases hd
 have fobj:∀{H2:Hp} {f:Addr} {o:Obj} {h2:Heap},h2.get? f=some o->zZ X.prog X.w H2 h2 f (.frz o (.own f)):=λe=>⟨e,_,e⟩;refine kla_eval hdef ?_;rw[L.ql];cases hf:codeAmong pos _ with
 | some cv=>
  obtain⟨c',oc,vs,t,rfl,e2,e3,e4⟩:=al pos cv hf;refine kla_makeFunctionHit hcl I.ok.glob hg L.code C eP tr hf hB λctv h' tk hk hsz=> ?_;have hfr:=I.hok.fresh hsz;have e5:(h'.push (YC q params body scope clos ((X.mg "__name__").getD .none) ctv c')).get? _=some _:=am _ rfl;refine⟨.ref _,_,I.laid (λb u e=>a7 _ (hk b u e)) hsz (fobj e5),rfl, ?_⟩;exact h _ c' _ ctv _ (PV.zh.new hfr _) zl (Jh.mono (PV.zh.new hfr _) ⟨oc,vs,t,e2,e3,e4⟩)
 | none=>
  refine kla_makeFunction hcl I.ok.glob hg L.code C eP tr hf hgP hB λc' ctv h' tk hx hge hlt hrec htb=> ?_;obtain⟨c₂,oc,vs,t,e2,hoc,hd,hv⟩:=hrec;cases e2;have hc0:=I.hok.fresh hge;have neP:∀b,H b=none->b ≠ P:=λb n z=>by rw[z,hP]at n;cases n
  have neC:∀b o,s.heap.get? b=some o->b ≠ c' :=λb o e=>aB (ar (ag e) hge);have sm:zh H (upd H c' (.frz oc (.own c'))):=PV.zh.new hc0 _;have hl:(#[]++more++ #[rawInt pos.line,rawInt pos.col,Value.ref c']).toList=(#[]++more).toList++[rawInt pos.line,rawInt pos.col,Value.ref c']:=by simp
  have hok:HOk _ X.w (upd H c' _) h' :=λb u e=>by
   by_cases hb:b=c'
   ·subst hb;rw[zl]at e;cases e;exact fobj hoc
   ·rw[zg hb]at e
    by_cases hbP:b=P
    ·subst hbP;rw[hP]at e;cases e;refine⟨more++ #[rawInt _,rawInt _,Value.ref c'],by rw[← dn];exact htb,by rw[← dn,hl];exact TriplesOk_snoc _ _ _ _ tr,λp cv z=> ?_⟩
     rw[← dn,hl]at z;rcases JO _ tr z with z | rfl
     ·obtain⟨c2,oc2,vs2,t2,a1,a2,a3⟩:=al p cv z;exact⟨c2,oc2,vs2,t2,a1,sm _ _ a2,a3⟩
     ·exact⟨c',oc,vs,t,rfl,zl,hd,hv⟩
    ·refine(I.hok b u e).stay (λa v ha q' =>hx a v (λz=> ?_) q') (λ_ q' =>sm _ _ q') (λ_ _ q' =>sm _ _ q') λ_ _ _ q' =>sm _ _ q';subst z;rcases ha with z | z
     ·exact hbP z.symm
     ·rw[hP]at z;cases z
  have I1:Inv X pins σ (upd H c' (.frz oc (.own c'))) { s with heap:=h',toks:=s.toks }:=by
   refine I.step (ch:=[]) (λ_ z=>nomatch z) (λb o _ _ _ e n=>hx b o (neP b n) e) (λb o _ _ _ e n=>⟨o.slots,hx b o (neP b n) e⟩) (λb o _ e n=>by rw[zg (neC b o e)];exact n) (λb o _ e=> ?_) (λ_ _ e=>sm _ _ e) (λ_ _ _ e=>sm _ _ e) (λ_ _ _ e=>sm _ _ e) (λm hm=>hm.extBut hx (neP _ I.free)) hok I.bare
   by_cases hb:b=P
   ·exact⟨_,hb ▸ htb⟩
   ·exact⟨o,hx b o hb e⟩
  have hfr:upd H c' (.frz oc (.own c')) h'.objs.size=none:=by rw[zg (ce hlt)];exact I1.hok.fresh (aj _) |> λz=>by rw[zg (ce hlt)]at z;exact z
  have e5:(h'.push (YC q params body scope clos ((X.mg "__name__").getD .none) ctv c')).get? _=some _:=am _ rfl;refine⟨.ref _,_,I1.laid (λb u e=>a7 _ e) (aj _) (fobj e5),rfl, ?_⟩;have s2:zh _ (upd _ _ (.frz (YC q params body scope clos ((X.mg "__name__").getD .none) ctv c') (.own h'.objs.size))):=PV.zh.new hfr _;exact h _ c' _ ctv _ (sm.trans s2) zl (Jh.mono s2 ⟨oc,vs,t,zl,hd,hv⟩)
end L2
namespace L2
open PySem PySem.Spec PyProof.Rows PySem.W
def yW (s:Shared)(H:Hp)(fr:List Addr):Heap:=hideAll s.heap (trk s.heap H++fr)
theorem wl {s:Shared}{H:Hp}{fr:List Addr}{b:Addr}{o:Obj}(e:s.heap.get? b=some o)(n:H b=none)(hb:b ∉ fr):(yW s H fr).get? b=some o:=
 hideAll_get _ e λhm=>by
  rcases aM.mp hm with z | z
  ·have q:=(cC.mp z).2;rw[n]at q;cases q
  ·exact hb z
theorem QX {s:Shared}{H:Hp}{fr:List Addr}{b:Addr}{o:Obj}(e:(yW s H fr).get? b=some o):s.heap.get? b=some o/\H b=none:=by
 have e' :=of_hideAll _ e;refine⟨e', ?_⟩;cases q:H b with
 | none=>rfl
 | some x=>
  have hm:b∈trk _ H++fr:=bb _ (cC.mpr ⟨dR.mpr (ag e'),by simp[q]⟩)
  have z:(yW s H fr).get? b=none:=hideAll_none _ hm;rw[z]at e;cases e
theorem Mod.keeps {K:Frag}{mg:Str->Option Value}{b b' :Heap}(m:Mod K mg b)(k:∀a o,b.get? a=some o->b'.get? a=some o):Mod K mg b' :=
 ⟨m.kin.keeps k,m.glob.keeps k,let ⟨mb,h1,h2⟩:=m.blt;⟨mb,h1.keeps k,h2⟩,m.nolimit.keeps k⟩
section
variable {X:Cx}{pins:List (Addr×Obj)}{σ:St}{H:Hp}{s:Shared}
theorem Inv.big_of (I:Inv X pins σ H s):∀b o,X.base.get? b=some o->(yW s H (frs X.stack)).get? b=some o:=λb o e=>by
 refine wl (I.bs b o e).1 (I.bs b o e).2 λhb=> ?_;have:=(I.stack.mem hb).1;rw[e]at this;cases this
theorem Inv.big (I:Inv X pins σ H s):U3 X.prog X.w X.K X.mg (yW s H (frs X.stack)) X.A X.stack s H:=
 ⟨I.ok.frames,I.ok.mod.keeps I.big_of,λb o e=>QX e,f8 (hideAll_size _ _),funFrames_hide I.stack λenv he a ha=>au _ (bS.mpr ⟨env,he,ha⟩),I.stkFree,I.hok,I.bare⟩
end
def cxL (P:Program)(w:World)(K:Frag)(mg:Str->Option Value)(base:Heap)(N:List Str)(q:Str)(scope:Scope)(f:Addr)(cd:Value)(clos:List (Str×Addr))(A:Around)(outer:List Env)(s:Shared)(H:Hp)(E:XK):Cx where
 prog:=P
 w:=w
 K:=K
 mg:=mg
 base:=base
 A:=A.deeper (envX q scope s.heap.objs.size f cd clos)
 N:=N
 s₀:=s
 H₀:=H
 env:=envX q scope s.heap.objs.size f cd clos
 outer:=outer
 stack:=envX q scope s.heap.objs.size f cd clos :: outer
 ex:=[]
 calm:=true
 fn:=λ_=>false
 pn:=[]
 xe:=λe s' =>wpAny (model P w) (A.deeper (envX q scope s.heap.objs.size f cd clos)) (leaving (envX q scope s.heap.objs.size f cd clos) e) (λ_ s'' =>CX1 P w outer H s E e s'') (λe' s'' =>CX1 P w outer H s E e' s'') s'
section
variable {P:Program}{w:World}{K:Frag}{mg:Str->Option Value}{base:Heap}{N:List Str}{q:Str}{scope:Scope}{f:Addr}{cd:Value}{clos:List (Str×Addr)}{A:Around}{outer:List Env}{s:Shared}{H:Hp}{E:XK}
theorem QY:zO (CX1 P w) (cxL P w K mg base N q scope f cd clos A outer s H E) E:=by
 intro pins σ H1 s1 e s' I ⟨ea,cls,a0,B,H',he,L,hE⟩;subst he;exact wpAny_leaves_onW I.ok.frames rfl L.fly λh' fl sl=>⟨ea,cls,a0,B,H',rfl,L.out I rfl rfl rfl fl sl,hE⟩
structure LSc (scope:Scope):Prop where
 kind:scope.kind= .function
 co:scope.isCoroutine=false
 gen:scope.isGenerator=false
 nocell:∀x∈scope.names,x.2 ≠ .cell
structure ud (base:Heap) (H:Hp) (scope:Scope) (clos:List (Str×Addr)) (N:List Str) (σ:St):Prop where
 inj:∀x y c,clos.lookup x=some c->clos.lookup y=some c->x=y
 has:∀x∈scope.names,x.2= .free->∃c,clos.lookup x.1=some c
 cell:∀x c,clos.lookup x=some c->(∃v,base.IsCell c v)/\H c=none
 loc:∀(i:Nat) (x:Str) (v:V),N[i]? =some x->σ[i]? =some (some v)->∃u c,zT v u/\clos.lookup x=some c/\base.IsCell c (some u)/\scope.names.lookup x=some .free
 len:σ.length=N.length
theorem JP {h h' :Heap}{c:Addr}{v:Option Value}(k:∀a o,h.get? a=some o->h'.get? a=some o)(x:h.IsCell c v):h'.IsCell c v:=let ⟨o,e,d⟩:=x;⟨o,k _ _ e,d⟩
theorem QZ {σ:St}{h1:Heap}{tk:Nat}(S:LSc scope)(hd:A.handled=none)(e0:U3 P w K mg base A outer s H)(C:ud base H scope clos N σ)(ns:h1.Ns s.heap.objs.size (λ_=>none))(hk:∀b o,s.heap.get? b=some o->h1.get? b=some o):
  Inv (cxL P w K mg base N q scope f cd clos A outer s H E) [] σ H { s with heap:=h1,toks:=tk }:=by
 have bk:=λb o e=>hk b o (e0.bs b o e).1;have noA:∀b,b ∉ (cxL P w K mg base N q scope f cd clos A outer s H E).ex:=λb z=>absurd (show b∈([]:List _) from z) (by simp)
 refine⟨⟨e0.mod,S.kind,rfl,rfl,aj _,C.inj,λy hy=> ?_,λy c h _=>(aQ h).elim,λ_=>hd,c_ e0.frames,.inr ⟨rfl,rfl⟩,λb z=>absurd z (noA b),e0.bs,e0.bsz,λb _ _=>noA b,λb z=>absurd z (noA b),e0.funs,e0.frf⟩,
  rfl,e0.bare,Un.kept hk,⟨_,ns,λi y v h1 h2 h3=> ?_⟩,λy c h=> ?_,e0.hok.fresh (aj _),λy c h=>(C.cell y c h).2,λp hp=>absurd (show p∈([]:List _) from hp) (by simp),e0.hok.kept hk,C.len⟩
 ·rcases hy with hy | hy
  ·exact absurd rfl (S.nocell _ (aR hy))
  ·exact C.has _ (aR hy) rfl
 ·obtain⟨u,c,r,e,ic,k⟩:=C.loc i y v h1 h2;exact⟨u,r,.inr ⟨.inr k,c,e,JP bk ic⟩⟩
 ·obtain⟨v,ic⟩:=(C.cell y c h).1;exact⟨v,JP bk ic⟩
end
end L2
namespace L2
open PySem PySem.Spec PyProof.Rows PySem.W
structure ZA (k:Nat) (A:Around):Prop where
 dp:A.depth+3*k+5 < recursionLimit
 un:A.units+16*k+200 < cLine
 gd:A.guards=some []
theorem Z8.m {k:Nat}{A:Around}(r:Z8 k A):ZA k A:=⟨r.dp,r.un,r.gd⟩
theorem ZA.mono {j k:Nat}{A:Around}(r:ZA k A)(h:j<=k):ZA j A:=⟨by have:=r.dp;omega,by have:=r.un;omega,r.gd⟩
theorem ZA.deeper {k:Nat}{A:Around}(r:ZA (k+1) A)(env:Env):ZA k (A.deeper env):=
 ⟨by have:=r.dp;show A.depth+1+3*k+5 < _;omega,by have:=r.un;show A.units+3+16*k+200 < _;omega,r.gd⟩
theorem ZA.mark {k:Nat}{A:Around}(r:ZA k A)(e:Value):ZA k (A.mark (some e)):=⟨r.dp,r.un,r.gd⟩
theorem ZA.depth {k:Nat}{A:Around}(r:ZA k A):A.depth < recursionLimit:=by have:=r.dp;omega
theorem ZA.units {k:Nat}{A:Around}(r:ZA k A):A.units+64 < cLine:=by have:=r.un;omega
structure FnM (P:Program) (w:World) (K:Frag) (mg:Str->Option Value) (base:Heap) (k:Nat) (f:Addr) (fd:FuncData) (ps:List Str) (sp:Sp):Prop where
 len:∀vs H Q E,sp vs H Q E->vs.length=ps.length
 run:∀(A:Around) (outer:List Env) (s:Shared) (H:Hp) (args:Args) (us:List Value) (vs:List V) (Q:VK),ZA k A->U3 P w K mg base A outer s H->BindsTo s fd args (ps.zip us)->zM vs us->sp vs H Q (λ_ _ _=>False)->
  codeAny (model P w) A (.call (.ref f) args) (λr s' =>∃u,r= .ok (.ret u)/\CE outer P w H s Q u s') s
abbrev cxM (P:Program)(w:World)(K:Frag)(mg:Str->Option Value)(base:Heap)(N:List Str)(qual:Str)(scope:Scope)(f:Addr)(cd:Value)(A:Around)(outer:List Env)(s:Shared)(H:Hp):Cx:=
 { (Z4 CX0 P w K mg base N qual scope f cd A outer s H (λ_ _ _=>False)).nox with calm:=false }
section
variable {P:Program}{w:World}{K:Frag}{mg:Str->Option Value}{base:Heap}
theorem xm {k:Nat}{x qual:Str}{st:Stmt}{f:Addr}{fd:FuncData}{N ps:List Str}{sp:Sp}(F:Fun K x qual st f fd)(S:Z6 N ps (za st))(len:∀vs H Q E,sp vs H Q E->vs.length=ps.length)
  (hbody:∀(cdv:Value) (A:Around) (outer:List Env) (s:Shared) (H:Hp) (vs:List V) (Q:VK),ZA k (A.deeper (envOfC qual (za st) s.heap.objs.size f cdv))->sp vs H Q (λ_ _ _=>False)->
   ∃t,PSs (cxM P w K mg base N qual (za st) f cdv A outer s H) (zv st) t/\t { nx:=λ_ H' =>Q .non H',rt:=Q } (start N vs) H):FnM P w K mg base (k+1) f fd ps sp:=by
 obtain⟨oc,od,kV,doc,pm,an,cdv,ct,osl,rfl,lk,hcd⟩:=F.ex;refine⟨len,λA outer s H args us vs Q hr e0 hb r hsp=> ?_⟩;have hl:=len _ _ _ _ hsp;have KX:=e0.mod.kin.keeps λb o e=>(e0.bs b o e).1;have lim:=e0.mod.nolimit.keeps λb o e=>(e0.bs b o e).1;have hkind:∀y∈ps.zip us,(za st).names.lookup y.1=some _\/((za st).names.lookup y.1=some _/\((cellsFrom (s.heap.objs.size+1) _ []).lookup y.1).isSome=true):=λ⟨n,v⟩ hy=>by
  rcases S.par n (cF hy).1 with q | q
  ·exact .inl q
  ·exact .inr ⟨q,cellsFrom_some _ _ _ (.inl q)⟩
 refine codeAny_call_function hr.depth (KX _ _ lk) rfl S.co S.gen rfl (codeRec_of KX hcd) (hb _ _ _ _ ?_);refine wpAny_newFunctionEnv_cells S.kind hkind λenv he s1 x=> ?_;subst he;refine⟨lim.keeps x.toInCall.keep,codeAny_func ?_⟩;obtain⟨t,ht,hq⟩:=hbody cdv A _ s H vs Q (hr.deeper _) hsp;have e1:U3 P w K mg _ { A with handled:=none } _ s H:=⟨e0.frames,e0.mod,e0.bs,e0.bsz,e0.funs,e0.frf,e0.hok,e0.bare⟩;have J:Inv (Z4 CX0 P w K mg _ N _ _ f cdv _ _ s H (λ_ _ _=>False)) [] _ H s1:=jY S rfl e1 hl r x;have I:Inv (cxM P w K mg _ N _ _ f cdv A _ s H) [] _ H s1:=
  ⟨⟨J.ok.mod,J.ok.kind,J.ok.glob,J.ok.blt,J.ok.above,J.ok.inj,J.ok.has,J.ok.cab,λz=>(by cases z),c_ e0.frames,J.ok.stk,J.ok.exf,J.ok.bs,J.ok.bsz,J.ok.noex,J.ok.exfs,J.ok.funs,J.ok.frf⟩,J.os,J.bare,J.base,J.loc,J.cell,J.free,J.freeC,J.pin,J.hok,J.len⟩
 refine aG (ht [] s1 _ H _ I hq) (λfl s' hs=> ?_) λe s' hs=>hs.elim;have fin:∀{σ' :St} {H' :Hp} {v:V} {u:Value},Inv (cxM P w K mg base N qual (za st) f cdv A outer s H) [] σ' H' s' ->zT v u->Q v H' ->∃u',(Except.ok (Flow.ret u):Result)= .ok _/\CE _ P w H s Q u' s' :=
  λ{σ' H' v u} J rv q=>⟨u,rfl,v,H',J.os,J.bare,J.base,J.hok,rv,q⟩
 cases fl with
 | ret u=>
  obtain⟨v,σ',H',J,rv,q⟩:=hs;exact fin J rv q
 | next=>
  obtain⟨σ',H',J,q⟩:=hs;exact fin (v:=V.non) J rfl q
 | brk=>obtain⟨_,_,_,q⟩:=hs;exact aU q
 | cont=>obtain⟨_,_,_,q⟩:=hs;exact aU q
theorem YD {X:Cx}{k:Nat}{f:Addr}{fd:FuncData}{ps:List Str}{sp:Sp}{x:Str}{p pos:Pos}{e:Expr}{t:TA}(F:FnM X.prog X.w X.K X.mg X.base k f fd ps sp)(hr:ZA k X.A)(hg:Gl X x)(hm:X.mg x=some (.ref f))(hk:keepIn X.K (.ref f)=true)(hb:Binds X.K fd ps [])
  (ha:PA X [e] t) (hdb:(x == ("__debug__":Str))=false:=by decide) (he:starEach [e] X.env=[(false,eval e X.env)]:=by rfl):
  PE X (.Call (.Name x p) [e] [] pos) (λσ H Q=>t σ H λvs H1=>sp vs H1 Q λ_ _ _=>False):=by
 intro pins s σ H Q I h;refine wpAny_Call_Name_kw (Zv I hg hm ?_ hdb);refine callWith_K I.ok.mod.kin hk (thn (ha pos _ s σ H _ I h) λus s1 ⟨vs,H1,I1,r,q⟩=>⟨I1.kIn, ?_⟩) he rfl;have hl:us.length=ps.length:=by rw[← r.length];exact F.len _ _ _ _ q
 have hb' :=hb s1 us I1.kIn (by rw[aT];exact hl)
 rw[aT]at hb';refine wpAny_call (codeAny_mono (F.run X.A _ s1 H1 _ us vs Q hr I1.env0 hb' r q) λr s' ⟨u,e1,hq⟩=> ?_);subst e1;exact I1.after hq
end
end L2
namespace PV
open PySem PySem.Spec PyProof.Rows L2 PySem.W
noncomputable def nx1 (r:R T):R T:=match r with
 | .ok t=> .ok t
 | _=> .bad
def jR (ok:Nat->Bool)(gx:Nat->R T)(r:R T):R T:=match r with
 | .ok t=> .ok t
 | .ex c=>if ok c=true then nx1 (gx c) else .bad
 | .bad=> .bad
def Ji (js:List Nat)(ok:Nat->Bool)(gx:Nat->R T)(fe:En->R T):En->R T:=λρ=>jR ok gx (fe (JC 0 js ρ))
section
variable {X:Cx}{Y:Fx}
theorem xn {pins:List (Addr×Obj)}{σ:Sg}{H:Hp}{s:Shared}{scope:Scope}{clos:List (Str×Addr)}{N' :List Str}{js:List Nat}(I:L2.Inv X pins σ H s)(hfn:∀x,X.fn x=true)(hcl:∀x c,clos.lookup x=some c->X.env.cells.lookup x=some c)
  (hcf:∀x∈scope.names,x.2=NameKind.free->∃c,clos.lookup x.1=some c) (CP:Ym X scope N' 0 js):ud (yW s H (frs X.stack)) H scope clos N' (jw 0 js σ):=by
 have up:∀x c,X.env.cells.lookup x=some c->∀v,s.heap.IsCell c v->(yW s H _).IsCell c v:=λx c e v ⟨o,ho,hd⟩=>⟨o,wl ho (I.freeC x c e) λhb=>by
  rcases ak.mp (I.stkSub c hb) with z | z
  ·exact I.cne x c e z
  ·obtain⟨_,o2,e2,_⟩:=I.ok.funs.mem z;exact absurd (ag e2) (dG.mpr (I.ok.cab x c (hfn x) e)),hd⟩
 refine⟨λx y c h1 h2=>I.ok.inj x y c (hcl _ _ h1) (hcl _ _ h2),hcf,λx c e=>⟨?_,I.freeC x c (hcl x c e)⟩,λi x v h1 h2=> ?_,by unfold jw;simp[CP.len]⟩
 ·obtain⟨v,ic⟩:=I.cell x c (hcl x c e);exact⟨v,up x c (hcl x c e) v ic⟩
 ·unfold jw at h2;rw[eD,bV,ax]at h2;cases ej:js[i]? with
  | none=>rw[ej]at h2;cases h2
  | some j=>
   rw[ej]at h2;have h2' :(σ[j]?).getD _=some v:=aq h2;have hσ:σ[j]? =some (some v):=by
    cases ez:σ[j]? with
    | none=>rw[ez]at h2';cases h2'
    | some z=>rw[ez]at h2';exact congrArg _ h2'
   obtain⟨y,e1,e2,e3,e4,e5⟩:=CP.cap i j ej;rw[Nat.zero_add,h1]at e1;cases e1;obtain⟨m,hn,hlo⟩:=I.loc;obtain⟨u,ru,lk⟩:=hlo j x v e2 hσ e3;obtain⟨c,ec⟩:=hcf _ (aR e4) rfl;rcases lk with ⟨k,_⟩ | ⟨_,c2,e6,ic⟩
   ·rcases e5 with z | z <;> (rw[k]at z;cases z)
   ·have:=hcl x c ec;rw[e6]at this;cases this;exact⟨u,c,ru,ec,up x c e6 _ ic,e4⟩
end
section
variable {P:Program}{w:World}{K:a6}{mg:Str->Option Value}{base:Heap}
theorem v6 {cl:Nat->Value}{x qual q:Str}{st:Stmt}{f:Addr}{fd:FuncData}{N:List Str}{k:Nat}{fb:En->RS}{gx:Nat->R T}(F:Fun K x qual st f fd)(S:Z6 N [q] (za st))(hN:1<=N.length)
  (hb:∀(cdv:Value) (A:Around) (outer:List Env) (s:Shared) (H:Hp) (Y:Fx),Y.cl=cl->ZA k (A.deeper (envOfC qual (za st) s.heap.objs.size f cdv))->
   jF (cxM P w K mg base N qual (za st) f cdv A outer s H) Y (zv st) fb)
  (hg:∀c,gx c=zr (fb (enC N.length c))):FnM P w K mg base (k+1) f fd [q] (spC cl gx):=by
 refine xm F S (λvs H Q E ⟨_,_,_,e,_⟩=>by rw[e];rfl) λcdv A outer s H vs Q hr ⟨B,a,c,e,sB,r,q⟩=> ?_
 subst e;refine⟨_,hb cdv A _ s H ⟨B,H,λ_ _ _=>False,cl,[]⟩ rfl hr _,B,SI.startC sB hN r, ?_⟩;rw[hg c]at q;revert q;cases fb _ with
 | rt t=>exact λq v H' s r=>q v H' s r
 | rf t=>exact λq a xs H' B' s0 n e r _ l=>q _ H' s0 (.lst (by rw[zD n];exact e) (r.mono l))
 | nx ρ=>exact λq σ' H' B' _ I=>q _ H' I.sH .non
 | ex c=>exact λq=>q
 | bk ρ=>exact λq=>q.elim
 | ct ρ=>exact λq=>q.elim
 | bad=>exact λq=>q
def qG (cl:Nat->Value)(n:Nat)(g:List T->R T)(Pt:Addr)(q:Str):Sp:=λvs H Q E=>H Pt=some (.tbl #[] q)/\spP cl n g vs H Q E
end
end PV
namespace L2
open PySem PySem.Spec PyProof.Rows PySem.W
end L2
namespace PV
open PySem PySem.Spec PyProof.Rows L2
end PV
namespace PV
open PySem PySem.Spec PyProof.Rows L2 PySem.W
end PV
namespace PV
open PySem PySem.Spec PyProof.Rows L2
end PV
namespace PV
open PySem PySem.Spec PyProof.Rows L2 PySem.W
theorem y0 {x:Str}:∀(ns:List (Str×NameKind)) (n:Nat) (acc:List (Str×Addr)),(∀k,(x,k)∈ns->k ≠ NameKind.cell)->(cellsFrom n ns acc).lookup x=acc.lookup x
 | [],_,_,_=>rfl
 | (y,k) :: ns,n,acc,h=>by
  unfold cellsFrom;have h' :=λk hk=>h k (aa _ hk);split
  ·rename_i hk;rw[y0 ns _ _ h',ao];have:x ≠ y:=λz=>h k (by rw[z];exact ai) (eq_of_beq hk)
   rw[beq_eq_false_iff_ne.mpr this]
  ·exact y0 ns _ _ h'
theorem ue {x:Str}{c:Addr}:∀(ns:List (Str×NameKind)) (n:Nat) (acc:List (Str×Addr)),(cellsFrom n ns acc).lookup x=some c->((x,NameKind.cell)∈ns/\n<=c)\/acc.lookup x=some c
 | [],_,_,h=> .inr h
 | (y,k) :: ns,n,acc,h=>by
  unfold cellsFrom at h;split at h
  ·rename_i hk;rcases ue ns _ _ h with ⟨a,b⟩ | z
   ·exact .inl ⟨aa _ a,ck b⟩
   ·rw[ao]at z
    by_cases hx:x=y
    ·subst hx;rw[beq_self_eq_true]at z;have e:=aq z;rw[eq_of_beq hk];exact .inl ⟨ai,f8 e⟩
    ·rw[beq_eq_false_iff_ne.mpr hx]at z;exact .inr z
  ·rcases ue ns _ _ h with ⟨a,b⟩ | z
   ·exact .inl ⟨aa _ a,b⟩
   ·exact .inr z
theorem wm {x:Str}:∀(ns:List (Str×NameKind)) (n:Nat) (acc:List (Str×Addr)),(∃c,acc.lookup x=some c)->∃c,(cellsFrom n ns acc).lookup x=some c
 | [],_,_,h=>h
 | (y,k) :: ns,n,acc,h=>by
  unfold cellsFrom;split
  ·refine wm ns _ _ ?_;rw[ao]
   by_cases hx:x=y
   ·subst hx;rw[beq_self_eq_true];exact⟨_,rfl⟩
   ·rw[beq_eq_false_iff_ne.mpr hx];exact h
  ·exact wm ns _ _ h
theorem qH {x:Str}:∀(ns:List (Str×NameKind)) (n:Nat) (acc:List (Str×Addr)),(x,NameKind.cell)∈ns->∃c,(cellsFrom n ns acc).lookup x=some c
 | (y,k) :: ns,n,acc,h=>by
  unfold cellsFrom;rcases ak.mp h with e | h
  ·cases e;refine wm ns _ _ ⟨n, ?_⟩;rw[ao,beq_self_eq_true]
  ·split <;> exact qH ns _ _ h
theorem y3 {x:Str}{c:Addr}:∀(ns:List (Str×NameKind)) (n m:Nat) (acc:List (Str×Addr)),m<=n->((x,NameKind.cell)∈ns\/∀d,acc.lookup x=some d->m<=d)->(cellsFrom n ns acc).lookup x=some c->m<=c
 | [],_,_,_,_,h,e=>(h.resolve_left (by simp)) _ e
 | (y,k) :: ns,n,m,acc,hm,h,e=>by
  unfold cellsFrom at e;split at e
  ·refine y3 ns _ m _ (Nat.le_succ_of_le hm) ?_ e
   by_cases hx:x=y
   ·subst hx;refine .inr λd z=> ?_;rw[ao,beq_self_eq_true]at z;have e:=aq z;rw[← e];exact hm
   ·rcases h with h | h
    ·rcases ak.mp h with z | z
     ·cases z;exact absurd rfl hx
     ·exact .inl z
    ·refine .inr λd z=> ?_;rw[ao,beq_eq_false_iff_ne.mpr hx]at z;exact h d z
  ·rename_i hk;refine y3 ns _ m _ hm ?_ e;rcases h with h | h
   ·rcases ak.mp h with z | z
    ·cases z;exact absurd rfl hk
    ·exact .inl z
   ·exact .inr h
theorem y6:∀(ns:List (Str×NameKind)) (n:Nat) (acc:List (Str×Addr)),(∀x y c,acc.lookup x=some c->acc.lookup y=some c->x=y)->(∀x c,acc.lookup x=some c->c < n)->∀x y c,(cellsFrom n ns acc).lookup x=some c->(cellsFrom n ns acc).lookup y=some c->x=y
 | [],_,_,h,_=>h
 | (y,k) :: ns,n,acc,h,hb=>by
  unfold cellsFrom;split
  ·have lk:∀x c,((y,n) :: acc).lookup x=some c->(x=y/\c=n)\/acc.lookup x=some c:=λx c e=>by
    rw[ao]at e
    by_cases hx:x=y
    ·subst hx;rw[beq_self_eq_true]at e;exact .inl ⟨rfl,(aq e).symm⟩
    ·rw[beq_eq_false_iff_ne.mpr hx]at e;exact .inr e
   refine y6 ns _ _ (λa b c e1 e2=> ?_) λa c e=> ?_
   ·rcases lk a c e1 with ⟨p1,q1⟩ | z1 <;> rcases lk b c e2 with ⟨p2,q2⟩ | z2
    ·rw[p1,p2]
    ·exact absurd (hb _ _ z2) (by rw[q1];exact aS _)
    ·exact absurd (hb _ _ z1) (by rw[q2];exact aS _)
    ·exact h a b c z1 z2
   ·rcases lk a c e with ⟨_,q⟩ | z
    ·rw[q];exact fB _
    ·exact cj (hb _ _ z)
  ·exact y6 ns _ _ h hb
theorem WM {x:Str}{c:Addr}:∀(ns:List (Str×NameKind)) (h:Heap) (acc:List (Str×Addr)),(cellsFrom h.objs.size ns acc).lookup x=some c->(∀d,acc.lookup x=some d->∃v,h.IsCell d v)->∃v,(pushCells h ns).IsCell c v
 | [],_,_,e,k=>k c e
 | (y,k) :: ns,h,acc,e,hk=>by
  unfold pushCells;unfold cellsFrom at e;split at e
  ·rename_i hc;rw[if_pos hc];have sz:(h.push { cls:= .type "cell",data:= .cell none }).objs.size=h.objs.size+1:=dk ..;rw[← sz]at e;refine WM ns _ _ e λd z=> ?_;rw[ao]at z
   by_cases hx:x=y
   ·subst hx;rw[beq_self_eq_true]at z;have e:=aq z;rw[← e];exact⟨none,_,am _ rfl,rfl⟩
   ·rw[beq_eq_false_iff_ne.mpr hx]at z;obtain⟨v,o,eo,ed⟩:=hk d z;exact⟨v,o,a7 _ eo,ed⟩
  ·rename_i hc;rw[if_neg hc];exact WM ns _ _ e hk
theorem ZZ {scope:Scope}{env:Env}{x:Str}{k:NameKind}(h:(relabel scope env).names.lookup x=some k):∃k',(x,k')∈scope.names/\(k=k' \/k' = .free/\k= .cell):=by
 have go:∀ns:List _,(ns.map λ(n,k)=>if (k == NameKind.free && env.scope.kind == .function && env.kindOf n == some .cell) then (n,NameKind.cell) else (n,k)).lookup x=some k->∃k',(x,k')∈ns/\(k=k' \/k' = .free/\k= .cell):=by
  intro ns
  induction ns with
  | nil=>intro h;simp at h
  | cons y ns ih=>
   intro h;obtain⟨n,k'⟩:=y;rw[aZ]at h
   by_cases hx:x=n
   ·subst hx;refine⟨k',ai, ?_⟩
    by_cases hc:(k' == NameKind.free && env.scope.kind == .function && env.kindOf x == some .cell)=true
    ·simp only[if_pos hc,ao,beq_self_eq_true]at h;rw[a9,a9]at hc;exact .inr ⟨eq_of_beq hc.1.1,(aq h).symm⟩
    ·simp only[if_neg hc,ao,beq_self_eq_true]at h;exact .inl (aq h).symm
   ·obtain⟨z,hz,h1⟩:=ih (by
     by_cases hc:(k' == NameKind.free && env.scope.kind == .function && env.kindOf n == some .cell)=true
     ·simp only[if_pos hc,ao,(beq_eq_false_iff_ne.mpr hx)]at h;exact h
     ·simp only[if_neg hc,ao,(beq_eq_false_iff_ne.mpr hx)]at h;exact h)
    exact⟨z,aa _ hz,h1⟩
 exact go _ h
def cxD (X:Cx)(scope:Scope)(N' :List Str)(cl:List (Str×Addr))(C:Addr)(s3:Shared)(H3:Hp)(fp:List Addr)(pins:List (Addr×Obj)):Cx:=
 { X with N:=N',s₀:=s3,H₀:=H3,env:=compEnvC scope (cellsFrom (C+1) scope.names cl) C X.env,outer:=X.stack,stack:=X.stack,ex:=fp,fn:=λx=>scope.names.lookup x == some .cell,pn:=X.pn++pins,xe:=λ_ _=>False }
structure CSd (X:Cx) (scope:Scope):Prop where
 kind:scope.kind= .function
 can:∀x∈scope.names,scope.names.lookup x.1=some x.2
 fre:∀x∈scope.names,x.2= .free->X.env.kindOf x.1=some .cell\/X.env.kindOf x.1=some .free
section
variable {X:Cx}{pins:List (Addr×Obj)}{σ:Sg}{H:Hp}{s:Shared}
theorem uI {scope:Scope}{N' :List Str}{cl:List (Str×Addr)}{fp:List Addr}{h0 h' :Heap}{tk:Nat}{σ' :Sg}(I:L2.Inv X pins σ H s)(S:CSd X scope)(hc:X.calm=true)
  (hcl:∀x c,cl.lookup x=some c->X.env.cells.lookup x=some c) (hcf:∀x∈scope.names,x.2=NameKind.free->∃c,cl.lookup x.1=some c)
  (hfp:∀b∈fp,jW X pins H b) (hfo:∀b∈fp,∃o,s.heap.get? b=some o)
  (h0s:h0.objs.size=s.heap.objs.size+1) (h0k:∀b o,s.heap.get? b=some o->h0.get? b=some o) (eh:h' =pushCells h0 scope.names)
  (hns:h'.Ns s.heap.objs.size (λ_=>none)) (hk:∀b o,s.heap.get? b=some o->h'.get? b=some o)
  (hl:σ'.length=N'.length) (hσ:∀(i:Nat) (x:Str) (v:V),N'[i]? =some x->σ'[i]? =some (some v)->∃j:Nat,X.N[j]? =some x/\σ[j]? =some (some v)/\Vis X.env.scope x/\(scope.names.lookup x=some .free)/\(X.env.kindOf x=some .cell\/X.env.kindOf x=some .free)):
  L2.Inv (cxD X scope N' cl s.heap.objs.size s H fp pins) [] σ' H { s with heap:=h',toks:=tk }:=by
 have stk:=I.stkSub;have hlt:=λb hb=>let ⟨o,e⟩:=hfo b hb;ag e;have fresh:=I.hok.fresh (aj _);have cll:∀x c,cl.lookup x=some c->c < s.heap.objs.size:=λx c e=>by
  obtain⟨v,o,eo,_⟩:=I.cell x c (hcl x c e);exact ag eo
 have any:∀x c,(cellsFrom _ scope.names cl).lookup x=some c->s.heap.objs.size+1<=c\/X.env.cells.lookup x=some c:=λx c e=>by
  rcases ue _ _ _ e with ⟨_,z⟩ | z
  ·exact .inl z
  ·exact .inr (hcl x c z)
 refine⟨⟨I.ok.mod,S.kind,I.ok.glob,I.ok.blt,aj _,y6 _ _ _ (λx y c h1 h2=>I.ok.inj x y c (hcl _ _ h1) (hcl _ _ h2)) (λx c e=>cj (cll x c e)),λx hx=> ?_,λx c h e=> ?_,λ_=>I.ok.hd hc,I.ok.frames,.inl rfl,λb hb=> ?_,I.bs,
   aC I.ok.bsz I.sz,λb o e hb=> ?_,λb hb hb' => ?_,I.stack,I.stkFree⟩,rfl,I.bare,Un.kept hk,⟨_,hns,λi x v h1 h2 h3=> ?_⟩,λx c e=> ?_,fresh,λx c e=> ?_,λp hp=> ?_,I.hok.kept hk,hl⟩
 ·have hx' :=hx;have:(x,NameKind.cell)∈scope.names\/(x,NameKind.free)∈scope.names:=by
   rcases hx' with h | h
   ·obtain⟨k',m,e | ⟨e,_⟩⟩:=ZZ h
    ·exact .inl (e ▸ m)
    ·exact .inr (e ▸ m)
   ·obtain⟨k',m,e | ⟨e,_⟩⟩:=ZZ h
    ·exact .inr (e ▸ m)
    ·exact .inr (e ▸ m)
  rcases this with h | h
  ·exact qH _ _ _ h
  ·exact wm _ _ _ (hcf _ h rfl)
 ·have hm:=aR (eq_of_beq h);exact ck (y3 _ _ _ _ (aj _) (.inl hm) e)
 ·refine⟨aB (hlt b hb),λx c e=> ?_⟩;rcases any x c e with z | z
  ·exact λq=>absurd (hlt b hb) (by rw[← q];exact dG.mpr (ck z))
  ·exact(hfp b hb).2.2.2.2.1 x c z
 ·rcases(hfp b hb).2.2.2.1 with h | h
  ·exact I.ok.noex b o e h
  ·exact absurd (ar (ag e) (aC I.ok.bsz h)) (aS _)
 ·have q:=hfp b hb;rcases ak.mp (stk b hb') with z | z
  ·exact q.2.1 z
  ·exact q.2.2.1 z
 ·obtain⟨j,e1,e2,e3,e4,e5⟩:=hσ i x v h1 h2;obtain⟨m,hn,hloc⟩:=I.loc;obtain⟨u,ru,lk⟩:=hloc j x v e1 e2 e3;have only:∀k,(x,k)∈scope.names->k= .free:=λk hk=>by
   have:=S.can _ hk;rw[e4]at this;exact(aq this).symm
  refine⟨u,ru,.inr ⟨?_, ?_⟩⟩
  ·rcases h3 with h | h | h
   ·obtain⟨k',m',e | ⟨_,e⟩⟩:=ZZ h
    ·have:=only _ m';rw[← e]at this;cases this
    ·cases e
   ·exact .inl h
   ·exact .inr h
  ·rcases lk with ⟨hk',_⟩ | ⟨_,c,hc',hcell⟩
   ·rcases e5 with z | z <;> (rw[z]at hk';cases hk')
   ·obtain⟨c',hc2⟩:=hcf _ (aR e4) rfl;have:=hcl x c' hc2;rw[hc']at this;cases this;obtain⟨o,eo,ed⟩:=hcell;refine⟨c, ?_,o,hk _ _ eo,ed⟩;show (cellsFrom _ _ cl).lookup x=_;rw[y0 _ _ _ λk hk=>by rw[only k hk];decide]
    exact hc2
 ·have e:(cellsFrom _ _ cl).lookup x=some c:=e;rw[← h0s]at e;rw[eh];refine WM _ _ _ e λd z=> ?_;obtain⟨v,o,eo,ed⟩:=I.cell x d (hcl _ _ z);exact⟨v,o,h0k _ _ eo,ed⟩
 ·rcases any x c e with z | z
  ·exact I.hok.fresh (ck z)
  ·exact I.freeC x c z
 ·have hp' :=by
   have:=hp;rwa[aT]at this
  obtain⟨e,n,ne,nf,dc⟩:=I.pin p hp';refine⟨hk _ _ e,n,aB (ag e),λhb=> ?_,dc⟩;rcases ak.mp (stk _ hb) with z | z
  ·exact ne z
  ·exact nf z
end
theorem v7 {M:Model}{A:Around}{E:Value->Shared->Prop}{s:Shared}{scope:Scope}{globals:Addr}{closure:List (Str×Addr)}{qual:Str}{outer:Env}{Q:Env->Shared->Prop}
  (hQ:Q { scope,locals:=s.heap.objs.size,globals,cells:=cellsFrom (s.heap.objs.size+1) scope.names closure,qual:=qual,func:=none,code:=outer.code,frame:=outer.frame,builtins:=outer.builtins } { s with heap:=pushCells (s.heap.push { cls:= .type "dict",data:= .dict #[] }) scope.names }):
  wpAny M A (newFunctionEnv scope globals closure [] qual none .none (some outer)) Q E s:=by
 refine a8 (wpAny_alloc ?_);refine a8 (wpAny_layCells _ (λname kind cells=>by cases hkc:kind == NameKind.cell <;> simp[hkc]) _ _ _ _ ?_)
 refine a8 (aw (aw ?_));rw[show ({ s with heap:=s.heap.push _ }:Shared).heap.objs.size=s.heap.objs.size+1 from dk ..];exact hQ
abbrev y7 (X:Cx)(scope:Scope)(N' :List Str)(P:Cx->Prop):Prop:=∀cl C s3 H3 fp pins,P (cxD X scope N' cl C s3 H3 fp pins)
theorem wn {env:Env}:∀(ns:List (Str×NameKind)) (acc:List (Str×Addr)),(∀x∈ns,x.2=NameKind.free->∃c,env.cells.lookup x.1=some c)->
  ∃cl,(forIn ns acc (λ(x:Str×NameKind) (r:List (Str×Addr))=>if (x.2 == NameKind.free)=true then (do let c ← cellOf env x.1;pure (ForInStep.yield ((x.1,c) :: r))) else pure (ForInStep.yield r)):Sem _)=pure cl/\
   (∀x c,cl.lookup x=some c->acc.lookup x=some c\/(env.cells.lookup x=some c/\(x,NameKind.free)∈ns))/\(∀x c,acc.lookup x=some c->∃c',cl.lookup x=some c')/\(∀x∈ns,x.2=NameKind.free->∃c,cl.lookup x.1=some c)
 | [],acc,_=>⟨acc,rfl,λx c e=> .inl e,λx c e=>⟨c,e⟩,λx hx=>by simp at hx⟩
 | (n,k) :: ns,acc,hf=>by
  by_cases hk:k=NameKind.free
  ·obtain⟨c,hc⟩:=hf _ ai hk;obtain⟨cl,e,h1,h2,h3⟩:=wn ns _ (λx hx=>hf x (aa _ hx));subst hk;refine⟨cl, ?_,λx d ed=> ?_,λx d ed=> ?_,λx hx hxf=> ?_⟩
   ·rw[d9];have q:cellOf env n=pure c:=by unfold cellOf;rw[hc]
    simp only[beq_self_eq_true,if_true,q];exact e
   ·rcases h1 x d ed with z | ⟨z,m⟩
    ·rw[ao]at z
     by_cases hx:x=n
     ·subst hx;rw[beq_self_eq_true]at z;have:=aq z;subst this;exact .inr ⟨hc,ai⟩
     ·rw[beq_eq_false_iff_ne.mpr hx]at z;exact .inl z
    ·exact .inr ⟨z,aa _ m⟩
   ·by_cases hx:x=n
    ·subst hx;exact h2 x c (by simp[ao])
    ·exact h2 x d (by rw[ao,(beq_eq_false_iff_ne.mpr hx)];exact ed)
   ·rcases ak.mp hx with rfl | hx
    ·exact h2 n c (by simp[ao])
    ·exact h3 x hx hxf
  ·obtain⟨cl,e,h1,h2,h3⟩:=wn ns acc (λx hx=>hf x (aa _ hx));refine⟨cl, ?_,λx d ed=>(h1 x d ed).imp id λz=>⟨z.1,aa _ z.2⟩,h2,λx hx hxf=> ?_⟩
   ·rw[d9];have q:(k == NameKind.free)=false:=by simpa using hk
    simp only[q,aF,if_false];exact e
   ·rcases ak.mp hx with rfl | hx
    ·exact absurd hxf hk
    ·exact h3 x hx hxf
theorem YE {scope:Scope}{env:Env}(hf:∀x∈scope.names,x.2=NameKind.free->∃c,env.cells.lookup x.1=some c):
  ∃cl,closureFor scope env=pure cl/\(∀x c,cl.lookup x=some c->env.cells.lookup x=some c)/\(∀x∈scope.names,x.2=NameKind.free->∃c,cl.lookup x.1=some c)/\∀x c,cl.lookup x=some c->(x,NameKind.free)∈scope.names:=by
 obtain⟨cl,e,h1,_,h3⟩:=wn _ [] hf;have h1:=λx c z=>(h1 x c z).resolve_left (by simp)
 refine⟨cl, ?_,λx c z=>(h1 x c z).1,h3,λx c z=>(h1 x c z).2⟩;unfold closureFor;exact(by simpa using e)
section
variable {X:Cx}{Y:Fx}
theorem v8 {pins:List (Addr×Obj)}{σ:Sg}{H:Hp}{s:Shared}{scope:Scope}{clos:List (Str×Addr)}{N' :List Str}{js:List Nat}(I:L2.Inv X pins σ H s)(hfn:∀x c,clos.lookup x=some c->X.fn x=true)(hcl:∀x c,clos.lookup x=some c->X.env.cells.lookup x=some c)
  (hcf:∀x∈scope.names,x.2=NameKind.free->∃c,clos.lookup x.1=some c) (CP:Ym X scope N' 0 js):ud (yW s H (frs X.stack)) H scope clos N' (jw 0 js σ):=by
 have up:∀x c,clos.lookup x=some c->X.env.cells.lookup x=some c->∀v,s.heap.IsCell c v->(yW s H _).IsCell c v:=λx c e0 e v ⟨o,ho,hd⟩=>⟨o,wl ho (I.freeC x c e) λhb=>by
  rcases ak.mp (I.stkSub c hb) with z | z
  ·exact I.cne x c e z
  ·obtain⟨_,o2,e2,_⟩:=I.ok.funs.mem z;exact absurd (ag e2) (dG.mpr (I.ok.cab x c (hfn x c e0) e)),hd⟩
 refine⟨λx y c h1 h2=>I.ok.inj x y c (hcl _ _ h1) (hcl _ _ h2),hcf,λx c e=>⟨?_,I.freeC x c (hcl x c e)⟩,λi x v h1 h2=> ?_,by unfold jw;simp[CP.len]⟩
 ·obtain⟨v,ic⟩:=I.cell x c (hcl x c e);exact⟨v,up x c e (hcl x c e) v ic⟩
 ·unfold jw at h2;rw[eD,bV,ax]at h2;cases ej:js[i]? with
  | none=>rw[ej]at h2;cases h2
  | some j=>
   rw[ej]at h2;have h2' :(σ[j]?).getD _=some v:=aq h2;have hσ:σ[j]? =some (some v):=by
    cases ez:σ[j]? with
    | none=>rw[ez]at h2';cases h2'
    | some z=>rw[ez]at h2';exact congrArg _ h2'
   obtain⟨y,e1,e2,e3,e4,e5⟩:=CP.cap i j ej;rw[Nat.zero_add,h1]at e1;cases e1;obtain⟨m,hn,hlo⟩:=I.loc;obtain⟨u,ru,lk⟩:=hlo j x v e2 hσ e3;obtain⟨c,ec⟩:=hcf _ (aR e4) rfl;rcases lk with ⟨k,_⟩ | ⟨_,c2,e6,ic⟩
   ·rcases e5 with z | z <;> (rw[k]at z;cases z)
   ·have:=hcl x c ec;rw[e6]at this;cases this;exact⟨u,c,ru,ec,up x c ec e6 _ ic,e4⟩
end
section
variable {X:Cx}{Y:Fx}{tg iter elt:Expr}{ifs:List Expr}{scope:Scope}{pos pos' :Pos}{N' :List Str}{k:Nat}{js:List Nat}{fi:En->R (List T)}{tG:TG}{g:T->En->R En}{ft:En->R Bool}{fe:En->R T}
theorem uJ {B1 H1:Hp}{σ:Sg}{ρ:En}{J:It}{ts:List T}{r:R (List T)}{D:Addr}{E0:XK}(hG:GOk tG g)(hN:GNo g)(I:SI Y B1 ρ σ H1)(rI' :rI B1 H1 J ts)(hl:ts.length<=bnd)(ev:zt g ft fe ts (JC k js ρ)=r)(hD:H1 D=none){F:Hp->Prop}
  (hF:gy r (λvs=>∀H' xs B',zh H1 H' ->H' D=some (.lst xs)->zC B' xs vs->zh B' (zx B1 H1 H')->B' D=none->zh B1 B' ->F H') λc=>∀d H',zh H1 H' ->zh B1 H' ->E0 (Y.cl c) d H'):
  ∃W,(∃m,W 0 m [] (jw k js σ) (upd H1 D (.lst [])))/\W5 J D tG (λσ H Q=>∃Y' ρ',Y'.cl=Y.cl/\zh Y.H0 Y'.H0/\tS Y' rE ft ρ' σ H Q) (λσ H Q=>∃Y' ρ',Y'.cl=Y.cl/\zh Y.H0 Y'.H0/\tS Y' rC fe ρ' σ H Q) (λ_ H' =>F H') W:=by
 refine⟨λi m ys σ' H' =>m=ts.length - i/\i<=ts.length/\ys.length<=i/\H' D=some (.lst ys)/\∃ρ' B' us,SI ⟨B1,H1,E0,Y.cl,[]⟩ B' ρ' σ' H' /\QF ρ' /\zh B1 B' /\B' D=none/\zC B' ys us/\((zt g ft fe (ts.drop i) ρ').bind λws=> .ok (us++ws))=r,
  ⟨ts.length,by simp,bE _,bE _,zl,_,B1,[],I.block (H3:=H1) k js _ hD _,ua k js ρ,zh.refl _,I.sB.free hD,.nil,by rw[dX,ev];cases r <;> rfl⟩, ?_⟩
 rintro i m ys σ' H' ⟨rfl,hi,hyl,hDl,ρ',B',us,I',no',s1',bD,r',ew⟩
 refine⟨hDl, ?_⟩;obtain⟨hgo,hyld,hstop⟩:=rI' B' H' s1' I'.sB;have tD:∀H2,zh H' H2->zx B' H' H2 D=none:=λH2 s=>by rw[zF hDl];exact bD
 by_cases hlt:i < ts.length
 ·refine .inr ⟨hgo i hlt,λx H2 y=> ?_⟩;obtain⟨s2,r2⟩:=hyld i _ x H2 (az hlt) y;rw[bc hlt]at ew;unfold zt at ew;have I2:=I'.grow s2;refine hG _ _ ρ' σ' H2 x _ _ I2 r2 ?_;cases eg:g _ ρ' with
  | bad=>rw[eg]at ew;subst ew;exact hF
  | ex c=>exact(hN.2 _ _ _ eg).elim
  | ok ρ1=>
   rw[eg]at ew;have no1:=hN.1 _ _ _ no' eg;intro σ1 J1;refine⟨⟨B1,H1,E0,Y.cl,[]⟩,ρ1,rfl,I.sH,_,J1, ?_⟩;have ew1:((ft ρ1).bind (λk=>if k=true then (fe ρ1).bind λv=>(zt g ft fe _ ρ1).bind λvs=> .ok _ else zt g ft fe _ ρ1)).bind (λws=> .ok _)=r:=ew
   cases ef:ft ρ1 with
   | bad=>rw[ef]at ew1;subst ew1;exact hF
   | ex c=>
    rw[ef]at ew1;subst ew1;exact λd H' a b=>hF d H' a ((s1'.trans (zx.ge I'.sB s2)).trans b)
   | ok kk=>
    rw[ef]at ew1;intro b H3 s3 eb;have eb' :=eb;subst eb';have ew2:=ew1;have J2:=J1.grow s3;have hD3:=s3 _ _ (s2 _ _ hDl);have bD3:zx (zx B' H' H2) H2 H3 D=none:=by rw[zF (s2 _ _ hDl)];exact tD H2 s2
    have sB3:=(zx.ge I'.sB s2).trans (zx.ge I2.sB s3);cases b with
    | false=>exact⟨ts.length - (i+1),by omega,rfl,hlt,by omega,hD3,ρ1,_,us,J2,no1,s1'.trans sB3,bD3,r'.mono sB3,ew2⟩
    | true=>
     refine⟨⟨B1,H1,E0,Y.cl,[]⟩,ρ1,rfl,I.sH,_,J2, ?_⟩;have ew3:=ew2;cases ee:fe ρ1 with
     | bad=>rw[ee]at ew3;subst ew3;exact hF
     | ex c=>
      rw[ee]at ew3;subst ew3;exact λd H' a b=>hF d H' a ((s1'.trans sB3).trans b)
     | ok v=>
      rw[ee]at ew3;have ew4:=ew3;have ew5:(zt g ft fe (ts.drop (i+1)) ρ1).bind (λws=> .ok ((us++[v])++ws))=r:=by
       rw[← ew4];cases zt g ft fe _ ρ1 with
       | ok ws=>show R.ok _=R.ok _;rw[bx];rfl
       | _=>rfl
      intro w H4 s4 rw4;have hD4:=s4 _ _ hD3;have J3:=J2.grow s4;have bD4:zx (zx (zx B' H' H2) H2 H3) H3 H4 D=none:=by rw[zF hD3];exact bD3
      have sB4:=sB3.trans (zx.ge J2.sB s4);refine⟨hD4,ar (di hyl hlt) (zV hl),ts.length - (i+1),by omega,rfl,hlt,by rw[ae,bF];omega,zl,ρ1,_,us++[v], ?_,no1,s1'.trans sB4,bD4,(r'.mono sB4).append (.cons rw4 .nil),ew5⟩
      exact J3.acc bD4 hD (λj ts' e=>((no1 j _ e).1 ts' rfl).elim) (λj x e=>(no1 j x e).2) _
 ·have e:i=ts.length:=by omega
  subst e;refine .inl ⟨hstop _ (aj _), ?_⟩;rw[cU]at ew;have ew' :R.ok _=r:=ew;rw[aT]at ew';subst ew';refine hF H' ys B' I'.sH hDl r' (λb o h=> ?_) bD s1';cases q:H1 b with
  | none=>rw[zD q];exact I'.sB b o h
  | some u=>
   rw[zF q];have z:B' b=B1 b:=I'.old b u q;rw[← z];exact h
end
noncomputable def Xp (scope sc0:Scope):Bool:=(scope.kind == .function) && scope.names.all (λx=>scope.names.lookup x.1 == some x.2) &&
 scope.names.all (λx=>x.2 != .free || sc0.names.lookup x.1 == some .cell || sc0.names.lookup x.1 == some .free)
theorem xo {X:Cx}{scope:Scope}(sc0:Scope)(h0:X.env.scope=sc0)(h:Xp scope sc0=true):CSd X scope:=by
 unfold Xp at h;simp only[a9,aI]at h;obtain⟨⟨h1,h3⟩,h4⟩:=h;refine⟨eq_of_beq h1,λx hx=>eq_of_beq (h3 x hx),λx hx hf=> ?_⟩;have:=h4 x hx;rw[hf]at this;show X.env.scope.names.lookup x.1=_\/X.env.scope.names.lookup x.1=_;rw[h0];simpa using this
end PV
namespace PV
open PySem PySem.Spec PyProof.Rows L2
structure Fn (K:a6) (mg:Str->Option Value) (x:Str) (st:Stmt) (ps:List Str) (f:Addr) (fd:FuncData):Prop where
 F:Fun K x x st f fd
 b:L2.Binds K fd ps []
 m:mg x=some (.ref f)
noncomputable abbrev FE (K:a6)(mg:Str->Option Value)(x:Str)(st:Stmt)(ps:List Str):Prop:=∃f fd,Fn K mg x st ps f fd
structure Zz where
 P:Program
 w:World
 K:a6
 mg:Str->Option Value
 base:Heap
 cl:Nat->Value
structure QQ (x:Str) (CX:CXT) (k:Nat) (sp:Sp) (Z:Zz):Prop where
 ex:∃st ps f fd,Fn Z.K Z.mg x st ps f fd/\WZ Z.P Z.w Z.K Z.mg Z.base CX k f fd ps sp
abbrev qP (Z:Zz)(x:Str)(n k:Nat)(c:List T->R T):Prop:=QQ x CX0 k (spP Z.cl n c) Z
abbrev qX (Z:Zz)(x:Str)(n k:Nat)(c:List T->R T):Prop:=QQ x (CX1 Z.P Z.w) k (spP Z.cl n c) Z
def oP (m:Nat)(b:En->RS):List T->R T:=λts=>zr (b (en0 m ts))
def oC (m:Nat)(b:En->RS):Nat->R T:=λc=>zr (b (enC m c))
section
variable {P:Program}{w:World}{K:a6}{mg:Str->Option Value}{base:Heap}{cl:Nat->Value}{x:Str}{CX:CXT}{k c:Nat}{sp:Sp}{G:Prop}{as:List Str}
theorem QQ.go (O:QQ x CX k sp ⟨P,w,K,mg,base,cl⟩)(h:∀st ps f fd,Fn K mg x st ps f fd->WZ P w K mg base CX k f fd ps sp->G):G:=by
 obtain⟨⟨st,ps,f,fd,C,F⟩⟩:=O;exact h st ps f fd C F
end
section
variable {Z:Zz}{x y:Str}{st:Stmt}{ps:List Str}{c k n m j:Nat}{fb:En->RS}{fm:En->R (T×En)}
abbrev Sc (N ps:List Str)(st:Stmt):Prop:=Z6 N ps (za st)
theorem okP (C:FE Z.K Z.mg x st ps)(N:List Str) (hb:∀(f:Addr) (cdv:Value) (A:Around) (outer:List Env) (s:Shared) (H:Hp) (E:XK) (Y:Fx),Y.cl=Z.cl->True->Z8 k (A.deeper (envOfC x (za st) s.heap.objs.size f cdv))->N.Nodup->True->
   jF (Z4 CX0 Z.P Z.w Z.K Z.mg Z.base N x (za st) f cdv A outer s H E).nox Y (zv st) fb)
  (S:Sc N ps st:=by refine⟨rfl,rfl,rfl, ?_,rfl, ?_, ?_⟩ <;> decide+kernel) (hn:n=ps.length:=by rfl) (hm:m=N.length:=by rfl):qP Z x n (k+1) (oP m fb):=by
 obtain⟨f,fd,C⟩:=C;subst hm;exact⟨_,_,f,fd,C,kM C.F S hn (λcdv A outer s H E Y hy hr=>hb f cdv A outer s H E Y hy trivial hr S.nd trivial) λ_ _=>rfl⟩
theorem okR (C:FE Z.K Z.mg x st ps)(N:List Str) (hb:∀(f:Addr) (cdv:Value) (A:Around) (outer:List Env) (s:Shared) (H:Hp) (E:XK) (Y:Fx),Y.cl=Z.cl->Y.E=E->Z8 k (A.deeper (envOfC x (za st) s.heap.objs.size f cdv))->N.Nodup->zO (CX1 Z.P Z.w) (Z4 (CX1 Z.P Z.w) Z.P Z.w Z.K Z.mg Z.base N x (za st) f cdv A outer s H E) Y.E->
   jF (Z4 (CX1 Z.P Z.w) Z.P Z.w Z.K Z.mg Z.base N x (za st) f cdv A outer s H E) Y (zv st) fb)
  (S:Sc N ps st:=by refine⟨rfl,rfl,rfl, ?_,rfl, ?_, ?_⟩ <;> decide+kernel) (hn:n=ps.length:=by rfl) (hm:m=N.length:=by rfl):qX Z x n (k+1) (oP m fb):=by
 obtain⟨f,fd,C⟩:=C;subst hm;exact⟨_,_,f,fd,C,VZ C.F S hn (λcdv A outer s H E Y hy hE hr=>hb f cdv A outer s H E Y hy hE hr S.nd (hE ▸ Qk)) λ_ _=>rfl⟩
variable {as:List Str}
theorem okB (C:FE Z.K Z.mg x st ps)(hn:n=ps.length:=by rfl):qP Z x n k (λ_=> .bad):=by
 obtain⟨f,fd,C⟩:=C;exact⟨_,_,f,fd,C,λvs H Q E h=>by rw[← hn];exact spP.len vs H Q E h,λA outer s H args us vs Q E _ _ _ _ ⟨B,ts,_,_,_,q⟩=>q.elim⟩
end
section
variable {X:Cx}{Y:Fx}{cl:Nat->Value}{k j n:Nat}{g:List T->R T}{x:Str}{a:Expr}{es:List Expr}{ga:En->R (List T)}{p pos:Pos}
theorem cZ (hy:Y.cl=cl)(O:QQ x CX0 j (spP cl n g) ⟨X.prog,X.w,X.K,X.mg,X.base,cl⟩)(hr:Z8 k X.A)(ha:ZI X Y (a :: es) ga)(hj:j<=k:=by omega)(gl:Gl X x:=by rfl)(hd:(x == ("__debug__":Str))=false:=by decide)
  (hs:starEach (a :: es) X.env=(false,eval a X.env) :: starEach es X.env:=by exact zy rfl) (hz:((backTo pos (starEach es X.env)).any λx=>x.fst)=false:=by exact Z0 rfl):Snd X Y (.Call (.Name x p) (a :: es) [] pos) (z8 n g ga):=
 O.go λ_ _ _ _ C F=>QL hy F hr hj gl C.m C.F.kp C.b ha hd hs hz
theorem cX (hy:Y.cl=cl)(hp:zO (CX1 X.prog X.w) X Y.E)(O:QQ x (CX1 X.prog X.w) j (spP cl n g) ⟨X.prog,X.w,X.K,X.mg,X.base,cl⟩)(hr:Z8 k X.A)(ha:ZI X Y (a :: es) ga)(hj:j<=k:=by omega)(gl:Gl X x:=by rfl)(hd:(x == ("__debug__":Str))=false:=by decide)
  (hs:starEach (a :: es) X.env=(false,eval a X.env) :: starEach es X.env:=by exact zy rfl) (hz:((backTo pos (starEach es X.env)).any λx=>x.fst)=false:=by exact Z0 rfl):Snd X Y (.Call (.Name x p) (a :: es) [] pos) (z8 n g ga):=
 O.go λ_ _ _ _ C F=>QM hy hp F hr hj gl C.m C.F.kp C.b ha hd hs hz
end
noncomputable def nms (N:List Str)(js:List Nat):List Str:=js.map λj=>N.getD j ""
noncomputable def ndB:List Str->Bool
 | []=>true
 | x :: r=> !(r.contains x) && ndB r
theorem JQ:∀{l:List Str},ndB l=true->l.Nodup
 | [],_=> .nil
 | x :: r,h=>by
  rw[ndB,a9]at h;exact cD.mpr ⟨by simpa using h.1,JQ h.2⟩
def vR (N N' :List Str)(sc0 scope:Scope)(k:Nat)(js:List Nat):Bool:=(Ys scope sc0 && UT N N' scope sc0 k js) && ndB N'
section
variable {cl:Nat->Value}{X:Cx}{Y:Fx}{x y:Str}{p p' p2:Pos}{kk:Nat}{iter elt:Expr}{ifs:List Expr}{scope:Scope}{js:List Nat}{fi:En->R (List T)}{ft:En->R Bool}{fe:En->R T}
theorem cr1 (hy:Y.cl=cl)(h:vR X.N (x :: nms X.N js) X.env.scope scope 1 js=true)(hx:((relabel scope X.env).names.lookup x == some .local)=true)(cm:X.calm=true)(it:wc X Y (.Name x p) iter fi)(tt:∀Y',Y'.cl=cl->WI X scope (x :: nms X.N js) λXC=>jj XC Y' ifs ft)
  (el:∀Y',Y'.cl=cl->Yl X scope (x :: nms X.N js) Y'.E λXC=>Snd XC Y' elt fe) (hs:∀x,foldedSetIterable iter X.env x=pure x:=by intro _;rfl):W7 X Y (.Name x p) iter elt ifs scope (x :: nms X.N js) 1 js fi (jN 0) (Z5 0) ft fe:=by
 subst hy;rw[vR,a9]at h;have hx:(relabel scope X.env).names.lookup x=some .local:=eq_of_beq hx;exact qB _ _ _ rfl rfl h.1 cm it (λ_ _ _ _ _ _=>ZK (JQ h.2) rfl (.inl hx) (.inr hx)) (we 0) (wg 0) tt el hs
theorem cr2 (hy:Y.cl=cl)(h:vR X.N (x :: y :: nms X.N js) X.env.scope scope 2 js=true)(hx:((relabel scope X.env).names.lookup x == some .local && (relabel scope X.env).names.lookup y == some .local)=true)(cm:X.calm=true)(it:wc X Y (.Tuple [.Name x p,.Name y p'] kk p2) iter fi)(tt:∀Y',Y'.cl=cl->WI X scope (x :: y :: nms X.N js) λXC=>jj XC Y' ifs ft)
  (el:∀Y',Y'.cl=cl->Yl X scope (x :: y :: nms X.N js) Y'.E λXC=>Snd XC Y' elt fe) (hs:∀x,foldedSetIterable iter X.env x=pure x:=by intro _;rfl):W7 X Y (.Tuple [.Name x p,.Name y p'] kk p2) iter elt ifs scope (x :: y :: nms X.N js) 2 js fi (Xl X.K 2 (Ue (jN 0) (Ue (jN 1) XJ))) (Z9 0 1) ft fe:=by
 subst hy;rw[vR,a9]at h;rw[a9]at hx;have h1:(relabel scope X.env).names.lookup x=some .local:=eq_of_beq hx.1;have h2:(relabel scope X.env).names.lookup y=some .local:=eq_of_beq hx.2;exact qB _ _ _ rfl rfl h.1 cm it (λ_ _ _ _ _ _=>qf cm (jS (ZK (JQ h.2) rfl (.inl h1) (.inr h1)) (jS (ZK (JQ h.2) rfl (.inl h2) (.inr h2)) Uf))) (Yn _ 0 1) (Yo 0 1) tt el hs
end
end PV
namespace L2
open PySem PySem.Spec PyProof.Rows
end L2
namespace PV
open PySem PySem.Spec PyProof.Rows L2 PySem.W
end PV
namespace PV
open PySem PySem.Spec PyProof.Rows L2
end PV
namespace PV
open PySem PySem.Spec PyProof.Rows L2 PySem.W
noncomputable abbrev qlT (x:Str):Str:=x++".<locals>."++"<lambda>"
end PV
namespace PV
open PySem PySem.Spec PyProof.Rows L2
end PV
namespace PV
open PySem PySem.Spec PyProof.Rows L2 PySem.W
structure QCM (x:Str) (k:Nat) (gx:Nat->R T) (Z:Zz):Prop where
 ex:∃st y f fd,Fn Z.K Z.mg x st [y] f fd/\FnM Z.P Z.w Z.K Z.mg Z.base k f fd [y] (spC Z.cl gx)
section
variable {Z:Zz}{x:Str}{st:Stmt}
theorem Ga {q:Str}{k m:Nat}{fb:En->RS}(C:FE Z.K Z.mg x st [q])(N:List Str) (hb:∀(f:Addr) (cdv:Value) (A:Around) (outer:List Env) (s:Shared) (H:Hp) (_:True) (Y:Fx),Y.cl=Z.cl->True->ZA k (A.deeper (envOfC x (za st) s.heap.objs.size f cdv))->N.Nodup->True->
   jF (cxM Z.P Z.w Z.K Z.mg Z.base N x (za st) f cdv A outer s H) Y (zv st) fb)
  (S:Sc N [q] st:=by refine⟨rfl,rfl,rfl, ?_,rfl, ?_, ?_⟩ <;> decide+kernel) (h1:1<=N.length:=by decide) (hm:m=N.length:=by rfl):QCM x (k+1) (oC m fb) Z:=by
 obtain⟨f,fd,C⟩:=C;subst hm;exact⟨_,_,f,fd,C,v6 C.F S h1 (λcdv A outer s H Y hy hr=>hb f cdv A outer s H trivial Y hy trivial hr S.nd trivial) λ_=>rfl⟩
end
end PV
namespace L2
open PySem PySem.Spec PyProof.Rows
end L2
namespace PV
open PySem PySem.Spec PyProof.Rows L2 PySem.W
end PV
namespace L2
open PySem PySem.Spec PyProof.Rows PySem.W
end L2
namespace PV
open PySem PySem.Spec PyProof.Rows L2 PySem.W
end PV
namespace PV
open PySem PySem.Spec PyProof.Rows L2 PySem.W PySem.Calls
end PV
namespace PV
open PySem PySem.Spec PyProof.Rows L2 PySem.W
def vS (f:En->RS):En->RS:=λρ=>f (frz ρ)
end PV
namespace L2
open PySem PySem.Spec PyProof.Rows
end L2
namespace PV
open PySem PySem.Spec PyProof.Rows L2 PySem.W
end PV
namespace PV
open PySem PySem.Spec PyProof.Rows L2 PySem.W PySem.Calls
end PV
namespace PV
open PySem PySem.Spec PyProof.Rows L2 PySem.W
end PV
namespace PV
open PySem PySem.Spec PyProof.Rows L2 PySem.W PySem.Calls
end PV
namespace PV
open PySem PySem.Spec PyProof.Rows L2 PySem.W
section
variable {X:Cx}{Y:Fx}{ib is jf iw iy:Nat}{b s f wo wy pl:Str}{fi fw fs ft fp:En->R T}{gp:List T->R T}{cl:Nat->Value}
 {p1 p2 p3 p4 p5 p6 p7 p8 p9 p10 p11 p12 p13 p14 p15 p16 p17 p18 p19 p20 p21 p22 p23 p24 p25 p26 p27 p28 p29 p30 p31 p32 p33 p34 p35 p36 p37 p38 p39 p40 p41 p42 p43 p44 p45 p46 p47 p48 p49 p50 p51:Pos} {k1 k2 k3 k4 k5 c1 c2 kP kr:Nat} {EI EW ES ET EP:Expr}
end
end PV
namespace PySem
open Sem (wp)
noncomputable def Ctx.Cal (Γ:Ctx):Prop:=∃x∈Γ.below,x.1.isCaller=true
theorem Ctx.Cal.enter {Γ:Ctx}(h:Γ.Cal)(c:Code)(hd:Option Value)(p:Pos):(Γ.enter c hd p).Cal:=
 let ⟨x,hx,e⟩:=h;⟨x,aa _ hx,e⟩
def wpC {α:Type}(M:Model)(A:Around)(t:Sem α)(Q:α->Shared->Prop)(E:Value->Shared->Prop)(s:Shared):Prop:=
 ∀Γ p,Γ.In A->Γ.Cal->wp M Γ t (λa _ s' =>Q a s') (λe _ s' =>E e s') p s
def zJ (M:Model)(A:Around)(c:Code)(R:Result->Shared->Prop)(s:Shared):Prop:=
 ∀Γ p,Γ.code=c->Γ.Below A->Γ.Cal->wpCode M Γ R p s
section
variable {α β:Type}{M:Model}{A:Around}{E:Value->Shared->Prop}{s:Shared}{env:Env}
theorem zz {t:Sem α}{Q:α->Shared->Prop}(h:wpAny M A t Q E s):wpC M A t Q E s:=λΓ p hΓ _=>h Γ p hΓ
theorem uf {c:Code}{R:Result->Shared->Prop}(h:codeAny M A c R s):zJ M A c R s:=λΓ p hc hΓ _=>h Γ p hc hΓ
theorem Z1 {t:Sem α}{Q Q' :α->Shared->Prop}{E' :Value->Shared->Prop}(h:wpC M A t Q E s)(hQ:∀a s,Q a s->Q' a s)(hE:∀e s,E e s->E' e s):wpC M A t Q' E' s:=
 λΓ p hΓ hc=>bi M Γ t (λa _ s=>hQ a s) (λe _ s=>hE e s) p s (h Γ p hΓ hc)
theorem zi {t:Sem α}{Q Q' :α->Shared->Prop}(h:wpC M A t Q E s)(hQ:∀a s,Q a s->Q' a s):wpC M A t Q' E s:=Z1 h hQ λ_ _ x=>x
theorem zj {m:Sem α}{f:α->Sem β}{Q:β->Shared->Prop}(h:wpC M A m (λa s' =>wpC M A (f a) Q E s') E s):wpC M A (m >>= f) Q E s:=λΓ p hΓ hc=>by
 rw[bY];exact bi M Γ m (λa p' s' h' =>h' Γ p' hΓ hc) (λ_ _ _ h' =>h') p s (h Γ p hΓ hc)
theorem zb {m:Sem α}{f:α->Sem β}{Q:β->Shared->Prop}(h:wpAny M A m (λa s' =>wpC M A (f a) Q E s') E s):wpC M A (m >>= f) Q E s:=zj (zz h)
theorem zu {a:α}{Q:α->Shared->Prop}(h:Q a s):wpC M A (pure a) Q E s:=λ_ _ _ _=>h
theorem Ze {m:Sem α}{k:Value->Sem Unit}{Q:α->Shared->Prop}(h:wpC M A m Q (λe s' =>wpAny M A (k e) (λ_ s'' =>E e s'') E s') s):wpC M A (m.onRaise k) Q E s:=λΓ p hΓ hc=>by
 rw[Sem.wp_onRaise];exact bi M Γ m (λ_ _ _ h' =>h') (λe p' s' h' =>h' Γ p' hΓ) p s (h Γ p hΓ hc)
theorem Jj {m:Sem α}{Q:Except Value α->Shared->Prop}(h:wpC M A m (λa=>Q (.ok a)) (λe=>Q (.error e)) s):wpC M A m.attempt Q E s:=λΓ p hΓ hc=>by
 rw[Sem.wp_attempt];exact h Γ p hΓ hc
theorem zS {vs:List Value}{m:Sem α}{Q:α->Shared->Prop}(h:wpC M A m Q E s):wpC M A (holding vs m) Q E s:=λΓ p hΓ hc=>by
 rw[dq];exact h Γ p hΓ hc
theorem We {c:Code}{Q:Value->Shared->Prop}(hc:zJ M A c (λr s' =>match r with | .ok (.ret v)=>Q v s' | .ok _=>False | .error e=>E e s') s):wpC M A (runValue c) Q E s:=λΓ p hΓ hl=>by
 rw[fK];exact hc _ p rfl (hΓ.enter c none p (by intro x;cases x)) (hl.enter _ _ _)
theorem jm {f:Value}{pos:List Value}{kw:List (Str×Value)}{Q:Value->Shared->Prop}(hc:zJ M A (.call f ⟨pos,kw⟩) (λr s' =>match r with | .ok (.ret v)=>Q v s' | .ok _=>False | .error e=>E e s') s):wpC M A (call f pos kw) Q E s:=We hc
theorem Z7 {c:Code}{R R' :Result->Shared->Prop}(h:zJ M A c R s)(hR:∀r s,R r s->R' r s):zJ M A c R' s:=λΓ p hc hΓ hl=>wpCode_mono hR (h Γ p hc hΓ hl)
theorem zq {c:Code}{R:Result->Shared->Prop}(h:wpC M (A.under c) (M.den c) (λfin s' =>match fin with | .done f=>R (.ok f) s' | .again c' =>c'.quiet=true/\zJ M A c' R s') (λe s' =>R (.error e) s') s):zJ M A c R s:=λΓ p hc hΓ hl=>by
 rw[wpCode_iff_wp,hc];refine bi M Γ _ (λfin p' s' h' => ?_) (λ_ _ _ h' =>h') p s (h Γ p (hc ▸ hΓ.in) hl);cases fin with
 | done f=>exact h'
 | again c' =>exact⟨h'.1,h'.2 (Γ.goto c') p' rfl (hΓ.goto c') hl⟩
theorem uK {c:Code}{R:Result->Shared->Prop}(hq:c.quiet=true)(I:Nat->Shared->Prop)
  (turn:∀n s,I n s->wpC M (A.under c) (M.den c) (λfin s' =>match fin with | .done f=>R (.ok f) s' | .again c' =>c' =c/\∃m,m < n/\I m s') (λe s' =>R (.error e) s') s)
  (n:Nat) (h:I n s):zJ M A c R s:=by
 induction n using fL generalizing s with
 | ind n ih=>
  refine zq (zi (turn n s h) λfin s' hf=> ?_);cases fin with
  | done f=>exact hf
  | again c' =>obtain⟨rfl,m,hm,hI⟩:=hf;exact⟨hq,ih m hm hI⟩
theorem Wf {m:Sem α}{Q:α->Shared->Prop}(h:wpC M A m Q (notedBy M A env E) s):wpC M A (m.onRaise λx=>do noteFrame x env;theTreesLotGoes x) Q E s:=
 Ze (Z1 h (λ_ _ q=>q) λ_ _ hx=>a8 (aG hx (λ_ _ e=>wpAny_theTreesLotGoes e) λ_ _ e=>e))
theorem y8 {l op r pos}{Q:Value->Shared->Prop}(h:wpC M A (eval l env) (λa s₁=>wpC M A (eval r env) (λb s₂=>wpAny M A (binaryOp op a b) Q E s₂) E s₁) E s):wpC M A (eval (.BinOp l op r pos) env) Q E s:=λΓ p hΓ hc=>by
 simp only[eval_BinOp,bY,dq,bT,e9];exact bi M Γ _ (λa p₁ s₁ h₁=>bi M Γ _ (λb _ s₂ h₂=>h₂ Γ _ hΓ) (λ_ _ _ h' =>h') _ _ (h₁ Γ p₁ hΓ hc)) (λ_ _ _ h' =>h') _ _ (h Γ p hΓ hc)
theorem Wg {l op r pos}{Q:Value->Shared->Prop}(h:wpC M A (eval l env) (λa s₁=>wpC M A (eval r env) (λb s₂=>wpAny M A (compareOp op a b) Q E s₂) E s₁) E s)(hm:behindInMarks op r=false):wpC M A (eval (.Compare l [op] [r] pos) env) Q E s:=λΓ p hΓ hc=>by
 simp only[eval_Compare1,markedBehindIn_of_false hm,bY,dq,bT,e9];exact bi M Γ _ (λa p₁ s₁ h₁=>bi M Γ _ (λb _ s₂ h₂=>h₂ Γ _ hΓ) (λ_ _ _ h' =>h') _ _ (h₁ Γ p₁ hΓ hc)) (λ_ _ _ h' =>h') _ _ (h Γ p hΓ hc)
theorem j0 {l op r pos whole}{Q:Bool->Shared->Prop}(h:wpC M A (eval l env) (λa s₁=>wpC M A (eval r env) (λb s₂=>wpAny M A (compareOp op a b) (λc s₃=>wpAny M A (truthy c) Q E s₃) E s₂) E s₁) E s)
  (hm:behindInMarks op r=false):wpC M A (isTrue (.Compare l [op] [r] pos) env whole) Q E s:=λΓ p hΓ hc=>by
 simp only[isTrue_Compare1,markedBehindIn_of_false hm,bY,dq,bT,e9];exact bi M Γ _ (λa p₁ s₁ h₁=>bi M Γ _ (λb _ s₂ h₂=>bi M Γ _ (λc p₃ s₃ h₃=>h₃ Γ p₃ hΓ) (λ_ _ _ h' =>h') _ _ (h₂ Γ _ hΓ)) (λ_ _ _ h' =>h') _ _ (h₁ Γ p₁ hΓ hc)) (λ_ _ _ h' =>h') _ _ (h Γ p hΓ hc)
theorem wq {x:Sem Value}{rest:List (Bool×Sem Value)}{Q:List Value->Shared->Prop}(h:wpC M A x (λv s₁=>wpC M A (spliced rest) (λvs s₂=>Q (v :: vs) s₂) E s₁) E s):wpC M A (spliced ((false,x) :: rest)) Q E s:=by
 rw[spliced];refine zj (zi h λv s₁ h₁=> ?_);simp only[aF,if_false];exact zj (zu (zj (zS (zi h₁ λvs s₂ h₂=>zu h₂))))
theorem Wh {f:Value}{x:Sem Value}{rest:List (Bool×Sem Value)}{Q:Args->Shared->Prop}(h:wpC M A (spliced ((false,x) :: rest)) (λvs s' =>Q ⟨vs,[]⟩ s') E s):wpC M A (evalArgs f true ((false,x) :: rest) []) Q E s:=by
 unfold evalArgs;show wpC M A (spliced ((false,x) :: rest) >>= _) Q E s;refine zj (zi h λvs s' h' =>zz ?_);exact a_ (a8 (aw (a8 (aw (aw h')))))
theorem zN {id:Str}{p pos:Pos}{args:List Expr}{keywords:List Keyword}{Q:Value->Shared->Prop}
  (h:wpAny M A (eval (.Name id p) env) (λf s₁=>wpC M A (callWith pos f [] (backTo pos (starEach args env)) (backToKw pos (keywordEach keywords env))) Q E s₁) E s):wpC M A (eval (.Call (.Name id p) args keywords pos) env) Q E s:=by
 rw[arm_eval_Call_Name'];exact zb h
theorem ZV {pos:Pos}{T:String}{e:Expr}{rest:List Expr}{Q:Value->Shared->Prop}(h:wpC M A (spliced (backTo pos (starEach (e :: rest) env))) (λvs s₁=>wpC M A (call (.type T) vs) Q E s₁) E s)
  (he:starEach (e :: rest) env=(false,eval e env) :: starEach rest env) (hplain:(backTo pos (starEach rest env)).any (·.1)=false):wpC M A (callWith pos (.type T) [] (backTo pos (starEach (e :: rest) env)) []) Q E s:=by
 rw[he]at h ⊢;have hp:((backTo pos ((false,eval e env) :: starEach rest env)).any (·.1))=false:=by show (false || (backTo pos (starEach rest env)).any (·.1))=false;rw[hplain];rfl
 unfold callWith;refine zj (zS (zi (Wh (Q:=λa s₁=>wpC M A (call (.type T) a.pos a.kw) Q E s₁) h) λa s₁ h₁=>zb (aN ?_)));simp only[hp,List.any_nil,Bool.or_false];refine zj (zu ?_);exact zj (zi h₁ λr s₂ hr=>zz (a8 (a_ (d6 (aw hr)))))
end
end PySem
namespace PySem
open Sem (wp)
open PySem.W
section
variable {M:Model}{A:Around}{E:Value->Shared->Prop}{s:Shared}{env:Env}
theorem j1 {K:Frag}{pos:Pos}{f:Value}{Q:Value->Shared->Prop}{e:Expr}{rest:List Expr}(hk:keepIn K f=true)
  (h:wpC M A (spliced (backTo pos (starEach (e :: rest) env))) (λvs s₁=>K.In s₁.heap/\wpC M A (call f vs) Q E s₁) E s)
  (he:starEach (e :: rest) env=(false,eval e env) :: starEach rest env) (hplain:(backTo pos (starEach rest env)).any (·.1)=false):wpC M A (callWith pos f [] (backTo pos (starEach (e :: rest) env)) []) Q E s:=by
 rw[he]at h ⊢;have hp:(((backTo pos ((false,eval e env) :: starEach rest env)).any (·.1)) || ([]:List (Option Str×Sem Value)).any (·.1.isNone))=false:=by show ((false || (backTo pos (starEach rest env)).any (·.1)) || false)=false;rw[hplain];rfl
 unfold callWith;refine zj (zS (zi (Wh (Q:=λa s₁=>K.In s₁.heap/\wpC M A (call f a.pos a.kw) Q E s₁) h) λa s₁ h₁=>zb (aN ?_)));obtain⟨k,hk',L⟩:=keeps_K (M:=M) hk _ h₁.1;simp only[hp];refine zb (L.here ?_);have tail:∀{t:Sem Value},wpC M A t Q E s₁->wpC M A (t >>= λr=>holding [r] point >>= λ_=>pure r) Q E s₁:=
  λht=>zj (zi ht λr s₂ hr=>zz (a8 (a_ (d6 (aw hr)))))
 have marked (mk:Value):wpC M A (callMarked mk f ([]++a.pos) a.kw) Q E s₁:=by
  intro Γ p hΓ hc;have:=h₁.2 Γ p hΓ hc;unfold callMarked;rw[Sem.wp_keep];exact this
 rcases hk' with rfl | rfl | rfl <;> dsimp only <;> first | exact tail h₁.2 | (split <;> first | exact tail h₁.2 | exact tail (marked _))
theorem j2 {st rest}{Q:Flow->Shared->Prop}(h:wpC M A (exec st env) (λf s' =>match f with | .next=>wpC M A (execs rest env) Q E s' | f=>Q f s') E s):wpC M A (execs (st :: rest) env) Q E s:=by
 rw[execs_cons];refine zj (zi h λf s' h' => ?_);cases f <;> first | exact h' | exact zu h'
theorem v9 {e pos}{Q:Flow->Shared->Prop}(h:wpC M A (eval e env) (λv=>Q (.ret v)) E s):wpC M A (exec (.Return (some e) pos) env) Q E s:=λΓ p hΓ hc=>by
 simp only[exec_Return_some,bY,bT,Sem.wp_pure'];exact h Γ _ hΓ hc
theorem y9 {x pos' value pos}{Q:Flow->Shared->Prop}(h:wpC M A (eval value env) (λv s₁=>wpAny M A (storeName env x v) (λ_=>Q .next) E s₁) E s)(hs:swapsWith value (some (.Name x pos')) pos.line env=pure false):
  wpC M A (exec (.Assign [.Name x pos'] value pos) env) Q E s:=λΓ p hΓ hc=>by
 simp only[exec_Assign_Name env x pos' value pos hs,bY,bT,Sem.wp_bindName,Sem.wp_pure'];exact bi M Γ _ (λv _ s₁ h₁=>h₁ Γ _ hΓ) (λ_ _ _ h' =>h') _ _ (h Γ _ hΓ hc)
theorem IfC {test body orelse pos}{Q:Flow->Shared->Prop}(h:wpC M A (isTrue test env (eval test env)) (λb s₂=>if b then wpC M A (execs body env) Q E s₂ else wpC M A (execs orelse env) Q E s₂) E s):wpC M A (exec (.If test body orelse pos) env) Q E s:=λΓ p hΓ hc=>by
 simp only[exec_If,bY,bT];refine bi M Γ _ (λb p₂ s₂ h₂=> ?_) (λ_ _ _ h' =>h') _ _ (h Γ _ hΓ hc);cases b <;> exact h₂ Γ p₂ hΓ hc
theorem xp {elts:List Expr}{k:Nat}{pos:Pos}{Q:Value->Shared->Prop}(h:wpC M A (spliced (backTo pos (starEach elts env))) (λvs s₁=>vs.length<=sizeLine/\Q (.ref s₁.heap.objs.size) { s₁ with heap:=s₁.heap.push { cls:= .type "tuple",data:= .seq vs.toArray } }) E s):
  wpC M A (eval (.Tuple elts k pos) env) Q E s:=by
 rw[arm_eval_Tuple];exact zb (aN (zj (zi h λvs s₁ h₁=>zz (bW h₁.2 (by show vs.toArray.size<=sizeLine;rw[aD];exact h₁.1)))))
end
section
variable {prog:Program}{w:World}{A:Around}{E:Value->Shared->Prop}{R:Result->Shared->Prop}{s:Shared}
theorem uL {body env} (h:wpC (model prog w) (A.deeper env) (execs body env) (λf s' =>R (.ok (.ret (match f with | .ret v=>v | _=> .none))) s')
   (λe s' =>wpAny (model prog w) (A.deeper env) (leaving env e) (λ_ s'' =>R (.error e) s'') (λe' s'' =>R (.error e') s'') s') s):zJ (model prog w) A (.func body env) R s:=by
 refine zq ?_;show wpC _ (A.deeper env) (do point;match ← (execs body env).onRaise (leaving env) with | .ret v=>ret v | _=>ret .none) _ _ s
 refine zb (d6 (zj (Ze (zi h λf s' h' => ?_))));cases f <;> exact zu h'
theorem uM {body env} (h:wpC (model prog w) (A.deeper env) (eval body env) (λv s' =>R (.ok (.ret v)) s')
   (λe s' =>wpAny (model prog w) (A.deeper env) (leaving env e) (λ_ s'' =>R (.error e) s'') (λe' s'' =>R (.error e') s'') s') s):zJ (model prog w) A (.expr body env) R s:=by
 refine zq ?_;show wpC _ (A.deeper env) (do point;ret (← (eval body env).onRaise (leaving env))) _ _ s
 exact zb (d6 (zj (Ze (zi h λf s' h' =>zu h'))))
theorem j3 {a:Addr}{args:Args}{o:Obj}{fd:FuncData}{body:List Stmt}(hroom:A.depth < recursionLimit)(ho:s.heap.get? a=some o)
  (hd' :o.data= .func fd) (hco:fd.scope.isCoroutine=false) (hgen:fd.scope.isGenerator=false) (hbody:fd.body= .stmts body) (hcd:s.heap.CodeRec fd.code fd.qualname)
  (h:wpAny (model prog w) A.in1 (bindArgs fd args) (λbinds s₁=>wpAny (model prog w) A.in1 (newFunctionEnv fd.scope fd.globals fd.closure binds (fd.qualname++".<locals>.") (some a) fd.code none fd.builtins)
    (λenv s₂=>s₂.heap.NoLimit/\zJ (model prog w) A (.func body env) R s₂) (λe s' =>R (.error e) s') s₁) (λe s' =>R (.error e) s') s):zJ (model prog w) A (.call (.ref a) args) R s:=by
 refine zq ?_;show wpC _ A.in1 (callAny (.ref a) args) _ _ s;simp only[callAny];refine zz (a8 (wpAny_load ho ?_));obtain⟨c,oc,vs,tq,hc,hoc,hdc,hq⟩:=hcd;simp only[hd',callFunction,hco,hgen,hbody,hc];rw[hc]at h;refine a8 (m:=field (.ref c) 1) (bQ hoc hdc hq (a8 (aw ?_)));exact a8 (aG h (λbinds s₁ h₁=>a8 (aG h₁ (λenv s₂ h₂=>a8 (wpAny_enterFrame h₂.1 hroom (aw (And.intro rfl h₂.2)))) λ_ _ h' =>h')) λ_ _ h' =>h')
end
end PySem
namespace L2
open PySem PySem.Spec PyProof.Rows
def PEC (X:Cx)(e:Expr)(t:TE):Prop:=
 ∀(pins:List (Addr×Obj)) (s:Shared) (σ:St) (H:Hp) (Q:VK),Inv X pins σ H s->t σ H Q->wpC (model X.prog X.w) X.A (eval e X.env) (EP X pins σ Q) X.xe s
def PTC (X:Cx)(e:Expr)(t:TT):Prop:=
 ∀(pins:List (Addr×Obj)) (s:Shared) (σ:St) (H:Hp) (Q:Bool->Hp->Prop),Inv X pins σ H s->t σ H Q->wpC (model X.prog X.w) X.A (isTrue e X.env (eval e X.env)) (TP X pins σ Q) X.xe s
def PAC (X:Cx)(es:List Expr)(t:TA):Prop:=
 ∀(pos:Pos) (pins:List _) (s:Shared) (σ:St) (H:Hp) (Q:List V->Hp->Prop),Inv X pins σ H s->t σ H Q->wpC (model X.prog X.w) X.A (spliced (backTo pos (starEach es X.env))) (AP X pins σ Q) X.xe s
def PSC (X:Cx)(st:Stmt)(t:TS):Prop:=
 ∀(pins:List (Addr×Obj)) (s:Shared) (σ:St) (H:Hp) (D:Ends),Inv X pins σ H s->t D σ H->wpC (model X.prog X.w) X.A (exec st X.env) (SP X pins D) X.xe s
def WN (X:Cx)(st:List Stmt)(t:TS):Prop:=
 ∀(pins:List (Addr×Obj)) (s:Shared) (σ:St) (H:Hp) (D:Ends),Inv X pins σ H s->t D σ H->wpC (model X.prog X.w) X.A (execs st X.env) (SP X pins D) X.xe s
section
variable {X:Cx}{e a b:Expr}{es:List Expr}{st:Stmt}{rest:List Stmt}{te ta tb:TE}{t u:TS}{g:TA}{pos:Pos}
theorem PEC.imp {t t' :TE}(h:PEC X e t)(i:∀σ H Q,t' σ H Q->t σ H Q):PEC X e t' :=λpins s σ H Q I q=>h _ s σ H Q I (i σ H Q q)
theorem PTC.imp {t t' :TT}(h:PTC X e t)(i:∀σ H Q,t' σ H Q->t σ H Q):PTC X e t' :=λpins s σ H Q I q=>h _ s σ H Q I (i σ H Q q)
theorem PAC.imp {t t' :TA}(h:PAC X es t)(i:∀σ H Q,t' σ H Q->t σ H Q):PAC X es t' :=λpos pins s σ H Q I q=>h pos _ s σ H Q I (i σ H Q q)
theorem PSC.imp {t t' :TS}(h:PSC X st t)(i:∀D σ H,t' D σ H->t D σ H):PSC X st t' :=λpins s σ H D I q=>h _ s σ H D I (i D σ H q)
theorem WN.imp {t t' :TS}(h:WN X rest t)(i:∀D σ H,t' D σ H->t D σ H):WN X rest t' :=λpins s σ H D I q=>h _ s σ H D I (i D σ H q)
theorem PE.c (h:PE X e te):PEC X e te:=λpins s σ H Q I q=>zz (h pins s σ H Q I q)
theorem PT.c {t:TT}(h:PT X e t):PTC X e t:=λpins s σ H Q I q=>zz (h pins s σ H Q I q)
theorem PA.c (h:PA X es g):PAC X es g:=λpos pins s σ H Q I q=>zz (h pos pins s σ H Q I q)
theorem PS.c (h:PS X st t):PSC X st t:=λpins s σ H D I q=>zz (h pins s σ H D I q)
theorem PSs.c (h:PSs X rest t):WN X rest t:=λpins s σ H D I q=>zz (h pins s σ H D I q)
theorem ug (ha:PEC X e te)(hr:PAC X es g)(hs:starEach (e :: es) X.env=(false,eval e X.env) :: starEach es X.env):PAC X (e :: es) (Ve te g):=by
 intro pos pins s σ H Q I h;rw[hs];refine wq (zi (ha _ s σ H _ I h) λu s1 ⟨x,H1,I1,r1,q1⟩=> ?_);exact zi (hr pos _ s1 σ H1 _ I1 q1) λus s2 ⟨xs,H2,I2,r2,q2⟩=>⟨x :: xs,H2,I2,.cons r1 r2,q2⟩
theorem va {x1}(h:PAC X es g):PEC X (.Tuple es x1 pos) (gj g):=by
 intro pins s σ H Q I hq;refine xp (zi (h pos _ s σ H _ I hq) λus s1 ⟨xs,H1,I1,r,z,q⟩=>⟨by rw[← r.length];exact z, ?_⟩)
 have hf:=I1.hok.fresh (aj _);refine⟨.ref _,upd H1 _ _,I1.laid (λb u e=>a7 _ e) (aj _) ?_,rfl,q _ hf⟩;exact⟨z,us,r,⟨_,am _ rfl,rfl,_,rfl⟩,.inr ⟨_,am _ rfl,rfl⟩⟩
theorem xr {op:Operator}{r:R2}(ho:OpR X (binaryOp op) r)(ha:PEC X a ta)(hb:PEC X b tb):PEC X (.BinOp a op b pos) (tOp r ta tb):=by
 intro pins s σ H Q I h;refine y8 (zi (ha _ s σ H _ I h) λv s1 ⟨x,H1,I1,r1,q1⟩=> ?_);refine zi (hb _ s1 σ H1 _ I1 q1) λu s2 ⟨y,H2,I2,r2,q2⟩=> ?_;exact ho _ s2 σ H2 x y v u Q I2 r1 r2 q2
theorem uN {T:String}{r:List V->Hp->VK->Prop}{x:Str}{p:Pos}(hc:Zw X (.type T) r)(hg:Gl X x)(hm:X.mg x=none)(hv:bootBuiltins x=some (.type T))(ha:PAC X (e :: es) g)(hn:x ≠ "__name__")(hdb:(x == ("__debug__":Str))=false)
  (he:starEach (e :: es) X.env=(false,eval e X.env) :: starEach es X.env) (hpl:(backTo pos (starEach es X.env)).any (·.1)=false):PEC X (.Call (.Name x p) (e :: es) [] pos) (tCB r g):=by
 intro pins s σ H Q I h;refine zN (jd I hg hm hv ?_ hn hdb);exact ZV (zi (ha pos _ s σ H _ I h) λus s1 ⟨vs,H1,I1,r1,q1⟩=>zz (hc _ s1 σ H1 vs us Q I1 r1 q1)) he hpl
theorem ya (h1:PSC X st t)(h2:WN X rest u):WN X (st :: rest) (g6 t u):=by
 intro pins s σ H D I h;refine j2 (zi (h1 _ s σ H _ I h) λf s1 q=> ?_);cases f with
 | next=>
  obtain⟨σ',H',I',q⟩:=q;exact h2 _ s1 σ' H' D I' q
 | ret v=>exact q
 | brk=>exact q
 | cont=>exact q
theorem wt (h1:PSC X st t):WN X [st] t:=by
 intro pins s σ H D I h;refine j2 (zi (h1 _ s σ H D I h) λf s1 q=> ?_);cases f with
 | next=>exact zz (bN q)
 | ret v=>exact q
 | brk=>exact q
 | cont=>exact q
theorem yb (he:PEC X e te):PSC X (.Return (some e) pos) (XH te):=by
 intro pins s σ H D I h;exact v9 (zi (he _ s σ H _ I h) λv s1 ⟨x,H1,I1,r1,q1⟩=>⟨x,σ,H1,I1,r1,q1⟩)
theorem xt {c:Expr}{a b:List Stmt}{tc:TT}(hc:PTC X c tc)(ha:WN X a t)(hb:WN X b u):PSC X (.If c a b pos) (g7 tc t u):=by
 intro pins s σ H D I h;refine IfC (zi (hc _ s σ H _ I h) λd s1 ⟨H1,I1,q1⟩=> ?_);cases d with
 | true=>exact ha _ s1 σ H1 D I1 q1
 | false=>exact hb _ s1 σ H1 D I1 q1
theorem vb {i:Nat}{x:Str}{pos' :Pos}(hN:X.N.Nodup)(hi:X.N[i]? =some x)(hx:Loc X.env.scope x)(he:PEC X e te)(hs:swapsWith e (some (.Name x pos')) pos.line X.env=pure false)(hf:X.fn x=true\/X.env.scope.names.lookup x=some .local):
  PSC X (.Assign [.Name x pos'] e pos) (g8 te (jN i)):=by
 intro pins s σ H D I h;refine y9 (zi (he _ s σ H _ I h) λv s1 ⟨y,H1,I1,r1,q1⟩=> ?_) hs;exact jc I1 hN hi hx r1 (λs2 I2=>⟨_,H1,I2,q1⟩) hf
end
structure ZB (P:Program) (w:World) (K:a6) (mg:Str->Option Value) (base:Heap) (CX:CXT) (k:Nat) (f:Addr) (fd:FuncData) (ps:List Str) (sp:Sp):Prop where
 len:∀vs H Q E,sp vs H Q E->vs.length=ps.length
 run:∀(A:Around) (outer:List Env) (s:Shared) (H:Hp) (args:Args) (us:List Value) (vs:List V) (Q:VK) (E:XK),Z8 k A->U3 P w K mg base A outer s H->BindsTo s fd args (ps.zip us)->zM vs us->sp vs H Q E->
  zJ (model P w) A (.call (.ref f) args) (CR CX outer P w H s Q E) s
section
variable {P:Program}{w:World}{K:a6}{mg:Str->Option Value}{base:Heap}{CX:CXT}{k:Nat}{f:Addr}{fd:FuncData}{ps:List Str}{sp:Sp}
theorem WZ.c (F:WZ P w K mg base CX k f fd ps sp):ZB P w K mg base CX k f fd ps sp:=⟨F.len,λA o s H a us vs Q E h1 h2 h3 h4 h5=>uf (F.run A o s H a us vs Q E h1 h2 h3 h4 h5)⟩
theorem vc {X:Cx}{E:XK}{ds:List Value}{dvs:List V}{pins:List (Addr×Obj)}{σ:St}{H:Hp}{s:Shared}{Q:VK}{us:List Value}{vs:List V}(F:ZB X.prog X.w X.K X.mg X.base CX k f fd ps sp)(hr:Z8 k X.A)(hb:Binds X.K fd ps ds)(hd:zM dvs ds)(hx:zO CX X E)
  (I:Inv X pins σ H s) (r:zM vs us) (h:sp (vs++dvs) H Q E):wpC (model X.prog X.w) X.A (call (.ref f) us) (EP X pins σ Q) X.xe s:=by
 have r2:=r.append hd;have hl:(us++ds).length=ps.length:=by rw[← r2.length];exact F.len _ _ _ _ h
 refine jm (Z7 (F.run X.A _ s H _ _ _ Q E hr I.env0 (hb s us I.kIn hl) r2 h) λr s' hq=> ?_);cases r with
 | error e=>exact hx _ σ H s e s' I hq
 | ok fl=>
  cases fl with
  | ret u=>exact I.after hq
  | next=>exact aU hq
  | brk=>exact aU hq
  | cont=>exact aU hq
theorem YF {X:Cx}{E:XK}{ds:List Value}{dvs:List V}{x:Str}{p pos:Pos}{e:Expr}{es:List Expr}{t:TA}(F:ZB X.prog X.w X.K X.mg X.base CX k f fd ps sp)(hr:Z8 k X.A)(hg:Gl X x)(hm:X.mg x=some (.ref f))(hk:bJ X.K (.ref f)=true)(hb:Binds X.K fd ps ds)(hd:zM dvs ds)(hx:zO CX X E)
  (ha:PAC X (e :: es) t) (hdb:(x == ("__debug__":Str))=false) (he:starEach (e :: es) X.env=(false,eval e X.env) :: starEach es X.env) (hpl:(backTo pos (starEach es X.env)).any (·.1)=false):PEC X (.Call (.Name x p) (e :: es) [] pos) (Vg sp dvs E t):=by
 intro pins s σ H Q I h;refine zN (Zv I hg hm ?_ hdb);refine j1 hk (zi (ha pos _ s σ H _ I h) λus s1 ⟨vs,H1,I1,r,q⟩=>⟨I1.kIn, ?_⟩) he hpl;exact vc F hr hb hd hx I1 r q
theorem yc {name qual:Str}{params:Arguments}{body:List Stmt}{scope:Scope}{dV kV doc pm cdv ct oc:Value}{an od:Option Addr}
  {osl:Array (Option Value)} {N:List Str} (lk:K.lookup f=some ⟨oc,od,.func (bw name qual params body scope dV kV doc pm an cdv ct),osl⟩) (hcd:cO K cdv qual=true) (S:Z6 N ps scope)
  (len:∀vs H Q E,sp vs H Q E->vs.length=ps.length)
  (hbody:∀(A:Around) (outer:List Env) (s:Shared) (H:Hp) (vs:List V) (Q:VK) (E:XK),Z8 k (A.deeper (envOfC qual scope s.heap.objs.size f cdv))->sp vs H Q E->
   ∃t,WN (Z4 CX P w K mg base N qual scope f cdv A outer s H E) body t/\t { nx:=λ_ H' =>Q .non H',rt:=Q } (start N vs) H):
  ZB P w K mg base CX (k+1) f (bw name qual params body scope dV kV doc pm an cdv ct) ps sp:=by
 refine⟨len,λA outer s H args us vs Q E hr e0 hb r hsp=> ?_⟩;have hl:=len _ _ _ _ hsp;have KX:=e0.mod.kin.keeps λb o e=>(e0.bs b o e).1;have lim:=e0.mod.nolimit.keeps λb o e=>(e0.bs b o e).1;have hkind:∀y∈ps.zip us,scope.names.lookup y.1=some _\/(scope.names.lookup y.1=some _/\((cellsFrom (s.heap.objs.size+1) _ []).lookup y.1).isSome=true):=λ⟨n,v⟩ hy=>by
  rcases S.par n (cF hy).1 with q | q
  ·exact .inl q
  ·exact .inr ⟨q,cN _ _ _ (.inl q)⟩
 refine j3 hr.depth (KX _ _ lk) rfl S.co S.gen rfl (eK KX hcd) (hb _ _ _ _ ?_);refine wpAny_newFunctionEnv_cells S.kind hkind λenv he s1 x=> ?_;subst he;refine⟨lim.keeps x.toInCall.keep,uL ?_⟩;obtain⟨t,ht,hq⟩:=hbody A _ s H vs Q E (hr.deeper _) hsp;have I:Inv (Z4 CX P w K mg _ N _ _ f cdv A _ s H E) [] _ H s1:=jY S hr.hd e0 hl r x;refine Z1 (ht [] s1 _ H _ I hq) (λfl s' hs=> ?_) λe s' hs=>hs;have fin:∀{σ' :St} {H' :Hp} {v:V} {u:Value},Inv (Z4 CX P w K mg base N qual scope f cdv A outer s H E) [] σ' H' s' ->zT v u->Q v H' ->CE _ P w H s Q u s' :=
  λ{σ' H' v u} J rv q=>⟨v,H',J.os,J.bare,J.base,J.hok,rv,q⟩
 cases fl with
 | ret u=>
  obtain⟨v,σ',H',J,rv,q⟩:=hs;exact fin J rv q
 | next=>
  obtain⟨σ',H',J,q⟩:=hs;exact fin (v:=V.non) J rfl q
 | brk=>
  obtain⟨_,_,_,q⟩:=hs;exact aU q
 | cont=>
  obtain⟨_,_,_,q⟩:=hs;exact aU q
end
end L2
namespace PV
open PySem PySem.Spec PyProof.Rows L2 PySem.W
structure ZU (X:Cx) (Y:Fx) (e:Expr) (f:En->R T):Prop where
 mk ::
 go:∀ρ,PEC X e (tS Y rC f ρ)
structure uO (X:Cx) (Y:Fx) (es:List Expr) (f:En->R (List T)):Prop where
 mk ::
 go:∀ρ,PAC X es (tS Y rCs f ρ)
structure vd (X:Cx) (Y:Fx) (e:Expr) (f:En->R Bool):Prop where
 mk ::
 go:∀ρ,PTC X e (tS Y rE f ρ)
structure JG (X:Cx) (Y:Fx) (e:Stmt) (f:En->RS):Prop where
 mk ::
 go:∀ρ,PSC X e (tSS Y f ρ)
structure Jk (X:Cx) (Y:Fx) (e:List Stmt) (f:En->RS):Prop where
 mk ::
 go:∀ρ,WN X e (tSS Y f ρ)
section
variable {X:Cx}{Y:Fx}{a b cc:Expr}{es:List Expr}{fa fb:En->R T}{ga:En->R (List T)}{st:Stmt}{sts sts' :List Stmt}{f g:En->RS}{pos p:Pos}
theorem Snd.c (h:Snd X Y a fa):ZU X Y a fa:=⟨λρ=>(h ρ).c⟩
theorem ZI.c (h:ZI X Y es ga):uO X Y es ga:=⟨λρ=>(h ρ).c⟩
theorem JL.c {g:En->R Bool}(h:JL X Y a g):vd X Y a g:=⟨λρ=>(h ρ).c⟩
theorem ZJ.c (h:ZJ X Y st f):JG X Y st f:=⟨λρ=>(h ρ).c⟩
theorem jF.c (h:jF X Y sts f):Jk X Y sts f:=⟨λρ=>(h ρ).c⟩
theorem Za (h:ZU X Y a fa)(hs:uO X Y es ga)(hq:starEach (a :: es) X.env=(false,eval a X.env) :: starEach es X.env:=by exact zy rfl):uO X Y (a :: es) (z7 fa ga):= .mk λρ=>
 PAC.imp (ug (h.go ρ) (hs.go ρ) hq) λσ H Q ⟨B,I,q⟩=>step I q λt v H1 _ s1 r1 I1 q1=>step I1 q1 λts vs H2 _ s2 r2 I2 q2=>Zi I2 q2 (.cons (r1.mono (zx.ge I1.sB s2)) r2)
theorem Wi {x1}(h:uO X Y es ga):ZU X Y (.Tuple es x1 pos) (ZX ga):= .mk λρ=>PEC.imp (va (h.go ρ)) λσ H Q ⟨B,I,q⟩=>
 step I q λts vs H1 _ s1 r1 I1 q1=>by
  split at q1
  ·rename_i hb;refine⟨by rw[r1.length];exact zV hb,λp hp=>q1 _ _ (zh.new hp _) (Ut I1 r1 hp)⟩
  ·exact q1.elim
theorem qI (ha:ZU X Y a fa)(hb:ZU X Y b fb):ZU X Y (.BinOp a .Add b pos) (z9 zf fa fb):= .mk λρ=>
 PEC.imp (xr Uz (ha.go ρ) (hb.go ρ)) λσ H Q ⟨B,I,q⟩=>step I q λt v H1 _ s1 r1 I1 q1=>step I1 q1 λt' v' H2 _ s2 r2 I2 q2=>
  ⟨_,t,t',I2.sB,r1.mono (zx.ge I1.sB s2),r2,q2⟩
theorem uh (gl:Gl X "tuple")(mg:X.mg "tuple"=none)(ha:ZU X Y a fa)(hs:St1 X a:=by exact st1 rfl):ZU X Y (.Call (.Name "tuple" p) [a] [] pos) (ap1 qr fa):= .mk λρ=>
 PEC.imp (uN je gl mg (PyProof.Rows.Boot.«tuple») (ug (ha.go ρ) zB.c hs) (by decide) (by decide) hs rfl) λσ H Q ⟨B,I,q⟩=>step I q λt v H1 _ s1 r1 I1 q1=>VB v t _ H1 Q r1 I1.sB q1
theorem YG {cl:Nat->Value}{k j n:Nat}{f:Addr}{fd:FuncData}{ps:List Str}{g:List T->R T}{x:Str}(hy:Y.cl=cl)(hp:zO (CX1 X.prog X.w) X Y.E)(F:ZB X.prog X.w X.K X.mg X.base (CX1 X.prog X.w) j f fd ps (spP cl n g))(hr:Z8 k X.A)(hj:j<=k)(gl:Gl X x)
  (mg:X.mg x=some (.ref f)) (kp:bJ X.K (.ref f)=true) (bd:L2.Binds X.K fd ps []) (ha:uO X Y (a :: es) ga) (hd:(x == ("__debug__":Str))=false:=by decide)
  (hs:starEach (a :: es) X.env=(false,eval a X.env) :: starEach es X.env:=by exact zy rfl) (hz:((backTo pos (starEach es X.env)).any λx=>x.fst)=false:=by exact Z0 rfl):ZU X Y (.Call (.Name x p) (a :: es) [] pos) (z8 n g ga):= .mk λρ=>by
 subst hy;refine PEC.imp (YF F (hr.mono hj) gl mg kp bd .nil hp (ha.go ρ) hd hs hz) λσ H Q ⟨B,I,q⟩=>step I q λts vs H1 _ s1 r1 I1 q1=> ?_;split at q1
 ·rename_i hn;rw[aT];refine⟨_,ts,hn,I1.sB,r1, ?_⟩;revert q1;cases g ts with
  | bad=>exact λq1=>q1
  | ex c=>exact λq1 d H' s sB=>q1 d H' (I1.sH.trans s) sB
  | ok t=>exact λq1=>q1
 ·exact q1.elim
theorem Jl (h:JG X Y st f):Jk X Y [st] f:= .mk λρ=>wt (h.go ρ)
theorem zo (h1:JG X Y st f)(h2:Jk X Y sts g):Jk X Y (st :: sts) (zp f g):= .mk λρ=>by
 refine WN.imp (ya (u:=λD σ H=>∃ρ',tSS Y g ρ' D σ H) (h1.go ρ) ?_) ?_
 ·intro pins s σ H D I ⟨ρ',q⟩;exact h2.go ρ' _ s σ H D I q
 ·intro D σ H ⟨B,I,q⟩;refine⟨B,I, ?_⟩;unfold zp at q;cases e:f ρ with
  | nx ρ' =>
   rw[e]at q;intro σ' H' B' s' I';exact⟨ρ',B',I',PoS.up s' q⟩
  | rt t=>rw[e]at q;exact q
  | rf t=>rw[e]at q;exact q
  | bk ρ' =>rw[e]at q;exact q
  | ct ρ' =>rw[e]at q;exact q
  | ex c=>rw[e]at q;exact q
  | bad=>rw[e]at q;exact q
theorem yd {i:Nat}{x:Str}{p' :Pos}(hN:X.N.Nodup)(hi:X.N[i]? =some x)(hx:L2.Loc X.env.scope x)(ha:ZU X Y a fa)(hs:swapsWith a (some (.Name x p')) pos.line X.env=pure false:=by rfl)
  (hf:X.fn x=true\/X.env.scope.names.lookup x=some .local:=by first | exact .inl rfl | exact .inr rfl | assumption):JG X Y (.Assign [.Name x p'] a pos) (zR i fa):= .mk λρ=>
 PSC.imp (vb hN hi hx (ha.go ρ) hs hf) λD σ H ⟨B,I,q⟩=>Jb I q λt v H1 _ s1 r1 I1 q1=>q1 _ _ _ (zh.refl _) (I1.setV i r1)
theorem Jm (ha:ZU X Y a fa):JG X Y (.Return (some a) pos) (zE fa):= .mk λρ=>
 PSC.imp (yb (ha.go _)) λD σ H ⟨B,I,q⟩=>by
  refine⟨_,I.frz, ?_⟩;unfold zE at q;cases e:fa _ with
  | bad=>rw[e]at q;exact q
  | ex c=>
   rw[e]at q;exact λd H' s0 sG=>q d H' s0 (I.up.trans sG)
  | ok t=>
   rw[e]at q;intro v H' s r;have J:=I.frz;exact q v H' (I.sH.trans s) (r.mono (qt J.sH J.old s J.sB))
theorem YH {gc:En->R Bool}(hc:vd X Y cc gc)(h1:Jk X Y sts f)(h2:Jk X Y sts' g):JG X Y (.If cc sts sts' pos) (ifS gc f g):= .mk λρ=>
 PSC.imp (xt (hc.go ρ) (h1.go ρ) (h2.go ρ)) λD σ H ⟨B,I,q⟩=>Jb I q λt v H1 _ s1 r1 I1 q1=>by
  have r1' :=r1;subst r1';cases v with
  | true=>exact⟨_,I1,q1⟩
  | false=>exact⟨_,I1,q1⟩
end
section
variable {P:Program}{w:World}{K:a6}{mg:Str->Option Value}{base:Heap}{N:List Str}{qual:Str}{scope:Scope}{f:Addr}{cd:Value}{A:Around}{outer:List Env}{s:Shared}{H:Hp}{E:XK}{Y:Fx}
theorem ve {cl:Nat->Value}{x qual:Str}{st:Stmt}{f:Addr}{fd:FuncData}{N ps:List Str}{k n:Nat}{fb:En->RS}{g:List T->R T}(F:Fun K x qual st f fd)(S:Z6 N ps (za st))(hn:n=ps.length)
  (hb:∀(cdv:Value) (A:Around) (outer:List Env) (s:Shared) (H:Hp) (E:XK) (Y:Fx),Y.cl=cl->Y.E=E->Z8 k (A.deeper (envOfC qual (za st) s.heap.objs.size f cdv))->
   Jk (Z4 (CX1 P w) P w K mg base N qual (za st) f cdv A outer s H E) Y (zv st) fb)
  (hg:∀ts,ts.length=n->g ts=zr (fb (en0 N.length ts))):ZB P w K mg base (CX1 P w) (k+1) f fd ps (spP cl n g):=by
 subst hn;obtain⟨oc,od,kV,doc,pm,an,cdv,ct,osl,rfl,lk,hcd⟩:=F.ex;refine yc lk hcd S spP.len λA outer s H vs Q E hr ⟨B,ts,hl,sB,r,q⟩=> ?_;refine⟨_,(hb cdv A _ s H E ⟨B,H,E,cl,[]⟩ rfl rfl hr).go _,B,SI.start sB r, ?_⟩;rw[hg ts hl]at q;revert q;cases fb _ with
 | rt t=>exact λq v H' s r=>q v H' s r
 | rf t=>exact λq a xs H' B' s0 n e r _ l=>q _ H' s0 (.lst (by rw[zD n];exact e) (r.mono l))
 | nx ρ=>exact λq σ' H' B' s' I' =>q _ H' I'.sH .non
 | bk ρ=>exact λq=>q.elim
 | ct ρ=>exact λq=>q.elim
 | ex c=>exact λq=>q
 | bad=>exact λq=>q
end
end PV
namespace PySem
open PySem PySem.Calls PySem.NumText PyProof.Rows PySem.W
theorem Wj {α:Type}{M:Model}{A:Around}{E:Value->Shared->Prop}{s:Shared}{c:Prop}[Decidable c]{a b:Sem α}{Q:α->Shared->Prop}(hc:c)(h:wpC M A a Q E s):wpC M A (if c then a else b) Q E s:=by rw[if_pos hc];exact h
theorem xu {M:Model}{A:Around}{E:Value->Shared->Prop}{s:Shared}{Q:Unit->Shared->Prop}{own:List String}{e:Value}(h:Q () s):wpC M A (markTheRefusal own e) Q E s:=by
 intro Γ p hΓ ⟨y,hy,hc⟩;have:pythonCodeMadeTheCall own (((Γ.code,p) :: Γ.below).map (·.1))=false:=by
  have:(((Γ.code,p) :: Γ.below).map (·.1)).any Code.isCaller=true:=List.any_eq_true.mpr ⟨y.1,bf.mpr ⟨y,aa _ hy,rfl⟩,hc⟩;show (!(((Γ.code,p) :: Γ.below).map (·.1)).any Code.isCaller && _ && _)=false;rw[this];rfl
 show fN M Γ (if pythonCodeMadeTheCall own (((Γ.code,p) :: Γ.below).map (·.1))=true then _ else _) _ _ p s
 rw[this];exact h
set_option maxHeartbeats 1000000 in
theorem K0 {prog:Program}{w:World}{A:Around}{E:Value->Shared->Prop}{s:Shared}{Q:Fin->Shared->Prop}{x:Str}{u:Tok}(hz:(reprText x).length<=sizeLine)(hl:x.length<=640)(hn:intText? x=none)(hh:A.handled=none)(h:∀h' tk ea m,Heap.MadeExc s.heap h' ea "ValueError" [m]->E (.ref ea) { s with heap:=h',toks:=tk }):wpC (model prog w) A (Builtin.«int.__new__» ⟨[.type "int",.str x u],[]⟩) Q E s:=by
 have f1:=F.conv_sub_int;have f2:=F.madeHere_int;have f3:=KIN.str_int;have f4:=KIN.str_idx;have f5:=KIN.str_trunc;have f6:typeOf (.str x u)=pure (.type "str"):=rfl;refine zb ?_;refine aw ?_;simp only[f1,f2,pure_bind,du,aF,if_false];refine zj (m:=(int_private% "intFromObject") (.str x u)) (Z1 (Q:=λ_ _=>False) (E:=E) ?_ (λ_ _ z=>z.elim) λ_ _ z=>z);refine zb ?_
 repeat (any_goals (first | assumption | wp_step))
 refine zb ?_
 repeat (any_goals (first | assumption | wp_step))
 rw[if_neg (by decide)]
 refine zb ?_
 repeat (any_goals (first | assumption | wp_step))
 refine zb ?_
 repeat (any_goals (first | assumption | wp_step))
 show wpC (model prog w) A ((int_private% "intFromText") (.str x u) (numTextOf x) 10) _ E s;have hs:(numSeenOf x).length<=640:=aC (seen_length x) hl;have rd:=read0 x hs;rw[hn]at rd;refine Wj hs (zj (zu ?_));dsimp only;have tail:wpC (model prog w) A (do
   rule "int.__new__.invalid-literal"
   let shown ← match ← (int_private% "bytesOf?") (.str x u) with
    | some b=>do pyRepr (← mkBytes (b.extract 0 200))
    | none=>pyRepr (.str x u)
   let m ← mkStr (((s!"invalid literal for int() with base {10}: ":String)++⟨shown.cps.extract 0 200⟩:Str))
   let refusal ← newExc (.type "ValueError") [m]
   markTheRefusal ["int.__new__"] refusal
   (raiseNew refusal:Sem Value)) (λ_ _=>False) E s:=by
  refine zb (wpAny_rule ?_);refine zb ?_
  repeat (any_goals (first | assumption | wp_step))
  show wpC (model prog w) A (pyRepr (.str x u) >>= λshown=>mkStr _ >>= λm=>newExc (Value.type "ValueError") [m] >>= λrefusal=>markTheRefusal ["int.__new__"] refusal >>= λ_=>(raiseNew refusal:Sem Value)) (λ_ _=>False) E s;refine zb (wpAny_pyRepr_str ?_ hz);refine zb (wpAny_mkStr ?_ ?_)
  ·refine zb (wpAny_newExc_plain plainExc_ValueError (λh' e hm=> ?_));refine zj (xu ?_);exact zz (wpAny_raiseNew_none hh (h h' _ e _ hm))
  ·rw[strLen_append];have h1:(⟨(reprText x).cps.extract 0 200⟩:Str).length<=200:=by show ((reprText x).cps.extract 0 200).size<=200;rw[Array.size_extract];omega
   have h2:(aW (toString "invalid literal for int() with base "++toString 10++toString ": ")).length<=200:=by rw[ofString_length];decide+kernel
   exact aC (Nat.add_le_add h2 h1) (by decide)
 rcases rd with ⟨n,z,_⟩ | ⟨_,e | ⟨i,e,ne⟩⟩
 ·cases z
 ·rw[show List.takeWhile (λx=>x != 0) (numTextOf x)=numSeenOf x from rfl,e];dsimp only;refine zb ?_
  repeat (any_goals (first | assumption | wp_step))
 ·rw[show List.takeWhile (λx=>x != 0) (numTextOf x)=numSeenOf x from rfl,e];dsimp only;rw[if_neg ne];exact tail
section
variable {prog:Program}{w:World}{A:Around}{E:Value->Shared->Prop}{R:Result->Shared->Prop}{s:Shared}
theorem jo {id:String}{args:Args}{b:Builtin}(hb:entryFor table id=some b)
  (h:wpC (model prog w) (A.under (.builtin id args)) (b args) (λfin s' =>match fin with | .done f=>R (.ok f) s' | .again c' =>c'.quiet=true/\zJ (model prog w) A c' R s') (λe s' =>R (.error e) s') s):zJ (model prog w) A (.builtin id args) R s:=by
 refine zq ?_;show wpC _ _ (match entryFor table id with | some b=>b args | none=>unsupported ((withoutEnding? id "#data").getD id)) _ _ s
 rw[hb];exact h
theorem jp {id:String}{args:Args}{b:Builtin}(hq:plainId id=true)(hb:entryFor table id=some b)(hc:checkBuiltinCall id args=pure ())
  (h:wpC (model prog w) A.in1 (b args) (λfin s' =>match fin with | .done f=>R (.ok f) s' | .again c' =>c'.quiet=true/\zJ (model prog w) A c' R s') (λe s' =>R (.error e) s') s):zJ (model prog w) A (.call (.builtin id) args) R s:=by
 refine zq ?_;show wpC _ A.in1 (do checkBuiltinCall id args;again (.builtin id args)) _ _ s
 rw[hc];exact zj (zu (zu (And.intro (plainId_quiet hq args) (jo hb (by rw[Around.under_plainId hq args];exact h)))))
theorem ye {Q:Value->Shared->Prop}{x:Str}{u:Tok}(hz:(reprText x).length<=sizeLine)(hl:x.length<=640)(hn:intText? x=none)(hh:A.handled=none)
  (h:∀h' tk ea m,Heap.MadeExc s.heap h' ea "ValueError" [m]->E (.ref ea) { s with heap:=h',toks:=tk }):wpC (model prog w) A (call (.type "int") [.str x u]) Q E s:=by
 have ft:=F.called_int;obtain⟨c,tl,hmro⟩:=ft.mro;have hmade:=ft.made;have hct:=F.typeCall_int_1 (.str x u);have h1:=ft.notType;have h2:=ft.canCreate;refine jm (zq ?_);show wpC _ _ (callAny (.type "int") _) _ _ _;refine zu (And.intro (dj _ (by decide+kernel)) (jo e_ ?_))
 rw[eM (weight_type_call_type _ _ []) rfl];unfold Builtin.«type.__call__»;simp only[h1,h2,hct,hmro,hmade,pure_bind,aF,if_false,f9];refine zj (zS (jm (jp ft.plain F.entry_int_new (F.newCall_int_1 _) ?_)));exact K0 hz hl hn hh h
end
end PySem
namespace PySem
open Sem (wp)
open PySem.W PyProof.Rows
section
variable {prog:Program}{w:World}{A:Around}{E:Value->Shared->Prop}{s:Shared}{env:Env}
theorem gz {body orelse:List Stmt}{h₀:ExceptHandler}{hs:List ExceptHandler}{pos:Pos}{Q:Flow->Shared->Prop}
  (h:wpC (model prog w) A (execs body env) (λf s₁=>match f with | .next=>wpC (model prog w) A (execs orelse env) Q E s₁ | f=>Q f s₁)
   (λe s₁=>wpAny (model prog w) A (noteFrame e env) (λ_ s₂=>wpAny (model prog w) A (setFlight e none) (λ_ s₃=>wpAny (model prog w) A (handleBy e env (h₀ :: hs)) Q E s₃) E s₂) E s₁) s):
  wpC (model prog w) A (exec (.Try body (h₀ :: hs) orelse [] pos) env) Q E s:=by
 rw[arm_exec_Try];refine zb (aN ?_);unfold tryStmt;simp only[List.isEmpty_nil,if_true,f9,Bool.false_and,aF,if_false];refine zj (Jj (Z1 h (λf s₁ h₁=> ?_) λe s₁ h₁=> ?_))
 ·cases f <;> first | exact h₁ | exact zu h₁
 ·exact zz (a8 (aG h₁ (λ_ _ h₂=>a8 h₂) λ_ _ x=>x))
end
section
variable {M:Model}{A:Around}{E:Value->Shared->Prop}{s:Shared}
noncomputable def EvA (base:Heap)(l:List Env)(e:Addr)(h:Heap):Prop:=base.StaysIn h/\base.get? e=none/\h.FunFrames base l/\∃oe vs T oT ts,h.get? e=some oe/\oe.cls= .type "ValueError"/\oe.data= .fields vs/\vs[1]? =some (.ref T)/\vs[2]? =some .none/\base.get? T=none/\T ≠ e/\h.get? T=some oT/\oT.data= .fields ts/\3 < ts.size
theorem K1 {base h0:Heap}{env:Env}{outer:List Env}{L e:Addr}{m:Value}{Q:Unit->Shared->Prop}(hfr:A.frames=some (env :: outer))(hl:h0.FunFrames base (env :: outer))(hf:env.frame=some L)(kb0:base.StaysIn h0)(hx:Heap.MadeExc h0 s.heap e "ValueError" [m])
  (h:∀h',EvA base (env :: outer) e h' ->h0.UpToSlots h' ->Q () { s with heap:=h' }):wpAny M A (noteFrame (.ref e) env) Q E s:=by
 obtain⟨t,he,htn,ht⟩:=hx.there;have hl:s.heap.FunFrames base (env :: outer):=hl.of_keeps λb o hb _=>⟨o,hx.keeps b o hb,rfl⟩;have hkb:base.StaysIn s.heap:=λb o hb=>hx.keeps b o (kb0 b o hb);have hen:base.get? e=none:=by
  cases q:base.get? e with
  | none=>rfl
  | some o=>have:=kb0 e o q;rw[hx.new]at this;cases this
 have hene:e ∉ (env :: outer).filterMap (·.frame):=λhm=>by
  obtain⟨_,o,ho,hnf⟩:=hl.mem hm;rw[he]at ho;cases ho;exact hnf _ rfl
 unfold noteFrame;simp only[hf];refine a8 (bQ he rfl (x:= .none) rfl ?_);rw[if_neg (by decide)]
 refine a8 (wpAny_frameOf_fun hfr hl hf λh₁ hs₁=> ?_);refine a8 (wpAny_entryPlaceOf λpl hpl=> ?_);unfold EntryCells.newEntry newFields;refine a8 (bW ?_ (hpl.sizeOk5 _ _ _ _ _));have he₁:=(hs₁.2.1 e hene).trans he;have kb₁:base.StaysIn h₁:=λb o hbo=>(hs₁.2.1 b λhm=>by rw[(hl.mem hm).1]at hbo;cases hbo).trans (hkb b o hbo)
 generalize hT:({ cls:= .type "traceback",dict:=none,data:= .fields _ }:Obj)=oT;have he₂:=a7 (h:=h₁) oT he₁;have hTe:h₁.objs.size ≠ e:=ce (ag he₁);refine wpAny_setField he₂ rfl (show 1 < 6 by decide) (h _ ?_ ?_)
 ·have keep:∀b o,b ≠ e->h₁.get? b=some o->((h₁.push oT).update e (aY (·.setIfInBounds 1 (Value.ref h₁.objs.size)))).get? b=some o:=λb o hbe hb=>by
   rw[aK _ _ (bu hbe)];exact a7 _ hb
  have hT₃:=(aK (h₁.push oT) (aY (·.setIfInBounds 1 (Value.ref h₁.objs.size))) (bu hTe)).trans (am h₁ (by rw[← hT];rfl))
  have he₃:=bG (aY (·.setIfInBounds 1 (Value.ref h₁.objs.size))) he₂ rfl;refine⟨λb o hbo=>keep b o (λq=>by rw[q,hen]at hbo;cases hbo) (kb₁ b o hbo),hen,hl.of_keeps λb o hb hnf=> ?_,_,_,h₁.objs.size,_,_,he₃,rfl,rfl,rfl,rfl,kb₁.fresh,hTe,hT₃,by rw[← hT], ?_⟩
  ·obtain⟨sl,hs⟩:=hs₁.2.2 b o hb;exact⟨_,keep b _ (λq=>by rw[q,he]at hb;cases hb;exact hnf _ rfl) hs,rfl⟩
  ·rcases hpl with rfl | ⟨_,_,_,_,_,_,_,rfl⟩ <;> simp
 ·intro b o hb hnf;obtain⟨sl,hs⟩:=hs₁.2.2 b o (hx.keeps b o hb);refine⟨sl, ?_⟩;rw[aK _ _ (λq=>by rw[← q,hx.new]at hb;cases hb)]
  exact a7 _ hs
theorem gA {base:Heap}{l:List Env}{e:Addr}{Q:Unit->Shared->Prop}(x:EvA base l e s.heap)(h:∀h',EvA base l e h' ->s.heap.UpToSlots h' ->Q () { s with heap:=h' }):wpAny M A (setFlight (.ref e) none) Q E s:=by
 obtain⟨kb,en,fr,oe,vs,T,oT,ts,q1,q2,q3,q4,q5,q6,q7,q8,q9,q10⟩:=x;refine a8 (bQ q1 q3 q4 ?_);refine wpAny_setField q8 q9 q10 ?_;have oth:∀b,b ≠ T->(s.heap.update T (aY (·.setIfInBounds 3 Value.none))).get? b=s.heap.get? b:=λb hb=>aK _ _ hb.symm;have nr:∀b o,s.heap.get? b=some o->(∀vs,o.data ≠ .fields vs)->b ≠ T:=λb o hb n q=>by subst q;rw[q8]at hb;cases hb;exact n ts q9
 refine h _ ⟨λb o hb=>(oth b λq=> ?_).trans (kb b o hb),en,fr.of_keeps λb o hb n=>⟨o,(oth b (nr b o hb n)).trans hb,rfl⟩,oe,vs,T,_,_,(oth e q7.symm).trans q1,q2,q3,q4,q5,q6,q7,bG _ q8 (dP (cH q9 _)),cH q9 _, ?_⟩ λb o hb n=>⟨o.slots,(oth b (nr b o hb n)).trans hb⟩
 ·subst q;rw[q6]at hb;cases hb
 ·simpa using q10
end
end PySem
namespace PySem
open PySem.W PyProof.Rows
section
variable {prog:Program}{w:World}{A:Around}{E:Value->Shared->Prop}{s:Shared}{env:Env}
variable {nm q:Str}{C N:Addr}{bs bm:List Value}{hdct:Bool}{sn:List Str}{sub:List Value}{ab:Bool}{col:Option Bool}{dd:Option Addr}{k0 k1 k2 k3 k5:Option Value}{newId:String}
theorem YI:entryFor table "proto.unchain"=some Builtin.«proto.unchain»:=entryFor_of_tree (by kernel_rfl)
theorem uP {x:Sem Value}{e1:Addr}{j:Nat}{p pos:Pos}{Q:Flow->Shared->Prop}(hbase:bm.contains (.type "BaseException")=true)(hh:A.handled=some (.ref e1))
  (h:wpAny (model prog w) A x (λv s₁=>∃e t,v= .ref e/\s₁.heap.get? C=some (excClassObj nm q C N bs bm hdct sn sub ab col dd k0 k1 k2 k3 k5 newId)/\
   s₁.heap.get? e=some { cls:= .ref C,data:= .fields #[.ref t,.none,.none,.none,.bool false,.none] }/\e ≠ e1/\(∃oe vs,s₁.heap.get? e1=some oe/\oe.data= .fields vs/\vs[2]? =some .none)/\
   ∀h',(∀b,b ≠ e->h'.get? b=s₁.heap.get? b)->h'.get? e=some { cls:= .ref C,data:= .fields #[.ref t,.none,.ref e1,.none,.bool true,.none] }->E (.ref e) { s₁ with heap:=h' }) E s):
  wpAny (model prog w) A (raiseStmt env (some x) (some (do let v ← eval (.Constant .none j p) env;standAt pos;pure v))) Q E s:=by
 have hcB:(Value.ref C :: bm).contains (.type "BaseException")=true:=by rw[List.contains_cons,hbase,Bool.or_true]
 unfold raiseStmt;refine a8 (aG h (λv s₁ h₁=> ?_) λ_ _ x=>x);obtain⟨e,t,rfl,hC,he,hne,⟨oe,vs,he1,hd1,h12⟩,hE⟩:=h₁;obtain⟨hp,g,d,tk,os⟩:=s₁
 repeat (first | with_reducible refine wpAny_loadPart_at he ?_ | with_reducible refine wpAny_loadPart_at hC ?_ | (with_reducible refine wpAny_isSubtype_exc hC ?_;rw[hcB]) | wp_step)
 have heC:e ≠ C:=λz=>by subst z;rw[hC]at he;cases he
 have hC2:∀f f',((hp.update e f).update e f').get? C=some (excClassObj nm q C N bs bm hdct sn sub ab col dd k0 k1 k2 k3 k5 newId):=λf f' =>by rw[aK _ _ heC,aK _ _ heC];exact hC
 refine wpAny_loadPart_at (hC2 _ _) ?_
 repeat (first | with_reducible refine wpAny_loadPart_at (hC2 _ _) ?_ | wp_step)
 have he3:((hp.update e (aY λx=>x.setIfInBounds 3 Value.none)).update e (aY λx=>x.setIfInBounds 4 (Value.bool true))).get? e=some { cls:= .ref C,data:= .fields #[.ref t,.none,.none,.none,.bool true,.none] }:=
  bG (aY λx=>x.setIfInBounds 4 (Value.bool true)) (bG (aY λx=>x.setIfInBounds 3 Value.none) he rfl) rfl
 have oth:∀b,b ≠ e->((hp.update e (aY λx=>x.setIfInBounds 3 Value.none)).update e (aY λx=>x.setIfInBounds 4 (Value.bool true))).get? b=hp.get? b:=λb hb=>by rw[aK _ _ hb.symm,aK _ _ hb.symm]
 generalize (hp.update e (aY λx=>x.setIfInBounds 3 Value.none)).update e (aY λx=>x.setIfInBounds 4 (Value.bool true))=h2 at he3 oth ⊢;unfold raiseNew;refine a8 (wpAny_handled ?_);rw[hh];dsimp only;rw[if_pos (by rw[bne_iff_ne];intro z;exact hne (Value.ref.inj z).symm)]
 refine a8 (a_ (wpAny_runValue (codeAny_builtin YI ?_)));unfold Builtin.«proto.unchain»;refine a8 (bQ ((oth e1 hne.symm).trans he1) hd1 h12 ?_);refine wpAny_ite_true rfl (aw ?_);show wpAny (model prog w) A (updateField e 2 (Value.ref e1) >>= λ_=>throw (Value.ref e)) Q E _;refine a8 ?_;unfold updateField;refine a8 (wpAny_load he3 ?_);dsimp only;rw[if_pos (by show 2 < 6;decide)]
 refine wpAny_update he3 (wpAny_throw (hE _ (λb hb=> ?_) ?_))
 ·exact(aK _ _ hb.symm).trans (oth b hb)
 ·exact bG (aY λx=>x.setIfInBounds 2 (Value.ref e1)) he3 rfl
theorem uQ {B Bn nid initId inN:String}{bmB bmN:List Value}(Fn:ExcBaseFacts Bn newId inN bmN)(hBn:bmB.contains (.type Bn)=true)(F:ExcBaseFacts B nid initId bmB){mN:Str->Option Value}{x:Str}{np cpos p pos:Pos}{args:List Expr}{j:Nat}{e1:Addr}{Q:Flow->Shared->Prop}
  (hbase:bm.contains (.type "BaseException")=true) (hh:A.handled=some (.ref e1)) (hplain:(backTo cpos (starEach args env)).any (·.1)=false) (hni:mN "__init__"=none)
  (h:wpAny (model prog w) A (eval (.Name x np) env) (λf s₁=>f= .ref C/\wpAny (model prog w) A (evalArgs (.ref C) true (backTo cpos (starEach args env)) [])
   (λa s₂=>a.kw=[]/\a.pos.length<=sizeLine/\s₂.heap.get? C=some (excClassObj nm q C N bs bm hdct sn sub ab col dd k0 k1 k2 k3 k5 newId)/\s₂.heap.Ns N mN/\OwnTail s₂.heap bmB bm/\(∃oe vs,s₂.heap.get? e1=some oe/\oe.data= .fields vs/\vs[2]? =some .none)/\
    ∀h1 h' e t,Heap.MadeExcOf s₂.heap h1 e (.ref C) a.pos->(∀b,b ≠ e->h'.get? b=h1.get? b)->h'.get? e=some { cls:= .ref C,data:= .fields #[.ref t,.none,.ref e1,.none,.bool true,.none] }->E (.ref e) { s₂ with heap:=h' }) E s₁) E s):
  wpAny (model prog w) A (exec (.Raise (some (.Call (.Name x np) args [] cpos)) (some (.Constant .none j p)) pos) env) Q E s:=by
 rw[arm_exec_Raise];refine a8 (aN (uP (C:=C) (nm:=nm) (q:=q) (N:=N) (bs:=bs) (bm:=bm) (hdct:=hdct) (sn:=sn) (sub:=sub) (ab:=ab) (col:=col) (dd:=dd) (k0:=k0) (k1:=k1) (k2:=k2) (k3:=k3) (k5:=k5) (newId:=newId) hbase hh (a8 (aG (wpAny_Call_ofName (aG h (λf s₁ h₁=> ?_) λ_ _ x=>x)) (λv s₃ h₃=>a8 (aN (aw h₃))) λ_ _ x=>x))));obtain⟨rfl,h₁⟩:=h₁;unfold callWith;refine a8 (a_ (aG h₁ (λa s₂ h₂=>a8 (aN ?_)) λ_ _ x=>x));obtain⟨apos,akw⟩:=a;obtain⟨hkw,hlen,hC,hn,T,⟨oe,vs,x1,x2,x3⟩,h₂⟩:=h₂;obtain rfl:akw=[]:=hkw;obtain⟨hp,g,d,tk,os⟩:=s₂;simp only[hplain];refine a8 (wpAny_keeperOf_exc hC ?_);refine a8 (wpAny_call_exc_subU (hrest:=hlen) Fn hBn F T hC hn hni λh' e hm=>a8 (a_ (d6 (aw ?_))));obtain⟨t,ht,_,_⟩:=hm.there;exact⟨e,t,rfl,hm.keeps _ _ hC,ht,λz=>(by subst z;rw[hm.new]at x1;cases x1),⟨oe,vs,hm.keeps _ _ x1,x2,x3⟩,λh2 o2 e2=>h₂ h' h2 e t hm o2 e2⟩
end
end PySem
namespace L2
open PySem PySem.Spec PyProof.Rows PySem.W
section
variable {X:Cx}{pins:List (Addr×Obj)}{σ:St}{H:Hp}{s:Shared}{h' :Heap}{tk:Nat}
theorem Inv.slotsX (I:Inv X pins σ H s)(k:(hideAll s.heap (frs X.stack)).StaysIn h')(sl:s.heap.UpToSlots h'):Inv X pins σ H { s with heap:=h',toks:=tk }:=by
 have hokB:HOk X.prog X.w H (hideAll s.heap (frs X.stack)):=λa o e=>(I.hok a o e).stay (λb u hb q=>hideAll_get _ q λz=>by
   have:=I.stkFree b z;rcases hb with rfl | hb
   ·rw[e]at this;cases this
   ·rw[hb]at this;cases this) (λ_ q=>q) λ_ _ q=>q
 have kp:∀b o,s.heap.get? b=some o->b ∉ frs X.stack->h'.get? b=some o:=λb o e hb=>k b o (hideAll_get _ e hb);have slot:∀b o,s.heap.get? b=some o->b∈frs X.stack->∃sl,h'.get? b=some { o with slots:=sl }:=λb o e hb=>by
  obtain⟨_,o2,e2,nf⟩:=I.frNf b hb;rw[e]at e2;cases e2;exact sl b o e nf
 refine I.call' (ch:=[]) rfl ⟨λb o e _ hb _=>kp b o e hb,λb o e _ hb _=>slot b o e hb,λ_ _ _ n _=>n,λb o e _=> ?_,λ_ _ e=>e,λ_ _ _ e=>e,λ_ _ _ e=>e⟩ (hokB.kept k) I.bare (λb z=>nomatch z)
 by_cases hb:b∈frs X.stack
 ·obtain⟨sl,e'⟩:=slot b o e hb;exact⟨_,e'⟩
 ·exact⟨o,kp b o e hb⟩
end
section
variable {P:Program}{w:World}{K:Frag}{mg:Str->Option Value}{base:Heap}{N:List Str}{qual:Str}{scope:Scope}{f:Addr}{cd:Value}{A:Around}{outer:List Env}{s:Shared}{H:Hp}{E:XK}
theorem K2:isSubtype (.type "ValueError") (.type "BaseException")=pure true:=by rw[isSubtype_type];kernel_rfl
theorem Gb:isSubtype (.type ((Manifest.find? "ValueError").elim "type" λx=>x.metatype)) (.type "tuple")=pure false:=by rw[isSubtype_type];kernel_rfl
theorem K3:isSubtype (.type "ValueError") (.type "ValueError")=pure true:=by rw[isSubtype_type];kernel_rfl
theorem xv:bootBuiltins "ValueError"=some (.type "ValueError"):=by decide+kernel
theorem vf {x n y m:Str}{C:Addr}{bm bmN:List Value}{Bn Bb newId nid initId inN:String}{i j a1 a2:Nat}{p1 p2 p3 p4 p5 p6 p7 p8 p9 p10 p11 p12 p13:Pos}(O:OwnCls x C bm newId mg base)(Fn:ExcBaseFacts Bn newId inN bmN)(hBn:bm.contains (.type Bn)=true)(FB:ExcBaseFacts Bb nid initId bm)
  (hN:N.Nodup) (hi:N[i]? =some n) (hx:Loc scope n) (hj:N[j]? =some y) (hy:Vis scope y)
  (gi:Gl (Z4 (CX1 P w) P w K mg base N qual scope f cd A outer s H E) "int") (mi:mg "int"=none) (gv:Gl (Z4 (CX1 P w) P w K mg base N qual scope f cd A outer s H E) "ValueError") (mv:mg "ValueError"=none)
  (hg:Gl (Z4 (CX1 P w) P w K mg base N qual scope f cd A outer s H E) x)
  (hs:swapsWith (.Call (.Name "int" p2) [.Name y p3] [] p4) (some (.Name n p1)) p5.line (envOfC qual scope s.heap.objs.size f cd)=pure false:=by rfl)
  (hd:(x == ("__debug__":Str))=false:=by decide) (hdy:(y == ("__debug__":Str))=false:=by decide) (hcd:(y == ("__classdict__":Str))=false:=by decide):
  PSC (Z4 (CX1 P w) P w K mg base N qual scope f cd A outer s H E)
   (.Try [.Assign [.Name n p1] (.Call (.Name "int" p2) [.Name y p3] [] p4) p5] [.ExceptHandler (some (.Name "ValueError" p6)) none [.Raise (some (.Call (.Name x p7) [.Constant (.str m) a1 p8] [] p9)) (some (.Constant .none a2 p10)) p11] p12] [] [] p13)
   (λD σ H1=>∃z,σ[j]? =some (some (.str z))/\(reprText z).length<=sizeLine/\z.length<=640/\match dr z with
    | some k=>D.nx (σ.set i (some (.int k))) H1
    | none=>E (.ref C) none H1):=by
 intro pins s1 σ H1 D I ⟨z,hσ,hz,hl,hw⟩;obtain⟨tl,N',nm,q,bs,hdct,sn,sub,ab,col,dd,k0,k1,k2,k3,k5,mN,hC,hN',hni,T⟩:=O.obj;have fr:(A.deeper (envOfC qual scope s.heap.objs.size f cd)).frames=some (envOfC qual scope s.heap.objs.size f cd :: outer):=I.ok.frames;have hst:starEach [.Name y p3] (envOfC qual scope s.heap.objs.size f cd)=[(false,eval (.Name y p3) _)]:=rfl;have pa:∀xe:Value->Shared->Prop,wpAny (model P w) (A.deeper (envOfC qual scope s.heap.objs.size f cd)) (spliced (backTo p4 (starEach [.Name y p3] (envOfC qual scope s.heap.objs.size f cd)))) (AP (PV.XE (Z4 (CX1 P w) P w K mg base N qual scope f cd A outer s H E) xe) pins σ (λvs H' =>vs=[.str z]/\H' =H1)) xe s1:=λxe=>
  zk (X:=PV.XE (Z4 (CX1 P w) P w K mg base N qual scope f cd A outer s H E) xe) (WY hj hy hdy hcd) zB hst p4 _ s1 σ H1 (λvs H' =>vs=[.str z]/\H' =H1) (PV.W4 I) ⟨_,hσ,rfl,rfl⟩
 refine gz (j2 (y9 (zN (jd I gi mi PyProof.Rows.boot_int ?_)) hs));refine ZV (zi (zz (pa _)) λus s2 ⟨vs,H2,I2,r,e1,e2⟩=> ?_) hst rfl;subst e1 e2;have I2:=PV.u8 I2;cases r with
 | cons r1 r2=>
  cases r2;obtain⟨tk,rfl⟩:=r1;cases hn:dr z with
  | some k=>
   rw[hn]at hw;refine zz (KIN.call_text hn hl (jc (v:= .int k) (I2.tok _) hN hi hx ⟨_,rfl⟩ (λs3 I3=> ?_) (.inl rfl)));exact zz (bN (zz (bN ⟨_,_,I3,hw⟩)))
  | none=>
   rw[hn]at hw;refine ye hz hl hn (I.ok.hd rfl) λh1 tk1 ea mm hm=> ?_;have hin:∀env∈(Z4 (CX1 P w) P w K mg base N qual scope f cd A outer s H E).stack,∀b,env.frame=some b->b∈frs _:=λenv he b hb=>bS.mpr ⟨env,he,hb⟩;refine K1 (base:=hideAll s2.heap (frs (Z4 (CX1 P w) P w K mg base N qual scope f cd A outer s H E).stack)) fr (funFrames_hide I2.stack hin) rfl (λb o q=>of_hideAll _ q) hm λh2 v2 sl2=> ?_;refine gA v2 λh3 v3 sl3=> ?_;have I3:=I2.slotsX (tk:=tk1) v3.1 (sl2.trans sl3);refine wpAny_handleBy_builtin (X:="ValueError") (T:="ValueError") (b:=true) K2 Gb K3 ?_;have ea_ok:∀{h:Heap},EvA (hideAll s2.heap (frs (Z4 (CX1 P w) P w K mg base N qual scope f cd A outer s H E).stack)) (envOfC qual scope s.heap.objs.size f cd :: outer) ea h->∃oe vs,h.get? ea=some oe/\oe.data= .fields vs/\vs[2]? =some .none:=λ⟨_,_,_,oe,vs,_,_,_,q1,_,q3,_,q5,_⟩=>⟨oe,vs,q1,q3,q5⟩;refine jd (X:=(Z4 (CX1 P w) P w K mg base N qual scope f cd A outer s H E).mark' (.ref ea)) (I3.mark' _) gv mv xv ⟨rfl, ?_, ?_⟩
   ·obtain⟨_,_,_,oe,vs,_,_,_,q1,q2,_⟩:=v3;exact⟨oe,q1,q2⟩
   refine gA v3 λh4 v4 sl4=> ?_;have I4:=I2.slotsX (tk:=tk1) v4.1 (sl2.trans (sl3.trans sl4));refine wpAny_execs_cons (uQ (C:=C) (nm:=nm) (q:=q) (N:=N') (bs:=bs) (hdct:=hdct) (sn:=sn) (sub:=sub) (ab:=ab) (col:=col) (dd:=dd) (k0:=k0) (k1:=k1) (k2:=k2) (k3:=k3) (k5:=k5) Fn hBn FB (T.hasType FB.hasBase) rfl rfl hni (Zv (X:=(Z4 (CX1 P w) P w K mg base N qual scope f cd A outer s H E).mark' (.ref ea)) (I4.mark' _) hg O.bound ⟨rfl, ?_⟩ hd));refine d0 (eJ (eI (k:=a1) (pos:=p8) (eV ⟨rfl,(show 1<=sizeLine by decide), ?_⟩)))
   have I5:=I4.tok (tk1+1);refine⟨I5.bk _ _ hC,hN'.keeps I5.bk,T.keeps I5.bk,ea_ok v4,λh5 h6 e t hm5 o6 e6=> ?_⟩;have hb5:∀b,(hideAll h4 (frs (Z4 (CX1 P w) P w K mg base N qual scope f cd A outer s H E).stack)).get? b ≠ none->b ≠ e:=λb z q=>by
    subst q;cases q2:(hideAll h4 (frs (Z4 (CX1 P w) P w K mg base N qual scope f cd A outer s H E).stack)).get? b with
    | none=>exact z q2
    | some o=>have:=of_hideAll _ q2;rw[hm5.new]at this;cases this
   have sl6:h5.UpToSlots h6:=λb o hb nf=>⟨o.slots,(o6 b λq=>by subst q;obtain⟨_,z,_⟩:=hm5.there;rw[z]at hb;cases hb;exact nf _ rfl).trans hb⟩
   have fr6:h6.FunFrames (hideAll h4 (frs (Z4 (CX1 P w) P w K mg base N qual scope f cd A outer s H E).stack)) (envOfC qual scope s.heap.objs.size f cd :: outer):=
    (funFrames_hide I5.stack hin).of_keeps λb o hb nf=>by
     obtain⟨sl,z⟩:=sl6 b o (hm5.keeps b o hb) nf;exact⟨_,z,rfl⟩
   have kb6:(hideAll h4 (frs (Z4 (CX1 P w) P w K mg base N qual scope f cd A outer s H E).stack)).StaysIn h6:=λb o hb=>(o6 b (hb5 b (by rw[hb];simp))).trans (hm5.keeps b o (of_hideAll _ hb))
   have en:(hideAll h4 (frs (Z4 (CX1 P w) P w K mg base N qual scope f cd A outer s H E).stack)).get? e=none:=by
    cases q2:(hideAll h4 (frs (Z4 (CX1 P w) P w K mg base N qual scope f cd A outer s H E).stack)).get? e with
    | none=>rfl
    | some o=>exact absurd rfl (hb5 e (by rw[q2];simp))
   unfold notedBy noteFrame;simp only[show (Z4 (CX1 P w) P w K mg base N qual scope f cd A outer s H E).env.frame=some s.heap.objs.size from rfl];refine a8 (bQ e6 rfl (x:= .none) rfl ?_);rw[if_neg (by decide)]
   refine wpAny_entryW (a0:= .ref t) fr fr6 rfl e6 kb6 en rfl (show 1 < 6 by decide) rfl λh7 ⟨n1,n2,n3,n4⟩=> ?_
   have fa7:Yb (hideAll h4 (frs (Z4 (CX1 P w) P w K mg base N qual scope f cd A outer s H E).stack)) (envOfC qual scope s.heap.objs.size f cd :: outer) e (.ref C) (.ref t) h7:=⟨n1,en,n2,_,n3⟩;obtain⟨oe,vs,T',oT,ts,q1,q2,q3,q4,q5⟩:=id n3;refine a8 (bQ q1 q3 q4 ?_);refine wpAny_ite_false rfl ?_;refine JJ fa7 λh8 fa8 sl8=> ?_;refine u5 fr rfl fa8 λh9 fl9 sl9=> ?_;exact⟨e,.ref C,.ref t,_,_,rfl,w4.made (s:=⟨h4,_,_,_,_⟩) I5 rfl rfl rfl hm5 fl9 (sl6.trans (Heap.UpToSlots.trans n4 (sl8.trans sl9))),hw⟩
end
end L2
namespace PySem
open Sem (wp)
section
variable {M:Model}{A:Around}{E:Value->Shared->Prop}{s:Shared}{env:Env}
theorem yf {c:Code}{h:Option Value}{Q:Flow->Shared->Prop}(hc:zJ M (A.mark h) c (λr s' =>match r with | .ok f=>Q f s' | .error e=>E e s') s)(hnb:h ≠ some byPass):wpC M A (run c h) Q E s:=
 λΓ p hΓ hl=>by rw[Sem.wp_run];exact hc _ p rfl (hΓ.enter c h p hnb) (hl.enter _ _ _)
theorem YJ {α:Type}{c:Prop}[Decidable c]{pos:Pos}{k:PUnit->Sem α}{Q:α->Shared->Prop}(h:wpC M A (k ()) Q E s):wpC M A (if c then (standAt pos >>= k) else k ()) Q E s:=by
 split
 ·exact zb (aN h)
 ·exact h
theorem Zf {e:Expr}{scope:Scope}{pos:Pos}{newAcc first:Sem Value}{g:Comprehension}{gs:List Comprehension}{cl:List (Str×Addr)}{use:Option (Value->Sem Unit)}{Q:Value->Shared->Prop}
  (hcl:clausesOf e=g :: gs) (hs:∀x,foldedSetIterable g.iter env x=pure x) (hclos:closureFor scope env=pure cl) (hkind:scope.kind= .function) (hnames:∀x∈scope.names,x.2= .local->scope.names.lookup x.1=some .local)
  (h:wpAny M A first (λx s₁=>wpAny M A (pyIter x) (λit s₂=>wpAny M A newAcc (λacc s₃=>wpAny M A (newFunctionEnv scope env.globals cl [] env.qual none .none (some env)) (λcenv s₄=>
    zJ M A (.compStart e 0 it acc { cenv with scope:=relabel scope env }) (compPost M A E use Q acc cenv.locals) s₄) E s₃) E s₂) E s₁) E s):wpC M A (comprehension e scope env pos newAcc false first use) Q E s:=by
 unfold comprehension;rw[hclos,hcl];refine zb (aG h (λx s₁ h₁=>zb (aN (zb (wpAny_of_eq (hs x) (zb (a_ (aG h₁ (λit s₂ h₂=> ?_) λ_ _ h' =>h'))))))) λ_ _ h' =>h');refine YJ (zb (aG h₂ (λacc s₃ h₃=>zb (aw (zb (aG h₃ (λcenv s₄ h₄=> ?_) λ_ _ h' =>h')))) λ_ _ h' =>h'));dsimp only;have hv:∀x∈(scope.names.filter λx=>(x.2 == .local || x.2 == .cell) && x.1 != (".0":Str)).reverse,x.2= .local->Env.kindOf { cenv with scope:=relabel scope env } x.1=some .local:=λx hx hl=>lookup_relabel_local (hnames x (cC.mp (List.mem_reverse.mp hx)).1 hl)
 have hv' :∀x∈(scope.names.filter λx=>(x.2 == .local || x.2 == .cell) && x.1 != (".0":Str)).reverse.drop 1++(scope.names.filter λx=>(x.2 == .local || x.2 == .cell) && x.1 != (".0":Str)).reverse.take 1,x.2= .local->Env.kindOf { cenv with scope:=relabel scope env } x.1=some .local:=λx hx hl=>by
  rcases aM.mp hx with h1 | h1
  ·exact hv x (List.mem_of_mem_drop h1) hl
  ·exact hv x (List.mem_of_mem_take h1) hl
 refine zS (zj (Jj (zS (yf (Z7 h₄ λr s' hr=> ?_) (by intro x;cases x)))))
 cases r with
 | ok f=>
  cases use with
  | none=>
   obtain⟨m,hn,hr⟩:=hr;exact zz (a8 (a_ (wpAny_comp_letGo (cenv:={ cenv with scope:=relabel scope env }) hkind _ s' m hv hn λh' m' _ hs' =>aw (hr h' hs'))))
  | some u=>
   refine zz (a8 (wpAny_rule (a8 (a_ (aG hr (λ_ s'' hr' => ?_) λ_ _ h' =>h')))));obtain⟨m,hn,hr'⟩:=hr';exact a8 (wpAny_comp_letGo (cenv:={ cenv with scope:=relabel scope env }) hkind _ s'' m hv' hn λh' m' _ hs' =>aw (hr' h' hs'))
 | error x=>
  have hr' :∃m,s'.heap.Ns cenv.locals m/\∀h',cL cenv.locals s'.heap h' ->∀cenv' :Env,cenv'.locals=cenv.locals->wpAny M A (passOn "comprehension.variables-let-go" x cenv' :Sem Value) (λ_ _=>False) E { s' with heap:=h' }:=by cases use <;> exact hr
  obtain⟨m,hn,hr⟩:=hr';exact zz (a8 (a_ (wpAny_comp_letGo (cenv:={ cenv with scope:=relabel scope env }) hkind _ s' m hv hn λh' m' _ hs' =>aG (hr h' hs' _ rfl) (λ_ _ f=>f.elim) λ_ _ y=>y)))
end
section
variable {prog:Program}{w:World}{A:Around}{R:Result->Shared->Prop}{s:Shared}
theorem Zc {elt target iter ifs rest scope pos it acc env}(h0:zJ (model prog w) A (.compLoop (.ListComp elt (⟨target,iter,ifs,0⟩ :: rest) scope pos) 0 it acc env) R s)
  (h:wpAny (model prog w) A (pyIter it) (λit' s' =>zJ (model prog w) A (.compLoop (.ListComp elt (⟨target,iter,ifs,0⟩ :: rest) scope pos) 0 it' acc env) R s') (notedBy (model prog w) A env λx s' =>R (.error x) s') s):
  zJ (model prog w) A (.compStart (.ListComp elt (⟨target,iter,ifs,0⟩ :: rest) scope pos) 0 it acc env) R s:=by
 refine zq ?_;show wpC _ _ ((compStart (.ListComp elt (⟨target,iter,ifs,0⟩ :: rest) scope pos) 0 it acc env).onRaise (λx=>do noteFrame x env;standAt theWindowsPlace)) _ _ s
 refine Ze (Z1 (E:=notedBy (model prog w) A env λx s' =>R (.error x) s') ?_ (λ_ _ q=>q) λ_ _ hx=>a8 (aG hx (λ_ _ e=>aN e) λ_ _ e=>e));unfold compStart;refine zz ?_;show wpAny _ _ (ask >>= _) _ _ s;refine a8 (wpAny_askSetting (wpAny_ite ?_));split
 ·first
   | exact a8 (aw (aw (And.intro rfl h0)))
   | exact aw (And.intro rfl h0)
 ·exact a8 (wpAny_rule (a8 (aN (a8 (aG h (λit' s' h' =>aw (And.intro rfl h')) λ_ _ x=>x)))))
end
end PySem
namespace PV
open PySem PySem.Spec PyProof.Rows L2
theorem JR {X:Cx}{R:Result->Shared->Prop}(hx:∀e s',X.xe e s' ->notedBy (model X.prog X.w) X.A X.env (λe s' =>R (.error e) s') e s')(hc:X.calm=true){tg iter elt:Expr}{ifs:List Expr}{scope:Scope}{pos:Pos}{J:It}{fp:List Addr}{it:Addr}{tn:Nat->Heap->Prop}(TJ:U2 X.prog X.w X.K tg J fp it tn)
  {g:TG} {tt:TT} {te:TE} (hg:PG X tg g) (ht:PIf X ifs tt) (he:PEC X elt te) {D:Addr} {fin:Sg->Hp->Prop} (W:Nat->Nat->List V->Sg->Hp->Prop) (turn:W5 J D g tt te fin W)
  (hR:∀s σ H,L2.Inv X [] σ H s->fin σ H->R (.ok .next) s) {m0:Nat} {σ0:Sg} {H0:Hp} {s0:Shared} (w0:W 0 m0 [] σ0 H0) (I0:L2.Inv X [] σ0 H0 s0) (t0:tn 0 s0.heap) (f0:∀b∈fp,jW X [] H0 b):
  zJ (model X.prog X.w) X.A (.compLoop (.ListComp elt [⟨tg,iter,ifs,0⟩] scope pos) 0 (.ref it) (.ref D) X.env) R s0:=by
 have stat:∀{H' :Hp},(∀b∈fp,H' b=none)->∀b∈fp,jW X [] H' b:=λhn b hb=>⟨hn b hb,(f0 b hb).2⟩;refine uK rfl (λn s' =>∃i ys σ' H',L2.Inv X [] σ' H' s' /\tn i s'.heap/\(∀b∈fp,H' b=none)/\W i n ys σ' H') (λn s3 h3=> ?_) m0 ⟨0,[],σ0,H0,I0,t0,λb hb=>(f0 b hb).1,w0⟩;obtain⟨i,ys,σ3,H3,I3,st3,fr3,w3⟩:=h3;show wpC _ X.A ((compTurn _ 0 _ _ _).onRaise (λx=>do noteFrame x _;theTreesLotGoes x)) _ _ s3
 refine Wf ?_;obtain⟨hD,h⟩:=turn i n ys σ3 H3 w3;rcases h with ⟨stop,qn⟩ | ⟨go,next⟩
 ·refine zb (aN (zb (thn (TJ.done X rfl rfl rfl hc i [] s3 σ3 H3 _ I3 (stat fr3) st3 stop) λr s4 ⟨hr,I4⟩=> ?_)));subst hr;exact zu (hR s4 σ3 H3 I4 qn)
 ·refine zb (aN (zb (thn (TJ.item X rfl rfl rfl hc i [] s3 σ3 H3 _ I3 (stat fr3) st3 go) λr s4 ⟨u,hr,h4⟩=> ?_)));subst hr;refine zb (thn h4 λ_ s5 ⟨x,H5,I5,r5,y5,st5,fr5⟩=> ?_);have I5' :=I5.pinned (stat fr5) (TJ.obj _ _ st5);refine zb (Jd hx (thn (hg _ s5 σ3 H5 x u _ I5' r5 (next x H5 y5)) λ_ s6 ⟨σ6,H6,I6,q6⟩=> ?_));have again:∀{σ7:Sg} {H7:Hp} {s7:Shared} {ys' :List V},L2.Inv X _ σ7 H7 s7->(∃m',m' < n/\W (i+1) m' ys' σ7 H7)->∃m,m < n/\∃i ys σ' H',L2.Inv X [] σ' H' s7/\tn i _/\(∀b∈fp,H' b=none)/\W i m ys σ' H' :=λ{σ7 H7 s7 ys'} I7 ⟨m',hm,w7⟩=>by
   refine⟨m',hm,i+1,ys',σ7,H7,I7.unpinned,TJ.keep _ _ _ st5 λb hb o e=>(I7.pin _ (au _ (au _ (zU hb e)))).1,λb hb=> ?_,w7⟩;obtain⟨o,e,d⟩:=TJ.obj _ _ st5 b hb;exact(I7.pin _ (au _ (au _ (zU hb e)))).2.1
  refine zb (Jd hx (thn (ht _ s6 σ6 H6 _ I6 q6) λk s7 ⟨H7,I7,q7⟩=> ?_));cases k with
  | false=>exact zu ⟨rfl,again I7 q7⟩
  | true=>
   refine zj (zj (Z1 (he _ s7 σ6 H7 _ I7 q7) (λv s8 ⟨y,H8,I8,r8,hD8,hlen,q8⟩=> ?_) hx));refine zb (Jd hx (thn (J0 _ s8 σ6 H8 (.ref D) [y] _ [v] (λ_ H9=>∃m',m' < n/\W _ m' _ σ6 H9) I8 rfl (.cons r8 .nil) ⟨D,ys,y,rfl,rfl,hD8,hlen,q8⟩) λw s9 ⟨_,H9,I9,_,q9⟩=> ?_));exact zu (zu ⟨rfl,again I9 q9⟩)
section
variable {X:Cx}
theorem yg {E:XK}(hp:Us X E){tg iter elt:Expr}{ifs:List Expr}{scope:Scope}{pos pos' :Pos}{N' :List Str}{k:Nat}{js:List Nat}{wi:TI}{g:TG}{tt:TT}{te:TE}{use:Option (Value->Sem Unit)}(S:CSc X scope)(CP:Ym X scope N' k js)(hc:X.calm=true)
  (hi:PI X tg iter wi) (hg:WI X scope N' λXC=>PG XC tg g) (ht:WI X scope N' λXC=>PIf XC ifs tt) (he:Yl X scope N' E λXC=>PEC XC elt te) {pins:List (Addr×Obj)} {σ:Sg} {H:Hp} {s:Shared} {Q:Value->Shared->Prop} {F:Addr->Hp->Prop} (I:L2.Inv X pins σ H s)
  (h:wi σ H λJ H1=>∀D,H1 D=none->∃W,(∃m,W 0 m [] (jw k js σ) (upd H1 D (.lst [])))/\W5 J D g tt te (λ_ H' =>F D H') W)
  (hQ:∀D C H' s',L2.Inv X pins σ H' s' ->F D H' ->H' C=none->(X.s₀.heap.objs.size<=C)->C ≠ X.env.locals->(∀x c,X.env.cells.lookup x=some c->c ≠ C)->(∀p∈X.pn++pins,p.1 ≠ C)->(∃m,s'.heap.Ns C m)->compPost (model X.prog X.w) X.A X.xe use Q (.ref D) C (.ok .next) s')
  (hs:∀x,foldedSetIterable iter X.env x=pure x:=by intro _;rfl):
  wpC (model X.prog X.w) X.A (comprehension (.ListComp elt [⟨tg,iter,ifs,0⟩] scope pos) scope X.env pos' (newList []) false (eval iter X.env) use) Q X.xe s:=by
 obtain⟨cl,ecl,hcl,hcf⟩:=wd (scope:=scope) (env:=X.env) λx hx hf=>I.ok.has x.1 (S.fre x hx hf);refine Zf rfl hs ecl S.kind S.loc ?_;refine thn (hi pins s σ H _ I h) λv s1 h1=>thn h1 λitv s2 h2=> ?_;obtain⟨it,fp,tn,J,H2,e,I2,TJ,st2,f2,q2⟩:=h2;subst e;refine bW ?_;have hD:=I2.hok.fresh (aj _);have I3:L2.Inv X pins σ (upd H2 s2.heap.objs.size (.lst [])) { s2 with heap:=s2.heap.push { cls:= .type "list",data:= .seq _ } }:=
  I2.laid (t' :=s2.toks) (λb u e=>a7 _ e) (aj _) ⟨bE _,[],_,.nil,am _ rfl⟩
 obtain⟨W,⟨m0,w0⟩,turn⟩:=q2 s2.heap.objs.size hD;have f3:∀b∈fp,jW X pins (upd H2 s2.heap.objs.size (.lst [])) b:=λb hb=>by
  obtain⟨o,eo,_⟩:=TJ.obj _ _ st2 b hb;exact⟨by rw[zg (aB (ag eo))];exact(f2 b hb).1,(f2 b hb).2⟩
 have o3:∀b∈fp,∃o,(s2.heap.push { cls:= .type "list",data:= .seq ([]:List Value).toArray }).get? b=some o:=λb hb=>by
  obtain⟨o,eo,_⟩:=TJ.obj _ _ st2 b hb;exact⟨o,a7 _ eo⟩
 refine wpAny_newFunctionEnv S.nocell (by intro y hy;simp at hy) (λh4 hns4 hsb4=> ?_) S.kind
 generalize hG:s2.heap.push _=G3 at I3 o3 hns4 hsb4 ⊢;have s3e:∃s3:Shared,s3={ s2 with heap:=G3 }:=⟨_,rfl⟩;obtain⟨s3,es3⟩:=s3e;have hh3:s3.heap=s2.heap.push { cls:= .type "list",data:= .seq ([]:List Value).toArray }:=by rw[es3,hG]
 have hg3:G3=s3.heap:=by rw[es3]
 rw[← es3]at I3;rw[hg3]at hns4 hsb4 o3;have k4:=λb o e=>hsb4.extBut b o (aB (ag e)) (a7 _ e);have IC:=W3 (N' :=N') (cl:=cl) (fp:=fp) (σ' :=jw k js σ) (tk:=s3.toks+([]:List (Str×Value)).length) I3 S hc hcl hcf f3 o3 hns4 k4 (by unfold jw;simp[CP.len]) (λi x v h1 h2=>by
  unfold jw at h2
  by_cases hik:i < k
  ·rw[aP (by simpa using hik),aA,if_pos hik]at h2
   cases h2
  ·have hk' :k<=i:=by omega
   rw[aJ (by simpa using hk'),aV,ax]at h2
   cases ej:js[i - k]? with
   | none=>rw[ej]at h2;cases h2
   | some j=>
    rw[ej]at h2;obtain⟨y,e1,e2,e3,e4,e5⟩:=CP.cap (i - k) j ej;have:k+(i - k)=i:=by omega
    rw[this,h1]at e1;cases e1;refine⟨j,e2, ?_,e3,e4,e5⟩;have h2' :some ((σ[j]?).getD none)=some (some v):=h2;cases ez:σ[j]? with
    | none=>rw[ez]at h2';cases h2'
    | some z=>rw[ez]at h2';exact congrArg some (aq h2'))
 have TC:U2 _ _ _ tg J fp it tn:=TJ;have t4:tn 0 h4:=TJ.keep _ _ _ st2 λb hb o e=>k4 b o (by rw[hh3];exact a7 _ e)
 have fC:∀b∈fp,jW (cxC X scope N' cl s3.heap.objs.size s3 (upd H2 s2.heap.objs.size (.lst [])) fp pins) [] _ b:=λb hb=>by
  obtain⟨q0,q1,q2,q3,q4,q5⟩:=f3 b hb;obtain⟨o,eo⟩:=o3 b hb;refine⟨q0,aB (ag eo),λhb' => ?_,.inl hb,λx c e=>q4 x c (hcl _ _ e),λp hp=> ?_⟩
  ·rcases ak.mp (I3.stkSub b hb') with z | z
   ·exact q1 z
   ·exact q2 z
  ·exact q5 p (by
    have:=hp;rwa[aT]at this)
 have fin:∀(s5:Shared) (σ5:Sg) (H5:Hp),L2.Inv (cxC X scope N' cl s3.heap.objs.size s3 (upd H2 s2.heap.objs.size (.lst [])) fp pins) [] σ5 H5 s5->F s2.heap.objs.size H5->compPost (model X.prog X.w) X.A X.xe use Q _ s3.heap.objs.size (.ok .next) s5:=λs5 σ5 H5 I5 q5=>by
  have J5:=I3.call' (ch:=fp) I5.os I5.base I5.hok I5.bare λb hb=>by
   obtain⟨q0,q1,q2,q3,q4,q5⟩:=f3 b hb;exact⟨q3,q1,q4,q5⟩
  refine hQ _ _ H5 s5 J5 q5 I5.free I3.sz (ce I3.lt) (λx c e z=> ?_) (λp hp z=> ?_) (let ⟨m,hm,_⟩:=I5.loc;⟨m,hm⟩)
  ·obtain⟨v',o,eo,_⟩:=I3.cell x c e;exact absurd (ag eo) (by rw[z];exact aS _)
  ·exact absurd (ag (I3.pin p hp).1) (by rw[z];exact aS _)
 have pass:zO (CX1 X.prog X.w) (XE (cxC X scope N' cl s3.heap.objs.size s3 (upd H2 s2.heap.objs.size (.lst [])) fp pins) (notedBy (model X.prog X.w) X.A (compEnvC scope cl s3.heap.objs.size X.env) λe s' =>compPost (model X.prog X.w) X.A X.xe use Q (.ref s2.heap.objs.size) s3.heap.objs.size (.error e) s')) E:=by
  intro pins1 σ1 H1 s1 e s' I1 c1;have J1:=I3.call' I1.os I1.base I1.hok I1.bare λb hb=>by
   obtain⟨q0,q1,q2,q3,q4,q5⟩:=f3 b hb;exact⟨q3,q1,q4,q5⟩
  obtain⟨m1,hm1,_⟩:=I1.loc;refine thn (hp pins σ H1 s1 e s' _ m1 _ _ J1 hm1 I1.free I3.sz (λz=> ?_) rfl c1) λ_ s'' q=> ?_
  ·obtain⟨_,o,eo,_⟩:=I3.stack.mem z;exact absurd (ag eo) (aS _)
  ·cases use <;> exact q
 have loop:=JR (X:=XE (cxC X scope N' cl _ s3 _ fp _) (notedBy _ X.A _ λe s' =>compPost _ X.A _ use Q _ _ _ s')) (iter:=iter) (scope:=scope) (pos:=pos) (λ_ _ z=>z) hc TC (VS rfl (hg _ _ _ _ _ _)) (qz rfl (ht _ _ _ _ _ _)) (he _ _ _ _ _ _ _ pass) W turn (λs5 σ5 H5 I5=>fin s5 σ5 H5 (u8 I5)) w0 (W4 IC) t4 fC;rw[es3]at loop;exact Zc loop (TJ.self _ _ _ _ _ t4 loop)
end
section
variable {X:Cx}{Y:Fx}{tg iter elt:Expr}{ifs:List Expr}{scope:Scope}{pos pos' :Pos}{N' :List Str}{k:Nat}{js:List Nat}{fi:En->R (List T)}{tG:TG}{g:T->En->R En}{ft:En->R Bool}{fe:En->R T}
structure WO (X:Cx) (Y:Fx) (tg iter elt:Expr) (ifs:List Expr) (scope:Scope) (N' :List Str) (k:Nat) (js:List Nat) (fi:En->R (List T)) (tG:TG) (g:T->En->R En) (ft:En->R Bool) (fe:En->R T):Prop where
 sc:CSc X scope
 cp:Ym X scope N' k js
 cm:X.calm=true
 it:wc X Y tg iter fi
 gt:WI X scope N' λXC=>PG XC tg tG
 gk:GOk tG g
 gn:GNo g
 tt:∀Y',Y'.cl=Y.cl->WI X scope N' λXC=>jj XC Y' ifs ft
 el:∀Y',Y'.cl=Y.cl->Yl X scope N' Y'.E λXC=>ZU XC Y' elt fe
 hs:∀x,foldedSetIterable iter X.env x=pure x
theorem wu (hp:Us X Y.E)(C:WO X Y tg iter elt ifs scope N' k js fi tG g ft fe):ZU X Y (.ListComp elt [⟨tg,iter,ifs,0⟩] scope pos) (Je fi g ft fe k js):= .mk λρ=>by
 intro pins s σ H Q I ⟨B,J,q⟩;refine yg hp (F:=λD H' =>Q (.ref D) H') (te:=λσ H Q=>∃Y' ρ',Y'.cl=Y.cl/\Y'.E=Y.E/\tS Y' rC fe ρ' σ H Q) (tt:=λσ H Q=>∃Y' ρ',Y'.cl=Y.cl/\tS Y' rE ft ρ' σ H Q) C.sc C.cp C.cm (C.it ρ) C.gt
  (λcl Cx' s3 H3 fp pins pins' s σ H Q I ⟨Y',ρ',ey,q⟩=>C.tt Y' ey cl Cx' s3 H3 fp _ ρ' _ s σ H Q I q) (λcl Cx' s3 H3 fp pins xe hp pins' s σ H Q I ⟨Y',ρ',ey,eE,q⟩=>(C.el Y' ey cl Cx' s3 H3 fp _ xe (eE ▸ hp)).go ρ' _ s σ H Q I q) I ?_ ?_ C.hs
 ·refine step J q λts it' H1 _ s1 r1 J1 q1=> ?_;intro D hD;unfold UN at q1;split at q1
  ·rename_i hl;refine JM C.gk C.gn J1 r1 hl rfl hD ?_;revert q1;cases zt g ft fe ts _ with
   | bad=>exact λq1=>q1
   | ex c=>exact λq1 d H' a b=>q1 d H' (J1.sH.trans a) b
   | ok vs=>
    intro q1 H' xs B' s' e' r' l' b' sb';refine(show Po Y rC _ H1 _ Q from q1) _ H' s' ?_;exact .lst (by rw[zD hD];exact e') (r'.mono l')
  ·exact q1.elim
 ·intro D Cc H' s' I' q' hC h0 hL hcell hpin hns;obtain⟨m,hm⟩:=hns;refine⟨m,hm,λh' hsb=>⟨.ref D,H', ?_,rfl,q'⟩⟩;exact I'.turned (λb o hb e=>hsb.extBut b o hb e) hC (bu hL).symm (.inr h0) hcell hpin
end
end PV
namespace PySem.W
open PySem PySem.Calls PyProof.Rows
abbrev WalkC (q:Program)(loose:List Str)(XP:(Str->Option Value)->Heap->Prop)(YP:World->Heap->Prop)(r:RowW)(d:DefRec)(kwd:List (Str×Expr)):Prop:=
 ∀(w:World) (s₀ s₁:Shared) (mg mb:Str->Option Value),Ground q loose r.records XP w s₀ mg mb s₁.heap->YP w s₁.heap->∀(a:Addr) (o:Obj) (pm cd doc dV kV:Value),s₁.heap.get? a=some o->
  o.data= .func { docDef d.name d.params d.body d.scope pm cd doc with defaults:=dV,kwdefaults:=kV }->s₁.heap.CodeRec cd d.name->Dflts mg s₁.heap d.params kwd dV kV->mg d.name=some (.ref a)->s₁.gens= #[]->
  ∀(args:List WData) (vals:List Value) (as:List Addr),r.claim.pre args=true->WData.layableAll args=true->ReadsAllW r.records (classAt s₀.heap) s₁.heap vals args as->WellAll w.params s₁.heap vals args->(∀a∈as,(a == sysModules)=false)->
   zJ (model r.prog w) callerA (.call (.ref a) ⟨vals,[]⟩) (λres s' =>match res with
    | .ok (.ret v)=>GoodWG r.claim (classAt s₀.heap) (ExcName.means s₀.heap) args s₁ (.ok (.ret v)) s'
    | .ok _=>False
    | .error e=>GoodWG r.claim (classAt s₀.heap) (ExcName.means s₀.heap) args s₁ (.error e) s') s₁
noncomputable abbrev Γ0:Ctx:=⟨.builtin "claim.caller" {},none,none,[],none⟩
theorem YK {prog:Program}{w:World}{t:Sem Fin}{s:Shared}{R:Result->Shared->Prop}(hreg:s.asleep)
  (h:fN (model prog w) Γ0 t (λfin _ s' =>∃f,fin= .done f/\(R (.ok f) s' /\leftWithCleanup s'.gens=false)) (λe _ s' =>R (.error e) s' /\leftWithCleanup s'.gens=false) default s):
  ∃n r s' s'',runN (denote table) prog w n s ⟨t,.builtin "claim.caller" {},default,[]⟩= .halted (outcomeOf r) s' /\
   schedN (denote table) prog w n (.single s ⟨t,.builtin "claim.caller" {},default,[]⟩)= .halted (outcomeOf r) s' /\s'.forget=s''.forget/\R r s'' :=by
 obtain⟨n,r,s₁,s₂,hs,hn,hfo,hR⟩:=wp_halts_full (M:=model prog w) (R:=R) hreg (bi _ _ _ (λfin p' s' h' =>by obtain⟨f,rfl,hf⟩:=h';exact hf) (λ_ _ _ h' =>h') _ _ h)
 exact⟨n,r,s₂,s₁,hn,hs,hfo,hR⟩
theorem YL {prog:Program}{w:World}{s:Shared}{mg:Str->Option Value}{name:Str}{a:Addr}{vs:List Value}{Q:Fin->Shared->Prop}{E:Value->Shared->Prop}(hg:s.heap.Ns mainGlobals mg)(hf:mg name=some (.ref a))
  (h:zJ (model prog w) callerA (.call (.ref a) ⟨vs,[]⟩) (λres s' =>match res with | .ok (.ret v)=>Q (.done (.ret v)) s' | .ok _=>False | .error e=>E e s') s):
  fN (model prog w) Γ0 (do match ← nsGet mainNs name with | some f=>do ret (← PySem.call f vs) | none=>unsupported "claim.caller:no-such-global") (λfin _ s' =>Q fin s') (λe _ s' =>E e s') default s:=by
 have hq:∀p,fN (model prog w) Γ0 (do ret (← PySem.call (.ref a) vs)) (λfin _ s' =>Q fin s') (λe _ s' =>E e s') p s:=λp=>by
  rw[bY];show fN _ _ (runValue _) _ _ _ _;rw[fK];refine wpCode_mono (λr s' hr=> ?_) (h _ p rfl (caller_in.enter _ none p (by intro x;cases x)) ⟨_,ai,rfl⟩)
  cases r with
  | error e=>exact hr
  | ok fl=>
   cases fl with
   | ret v=>exact hr
   | next=>exact hr.elim
   | brk=>exact hr.elim
   | cont=>exact hr.elim
 have:=wpAny_nsGet (M:=model prog w) (A:=callerA) (E:=λ_ _=>False) (Q:=λv s' =>v=some (.ref a)/\s' =s) hg (name:=name) ⟨hf,rfl⟩ Γ0 default caller_in;rw[bY];refine bi _ _ _ (λv p s' ⟨e1,e2⟩=> ?_) (λ_ _ _ z=>z.elim) _ _ this;subst e1 e2;exact hq p
theorem Wk {l:OpenLaw}{n:Nat}{q:Program}{loose:List Str}{XP:(Str->Option Value)->Heap->Prop}{YP:World->Heap->Prop}{d:DefRec}(hn:l.most=some n)(hdf:d.params.defaults=[])
  (call:∀(w:World) (s₀ s₁:Shared) (mg mb:Str->Option Value) (fa:Addr) (o:Obj) (pm cd doc:Value) (a:Addr) (vs:List Value) (ns:List Int),Ground q loose [] XP w s₀ mg mb s₁.heap->YP w s₁.heap->
   s₁.heap.get? fa=some o->o.data= .func (docDef d.name d.params d.body d.scope pm cd doc)->s₁.heap.CodeRec cd d.name->mg d.name=some (.ref fa)->
   s₁.heap.get? a=some { cls:= .type "list",data:= .seq vs.toArray }->IntsAre vs ns->ns.length<=n->s₁.gens= #[]->
   zJ (model l.prog w) callerA (.call (.ref fa) ⟨[.ref a],[]⟩) (λr s' =>r= .ok (.ret (.bool true))/\OldK s₁.heap s'.heap/\s'.os=s₁.os/\AllBare s'.gens) s₁):WalkC q loose XP YP l.row.toRowW d []:=by
 intro w s₀ s₁ mg mb G Y fa o pm cd doc dV kV ho hd hcd hD hmg hg args vals as hpre hlay hrd hwl hlo;obtain rfl:dV= .none:=Dflts.none hD hdf;obtain rfl:kV= .none:=Dflts.noKw hD;obtain⟨a,vs,ns,rfl,rfl,hobj,hints,hlen⟩:=Att.script_of hn hpre hwl;refine Z7 (call w _ _ mg mb fa o pm cd doc a vs ns G Y ho (fd_plain hd) hcd hmg hobj hints hlen hg) λr s' hq=> ?_;obtain⟨rfl,h2,h3,h4⟩:=hq;exact⟨.inl ⟨.bool _,.bool _,[],rfl,λ_=>rfl,.bool _,Att.post_true l _,λ_=>⟨List.Pairwise.nil,λ_ hm=>(nomatch hm)⟩⟩,h2,h3,h4⟩
theorem uR {c:ClaimW}{tree:List Value->Sem Fin}{w:World}{s:Shared}{free:Addr->Prop}{gens:Prop}{kept:Heap->Prop}(hz:s.asleep)(hgens:s.gens= #[])
  (hspec:∀args,c.pre args=true->WData.layableAll args=true->∀ord:List DictEntry->List DictEntry,(∀l,(ord l).Perm l)->∃vs s₁,layAllW c.records (classAt s.heap) w.params ord args s=some (vs,s₁)/\
    fN (model c.prog w) Γ0 (tree vs) (λfin _ s' =>∃f,fin= .done f/\(c.Ends s args vs s₁ (.ok f) s' /\s'.os=s.os/\AllBare s'.gens/\kept s'.heap)) (λe _ s' =>c.Ends s args vs s₁ (.error e) s' /\s'.os=s.os/\AllBare s'.gens/\kept s'.heap) default s₁):
  c.CallFrom (λvs=>⟨tree vs,.builtin "claim.caller" {},default,[]⟩) w free gens kept s:=by
 intro args hpre hlay ord hord;obtain⟨vs,s₁,hlaid,hcode⟩:=hspec args hpre hlay ord hord;have hal:=layAllW_rest _ _ _ hlaid;obtain⟨k,r,s',s'',hrun,hsched,hfo,hcase,hos,hkp⟩:=YK (prog:=c.prog) (w:=w) (t:=tree vs) (s:=s₁) (R:=λr s' =>c.Ends s args vs s₁ r s' /\s'.os=s.os/\kept s'.heap) (Shared.asleep_of_life hal.2.2.2 hz)
  (bi _ _ _ (by
   rintro fin _ s' ⟨f,e,h1,h2,h3,h4⟩
   exact⟨f,e,⟨h1,h2,h4⟩,leftWithCleanup_false_of_bare h3⟩) (by
   rintro e _ s' ⟨h1,h2,h3,h4⟩
   exact⟨⟨h1,h2,h4⟩,leftWithCleanup_false_of_bare h3⟩) _ _ hcode)
 obtain⟨eh,_,_,eo,_⟩:=Shared.forget_eq hfo;have hcase:=hcase.congr eh;have hkp:kept s'.heap:=by first | exact eh ▸ hkp | (rw[eh]at hkp;exact hkp) | (rw[← eh]at hkp;exact hkp)
 rw[← eo]at hos;have hlife:s'.heap.life=s.heap.life:=(runN_life _ _ _ hrun).trans hal.2.2.2;refine⟨vs,s₁,hlaid,k,_,s',hsched, ?_,(λ_ i x hx=>by rw[hgens]at hx;simp at hx),hkp,by rw[hlife],Shared.rest_eq hos⟩
 rcases hcase with ⟨v,rfl,d1,d2,d3,d4,d5⟩ | ⟨e,ob,cls,rfl,d1,d2,d3,d4,d5⟩
 ·exact .inl ⟨v,rfl,d1,d2,d3,λb o y _=>d4 b o y,d5⟩
 ·exact .inr ⟨e,ob,cls,rfl,d1,d2,d3,d4,λb o y _=>d5 b o y⟩
theorem _root_.CH.PySem.W.holds_open {r:OpenRow}{q:Program}{loose:List Str}{Xt:Shared->Bool}{XP:(Str->Option Value)->Heap->Prop}{α:Type}{Yf:Shared->α}{Ya:World->α}{YP:World->Heap->Prop}{d:DefRec}{kwd:List (Str×Expr)}{N:Nat}
  (left:LeftO r.prog q loose Xt Yf Ya N) (hY:∀w s,Yf s=Ya w->YP w s.heap) (hYk:∀w h h',YP w h->(∀b o,h.get? b=some o->h'.get? b=some o)->YP w h')
  (hX:∀s,Xt s=true->XP (s.heap.nsMap mainGlobals) s.heap) (hXk:∀mg h h',XP mg h->(∀b o,h.get? b=some o->h'.get? b=some o)->XP mg h')
  (hdef:defOf q r.name=some (d,kwd)) (hp:r.prog.theDef r.name=some (d.params,d.body,d.scope)) (hk:kwWritten? d.params.kwonlyargs d.params.kw_defaults=some kwd) (hRf:∀s,Xt s=true->RecFacts r.records s.heap) (hwr:(!r.writes || r.records.isEmpty)=true)
  (k1:r.wellSaid=true) (ok:(chainsOk q && opensWell r.prog && (frees r.toRowW && r.within.isEmpty))=true) (hb:r.prog.bare) (hw:r.toRowW.promised)
  (call:WalkC q loose XP YP r.toRowW d kwd):r.Holds:=by
 refine⟨k1,hw, ?_⟩;obtain⟨ok,k5⟩:=d7.mp ok;obtain⟨hch,o1⟩:=d7.mp ok;obtain⟨k5,k6⟩:=d7.mp k5;obtain⟨hsame,hu,ha,hap,hm⟩:=frees_parts k5;refine⟨⟨hb,o1,by show r.makers.map _=[];rw[hm];rfl⟩,hw.witness,λw=>⟨(left.behind hX hch w).1,λs' hs' => ?_⟩⟩
 obtain⟨s₀,hf,hg0,s,hT,hz,hgens,hg,G00,y⟩:=(left.behind (XP:=λmg h=>XP mg h/\RecFacts r.records h) (λs hs=>⟨hX s hs,hRf s hs⟩) hch w).2 s' hs';have G0:Ground q loose [] XP w s (s.heap.nsMap mainGlobals) (s.heap.nsMap builtinsNs) s.heap:=⟨G00.T,G00.B,G00.D,G00.TE,G00.TD,G00.W,G00.X.1,G00.cls,G00.has,G00.apart,G00.once,G00.K⟩;have RF:=G00.X.2;have hT' :=hT;refine⟨s₀,hf,hg0,s,hT,λn hn=> ?_,RF.1,RF.2.1, ?_⟩
 ·obtain rfl:n=r.name:=by split at hn <;> simp_all
  exact pinned_of_view hg G0 hdef hp hk
 have hgens:s.gens= #[]:=Array.eq_empty_of_size_eq_zero (beq_iff_eq.mp hgens);have G:Ground q loose r.records XP w s _ _ s.heap:=RF.ground G0;refine uR (c:=r.claim) hz hgens λargs hpre hlay ord hord=> ?_;obtain⟨⟨vs,s₁⟩,hlaid⟩:=bZ.mp (layAllW_isSome (P:=w.params) (ord:=ord) G.has args r.args s (pre_splitW hpre).1);have keeps:=layAllW_keeps _ _ _ hlaid;have hal:=layAllW_rest _ _ _ hlaid;obtain⟨as,hrd,hin,hold⟩:=reads_layAllW hord _ _ _ hlaid hlay s₁.heap (λ_ _ e=>e);have L:Laid r.records w s s₁ args vs as:=⟨⟨ord,hord,hlaid⟩,hrd,hin,hold,keeps,hal.1.trans hgens,hal.2.2.1⟩;have G₁:=G.keeps hXk keeps;obtain⟨a,o,pm,cd,doc,dV,kV,h1,h2,h3,h4,h5⟩:=G₁.fn hdef;have hi:=ident_freeW hu ha hap;have hwi:r.claim.within=[]:=List.isEmpty_iff.mp k6;refine⟨vs,s₁,hlaid,YL G₁.T.g h1 (Z7 (call w s s₁ _ _ G₁ (hYk _ _ _ (hY w s y) keeps) a o pm cd doc dV kV h2 h3 h4 h5 (defOf_name hdef ▸ h1) L.gens args vs as hpre hlay L.reads L.well (L.low G.low)) λres s' g=> ?_)⟩;cases res with
 | error e=>exact have z:=GoodWG.laid (c:=r.claim) hsame hwi hi L g;⟨z.1,z.2.1,z.2.2,λq=>⟨namesKept_of hT' hg _ keeps g.2.1.old,noTable hwr q⟩⟩
 | ok fl=>
  cases fl with
  | ret v=>exact have z:=GoodWG.laid (c:=r.claim) hsame hwi hi L g;⟨_,rfl,z.1,z.2.1,z.2.2,λq=>⟨namesKept_of hT' hg _ keeps g.2.1.old,noTable hwr q⟩⟩
  | next=>exact g.elim
  | brk=>exact g.elim
  | cont=>exact g.elim
end PySem.W
namespace L2
open PySem PySem.Spec PyProof.Rows PySem.W
theorem uS {P:Program}{w:World}{K:Frag}{mg mb:Str->Option Value}{CX:CXT}{k:Nat}{fa a c Pt:Addr}{fd:FuncData}{x q:Str}{sp:Sp}{s₁:Shared}{vs:List Value}{ns:List Int}
  (KX:K.In s₁.heap) (hns:s₁.heap.Ns mainGlobals mg) (hb:s₁.heap.Ns builtinsNs mb) (hbb:∀x:Str,x ≠ "__name__"->mb x=bootBuiltins x) (hlim:s₁.heap.NoLimit) (hg:s₁.gens= #[])
  (ha:s₁.heap.get? a=some { cls:= .type "list",data:= .seq vs.toArray }) (hi:IntsAre vs ns) (hl:ns.length<=sizeLine) (hr:Z8 k callerA)
  (hbt:s₁.heap.BuiltinsAt mg Pt) (hPt:s₁.heap.get? Pt=some (tabObj #[])) (hKP:K.lookup Pt=none) (hC:codeHdIn K c Pt=true) (hKa:K.lookup a=none)
  (F:∀base:Heap,K.In base->base.BuiltinsAt mg Pt->ZB P w K mg base CX k fa fd [x] sp) (hbind:∀(s:Shared) (u:Value),BindsTo s fd ⟨[u],[]⟩ [(x,u)])
  (hsp:∀(H:Hp) (o:Obj),H a=some (.frz o (.lst (ns.map V.int)))->H Pt=some (.tbl #[] q)->sp [.ref a] H (λv _=>v= .bl true) λ_ _ _=>False)
  (hCX:∀H e s',CX [] H s₁ (λ_ _ _=>False) e s' ->False):
  zJ (model P w) callerA (.call (.ref fa) ⟨[.ref a],[]⟩) (λr s' =>r= .ok (.ret (.bool true))/\OldK s₁.heap s'.heap/\s'.os=s₁.os/\AllBare s'.gens) s₁:=by
 have rv:=wZ hi;have hne:Pt ≠ a:=λz=>by rw[z,ha]at hPt;cases hPt
 obtain⟨H,hH⟩:∃H:Hp,H=upd (upd (λ_=>none) Pt (.tbl #[] q)) a (.frz { cls:= .type "list",data:= .seq vs.toArray } (.lst (ns.map V.int))):=⟨_,rfl⟩;have h1:H a=some (.frz { cls:= .type "list",data:= .seq vs.toArray } (.lst (ns.map V.int))):=by rw[hH,zl]
 have h2:H Pt=some (.tbl #[] q):=by rw[hH,zg hne,zl]
 have h3:∀b,b ≠ a->b ≠ Pt->H b=none:=λb n1 n2=>by rw[hH,zg n1,zg n2]
 have hok:HOk P w H _:=λb o e=>by
  by_cases b1:b=a
  ·subst b1;rw[h1]at e;cases e;exact⟨ha,by rw[ah];exact hl,vs,_,rv,ha⟩
  ·by_cases b2:b=Pt
   ·subst b2;rw[h2]at e;cases e;exact⟨#[],hPt,trivial,λp cv z=>by cases z⟩
   ·rw[h3 b b1 b2]at e;cases e
 have noD:∀{b:Addr} {o:Obj} {es:Array _} {ep:Nat},s₁.heap.get? b=some o->o.data= .dict es ep->H b=none:=λ{b o es ep} e d=>h3 b (λz=>by rw[z,ha]at e;cases e;cases d) λz=>by rw[z,hPt]at e;cases e;cases d
 have nsK:∀{b:Addr} {m:Str->Option _},s₁.heap.Ns b m->(vN _ H).Ns b m:=λ{b m} ⟨o,es,ep,e,d,r⟩=>⟨o,es,ep,JW e (noD e d),d,r⟩;have hKb:=λb o e=>JW (KX b o e) (h3 b (λz=>by rw[z,hKa]at e;cases e) λz=>by rw[z,hKP]at e;cases e)
 have hM:Mod K mg _:=⟨hKb,nsK hns,⟨mb,nsK hb,hbb⟩,let ⟨mc,h1,h2⟩:=hlim;⟨mc,nsK h1,h2⟩⟩;have hBT:(vN s₁.heap H).BuiltinsAt mg Pt:=by
  obtain⟨bm,o,b1,b2,b3,b4,b5,b6,b7,b8⟩:=hbt;exact⟨bm,o,b1,b2,b3,b4,JW b5 (h3 bm (λz=>by rw[z,ha]at b5;cases b5;cases b8) b4),b6,b7,b8⟩
 have e0:U3 P w K mg _ callerA [] _ H:=⟨rfl,hM,λb o e=>Q3 e,f8 (U9 _ _),trivial,λb hb=>absurd (show b∈([]:List _) from hb) (by simp),hok,.of_eq hg⟩
 refine Z7 ((F _ hKb hBT).run _ [] _ H _ _ [.ref a] _ _ hr e0 (hbind _ _) (.cons rfl .nil) (hsp H _ h1 h2)) λr s' h=> ?_;cases r with
 | error e=>exact(hCX H e s' h).elim
 | ok fl=>
  cases fl with
  | next=>exact aU h
  | brk=>exact aU h
  | cont=>exact aU h
  | ret u=>
   obtain⟨v,H',os,bare,un,hok',r',qv⟩:=h;have q' :=qv;subst q';obtain rfl:u=Value.bool _:=r';refine⟨rfl,⟨λb o e=> ?_,λb o e=>un.there b o e (by simp)⟩,os,bare⟩
   by_cases b1:b=a
   ·subst b1;have z2:=un.frzs b _ _ h1;obtain⟨e2,_⟩:=hok' b _ z2;rw[ha]at e;cases e;exact .inl e2
   ·by_cases b2:b=Pt
    ·subst b2;obtain⟨more,e2,_⟩:=hok' b _ (un.tbls b _ _ h2);rw[hPt]at e;cases e;exact .inr (.inl ⟨((codeHd_of_K KX hC).tab hPt).isCodeTable,rfl, #[],more,rfl,e2⟩)
    ·exact .inl (un.keep b o e (h3 b b1 b2) (by intro z;exact absurd (show b∈([]:List _) from z) (by simp)) (by simp))
theorem walk_ofTC {l:OpenLaw}{n k:Nat}{q:Program}{loose:List Str}{XP:(Str->Option Value)->Heap->Prop}{YP:World->Heap->Prop}{d:DefRec}{K:Params->Frag}{ts:List Addr}{CX:World->CXT}{sp:World->Addr->Sp}{x nm:Str}
  (hn:l.most=some n) (hn2:n<=sizeLine) (hdf:d.params.defaults=[]) (hr:Z8 k callerA)
  (hY:∀(w:World) (h:Heap),YP w h->(K w.params).In h/\∀P∈ts,h.get? P=some (tabObj #[])) (hKa:∀(w:World) (a:Addr) (o:Obj),(K w.params).lookup a=some o->o.cls ≠ .type "list")
  (F:∀(w:World) (mg:Str->Option Value) (fa:Addr) (h:Heap),(K w.params).In h->h.Ns mainGlobals mg->mg d.name=some (.ref fa)->(∀P∈ts,h.get? P=some (tabObj #[]))->
   ∃(fd:FuncData) (c Pt:Addr),(∀(s:Shared) (u:Value),BindsTo s fd ⟨[u],[]⟩ [(x,u)])/\h.get? Pt=some (tabObj #[])/\(K w.params).lookup Pt=none/\codeHdIn (K w.params) c Pt=true/\
    ∀base:Heap,(K w.params).In base->base.BuiltinsAt mg Pt->ZB l.prog w (K w.params) mg base (CX w) k fa fd [x] (sp w Pt))
  (hsp:∀(w:World) (H:Hp) (a Pt:Addr) (o:Obj) (ns:List Int),ns.length<=n->H a=some (.frz o (.lst (ns.map V.int)))->H Pt=some (.tbl #[] nm)->sp w Pt [.ref a] H (λv _=>v= .bl true) λ_ _ _=>False)
  (hCX:∀(w:World) (H:Hp) (s:Shared) (e:Value) (s' :Shared),CX w [] H s (λ_ _ _=>False) e s' ->False):
  WalkC q loose XP YP l.row.toRowW d []:=by
 refine Wk hn hdf λw s₀ s₁ mg mb fa o pm cd doc a vs ns G Y ho hd hcd hmg hobj hints hlen hg=> ?_;obtain⟨KX,hT⟩:=hY w _ Y;obtain⟨fd,c,Pt,hb,hPt,hKP,hC,hF⟩:=F w mg fa _ KX G.T.g hmg hT;obtain⟨bm,ob,b1,b2,b3,b4,b5,b6⟩:=G.T.bmain;have hbP:bm ≠ Pt:=λz=>by rw[z,hPt]at b3;cases b3;cases b4
 have hbG:bm ≠ mainGlobals:=λz=>by
  obtain⟨o,es,ep,e,hd,_⟩:=G.T.g;rw[z,e]at b3;cases b3;rw[hd]at b6;cases b6
 refine uS KX G.T.g G.T.b G.T.builtins G.T.nolimit hg hobj hints (aC hlen hn2) hr ⟨bm,ob,b1,b2,hbG,hbP,b3,b4,b5,b6⟩ hPt hKP hC ?_ hF hb (λH o h1 h2=>hsp w H a Pt o ns hlen h1 h2) λH e s' =>hCX w H _ e s';cases hk:(K _).lookup a with
 | none=>rfl
 | some o2=>
  have e:=KX a o2 hk;rw[hobj]at e;cases e;exact(hKa w a _ hk rfl).elim
end L2
namespace PySem
open PySem.W PyProof.Rows
section
variable {M:Model}{A:Around}{E:Value->Shared->Prop}{s:Shared}{env:Env}
theorem Wl {pos:Pos}{q:Addr}{Q:Value->Shared->Prop}(X:FnAt q s.heap)(h:wpC M A (call (.ref q) []) Q E s):wpC M A (callWith pos (.ref q) [] (backTo pos (starEach [] env)) []) Q E s:=by
 unfold callWith;refine zj (zS (zz (evalArgs_nil3 (zb (aN ?_)))));obtain⟨k,hk',L⟩:=keeps_F (M:=M) _ X;simp only[show ((backTo pos (starEach [] env)).any (·.1) || ([]:List (Option Str×Sem Value)).any (·.1.isNone))=false from rfl]
 refine zb (L.here ?_);have tail:∀{t:Sem Value},wpC M A t Q E s->wpC M A (t >>= λr=>holding [r] point >>= λ_=>pure r) Q E s:=
  λht=>zj (zi ht λr s₂ hr=>zz (a8 (a_ (d6 (aw hr)))))
 have marked (mk:Value):wpC M A (callMarked mk (.ref q) [] []) Q E s:=by
  intro Γ p hΓ hc;have:=h Γ p hΓ hc;unfold callMarked;rw[Sem.wp_keep];exact this
 rcases hk' with rfl | rfl | rfl <;> dsimp only <;> first | exact tail h | (split <;> first | exact tail h | exact tail (marked _))
end
section
variable {prog:Program}{w:World}{A:Around}{R:Result->Shared->Prop}{s:Shared}
theorem Jn {a:Addr}{args:Args}{o:Obj}{fd:FuncData}{body:Expr}(hroom:A.depth < recursionLimit)(ho:s.heap.get? a=some o)
  (hd' :o.data= .func fd) (hco:fd.scope.isCoroutine=false) (hgen:fd.scope.isGenerator=false) (hbody:fd.body= .expr body) (hcd:s.heap.CodeRec fd.code fd.qualname)
  (h:wpAny (model prog w) A.in1 (bindArgs fd args) (λbinds s₁=>wpAny (model prog w) A.in1 (newFunctionEnv fd.scope fd.globals fd.closure binds (fd.qualname++".<locals>.") (some a) fd.code none fd.builtins)
    (λenv s₂=>s₂.heap.NoLimit/\zJ (model prog w) A (.expr body env) R s₂) (λe s' =>R (.error e) s') s₁) (λe s' =>R (.error e) s') s):zJ (model prog w) A (.call (.ref a) args) R s:=by
 refine zq ?_;show wpC _ A.in1 (callAny (.ref a) args) _ _ s;simp only[callAny];refine zz (a8 (wpAny_load ho ?_));obtain⟨c,oc,vs,tq,hc,hoc,hdc,hq⟩:=hcd;simp only[hd',callFunction,hco,hgen,hbody,hc];rw[hc]at h;refine a8 (m:=field (.ref c) 1) (bQ hoc hdc hq (a8 (aw ?_)));exact a8 (aG h (λbinds s₁ h₁=>a8 (aG h₁ (λenv s₂ h₂=>a8 (wpAny_enterFrame h₂.1 hroom (aw (And.intro rfl h₂.2)))) λ_ _ h' =>h')) λ_ _ h' =>h')
end
end PySem
namespace L2
open PySem PySem.Spec PyProof.Rows PySem.W
section
variable {X:Cx}{pins:List (Addr×Obj)}{σ:St}{H:Hp}{s:Shared}
theorem ui {CX:CXT}{k:Nat}{f:Addr}{fd:FuncData}{ps:List Str}{sp:Sp}{E:XK}{Q:VK}{us:List Value}{vs:List V}(I:Inv X pins σ H s)(F:ZB X.prog X.w X.K X.mg (yW s H (frs X.stack)) CX k f fd ps sp)(hr:Z8 k X.A)(hb:Binds X.K fd ps [])(hx:zO CX X E)
  (r:zM vs us) (h:sp vs H Q E):wpC (model X.prog X.w) X.A (call (.ref f) us) (EP X pins σ Q) X.xe s:=by
 have hl:us.length=ps.length:=by rw[← r.length];exact F.len _ _ _ _ h
 have hb' :=hb s us I.kIn (by rw[aT];exact hl)
 rw[aT]at hb';refine jm (Z7 (F.run X.A _ s H _ us vs Q E hr I.big hb' r h) λr s' hq=> ?_);cases r with
 | error e=>exact hx _ σ H s e s' I hq
 | ok fl=>
  cases fl with
  | ret u=>exact I.after hq
  | next=>exact aU hq
  | brk=>exact aU hq
  | cont=>exact aU hq
end
section
variable {P:Program}{w:World}{K:Frag}{mg:Str->Option Value}{base:Heap}{N:List Str}{q:Str}{scope:Scope}{f:Addr}{cd:Value}{clos:List (Str×Addr)}{A:Around}{outer:List Env}{s:Shared}{H:Hp}{E:XK}
theorem uj {k:Nat}{params:Arguments}{body:Expr}{pm ctv:Value}{c' :Addr}{σ:St}{Q:VK}{te:TE}(S:LSc scope)(hr:Z8 (k+1) A)(e0:U3 P w K mg base A outer s H)(C:ud base H scope clos N σ)
  (hf:H f=some (.frz (YC q params body scope clos pm ctv c') (.own f))) (hc:Jh H q c') (hp:bindArgs (kla_fn "<lambda>" q params body scope clos pm (.ref c') ctv) ⟨[],[]⟩=pure [])
  (hb:PEC (cxL P w K mg base N q scope f (.ref c') clos A outer s H E) body te) (ht:te σ H Q):
  zJ (model P w) A (.call (.ref f) ⟨[],[]⟩) (CR (CX1 P w) outer P w H s Q E) s:=by
 have lim:=e0.mod.nolimit.keeps λb o e=>(e0.bs b o e).1;refine Jn hr.depth (e0.hok f _ hf).1 rfl S.co S.gen rfl (hc.rec e0.hok) ?_;rw[hp];refine aw (wpAny_newFunctionEnv S.nocell (λy hy=>by simp at hy) (λh1 hns hsb=> ?_) S.kind)
 have hk:=λb o e=>hsb.extBut b o (aB (ag e)) (a7 _ e);refine⟨lim.keeps hk, ?_⟩;have I:=QZ (q:=q) (f:=f) (cd:= .ref c') (E:=E) (tk:=s.toks+([]:List (Str×Value)).length) S hr.hd e0 C hns hk;exact uM (Z1 (hb [] _ σ H Q I ht) (λv s' ⟨x,H',J,r,q⟩=>⟨x,H',J.os,J.bare,J.base,J.hok,r,q⟩) λ_ _ z=>z)
end
def qJ (X:Cx)(E:XK)(i:Nat)(f:Addr)(o:Obj):TE:=λσ H Q=>σ[i]? =some (some (.ref f))/\H f=some (.frz o (.own f))/\
 ∀s,U3 X.prog X.w X.K X.mg X.base X.A X.stack s H->zJ (model X.prog X.w) X.A (.call (.ref f) ⟨[],[]⟩) (CR (CX1 X.prog X.w) X.stack X.prog X.w H s Q E) s
theorem YM {X:Cx}{E:XK}{i:Nat}{x:Str}{p pos:Pos}{f c' :Addr}{q:Str}{params:Arguments}{body:Expr}{scope:Scope}{clos:List (Str×Addr)}{pm ctv:Value}(hv:PE X (.Name x p) (Y0 i))(hx:zO (CX1 X.prog X.w) X E):
  PEC X (.Call (.Name x p) [] [] pos) (qJ X E i f (YC q params body scope clos pm ctv c')):=by
 intro pins s σ H Q I ⟨hσ,hf,run⟩;refine zN (thn (hv _ s σ H (λv H' =>v= .ref f/\H' =H) I ⟨_,hσ,rfl,rfl⟩) λu s1 ⟨v,H1,I1,r,e1,e2⟩=> ?_);subst e1 e2;obtain rfl:u=Value.ref f:=r;refine Wl ⟨_,_,_,_,(I1.hok f _ hf).1⟩ ?_;refine jm (Z7 (run s1 I1.env0) λr s' hq=> ?_);cases r with
 | error e=>exact hx _ σ H1 s1 e s' I1 hq
 | ok fl=>
  cases fl with
  | ret u=>exact I1.after hq
  | next=>exact aU hq
  | brk=>exact aU hq
  | cont=>exact aU hq
theorem YN {X:Cx}{tb:XK->TS}{th:TE}{body:List Stmt}{c n:Str}{C:Addr}{cp hp rp pos:Pos}{i:Nat}{e2:Expr}
  (hX:X.stack=X.env :: X.outer) (hf:X.env.frame=some X.env.locals) (hN:X.N.Nodup) (hi:X.N[i]? =some n) (hl:X.env.scope.names.lookup n=some .local) (hg:Gl X c) (hm:X.mg c=some (.ref C))
  (hb:∀(E' :XK) (pn:List (Addr×Obj)) (xe:Value->Shared->Prop),zO (CX1 X.prog X.w) (X.try' pn xe) E' ->WN (X.try' pn xe) body (tb E'))
  (he:∀ea,PE (X.mark' (.ref ea)) e2 th) (hdc:(c == ("__debug__":Str))=false:=by decide):
  PSC X (.Try body [.ExceptHandler (some (.Name c cp)) (some n) [.Return (some e2) rp] hp] [] [] pos)
   (λD σ H=>∃E' :XK,(∀(cls:Value) (d:Option Addr) (H' :Hp) (ea:Addr) (σ' :St),E' cls d H' ->exmOne X.K cls (.ref C)=some true/\(H' ea=none->σ'.length=σ.length->σ.length=X.N.length->th (σ'.set i (some (.ref ea))) (upd H' ea (.ext (Ur cls ea))) D.rt))/\tb E' D σ H):=by
 intro pins s σ H D I ⟨E',hE,hw⟩;have pass:zO (CX1 X.prog X.w) (X.try' (X.pn++pins) λe s1=>wpAny (model X.prog X.w) X.A (noteFrame e X.env) (λ_ s2=>wpAny (model X.prog X.w) X.A (setFlight e none) (λ_ s3=>wpAny (model X.prog X.w) X.A (handleBy e X.env [.ExceptHandler (some (.Name c cp)) (some n) [.Return (some e2) rp] hp]) (SP X pins D) X.xe s3) X.xe s2) X.xe s1) E' :=by
  intro pins' σ' H1 s1 e s' I1 ⟨ea,cls,a0,B,H',he',L,hw'⟩;subst he';have I0:=I1.untry;have fr:X.A.frames=some (X.env :: X.outer):=by rw[← hX];exact I0.ok.frames
  refine wpAny_looks_onW fr hf (hX ▸ L.fly) λh1 held sl1=> ?_;refine wpAny_landsW held λh2 fl2 sl2=> ?_;rw[← hX]at fl2;have sl12:=sl1.trans sl2;have I2:=I0.caught L fl2 sl12;obtain⟨hm1,hD⟩:=hE cls _ H' ea σ' hw';refine uD hm1 ?_;refine Zv (I2.mark' _) hg hm ⟨rfl,I2.kIn,fl2.there, ?_⟩ hdc;refine lands_againW fl2 λh3 fl3 sl3=> ?_;have I3:=I0.caughtX L fl3 (sl12.trans sl3);have hlen:=I0.len;refine jc (X:=X.mark' (.ref ea)) (I3.mark' _) hN hi (.inl hl) (v:= .ref ea) rfl (λs4 I4=> ?_) (.inr hl);have hs1:=Ud (qe (pos:=rp) (he ea));have hr:=hs1 _ s4 _ _ { nx:=λ_ _=>False,rt:=D.rt } I4 (hD L.fresh (hlen.trans I.len.symm) I.len);refine aG hr (λf s5 h5=> ?_) λ_ _ z=>z;cases f with
  | next=>obtain⟨_,_,_,z⟩:=h5;exact z.elim
  | brk=>obtain⟨_,_,_,z⟩:=h5;exact z.elim
  | cont=>obtain⟨_,_,_,z⟩:=h5;exact z.elim
  | ret u=>
   obtain⟨v,σ5,H5,I5,r5,q5⟩:=h5;refine Ql (I5.unmark I.ok.hd) hN hi hl λs6 I6=> ?_;exact⟨v,_,_,I6,r5,q5⟩
 have hr:=hb E' _ _ pass [] s σ H D (I.try' _) hw;refine gz (Z1 hr (λf s1 h1=> ?_) λ_ _ z=>z);have h1:=h1.untry;cases f with
 | next=>exact zz (bN h1)
 | brk=>exact h1
 | cont=>exact h1
 | ret u=>exact h1
section
variable {P:Program}{w:World}{K:a6}{mg:Str->Option Value}{base:Heap}
theorem Fun.okC {x qual:Str}{st:Stmt}{f:Addr}{fd:FuncData}{N ps:List Str}{k:Nat}{sp:Sp}(F:Fun K x qual st f fd)(S:Z6 N ps (za st))(len:∀vs H Q E,sp vs H Q E->vs.length=ps.length)
  (hbody:∀(cdv:Value) (A:Around) (outer:List Env) (s:Shared) (H:Hp) (vs:List V) (Q:VK) (E:XK),Z8 k (A.deeper (envOfC qual (za st) s.heap.objs.size f cdv))->sp vs H Q E->
   ∃t,WN (Z4 CX0 P w K mg base N qual (za st) f cdv A outer s H E).nox (zv st) t/\t { nx:=λ_ H' =>Q .non H',rt:=Q } (start N vs) H):ZB P w K mg base CX0 (k+1) f fd ps sp:=by
 obtain⟨oc,od,kV,doc,pm,an,cdv,ct,osl,rfl,lk,hcd⟩:=F.ex;refine yc lk hcd S len λA outer s H vs Q E hr hsp=> ?_;obtain⟨t,h,q⟩:=hbody cdv A _ s H vs Q E hr hsp;exact⟨t,λpins s σ H D I hw=>Z1 (h _ s σ H D (I.wish _) hw) (λ_ _ q=>q.unwish) λ_ _ z=>aU z,q⟩
end
end L2
namespace PV
open PySem PySem.Spec PyProof.Rows L2 PySem.W
def Gc (P:Program)(w:World)(K:Frag)(mg:Str->Option Value)(base:Heap)(cl:Nat->Value)(ok:Nat->Bool)(gx:Nat->R T)(k:Nat)(f:Addr)(o:Obj)(B:Hp)(r:R T):Sp:=λvs H Q E=>vs=[V.ref f]/\H f=some (.frz o (.own f))/\zh B H/\Po ⟨B,H,E,cl,[]⟩ rC B H (jR ok gx r) Q/\
 ∀(A:Around) (outer:List Env) (s:Shared) (E' :XK) (Q' :VK),Z8 (k+1) A->U3 P w K mg base A outer s H->Po ⟨B,H,E',cl,[]⟩ rC B H r Q' ->zJ (model P w) A (.call (.ref f) ⟨[],[]⟩) (CR (CX1 P w) outer P w H s Q' E') s
def WP (P:Program)(w:World)(K:Frag)(mg:Str->Option Value)(cl:Nat->Value)(ok:Nat->Bool)(gx:Nat->R T)(k:Nat)(ft:Addr)(fdt:FuncData)(d:Str):Prop:=
 ∀(base:Heap) (f c' :Addr) (q:Str) (params:Arguments) (body:Expr) (scope:Scope) (clos:List (Str×Addr)) (pm ctv:Value) (B:Hp) (r:R T),K.In base->ZB P w K mg base CX0 (k+2) ft fdt [d] (Gc P w K mg base cl ok gx k f (YC q params body scope clos pm ctv c') B r)
section
variable {X:Cx}{Y:Fx}
theorem vg {cl:Nat->Value}{ok:Nat->Bool}{gx:Nat->R T}{kE k:Nat}{x d q:Str}{c P ft:Addr}{fdt:FuncData}{params:Arguments}{body:Expr}{scope:Scope}{lp p pos:Pos}{js:List Nat}{fe:En->R T}(hy:Y.cl=cl)(L:Lm X c P q)(hT:Y.H0 P=some (.tbl #[] q))(hfn:∀x,X.fn x=true)
  (O:WP X.prog X.w X.K X.mg cl ok gx kE ft fdt d) (hr:Z8 k X.A) (hj:kE+2<=k) (gl:Gl X x) (mg:X.mg x=some (.ref ft)) (kp:keepIn X.K (.ref ft)=true) (bd:L2.Binds X.K fdt [d] [])
  (N' N:List Str) (sc0:Scope) (hN:X.N=N) (h0:X.env.scope=sc0) (hck:(Ys scope sc0 && UT N N' scope sc0 0 js)=true) (hco:scope.isCoroutine=false) (hge:scope.isGenerator=false)
  (hb:∀(base:Heap) (A:Around) (outer:List Env) (s:Shared) (H:Hp) (E:XK) (f c' :Addr) (clos:List (Str×Addr)) (Y' :Fx),X.K.In base->Y'.cl=cl->Y'.E=E->Z8 kE (A.deeper (envX q scope s.heap.objs.size f (.ref c') clos))->ZU (cxL X.prog X.w X.K X.mg base N' q scope f (.ref c') clos A outer s H E) Y' body fe)
  (hp:∀(clos:List (Str×Addr)) (pm cd ctv:Value),bindArgs (kla_fn "<lambda>" q params body scope clos pm cd ctv) ⟨[],[]⟩=pure []:=by intros;rfl) (hdef:defaultsOf params X.env=([],[]):=by rfl) (hd:(x == ("__debug__":Str))=false:=by decide):
  ZU X Y (.Call (.Name x p) [.Lambda params body scope lp] [] pos) (Ji js ok gx fe):= .mk λρ=>by
 intro pins s σ H Q I ⟨B,J,po⟩;subst hy;rw[a9]at hck;have CS:=ub sc0 h0 hck.1;have CP:=Jg N sc0 hN h0 hck.2;have S:LSc _:=⟨CS.kind,hco,hge,CS.nocell⟩;obtain⟨clos,ecl,hcl,hcf⟩:=wd λx hx hf=>I.ok.has x.1 (CS.fre x hx hf);refine zN (Zv I gl mg ?_ hd);have hP:=J.sH _ _ hT;have hpa:=zk (qF (body:=body) (pos:=lp) L hdef ecl) zB (st1 rfl) pos _ s σ H (λvs H1=>∃f c' pm ctv,vs=[V.ref f]/\zh H H1/\H1 f=some (.frz (YC q _ _ _ _ pm ctv c') (.own f))/\Jh H1 q c') I ⟨hP,λf c' pm ctv H' s1 hf hc=>⟨f,c',pm,ctv,rfl,s1,hf,hc⟩⟩;refine j1 kp (zi (zz hpa) λus s1 ⟨vs,H1,I1,r,f,c',pm,ctv,e,sm,hf,hc⟩=>⟨I1.kIn, ?_⟩) (st1 rfl) rfl;subst e;have J1:=J.grow sm;refine ui (E:=Y.E) I1 (O _ f c' q _ _ _ _ pm ctv _ (fe (JC 0 js ρ)) I1.big.mod.kin) (hr.mono hj) bd QK r ⟨rfl,hf,J1.sB, ?_,λA outer s2 E' Q' hrm e0 q' => ?_⟩
 ·have po:Po Y rC B H (jR ok gx _) Q:=po;revert po;cases jR ok gx _ with
  | bad=>exact λz=>z
  | ex c2=>exact λz d H' a b=>z d H' ((J.sH.trans sm).trans a) ((zx.ge J.sB sm).trans b)
  | ok t=>exact λz b H2 s2 rb=>z b H2 (sm.trans s2) (by rw[← zx.trans sm s2];exact rb)
 ·refine uj (te:=tS _ rC fe _) S hrm e0 (xn I1 hfn hcl hcf CP) hf hc (hp _ pm _ ctv) ?_ ⟨_,J1.blockS 0 js E' (zh.refl _),q'⟩;exact(hb _ A _ s2 H1 E' f c' _ ⟨zx B H H1,H1,E',Y.cl,[]⟩ e0.mod.kin rfl rfl (hrm.deeper _)).go _
end
section
variable {P:Program}{w:World}{K:a6}{mg:Str->Option Value}{base:Heap}
theorem vh {cl:Nat->Value}{x qual q:Str}{st:Stmt}{f c Pt:Addr}{fd:FuncData}{N ps:List Str}{k n:Nat}{fb:En->RS}{g:List T->R T}(F:Fun K x qual st f fd)(hc:fd.code= .ref c)(S:Z6 N ps (za st))(hn:n=ps.length)
  (hb:∀(A:Around) (outer:List Env) (s:Shared) (H:Hp) (E:XK) (Y:Fx),Y.cl=cl->Y.E=E->Y.H0 Pt=some (.tbl #[] q)->Z8 k (A.deeper (envOfC qual (za st) s.heap.objs.size f (.ref c)))->
   Jk (Z4 (CX1 P w) P w K mg base N qual (za st) f (.ref c) A outer s H E) Y (zv st) fb)
  (hg:∀ts,ts.length=n->g ts=zr (fb (en0 N.length ts))):ZB P w K mg base (CX1 P w) (k+1) f fd ps (qG cl n g Pt q):=by
 subst hn;obtain⟨oc,od,kV,doc,pm,an,cdv,ct,osl,rfl,lk,hcd⟩:=F.ex;obtain rfl:cdv= .ref c:=hc;refine yc lk hcd S (λvs H Q E z=>spP.len vs H Q E z.2) λA outer s H vs Q E hr ⟨hT,B,ts,hl,sB,r,q⟩=> ?_;refine⟨_,(hb A _ s H E ⟨B,H,E,cl,[]⟩ rfl rfl hT hr).go _,B,SI.start sB r, ?_⟩;rw[hg ts hl]at q;revert q;cases fb _ with
 | rt t=>exact λq v H' s r=>q v H' s r
 | rf t=>exact λq a xs H' B' s0 n e r _ l=>q _ H' s0 (.lst (by rw[zD n];exact e) (r.mono l))
 | nx ρ=>exact λq σ' H' B' _ I=>q _ H' I.sH .non
 | ex c=>exact λq=>q
 | bk ρ=>exact λq=>q.elim
 | ct ρ=>exact λq=>q.elim
 | bad=>exact λq=>q
end
end PV
namespace PySem
open PySem.W PyProof.Rows
section
variable {M:Model}{A:Around}{E:Value->Shared->Prop}{s:Shared}{env:Env}
theorem WQ {c:Code}{R:Result->Shared->Prop}(hq:c.quiet=true)(I:Nat->Shared->Prop)
  (turn:∀n s,I n s->wpC M (A.under c) (M.den c) (λfin s' =>match fin with | .done f=>R (.ok f) s' | .again c' =>(c' =c/\∃m,m < n/\I m s')\/(c'.quiet=true/\zJ M A c' R s')) (λe s' =>R (.error e) s') s)
  (n:Nat) (h:I n s):zJ M A c R s:=by
 induction n using fL generalizing s with
 | ind n ih=>
  refine zq (zi (turn n s h) λfin s' hf=> ?_);cases fin with
  | done f=>exact hf
  | again c' =>
   rcases hf with ⟨rfl,m,hm,hI⟩ | hf
   ·exact⟨hq,ih m hm hI⟩
   ·exact hf
theorem vi {c:Code}{Q:Flow->Shared->Prop}(hc:zJ M A c (λr s' =>match r with | .ok f=>Q f s' | .error e=>cameBackBy M A env E e s') s):wpC M A (runOwn c env none) Q E s:=by
 unfold runOwn;exact Ze (yf hc (by intro x;cases x))
theorem Gd {target iter body orelse pos}{Q:Flow->Shared->Prop}(h:wpAny M A (eval iter env) (λx s₁=>wpAny M A (pyIter x) (λit s₂=>zJ M A (.forLoop target it body orelse env) (λr s' =>match r with | .ok f=>Q f s' | .error e=>cameBackBy M A env E e s') s₂) E s₁) E s)
  (hs:∀x,foldedSetIterable iter env x=pure x):wpC M A (exec (.For target iter body orelse pos) env) Q E s:=by
 rw[exec_For];exact zb (aN (zb (aG h (λx s₁ h₁=>zb (wpAny_of_eq (hs x) (zb (aN (zb (a_ (aG h₁ (λit s₂ h₂=>vi h₂) λ_ _ h' =>h'))))))) λ_ _ h' =>h')))
end
section
variable {prog:Program}{w:World}{A:Around}{E:Value->Shared->Prop}{s:Shared}
theorem wv {R:Result->Shared->Prop}{target it body orelse env}(I:Nat->Shared->Prop)
  (turn:∀n s,I n s->wpAny (model prog w) A (pyNext it) (λr s₁=>match r with
   | none=>wpAny (model prog w) A (execs orelse env) (λf s₃=>R (.ok f) s₃) (notedBy (model prog w) A env λe s' =>R (.error e) s') s₁
   | some v=>wpAny (model prog w) A (letOwnedTupleGo target it v) (λ_ s₁' =>wpAny (model prog w) A (assign target env v) (λ_ s₂=>wpC (model prog w) A (execs body env) (λf s₃=>match f with
      | .next | .cont=>∃m,m < n/\I m s₃
      | .brk=>R (.ok .next) s₃
      | .ret v=>R (.ok (.ret v)) s₃) (notedBy (model prog w) A env λe s' =>R (.error e) s') s₂) (notedBy (model prog w) A env λe s' =>R (.error e) s') s₁') (notedBy (model prog w) A env λe s' =>R (.error e) s') s₁) (notedBy (model prog w) A env λe s' =>R (.error e) s') s)
  (n:Nat) (h:I n s):zJ (model prog w) A (.forLoop target it body orelse env) R s:=by
 refine WQ rfl I (λn s hI=> ?_) n h;show wpC _ A ((forTurn target it body orelse env).onRaise (λx=>do noteFrame x env;theTreesLotGoes x)) _ _ s
 refine Wf ?_;simp only[forTurn];refine zb (aN (zb (wpAny_onRaise (aG (turn n s hI) (λr s₁ h₁=> ?_) λ_ _ h' =>aN h'))));cases r with
 | none=>exact zu (.inr ⟨rfl,uf (codeAny_block h₁)⟩)
 | some v=>
  refine zb (aG h₁ (λ_ s₁' h₁' => ?_) λ_ _ h' =>h');refine zb (aG h₁' (λ_ s₂ h₂=>zj (zi h₂ λf s₃ h₃=> ?_)) λ_ _ h' =>h');cases f with
  | next=>exact zu (.inl ⟨rfl,h₃⟩)
  | cont=>exact zu (.inl ⟨rfl,h₃⟩)
  | brk=>exact zu h₃
  | ret v=>exact zu h₃
end
end PySem
namespace L2
open PySem PySem.Spec PyProof.Rows
section
variable {X:Cx}{tg:Expr}
theorem vj {iter:Expr}{body:List Stmt}{wi:TI}{g:TG}{tb:TS}{pos:Pos}(hp:PassesOwn (model X.prog X.w) X.A X.env X.xe)(hc:X.calm=true)(hi:PI X tg iter wi)(hg:PG X tg g)(hb:WN X body tb)
  (hs:∀x,foldedSetIterable iter X.env x=pure x:=by intro _;rfl):PSC X (.For tg iter body [] pos) (g9 wi g tb):=by
 intro pins s σ H D I h;refine Gd (thn (hi _ s σ H _ I h) λv s1 h1=>thn h1 λitv s2 h2=> ?_) hs;obtain⟨it,fp,tn,J,H2,e,I2,T,st2,f2,W,⟨m0,w0⟩,turn⟩:=h2;subst e;have stat:∀{H' :Hp},(∀b∈fp,H' b=none)->∀b∈fp,jW X _ H' b:=λhn b hb=>⟨hn b hb,(f2 b hb).2⟩;refine wv (λn s' =>∃i σ' H',Inv X _ σ' H' s' /\tn i s'.heap/\(∀b∈fp,H' b=none)/\W i n σ' H') ?_ m0 ⟨0,σ,H2,I2,st2,λb hb=>(f2 b hb).1,w0⟩
 rintro n s3 ⟨i,σ3,H3,I3,st3,fr3,w3⟩
 rcases turn i n σ3 H3 w3 with ⟨stop,qn⟩ | ⟨go,N,hN,step⟩
 ·refine bB hp (thn (T.done X rfl rfl rfl hc i _ s3 σ3 H3 _ I3 (stat fr3) st3 stop) λr s4 ⟨hr,I4⟩=> ?_);subst hr;exact bN ⟨σ3,H3,I4,qn⟩
 ·refine bB hp (thn (T.item X rfl rfl rfl hc i _ s3 σ3 H3 _ I3 (stat fr3) st3 go) λr s4 ⟨u,hr,h4⟩=> ?_);subst hr;refine bB hp (thn h4 λ_ s5 ⟨x,H5,I5,r5,y5,st5,fr5⟩=> ?_);have I5' :=I5.pinned (stat fr5) (T.obj _ _ st5);refine bB hp (thn (hg _ s5 σ3 H5 x u _ I5' r5 (step x H5 y5)) λ_ s6 ⟨σ6,H6,I6,q6⟩=> ?_);refine Z1 (hb _ s6 σ6 H6 _ I6 q6) (λf s7 q7=> ?_) hp;have again:∀{σ7:St} {H7:Hp},Inv X (pins++wP fp _) σ7 H7 s7->N σ7 H7->∃m,m < n/\∃i σ' H',Inv X _ σ' H' s7/\tn i _/\(∀b∈fp,H' b=none)/\W i m σ' H' :=λ{σ7 H7} I7 n7=>by
   obtain⟨m',hm,w7⟩:=hN σ7 H7 n7;refine⟨m',hm,i+1,σ7,H7,I7.unpinned,T.keep _ _ _ st5 λb hb o e=>(I7.pin _ (au _ (au _ (zU hb e)))).1,λb hb=> ?_,w7⟩;obtain⟨o,e,d⟩:=T.obj _ _ st5 b hb;exact(I7.pin _ (au _ (au _ (zU hb e)))).2.1
  cases f with
  | next=>obtain⟨σ7,H7,I7,n7⟩:=q7;exact again I7 n7
  | cont=>obtain⟨σ7,H7,I7,n7⟩:=q7;exact again I7 n7
  | brk=>obtain⟨σ7,H7,I7,q7⟩:=q7;exact⟨σ7,H7,I7.unpinned,q7⟩
  | ret v=>obtain⟨x7,σ7,H7,I7,r7,q7⟩:=q7;exact⟨x7,σ7,H7,I7.unpinned,r7,q7⟩
end
section
variable {X:Cx}{a b:Expr}{ta tb:TE}{pos:Pos}
theorem YO {op:CmpOp}{r:R2}(ho:OpR X (compareOp op) r)(ha:PEC X a ta)(hb:PEC X b tb)(h1:behindInMarks op b=false):PEC X (.Compare a [op] [b] pos) (tOp r ta tb):=by
 intro pins s σ H Q I h;refine Wg (zi (ha _ s σ H _ I h) λv s1 ⟨x,H1,I1,r1,q1⟩=> ?_) h1;refine zi (hb _ s1 σ H1 _ I1 q1) λu s2 ⟨y,H2,I2,r2,q2⟩=> ?_;exact ho _ s2 σ H2 x y v u Q I2 r1 r2 q2
theorem YQ {op:CmpOp}{r:R2}(ho:OpR X (compareOp op) r)(ha:PEC X a ta)(hb:PEC X b tb)(hm:behindInMarks op b=false):PTC X (.Compare a [op] [b] pos) (Q8 (tOp r ta tb)):=by
 intro pins s σ H Q I h;refine j0 (zi (ha _ s σ H _ I h) λv s1 ⟨x,H1,I1,r1,q1⟩=>zi (hb _ s1 σ H1 _ I1 q1) λu s2 ⟨y,H2,I2,r2,q2⟩=>
  thn (ho _ s2 σ H2 x y v u _ I2 r1 r2 q2) λc s3 ⟨z,H3,I3,r3,k,e,q3⟩=> ?_) hm
 subst e;cases r3;exact ba ⟨H3,I3,q3⟩
end
end L2
namespace PV
open PySem PySem.Spec PyProof.Rows L2 PySem.W
section
variable {X:Cx}{Y:Fx}{a b c d tg:Expr}{fa fb fc fd:En->R T}{pos p:Pos}
theorem xw {iter:Expr}{sts:List Stmt}{fi:En->R (List T)}{g:T->En->R En}{fb:En->RS}(hp:PassesOwn (model X.prog X.w) X.A X.env X.xe)(hc:X.calm=true)(hi:wc X Y tg iter fi)(hg:VP X Y tg g)(hb:Jk X Y sts fb)
  (hs:∀x,foldedSetIterable iter X.env x=pure x:=by intro _;rfl):JG X Y (.For tg iter sts [] pos) (UL fi g fb):= .mk λρ=>by
 obtain⟨tG,hG,hG'⟩:=hg;refine PSC.imp (vj (tb:=λD σ H=>∃ρ',tSS Y fb ρ' D σ H) hp hc (hi ρ) hG (λpins s σ H D I ⟨ρ',q⟩=>hb.go ρ' _ s σ H D I q) hs) λD σ H ⟨B,I,q⟩=> ?_;refine Jb I q λts J H1 _ s1 r1 I1 q1=> ?_;refine⟨λi m σ' H' =>m=ts.length - i/\i<=ts.length/\∃ρ' B',SI Y B' ρ' σ' H' /\zh _ B' /\PoS Y B' (JF g fb (ts.drop i) ρ') D,⟨ts.length,by simp,bE _,ρ,_,I1,zh.refl _,q1⟩, ?_⟩
 rintro i m σ' H' ⟨rfl,hi,ρ',B',I',sB',q'⟩
 obtain⟨hgo,hyld,hstop⟩:=r1 B' H' sB' I'.sB
 by_cases hlt:i < ts.length
 ·refine .inr ⟨hgo i hlt,λσ2 H2=>∃ρ2 B2,SI Y B2 ρ2 σ2 H2/\zh _ B2/\PoS Y B2 _ D,λσ2 H2 ⟨ρ2,B2,I2,s2,q2⟩=>⟨ts.length - (i+1),by omega,rfl,hlt,ρ2,B2,I2,s2,q2⟩,λx H2 y=> ?_⟩
  obtain⟨s2,r2⟩:=hyld i _ x H2 (az hlt) y;rw[bc hlt]at q';unfold JF at q';refine hG' _ ρ' σ' H2 x _ _ (I'.grow s2) r2 ?_;cases eg:g _ ρ' with
  | bad=>rw[eg]at q';exact q'
  | ex c=>rw[eg]at q';exact q'
  | ok ρ1=>
   rw[eg]at q';intro σ1 J1;refine⟨ρ1,_,J1, ?_⟩;have q2:=PoS.up (zx.ge I'.sB s2) q';dsimp only at q2;have s3:=sB'.trans (zx.ge I'.sB s2);revert q2;cases fb ρ1 with
   | nx ρ2=>exact λq2 σ3 H3 B3 s4 I3=>⟨ρ2,B3,I3,s3.trans s4,PoS.up s4 q2⟩
   | ct ρ2=>exact λq2 σ3 H3 B3 s4 I3=>⟨ρ2,B3,I3,s3.trans s4,PoS.up s4 q2⟩
   | bk ρ2=>exact λq2=>q2
   | rt t=>exact λq2=>q2
   | rf t=>exact λq2=>q2
   | ex c=>exact λq2=>q2
   | bad=>exact λq2=>q2
 ·have e:i=ts.length:=by omega
  subst e;rw[cU]at q';exact .inl ⟨hstop _ (aj _),q' σ' H' B' (zh.refl _) I'⟩
end
section
variable {X:Cx}
theorem uT {tg iter elt:Expr}{ifs:List Expr}{scope:Scope}{pos pos' :Pos}{N' :List Str}{k:Nat}{js:List Nat}{wi:TI}{g:TG}{tt:TT}{te:TE}{use:Option (Value->Sem Unit)}(S:CSd X scope)(CP:Ym X scope N' k js)(hc:X.calm=true)
  (hi:PI X tg iter wi) (hg:y7 X scope N' λXC=>PG XC tg g) (ht:y7 X scope N' λXC=>PIf XC ifs tt) (he:y7 X scope N' λXC=>PEC XC elt te) {pins:List (Addr×Obj)} {σ:Sg} {H:Hp} {s:Shared} {Q:Value->Shared->Prop} {F:Addr->Hp->Prop} (I:L2.Inv X pins σ H s)
  (h:wi σ H λJ H1=>∀D,H1 D=none->∃W,(∃m,W 0 m [] (jw k js σ) (upd H1 D (.lst [])))/\W5 J D g tt te (λ_ H' =>F D H') W)
  (hQ:∀D C H' s',L2.Inv X pins σ H' s' ->F D H' ->H' C=none->(X.s₀.heap.objs.size<=C)->C ≠ X.env.locals->(∀x c,X.env.cells.lookup x=some c->c ≠ C)->(∀p∈X.pn++pins,p.1 ≠ C)->(∃m,s'.heap.Ns C m)->compPost (model X.prog X.w) X.A X.xe use Q (.ref D) C (.ok .next) s')
  (hs:∀x,foldedSetIterable iter X.env x=pure x:=by intro _;rfl):
  wpC (model X.prog X.w) X.A (comprehension (.ListComp elt [⟨tg,iter,ifs,0⟩] scope pos) scope X.env pos' (newList []) false (eval iter X.env) use) Q X.xe s:=by
 obtain⟨cl,ecl,hcl,hcf⟩:=wd (scope:=scope) (env:=X.env) λx hx hf=>I.ok.has x.1 (S.fre x hx hf);refine Zf rfl hs ecl S.kind (λx hx hl=>by rw[S.can x hx,hl]) ?_
 refine thn (hi pins s σ H _ I h) λv s1 h1=>thn h1 λitv s2 h2=> ?_;obtain⟨it,fp,tn,J,H2,e,I2,TJ,st2,f2,q2⟩:=h2;subst e;refine bW ?_;have hD:=I2.hok.fresh (aj _);have I3:L2.Inv X pins σ (upd H2 s2.heap.objs.size (.lst [])) { s2 with heap:=s2.heap.push { cls:= .type "list",data:= .seq _ } }:=
  I2.laid (t' :=s2.toks) (λb u e=>a7 _ e) (aj _) ⟨bE _,[],_,.nil,am _ rfl⟩
 obtain⟨W,⟨m0,w0⟩,turn⟩:=q2 s2.heap.objs.size hD;have f3:∀b∈fp,jW X pins (upd H2 s2.heap.objs.size (.lst [])) b:=λb hb=>by
  obtain⟨o,eo,_⟩:=TJ.obj _ _ st2 b hb;exact⟨by rw[zg (aB (ag eo))];exact(f2 b hb).1,(f2 b hb).2⟩
 have o3:∀b∈fp,∃o,(s2.heap.push { cls:= .type "list",data:= .seq ([]:List Value).toArray }).get? b=some o:=λb hb=>by
  obtain⟨o,eo,_⟩:=TJ.obj _ _ st2 b hb;exact⟨o,a7 _ eo⟩
 have t3:tn 0 (s2.heap.push { cls:= .type "list",data:= .seq ([]:List Value).toArray }):=TJ.keep _ _ _ st2 λb hb o e=>a7 _ e;refine v7 ?_;generalize hD' :s2.heap.objs.size=D at*;generalize hH:upd H2 D (.lst [])=H3 at*;generalize hG:({ s2 with heap:=s2.heap.push _ }:Shared)=s3 at*;have hg3:s2.heap.push { cls:= .type "list",data:= .seq ([]:List Value).toArray }=s3.heap:=by rw[← hG]
 rw[hg3]at o3 t3;have k4:∀b o,s3.heap.get? b=some o->(pushCells (s3.heap.push { cls:= .type "dict",data:= .dict #[] }) scope.names).get? b=some o:=λb o e=>pushCells_keeps _ _ b o (a7 _ e);have IC:=uI (N' :=N') (cl:=cl) (fp:=fp) (σ' :=jw k js σ) (tk:=s3.toks) I3 S hc hcl hcf f3 o3 (dk ..) (λb o e=>a7 _ e) rfl ((Heap.Ns.new _ _).keeps (pushCells_keeps _ _)) k4 (by unfold jw;simp[CP.len]) (λi x v h1 h2=>by
  unfold jw at h2
  by_cases hik:i < k
  ·rw[aP (by simpa using hik),aA,if_pos hik]at h2
   cases h2
  ·have hk' :=by omega
   rw[aJ (by simpa using hk'),aV,ax]at h2
   cases ej:js[i - k]? with
   | none=>rw[ej]at h2;cases h2
   | some j=>
    rw[ej]at h2;obtain⟨y,e1,e2,e3,e4,e5⟩:=CP.cap _ j ej;have:k+(i - k)=i:=by omega
    rw[this,h1]at e1;cases e1;refine⟨j,e2, ?_,e3,e4,e5⟩;have h2' :some ((σ[j]?).getD _)=some _:=h2;cases ez:σ[j]? with
    | none=>rw[ez]at h2';cases h2'
    | some z=>rw[ez]at h2';exact congrArg _ (aq h2'))
 generalize hXD:cxD X _ N' cl _ s3 H3 fp _=XD at IC;have TC:U2 XD.prog XD.w XD.K tg J fp it tn:=by rw[← hXD];exact TJ
 have t4:=TJ.keep _ _ _ t3 λb hb o e=>k4 b o e;have fC:∀b∈fp,jW XD [] H3 b:=λb hb=>by
  obtain⟨q0,q1,q2,q3,q4,q5⟩:=f3 b hb;obtain⟨o,eo⟩:=o3 b hb;rw[← hXD];refine⟨q0,aB (ag eo),λhb' => ?_,.inl hb,λx c e=> ?_,λp hp=> ?_⟩
  ·rcases ak.mp (I3.stkSub b hb') with z | z
   ·exact q1 z
   ·exact q2 z
  ·rcases ue _ _ _ e with ⟨_,z⟩ | z
   ·exact λq=>absurd (ag eo) (by rw[← q];exact dG.mpr (ck z))
   ·exact q4 x c (hcl _ _ z)
  ·exact q5 p (by
    have:=hp;rwa[aT]at this)
 have fin:∀(s5:Shared) (σ5:Sg) (H5:Hp),L2.Inv XD [] σ5 H5 s5->F D H5->compPost _ X.A _ use Q _ _ _ s5:=λs5 σ5 H5 I5 q5=>by
  subst hXD;have J5:=I3.call' I5.os I5.base I5.hok I5.bare λb hb=>by
   obtain⟨q0,q1,q2,q3,q4,q5⟩:=f3 b hb;exact⟨q3,q1,q4,q5⟩
  refine hQ _ _ H5 s5 J5 q5 I5.free I3.sz (ce I3.lt) (λx c e z=> ?_) (λp hp z=> ?_) (let ⟨m,hm,_⟩:=I5.loc;⟨m,hm⟩)
  ·obtain⟨v',o,eo,_⟩:=I3.cell x c e;exact absurd (ag eo) (by rw[z];exact aS _)
  ·exact absurd (ag (I3.pin p hp).1) (by rw[z];exact aS _)
 have hxe:XD.xe=λ_ _=>False:=by rw[← hXD];rfl
 have loop:=JR (iter:=iter) (scope:=scope) (pos:=pos) (λ_ _ z=>by rw[hxe]at z;exact z.elim) (by rw[← hXD];exact hc) TC (hXD ▸ hg cl _ _ _ _ _) (hXD ▸ ht cl _ _ _ _ _) (hXD ▸ he cl _ _ _ _ _) W turn fin w0 IC t4 fC
 subst hXD;exact Zc loop (TJ.self _ _ _ _ _ t4 loop)
end
section
variable {X:Cx}{Y:Fx}
theorem YR {cl:Nat->Value}{ok:Nat->Bool}{gx:Nat->R T}{kE k:Nat}{x d q:Str}{c P ft:Addr}{fdt:FuncData}{params:Arguments}{body:Expr}{scope:Scope}{lp p pos:Pos}{js:List Nat}{fe:En->R T}(hy:Y.cl=cl)(L:Lm X c P q)(hT:Y.H0 P=some (.tbl #[] q))(hfn:(scope.names.all λx=>x.2 != .free || X.fn x.1)=true)
  (O:WP X.prog X.w X.K X.mg cl ok gx kE ft fdt d) (hr:Z8 k X.A) (hj:kE+2<=k) (gl:Gl X x) (mg:X.mg x=some (.ref ft)) (kp:keepIn X.K (.ref ft)=true) (bd:L2.Binds X.K fdt [d] [])
  (N' N:List Str) (sc0:Scope) (hN:X.N=N) (h0:X.env.scope=sc0) (hck:(Ys scope sc0 && UT N N' scope sc0 0 js)=true) (hco:scope.isCoroutine=false) (hge:scope.isGenerator=false)
  (hb:∀(base:Heap) (A:Around) (outer:List Env) (s:Shared) (H:Hp) (E:XK) (f c' :Addr) (clos:List (Str×Addr)) (Y' :Fx),X.K.In base->Y'.cl=cl->Y'.E=E->Z8 kE (A.deeper (envX q scope s.heap.objs.size f (.ref c') clos))->ZU (cxL X.prog X.w X.K X.mg base N' q scope f (.ref c') clos A outer s H E) Y' body fe)
  (hp:∀(clos:List (Str×Addr)) (pm cd ctv:Value),bindArgs (kla_fn "<lambda>" q params body scope clos pm cd ctv) ⟨[],[]⟩=pure []:=by intros;rfl) (hdef:defaultsOf params X.env=([],[]):=by rfl) (hd:(x == ("__debug__":Str))=false:=by decide):
  ZU X Y (.Call (.Name x p) [.Lambda params body scope lp] [] pos) (Ji js ok gx fe):= .mk λρ=>by
 intro pins s σ H Q I ⟨B,J,po⟩;subst hy;rw[a9]at hck;have CS:=ub sc0 h0 hck.1;have CP:=Jg N sc0 hN h0 hck.2;have S:LSc _:=⟨CS.kind,hco,hge,CS.nocell⟩;obtain⟨clos,ecl,hcl,hcf,hcd⟩:=YE λx hx hf=>I.ok.has x.1 (CS.fre x hx hf);refine zN (Zv I gl mg ?_ hd);have hP:=J.sH _ _ hT;have hpa:=zk (qF (body:=body) (pos:=lp) L hdef ecl) zB (st1 rfl) pos _ s σ H (λvs H1=>∃f c' pm ctv,vs=[V.ref f]/\zh H H1/\H1 f=some (.frz (YC q _ _ _ _ pm ctv c') (.own f))/\Jh H1 q c') I ⟨hP,λf c' pm ctv H' s1 hf hc=>⟨f,c',pm,ctv,rfl,s1,hf,hc⟩⟩;refine j1 kp (zi (zz hpa) λus s1 ⟨vs,H1,I1,r,f,c',pm,ctv,e,sm,hf,hc⟩=>⟨I1.kIn, ?_⟩) (st1 rfl) rfl;subst e;have J1:=J.grow sm;refine ui (E:=Y.E) I1 (O _ f c' q _ _ _ _ pm ctv _ (fe (JC 0 js ρ)) I1.big.mod.kin) (hr.mono hj) bd QK r ⟨rfl,hf,J1.sB, ?_,λA outer s2 E' Q' hrm e0 q' => ?_⟩
 ·have po:Po Y rC B H (jR ok gx _) Q:=po;revert po;cases jR ok gx _ with
  | bad=>exact λz=>z
  | ex c2=>exact λz d H' a b=>z d H' ((J.sH.trans sm).trans a) ((zx.ge J.sB sm).trans b)
  | ok t=>exact λz b H2 s2 rb=>z b H2 (sm.trans s2) (by rw[← zx.trans sm s2];exact rb)
 ·refine uj (te:=tS _ rC fe _) S hrm e0 (v8 I1 (λx c e=>by
   have:=aI.mp hfn _ (hcd x c e);simpa using this) hcl hcf CP) hf hc (hp _ pm _ ctv) ?_ ⟨_,J1.blockS 0 js E' (zh.refl _),q'⟩
  exact(hb _ A _ s2 H1 E' f c' _ ⟨zx B H H1,H1,E',Y.cl,[]⟩ e0.mod.kin rfl rfl (hrm.deeper _)).go _
end
section
variable {X:Cx}{Y:Fx}{tg iter elt:Expr}{ifs:List Expr}{scope:Scope}{pos pos' :Pos}{N' :List Str}{k:Nat}{js:List Nat}{fi:En->R (List T)}{tG:TG}{g:T->En->R En}{ft:En->R Bool}{fe:En->R T}
structure ww (X:Cx) (Y:Fx) (tg iter elt:Expr) (ifs:List Expr) (scope:Scope) (N' :List Str) (k:Nat) (js:List Nat) (fi:En->R (List T)) (tG:TG) (g:T->En->R En) (ft:En->R Bool) (fe:En->R T):Prop where
 sc:CSd X scope
 cp:Ym X scope N' k js
 cm:X.calm=true
 it:wc X Y tg iter fi
 gt:y7 X scope N' λXC=>PG XC tg tG
 gk:GOk tG g
 gn:GNo g
 tt:∀Y',Y'.cl=Y.cl->zh Y.H0 Y'.H0->y7 X scope N' λXC=>jj XC Y' ifs ft
 el:∀Y',Y'.cl=Y.cl->zh Y.H0 Y'.H0->y7 X scope N' λXC=>ZU XC Y' elt fe
 hs:∀x,foldedSetIterable iter X.env x=pure x
theorem YS (C:ww X Y tg iter elt ifs scope N' k js fi tG g ft fe):ZU X Y (.ListComp elt [⟨tg,iter,ifs,0⟩] scope pos) (Zd fi g ft fe k js):= .mk λρ=>by
 intro pins s σ H Q I ⟨B,J,q⟩;refine uT (F:=λD H' =>Q (.ref D) H') (te:=λσ H Q=>∃Y' ρ',Y'.cl=Y.cl/\zh _ _/\tS Y' rC fe ρ' σ H Q) (tt:=λσ H Q=>∃Y' ρ',Y'.cl=Y.cl/\zh _ _/\tS Y' rE ft ρ' σ H Q) C.sc C.cp C.cm (C.it ρ) C.gt
  (λcl Cx' s3 H3 fp pins pins' s σ H Q I ⟨Y',ρ',ey,eS,q⟩=>C.tt Y' ey eS cl Cx' s3 H3 fp _ ρ' _ s σ H Q I q) (λcl Cx' s3 H3 fp pins pins' s σ H Q I ⟨Y',ρ',ey,eS,q⟩=>(C.el Y' ey eS cl Cx' s3 H3 fp _).go ρ' _ s σ H Q I q) I ?_ ?_ C.hs
 ·refine step J q λts it' H1 _ s1 r1 J1 q1=> ?_;intro D hD;unfold Zr at q1;split at q1
  ·rename_i hl;cases ev:zt g ft fe ts _ with
   | bad=>rw[ev]at q1;exact q1.elim
   | ex c=>rw[ev]at q1;exact q1.elim
   | ok vs=>
    rw[ev]at q1;refine uJ (E0:=λ_ _ _=>False) C.gk C.gn J1 r1 hl ev hD λH' xs B' s' e' r' l' b' sb' => ?_;refine(show Po Y rC _ H1 _ Q from q1) _ H' s' ?_;exact .lst (by rw[zD hD];exact e') (r'.mono l')
  ·exact q1.elim
 ·intro D Cc H' s' I' q' hC h0 hL hcell hpin hns;obtain⟨m,hm⟩:=hns;refine⟨m,hm,λh' hsb=>⟨.ref D,H', ?_,rfl,q'⟩⟩;exact I'.turned (λb o hb e=>hsb.extBut b o hb e) hC (bu hL).symm (.inr h0) hcell hpin
end
theorem YT {X:Cx}{Y:Fx}{tg iter elt:Expr}{ifs:List Expr}{scope:Scope}{k:Nat}{js:List Nat}{fi:En->R (List T)}{tG:TG}{g:T->En->R En}{ft:En->R Bool}{fe:En->R T}(N' :List Str)(N:List Str)(sc0:Scope)(hN:X.N=N)(h0:X.env.scope=sc0)
  (h:(Xp scope sc0 && UT N N' scope sc0 k js)=true) (cm:X.calm=true) (it:wc X Y tg iter fi) (gt:y7 X scope N' λXC=>PG XC tg tG) (gk:GOk tG g) (gn:GNo g) (tt:∀Y',Y'.cl=Y.cl->zh Y.H0 Y'.H0->y7 X scope N' λXC=>jj XC Y' ifs ft)
  (el:∀Y',Y'.cl=Y.cl->zh Y.H0 Y'.H0->y7 X scope N' λXC=>ZU XC Y' elt fe) (hs:∀x,foldedSetIterable iter X.env x=pure x:=by intro _;rfl):ww X Y tg iter elt ifs scope N' k js fi tG g ft fe:=by
 rw[a9]at h;exact⟨xo sc0 h0 h.1,Jg N sc0 hN h0 h.2,cm,it,gt,gk,gn,tt,el,hs⟩
structure uU (X:Cx) (Y:Fx) (e:Expr) (f:En->R T):Prop where
 mk ::
 go:∀ρ,PEC X e (tS Y rB f ρ)
section
variable {X:Cx}{Y:Fx}{a:Expr}{fa:En->R T}
theorem ZR.c (h:ZR X Y a fa):uU X Y a fa:=⟨λρ=>(h ρ).c⟩
theorem ZU.b (h:ZU X Y a fa):uU X Y a fa:= .mk λρ=>PEC.imp (h.go ρ) λσ H Q ⟨B,I,q⟩=>⟨B,I,by
 revert q;cases fa ρ with
 | bad=>exact λq=>q
 | ex c=>exact λq=>q
 | ok a=>exact λq b H' s r=>q b H' s (r.mono (zx.le I.sB s))⟩
end
section
variable {X:Cx}{Y:Fx}{a b:Expr}{fa fb:En->R T}{pos p p' :Pos}
theorem xy {op:CmpOp}{g:T->T->R Bool}(nx:Nx g)(ho:OpR X (compareOp op) (wa g))(ha:uU X Y a fa)(hb:uU X Y b fb)(hm:behindInMarks op b=false):ZU X Y (.Compare a [op] [b] pos) (yT g fa fb):= .mk λρ=>
 PEC.imp (YO ho (ha.go ρ) (hb.go ρ) hm) λσ H Q ⟨B,I,q⟩=>step I q λt v H1 _ s1 r1 I1 q1=>step I1 q1 λt' v' H2 _ s2 r2 I2 q2=>by
  cases e:g t t' with
  | bad=>rw[e]at q2;exact q2.elim
  | ex c=>exact absurd e (nx _ _ _)
  | ok b=>rw[e]at q2;exact⟨t,t',b,r1.mono s2,r2,e,Zi I2 q2 (.bl b)⟩
theorem xz {op:CmpOp}{g:T->T->R Bool}(nx:Nx g)(ho:OpR X (compareOp op) (wa g))(ha:uU X Y a fa)(hb:uU X Y b fb)(hm:behindInMarks op b=false):vd X Y (.Compare a [op] [b] pos) (zY g fa fb):= .mk λρ=>
 PTC.imp (YQ ho (ha.go ρ) (hb.go ρ) hm) λσ H Q ⟨B,I,q⟩=>step I q λt v H1 _ s1 r1 I1 q1=>step I1 q1 λt' v' H2 _ s2 r2 I2 q2=>by
  cases e:g t t' with
  | bad=>rw[e]at q2;exact q2.elim
  | ex c=>exact absurd e (nx _ _ _)
  | ok b=>rw[e]at q2;exact⟨t,t',b,r1.mono s2,r2,e,b,rfl,Zi I2 q2 rfl⟩
end
def vT (i j c:Nat):En->RS:=λρ=>match ρ[j]? with
 | some (.vl (.str z))=>if (decide (z.length<=640) && z.cps.all (· < 4294967296))=true then match dr z with
  | some k=> .nx (ρ.set i (.vl (.int k)))
  | none=> .ex c
  else .bad
 | _=> .bad
section
variable {P:Program}{w:World}{K:Frag}{mg:Str->Option Value}{base:Heap}{N:List Str}{qual:Str}{scope:Scope}{f:Addr}{cd:Value}{A:Around}{outer:List Env}{s:Shared}{H:Hp}{E:XK}{Y:Fx}
theorem xA {x n y m:Str}{C:Addr}{bm bmN:List Value}{Bn Bb newId nid initId inN:String}{i j c a1 a2:Nat}{p1 p2 p3 p4 p5 p6 p7 p8 p9 p10 p11 p12 p13:Pos}(O:OwnCls x C bm newId mg base)(Fn:ExcBaseFacts Bn newId inN bmN)(hBn:bm.contains (.type Bn)=true)(FB:ExcBaseFacts Bb nid initId bm)
  (hY:Y.E=E) (hc:Y.cl c= .ref C) (hN:N.Nodup) (hi:N[i]? =some n) (hx:Loc scope n) (hj:N[j]? =some y) (hy:Vis scope y)
  (gi:Gl (Z4 (CX1 P w) P w K mg base N qual scope f cd A outer s H E) "int") (mi:mg "int"=none) (gv:Gl (Z4 (CX1 P w) P w K mg base N qual scope f cd A outer s H E) "ValueError") (mv:mg "ValueError"=none) (hg:Gl (Z4 (CX1 P w) P w K mg base N qual scope f cd A outer s H E) x)
  (hs:swapsWith (.Call (.Name "int" p2) [.Name y p3] [] p4) (some (.Name n p1)) p5.line (envOfC qual scope s.heap.objs.size f cd)=pure false:=by rfl)
  (hd:(x == ("__debug__":Str))=false:=by decide) (hdy:(y == ("__debug__":Str))=false:=by decide) (hcd:(y == ("__classdict__":Str))=false:=by decide):
  JG (Z4 (CX1 P w) P w K mg base N qual scope f cd A outer s H E) Y
   (.Try [.Assign [.Name n p1] (.Call (.Name "int" p2) [.Name y p3] [] p4) p5] [.ExceptHandler (some (.Name "ValueError" p6)) none [.Raise (some (.Call (.Name x p7) [.Constant (.str m) a1 p8] [] p9)) (some (.Constant .none a2 p10)) p11] p12] [] [] p13) (vT i j c):= .mk λρ=>by
 subst hY;refine PSC.imp (vf O Fn hBn FB hN hi hx hj hy gi mi gv mv hg hs hd hdy hcd) λD σ H1 ⟨B,I,q⟩=> ?_;unfold vT at q;split at q
 ·rename_i z e;obtain⟨v,e1,r⟩:=I.vl j _ e;cases r;split at q
  ·rename_i hz;rw[a9,decide_eq_true_eq,eN]at hz;refine⟨z,e1,aC (PySem.StrLaws.reprText_len z λxx hx=> ?_) (aC (Nat.add_le_add_right (eF 10 hz.1) 2) (by decide)),hz.1, ?_⟩
   ·have:=of_decide_eq_true (hz.2 xx (by simpa using hx))
    exact this
   ·cases hk:dr z with
    | some k=>rw[hk]at q;exact q _ _ B (zh.refl _) (I.setV i (.int _))
    | none=>
     rw[hk]at q;have:=q none H1 I.sH I.sB;rw[hc]at this;exact this
  ·exact q.elim
 ·exact q.elim
end
structure QQC (x:Str) (CX:CXT) (k:Nat) (sp:Sp) (Z:Zz):Prop where
 ex:∃st ps f fd,Fn Z.K Z.mg x st ps f fd/\ZB Z.P Z.w Z.K Z.mg Z.base CX k f fd ps sp
abbrev qXC (Z:Zz)(x:Str)(n k:Nat)(c:List T->R T):Prop:=QQC x (CX1 Z.P Z.w) k (spP Z.cl n c) Z
structure QTC (x:Str) (k:Nat) (ok:Nat->Bool) (gx:Nat->R T) (Z:Zz):Prop where
 ex:∃st d f fd,Fn Z.K Z.mg x st [d] f fd/\WP Z.P Z.w Z.K Z.mg Z.cl ok gx k f fd d
section
variable {P:Program}{w:World}{K:a6}{mg:Str->Option Value}{base:Heap}{cl:Nat->Value}{x:Str}{CX:CXT}{k:Nat}{sp:Sp}{G:Prop}
theorem QQ.c {Z:Zz}(O:QQ x CX k sp Z):QQC x CX k sp Z:=by
 obtain⟨⟨st,ps,f,fd,C,F⟩⟩:=O;exact⟨st,ps,f,fd,C,F.c⟩
theorem QQC.go (O:QQC x CX k sp ⟨P,w,K,mg,base,cl⟩)(h:∀st ps f fd,Fn K mg x st ps f fd->ZB P w K mg base CX k f fd ps sp->G):G:=by
 obtain⟨⟨st,ps,f,fd,C,F⟩⟩:=O;exact h st ps f fd C F
end
section
variable {Z:Zz}{x:Str}{st:Stmt}{ps:List Str}{k n m:Nat}{fb:En->RS}
theorem xB (C:FE Z.K Z.mg x st ps)(N:List Str) (hb:∀(f:Addr) (cdv:Value) (A:Around) (outer:List Env) (s:Shared) (H:Hp) (E:XK) (Y:Fx),Y.cl=Z.cl->Y.E=E->Z8 k (A.deeper (envOfC x (za st) s.heap.objs.size f cdv))->N.Nodup->zO (CX1 Z.P Z.w) (Z4 (CX1 Z.P Z.w) Z.P Z.w Z.K Z.mg Z.base N x (za st) f cdv A outer s H E) Y.E->
   Jk (Z4 (CX1 Z.P Z.w) Z.P Z.w Z.K Z.mg Z.base N x (za st) f cdv A outer s H E) Y (zv st) fb)
  (S:Sc N ps st:=by refine⟨rfl,rfl,rfl, ?_,rfl, ?_, ?_⟩ <;> decide+kernel) (hn:n=ps.length:=by rfl) (hm:m=N.length:=by rfl):qXC Z x n (k+1) (oP m fb):=by
 obtain⟨f,fd,C⟩:=C;subst hm;exact⟨_,_,f,fd,C,ve C.F S hn (λcdv A outer s H E Y hy hE hr=>hb f cdv A outer s H E Y hy hE hr S.nd (hE ▸ Qk)) λ_ _=>rfl⟩
theorem gB (C:FE Z.K Z.mg x st ps)(hn:n=ps.length:=by rfl):qXC Z x n k (λ_=> .bad):=by
 obtain⟨f,fd,C⟩:=C;subst hn;exact⟨_,_,f,fd,C,⟨λvs H Q E ⟨B,ts,hl,_,r,_⟩=>by rw[r.length,hl],λA o s H a us vs Q E _ _ _ _ ⟨_,_,_,_,_,q⟩=>q.elim⟩⟩
theorem K4 {ok:Nat->Bool}{gx:Nat->R T}{j i:Nat}{d n cn lc:Str}{C:Addr}{N:List Str}{dp cp rp np hp lp ep lcp rp2 tp:Pos}(F:FE Z.K Z.mg x st [d])(hmc:Z.mg cn=some (.ref C))(hok:∀c,ok c=true->exmOne Z.K (Z.cl c) (.ref C)=some true)(FL:∀b,Z.K.In b->QCM lc j gx { Z with base:=b })
  (S:Sc N [d] st) (hst:zv st=[.Try [.Return (some (.Call (.Name d dp) [] [] cp)) rp] [.ExceptHandler (some (.Name cn np)) (some n) [.Return (some (.Call (.Name lc lp) [.Name n ep] [] lcp)) rp2] hp] [] [] tp])
  (h0:N[0]? =some d) (hd:(za st).names.lookup d=some .local) (hi:N[i]? =some n) (hl:(za st).names.lookup n=some .local) (hi0:i ≠ 0) (hgc:(za st).names.lookup cn=some .globalImplicit)
  (hgl:(za st).names.lookup lc=some .globalImplicit) (hj:j<=k+1:=by omega)
  (h1:(d == ("__debug__":Str))=false:=by decide) (h2:(d == ("__classdict__":Str))=false:=by decide) (h3:(n == ("__debug__":Str))=false:=by decide) (h4:(n == ("__classdict__":Str))=false:=by decide) (h5:(lc == ("__debug__":Str))=false:=by decide) (h6:(cn == ("__debug__":Str))=false:=by decide):
  QTC x k ok gx Z:=by
 obtain⟨ft,fdt,F⟩:=F;refine⟨_,_,ft,fdt,F, ?_⟩;intro base f c' q params body scope clos pm ctv B r KB;obtain⟨⟨stl,y,fl,fdl,CL,FM⟩⟩:=FL base KB;refine Fun.okC F.F S (λvs H Q E ⟨e,_⟩=>by rw[e];rfl) λcdv A outer s H vs Q E hr ⟨e,hf,sB,po,run⟩=> ?_
 subst e;rw[hst];have he:∀ea,PE ((Z4 CX0 Z.P Z.w Z.K Z.mg base N x (za st) ft cdv A outer s H E).nox.mark' (.ref ea)) (.Call (.Name lc lp) [.Name n ep] [] lcp) (λσ H Q=>∃v,σ[i]? =some (some v)/\spC Z.cl gx [v] H Q λ_ _ _=>False):=λea=>
  PE.imp (YD FM ((hr.m.mono hj).mark _) hgl CL.m CL.F.kp CL.b (zk (WY hi (.inl hl) h3 h4) zB (st1 rfl)) h5 (st1 rfl)) λσ H Q ⟨v,e,z⟩=>⟨v,e,z⟩
 refine⟨_,wt (YN (tb:=λE' =>XH (qJ _ E' 0 f _)) (i:=i) (C:=C) rfl rfl S.nd hi hl hgc hmc (λE' pn xe hp=>wt (yb (YM (f:=f) (c' :=c') (q:=q) (params:=params) (body:=body) (scope:=scope) (clos:=clos) (pm:=pm) (ctv:=ctv) (WY h0 (.inl hd) h1 h2) hp))) he h6), ?_⟩;refine⟨λcls _ H' =>∃c,cls=Z.cl c/\ok c=true/\zh H H' /\zh B H' /\Po ⟨B,H,E,Z.cl,[]⟩ rC B H (nx1 (gx c)) Q,λcls d H' ea σ' ⟨c,e1,e2,s1,s2,q1⟩=> ?_,by unfold L2.start;rfl,hf,λs2 e0=>run _ _ s2 _ _ hr e0 ?_⟩
 ·subst e1;refine⟨hok c e2,λhea hl' hX' =>⟨.ref ea,aX (by rw[hl',hX'];exact(aO.mp hi).1),upd B ea _,ea,c,rfl, ?_,zl, ?_⟩⟩
  ·intro b o hb
   by_cases z:b=ea
   ·subst z;rw[zl]at hb ⊢;exact hb
   ·rw[zg z]at hb ⊢;exact s2 b o hb
  ·have s3:zh H (upd H' ea (.ext (Ur (Z.cl c) ea))):=s1.trans (zh.new hea _);have hHe:=s1.free hea;revert q1;cases gx c with
   | bad=>exact λz=>z
   | ex c2=>exact λz=>z.elim
   | ok t=>
    intro z b H3 s4 rb;refine z b H3 (s3.trans s4) (rb.mono λa o ha=> ?_);cases hH:upd H' ea _ a with
    | none=>
     rw[zD hH]at ha;cases hHa:H a with
     | none=>rw[zD hHa];exact ha
     | some u=>have:=s3 a u hHa;rw[hH]at this;cases this
    | some u=>
     rw[zF hH]at ha
     by_cases ze:a=ea
     ·subst ze;rw[zD hHe];rw[zl]at ha hH;rw[← ha,s4 _ _ zl]
     ·rw[zg ze]at ha;rw[zF (sB a o ha)];exact ha
 ·revert po;unfold jR;cases r with
  | ok t=>exact λpo=>po
  | bad=>exact λpo=>po
  | ex c=>
   intro po;dsimp only at po;split at po
   ·rename_i hc;exact λd H' a b=>⟨c,rfl,hc,a,b,po⟩
   ·exact po.elim
end
section
variable {X:Cx}{Y:Fx}{cl:Nat->Value}{k j n:Nat}{g:List T->R T}{x:Str}{a:Expr}{es:List Expr}{ga:En->R (List T)}{p pos:Pos}
theorem cXC (hy:Y.cl=cl)(hp:zO (CX1 X.prog X.w) X Y.E)(O:QQC x (CX1 X.prog X.w) j (spP cl n g) ⟨X.prog,X.w,X.K,X.mg,X.base,cl⟩)(hr:Z8 k X.A)(ha:uO X Y (a :: es) ga)(hj:j<=k:=by omega)(gl:Gl X x:=by rfl)(hd:(x == ("__debug__":Str))=false:=by decide)
  (hs:starEach (a :: es) X.env=(false,eval a X.env) :: starEach es X.env:=by exact zy rfl) (hz:((backTo pos (starEach es X.env)).any λx=>x.fst)=false:=by exact Z0 rfl):ZU X Y (.Call (.Name x p) (a :: es) [] pos) (z8 n g ga):=
 O.go λ_ _ _ _ C F=>YG hy hp F hr hj gl C.m C.F.kp C.b ha hd hs hz
end
section
variable {X:Cx}{Y:Fx}{cl:Nat->Value}{ok:Nat->Bool}{gx:Nat->R T}{kE k:Nat}{x q:Str}{c P:Addr}{params:Arguments}{body:Expr}{scope:Scope}{lp p pos:Pos}{js:List Nat}{fe:En->R T}
theorem tdC (hy:Y.cl=cl)(O:QTC x kE ok gx ⟨X.prog,X.w,X.K,X.mg,X.base,cl⟩)(L:Lm X c P q)(hT:Y.H0 P=some (.tbl #[] q))(hfn:∀x,X.fn x=true)(hr:Z8 k X.A)(hj:kE+2<=k)(gl:Gl X x)
  (N' N:List Str) (sc0:Scope) (hN:X.N=N) (h0:X.env.scope=sc0) (hck:(Ys scope sc0 && UT N N' scope sc0 0 js)=true) (hco:scope.isCoroutine=false) (hge:scope.isGenerator=false)
  (hb:∀(base:Heap) (A:Around) (outer:List Env) (s:Shared) (H:Hp) (E:XK) (f c' :Addr) (clos:List (Str×Addr)) (Y' :Fx),X.K.In base->Y'.cl=cl->Y'.E=E->Z8 kE (A.deeper (envX q scope s.heap.objs.size f (.ref c') clos))->ZU (cxL X.prog X.w X.K X.mg base N' q scope f (.ref c') clos A outer s H E) Y' body fe)
  (hp:∀(clos:List (Str×Addr)) (pm cd ctv:Value),bindArgs (kla_fn "<lambda>" q params body scope clos pm cd ctv) ⟨[],[]⟩=pure []:=by intros;rfl) (hdef:defaultsOf params X.env=([],[]):=by rfl) (hd:(x == ("__debug__":Str))=false:=by decide):
  ZU X Y (.Call (.Name x p) [.Lambda params body scope lp] [] pos) (Ji js ok gx fe):=by
 obtain⟨⟨st,d,f,fd,C,O⟩⟩:=O;exact vg hy L hT hfn O hr hj gl C.m C.F.kp C.b N' N sc0 hN h0 hck hco hge hb hp hdef hd
theorem Ge (hy:Y.cl=cl)(O:QTC x kE ok gx ⟨X.prog,X.w,X.K,X.mg,X.base,cl⟩)(L:Lm X c P q)(hT:Y.H0 P=some (.tbl #[] q))(hfn:scope.names.all (λx=>x.2 != .free || X.fn x.1)=true)(hr:Z8 k X.A)(hj:kE+2<=k)(gl:Gl X x)
  (N' N:List Str) (sc0:Scope) (hN:X.N=N) (h0:X.env.scope=sc0) (hck:(Ys scope sc0 && UT N N' scope sc0 0 js)=true) (hco:scope.isCoroutine=false) (hge:scope.isGenerator=false)
  (hb:∀(base:Heap) (A:Around) (outer:List Env) (s:Shared) (H:Hp) (E:XK) (f c' :Addr) (clos:List (Str×Addr)) (Y' :Fx),X.K.In base->Y'.cl=cl->Y'.E=E->Z8 kE (A.deeper (envX q scope s.heap.objs.size f (.ref c') clos))->ZU (cxL X.prog X.w X.K X.mg base N' q scope f (.ref c') clos A outer s H E) Y' body fe)
  (hp:∀(clos:List (Str×Addr)) (pm cd ctv:Value),bindArgs (kla_fn "<lambda>" q params body scope clos pm cd ctv) ⟨[],[]⟩=pure []:=by intros;rfl) (hdef:defaultsOf params X.env=([],[]):=by rfl) (hd:(x == ("__debug__":Str))=false:=by decide):
  ZU X Y (.Call (.Name x p) [.Lambda params body scope lp] [] pos) (Ji js ok gx fe):=by
 obtain⟨⟨st,d,f,fd,C,O⟩⟩:=O;exact YR hy L hT hfn O hr hj gl C.m C.F.kp C.b N' N sc0 hN h0 hck hco hge hb hp hdef hd
end
section
variable {Z:Zz}{x:Str}{st:Stmt}{ps:List Str}{k n m:Nat}{fb:En->RS}{f c:Addr}{fd:FuncData}{Pt:Addr}
theorem K5 (C:Fn Z.K Z.mg x st ps f fd)(ec:fd.code= .ref c)(hd:codeHdIn Z.K c Pt=true)(hBT:Z.base.BuiltinsAt Z.mg Pt)(N:List Str) (hb:∀(A:Around) (outer:List Env) (s:Shared) (H:Hp) (E:XK) (Y:Fx),Lm (Z4 (CX1 Z.P Z.w) Z.P Z.w Z.K Z.mg Z.base N x (za st) f (.ref c) A outer s H E) c Pt (qlT x)->Y.H0 Pt=some (.tbl #[] (qlT x))->Y.cl=Z.cl->Y.E=E->Z8 k (A.deeper (envOfC x (za st) s.heap.objs.size f (.ref c)))->N.Nodup->zO (CX1 Z.P Z.w) (Z4 (CX1 Z.P Z.w) Z.P Z.w Z.K Z.mg Z.base N x (za st) f (.ref c) A outer s H E) Y.E->
   Jk (Z4 (CX1 Z.P Z.w) Z.P Z.w Z.K Z.mg Z.base N x (za st) f (.ref c) A outer s H E) Y (zv st) fb)
  (S:Sc N ps st:=by refine⟨rfl,rfl,rfl, ?_,rfl, ?_, ?_⟩ <;> decide+kernel) (hn:n=ps.length:=by rfl) (hm:m=N.length:=by rfl):ZB Z.P Z.w Z.K Z.mg Z.base (CX1 Z.P Z.w) (k+1) f fd ps (qG Z.cl n (oP m fb) Pt (qlT x)):=by
 subst hm;exact vh C.F ec S hn (λA outer s H E Y hy hE hT hr=>hb A outer s H E Y ⟨rfl,hd,hBT,rfl⟩ hT hy hE hr S.nd (hE ▸ Qk)) λ_ _=>rfl
end
end PV
namespace PV
open PySem PySem.Spec PyProof.Rows L2
theorem vk {X:Cx}{Y:Fx}{tg iter elt:Expr}{ifs:List Expr}{scope:Scope}{k:Nat}{js:List Nat}{fi:En->R (List T)}{tG:TG}{g:T->En->R En}{ft:En->R Bool}{fe:En->R T}(N' :List Str)(N:List Str)(sc0:Scope)(hN:X.N=N)(h0:X.env.scope=sc0)
  (h:(Ys scope sc0 && UT N N' scope sc0 k js)=true) (cm:X.calm=true) (it:wc X Y tg iter fi) (gt:WI X scope N' λXC=>PG XC tg tG) (gk:GOk tG g) (gn:GNo g) (tt:∀Y',Y'.cl=Y.cl->WI X scope N' λXC=>jj XC Y' ifs ft)
  (el:∀Y',Y'.cl=Y.cl->Yl X scope N' Y'.E λXC=>ZU XC Y' elt fe) (hs:∀x,foldedSetIterable iter X.env x=pure x:=by intro _;rfl):WO X Y tg iter elt ifs scope N' k js fi tG g ft fe:=by
 rw[a9]at h;exact⟨ub sc0 h0 h.1,Jg N sc0 hN h0 h.2,cm,it,gt,gk,gn,tt,el,hs⟩
section
variable {cl:Nat->Value}{X:Cx}{Y:Fx}{x y:Str}{p p' p2:Pos}{kk:Nat}{iter elt:Expr}{ifs:List Expr}{scope:Scope}{js:List Nat}{fi:En->R (List T)}{ft:En->R Bool}{fe:En->R T}
theorem K6 (hy:Y.cl=cl)(h:vR X.N (x :: nms X.N js) X.env.scope scope 1 js=true)(hx:((relabel scope X.env).names.lookup x == some .local)=true)(cm:X.calm=true)(it:wc X Y (.Name x p) iter fi)(tt:∀Y',Y'.cl=cl->WI X scope (x :: nms X.N js) λXC=>jj XC Y' ifs ft)
  (el:∀Y',Y'.cl=cl->Yl X scope (x :: nms X.N js) Y'.E λXC=>ZU XC Y' elt fe) (hs:∀x,foldedSetIterable iter X.env x=pure x:=by intro _;rfl):WO X Y (.Name x p) iter elt ifs scope (x :: nms X.N js) 1 js fi (jN 0) (Z5 0) ft fe:=by
 subst hy;rw[vR,a9]at h;have hx:(relabel scope X.env).names.lookup x=some .local:=eq_of_beq hx;exact vk _ _ _ rfl rfl h.1 cm it (λ_ _ _ _ _ _=>ZK (JQ h.2) rfl (.inl hx) (.inr hx)) (we 0) (wg 0) tt el hs
end
section
variable {cl:Nat->Value}{X:Cx}{Y:Fx}{x:Str}{p:Pos}{iter elt:Expr}{ifs:List Expr}{scope:Scope}{js:List Nat}{fi:En->R (List T)}{ft:En->R Bool}{fe:En->R T}
theorem Gf (hc:scope.names.lookup x=some .cell)(hy:Y.cl=cl)(h:((Xp scope X.env.scope && UT X.N (x :: nms X.N js) scope X.env.scope 1 js) && ndB (x :: nms X.N js))=true)(hx:((relabel scope X.env).names.lookup x == some .cell)=true)(cm:X.calm=true)(it:wc X Y (.Name x p) iter fi)(tt:∀Y',Y'.cl=cl->zh Y.H0 Y'.H0->y7 X scope (x :: nms X.N js) λXC=>jj XC Y' ifs ft)
  (el:∀Y',Y'.cl=cl->zh Y.H0 Y'.H0->y7 X scope (x :: nms X.N js) λXC=>ZU XC Y' elt fe) (hs:∀x,foldedSetIterable iter X.env x=pure x:=by intro _;rfl):ww X Y (.Name x p) iter elt ifs scope (x :: nms X.N js) 1 js fi (jN 0) (Z5 0) ft fe:=by
 subst hy;rw[a9]at h;have h1:(relabel scope X.env).names.lookup x=some .cell:=eq_of_beq hx;exact YT _ _ _ rfl rfl h.1 cm it (λ_ _ _ _ _ _=>ZK (JQ h.2) rfl (.inr h1) (.inl (by show (scope.names.lookup x == some .cell)=true;rw[hc];rfl))) (we 0) (wg 0) tt el hs
end
theorem yh {X:Cx}{Y:Fx}{st:Stmt}{f:En->RS}(h:JG X Y st f):JG X Y st (vS f):= .mk λρ=>
 PSC.imp (h.go (frz ρ)) λD σ H ⟨B,I,q⟩=>⟨_,I.frz,PoS.up I.up q⟩
end PV
namespace G
open PySem PySem.Spec PyProof.Rows L2 PV
noncomputable def okX (c:Nat):Bool:=[0,1,2,3,4,5,6].contains c
noncomputable def jy (c:Nat):Bool:=c == 0
noncomputable def j4 (c:Nat):Bool:=c == 1
noncomputable def jz (c:Nat):Bool:=c == 2
noncomputable def j5 (c:Nat):Bool:=c == 3
noncomputable def Jo (c:Nat):Bool:=c == 4
noncomputable def jA (c:Nat):Bool:=c == 5
noncomputable def jB (c:Nat):Bool:=c == 6
noncomputable def Zp (_:Nat):Bool:=true
def b_6 (c_6:List T->R T):En->RS:=
  zp (ifS (zY eqC (z9 ixT (vE 0) (cE (.int 0))) (cE (.str "pick"))) (zE (z9 zf (z9 zf (cE (.str "{")) (ap1 (WL " ") (Zd (jx (z9 ixT (vE 0) (cE (.int 1)))) (Z9 0 1) (Zb) (z9 zf (z9 zf (vE 0) (cE (.str ":"))) (ap1 wN (vE 1))) 2 []))) (cE (.str "}")))) (nxS))
  (zp (ifS (zY eqC (z9 ixT (vE 0) (cE (.int 0))) (cE (.str "row"))) (zE (z9 zf (z9 zf (cE (.str "(")) (ap1 (WL " ") (Zd (jx (z9 ixT (vE 0) (cE (.int 1)))) (Z5 0) (Zb) (z8 1 c_6 (z7 (vE 0) (zc))) 1 []))) (cE (.str ")")))) (nxS))
  (zp (zR 1 (ifE (zY eqC (z9 ixT (vE 0) (cE (.int 0))) (cE (.str "many"))) (z9 zf (z9 zf (cE (.str "[")) (z8 1 c_6 (z7 (z9 ixT (vE 0) (cE (.int 1))) (zc)))) (cE (.str "]"))) (cE (.str ""))))
  (zE (z9 zf (z9 zf (z9 zf (vE 1) (ap1 wN (z9 ixT (vE 0) (WD (cE (.int 2)))))) (cE (.str ".."))) (ap1 wN (z9 ixT (vE 0) (WD (cE (.int 1)))))))))
def S_6:Nat->Nat->List T->R T
 | 0,_=>λ_=> .bad
 | n+1,_=>λts=>zr (b_6 (S_6 n 0) (en0 2 ts))
abbrev f_6 (n:Nat):List T->R T:=S_6 n 0
def b_e:En->RS:=
  zp (ifS (zY ltC (vB 1) (ap1 Zx (vB 0))) (zE (z9 ixT (vE 0) (vE 1))) (nxS))
  (zp (ifS (zY eqC (vB 0) (ja (zc))) (zE (cE (.int 0))) (nxS))
  (zE (z9 zf (z9 ZT (z9 ixT (vE 0) (z9 J8 (vE 1) (ap1 Zx (vB 0)))) (cE (.int 31))) (vE 1))))
def f_e:List T->R T:=λts=>zr (b_e  (en0 2 ts))
def b_4 (c_e:List T->R T):En->RS:=
  zp (zR 3 (z9 J8 (z9 ZT (z9 zf (z8 2 c_e (z7 (vE 0) (z7 (vE 1) (zc)))) (z9 ZT (cE (.int 6151)) (z9 zf (vE 1) (cE (.int 1))))) (cE (.int 40692))) (cE (.int 2147483399))))
  (zE (z9 J8 (z9 J8 (z9 zf (z9 ZT (vE 3) (vE 3)) (z9 J9 (vE 3) (cE (.int 31)))) (cE (.int 2147483629))) (vE 2)))
def f_4:List T->R T:=λts=>zr (b_4 (f_e) (en0 4 ts))
def b_i (c_4:List T->R T):En->RS:=
  zp (zR 2 (cE (.str "abcdefghijklmnopqrstuvwxyz")))
  (zp (ifS (zY gtC (z8 3 c_4 (z7 (vE 0) (z7 (vE 1) (z7 (cE (.int 6)) (zc))))) (cE (.int 0))) (zE (z9 ixT (ja (z7 (cE (.str "a")) (z7 (cE (.str "b")) (z7 (cE (.str "ab")) (z7 (cE (.str "cab")) (zc)))))) (z8 3 c_4 (z7 (vE 0) (z7 (z9 zf (vE 1) (cE (.int 1))) (z7 (cE (.int 4)) (zc))))))) (nxS))
  (zE (ap1 (WL "") (Zd (jv (z9 zf (cE (.int 1)) (z8 3 c_4 (z7 (vE 0) (z7 (z9 zf (vE 1) (cE (.int 1))) (z7 (cE (.int 3)) (zc))))))) (Z5 0) (Zb) (z9 ixT (vE 3) (z8 3 c_4 (z7 (vE 1) (z7 (z9 zf (z9 zf (vE 2) (cE (.int 2))) (vE 0)) (z7 (cE (.int 26)) (zc)))))) 1 [0,1,2]))))
def f_i:List T->R T:=λts=>zr (b_i (f_4) (en0 3 ts))
def b_j (c_4:List T->R T)(c_i:List T->R T):En->RS:=
  zp (ifS (zY gtC (z8 3 c_4 (z7 (vE 0) (z7 (vE 1) (z7 (cE (.int 3)) (zc))))) (cE (.int 0))) (zp (zR 2 (z9 JB (z8 3 c_4 (z7 (vE 0) (z7 (z9 zf (vE 1) (cE (.int 1))) (z7 (cE (.int 7)) (zc))))) (cE (.int 3))))
  (zp (ifS (zY eqC (z8 3 c_4 (z7 (vE 0) (z7 (z9 zf (vE 1) (cE (.int 3))) (z7 (cE (.int 8)) (zc))))) (cE (.int 0))) (zR 2 (z9 ixT (ja (z7 (WD (cE (.int 20))) (z7 (cE (.int 17)) (z7 (cE (.int 20)) (zc))))) (z8 3 c_4 (z7 (vE 0) (z7 (z9 zf (vE 1) (cE (.int 4))) (z7 (cE (.int 3)) (zc))))))) (nxS))
  (zE (ZX (z7 (cE (.str "whole")) (z7 (vE 2) (z7 (z9 UF (cE (.int 20)) (z9 zf (vE 2) (z8 3 c_4 (z7 (vE 0) (z7 (z9 zf (vE 1) (cE (.int 2))) (z7 (cE (.int 4)) (zc))))))) (zc)))))))) (nxS))
  (zp (UI 3 (zc))
  (zp (UL (jv (z9 zf (cE (.int 1)) (z8 3 c_4 (z7 (vE 0) (z7 (z9 zf (vE 1) (cE (.int 1))) (z7 (cE (.int 4)) (zc))))))) (Z5 4) (zp (zR 5 (z8 2 c_i (z7 (vE 0) (z7 (z9 zf (z9 zf (vE 1) (cE (.int 5))) (z9 ZT (cE (.int 5)) (vE 4))) (zc)))))
  (ifS (zY Yg (vB 5) (vB 3)) (W2 3 (vE 5)) (nxS))))
  (zE (ZX (z7 (cE (.str "pick")) (z7 (ap1 qr (Zd (QI (vE 3)) (Z9 0 1) (Zb) (ZX (z7 (vE 1) (z7 (z9 zf (cE (.int 1)) (z8 3 c_4 (z7 (vE 2) (z7 (z9 zf (z9 zf (vE 3) (cE (.int 30))) (vE 0)) (z7 (cE (.int 20)) (zc)))))) (zc)))) 2 [0,1])) (zc)))))))
def f_j:List T->R T:=λts=>zr (b_j (f_4) (f_i) (en0 6 ts))
def b_2 (c_4:List T->R T)(c_j:List T->R T)(c_2:List T->R T):En->RS:=
  zp (zR 3 (z8 3 c_4 (z7 (vE 0) (z7 (vE 1) (z7 (cE (.int 5)) (zc))))))
  (zp (ifS (orT (zY eqC (vB 2) (cE (.int 1))) (zY ltC (vB 3) (cE (.int 2)))) (zE (z8 2 c_j (z7 (vE 0) (z7 (z9 zf (vE 1) (cE (.int 1))) (zc))))) (nxS))
  (zp (ifS (zY ltC (vB 3) (cE (.int 4))) (zp (zR 4 (Zd (jv (z9 zf (cE (.int 1)) (z8 3 c_4 (z7 (vE 0) (z7 (z9 zf (vE 1) (cE (.int 1))) (z7 (cE (.int 3)) (zc))))))) (Z5 0) (Zb) (z8 3 c_2 (z7 (vE 1) (z7 (z9 zf (z9 zf (z9 ZT (cE (.int 3)) (vE 2)) (cE (.int 40))) (z9 ZT (cE (.int 50)) (vE 0))) (z7 (z9 JB (vE 3) (cE (.int 1))) (zc))))) 1 [0,1,2]))
  (zE (ZX (z7 (cE (.str "row")) (z7 (ap1 qr (vE 4)) (zc)))))) (nxS))
  (zp (zR 5 (z8 3 c_4 (z7 (vE 0) (z7 (z9 zf (vE 1) (cE (.int 1))) (z7 (cE (.int 3)) (zc))))))
  (zE (ZX (z7 (cE (.str "many")) (z7 (z8 3 c_2 (z7 (vE 0) (z7 (z9 zf (z9 ZT (cE (.int 3)) (vE 1)) (cE (.int 40))) (z7 (z9 JB (vE 2) (cE (.int 1))) (zc))))) (z7 (vE 5) (z7 (z9 UF (cE (.int 3)) (z9 zf (vE 5) (z8 3 c_4 (z7 (vE 0) (z7 (z9 zf (vE 1) (cE (.int 2))) (z7 (cE (.int 3)) (zc))))))) (zc))))))))))
def S_2:Nat->Nat->List T->R T
 | 0,_=>λ_=> .bad
 | n+1,_=>λts=>zr (b_2 (f_4) (f_j) (S_2 n 0) (en0 6 ts))
abbrev f_2 (n:Nat):List T->R T:=S_2 n 0
def b_k:En->RS:=
  zp (zR 3 (z9 J8 (vE 1) (z9 zf (ap1 Zx (vB 0)) (cE (.int 1)))))
  (zp (zR 4 (z9 ixT (vE 2) (z9 J8 (z9 J9 (vE 1) (cE (.int 1000))) (ap1 Zx (vB 2)))))
  (zp (zR 5 (z9 zf (z9 zf (vE 3) (cE (.int 1))) (z9 J8 (z9 J9 (vE 1) (cE (.int 7))) (cE (.int 9)))))
  (zp (zR 6 (z9 J8 (z9 J9 (vE 1) (cE (.int 100000))) (cE (.int 8))))
  (zp (ifS (zY ltC (vB 6) (cE (.int 2))) (zE (z9 zf (z9 zf (Zm (vE 0) (noO) (zn (vE 3))) (vE 4)) (Zm (vE 0) (zn (vE 3)) (noO)))) (nxS))
  (zp (ifS (zY eqC (vB 6) (cE (.int 2))) (zE (z9 zf (Zm (vE 0) (noO) (zn (vE 3))) (Zm (vE 0) (zn (z9 zf (vE 3) (cE (.int 1)))) (noO)))) (nxS))
  (zp (ifS (zY ltC (vB 6) (cE (.int 5))) (zE (z9 zf (z9 zf (Zm (vE 0) (noO) (zn (vE 3))) (vE 4)) (Zm (vE 0) (zn (z9 zf (vE 3) (cE (.int 1)))) (noO)))) (nxS))
  (zp (ifS (zY eqC (vB 6) (cE (.int 5))) (zE (z9 zf (Zm (vE 0) (noO) (zn (vE 3))) (Zm (vE 0) (zn (vE 5)) (noO)))) (nxS))
  (zp (ifS (zY eqC (vB 6) (cE (.int 6))) (zE (z9 zf (Zm (vE 0) (noO) (zn (vE 5))) (Zm (vE 0) (zn (vE 3)) (noO)))) (nxS))
  (zE (z9 ixT (ja (z7 (z9 zf (vE 0) (cE (.str " "))) (z7 (z9 zf (cE (.str " ")) (vE 0)) (z7 (z9 zf (Zm (vE 0) (zn (vE 3)) (noO)) (Zm (vE 0) (noO) (zn (vE 3)))) (z7 (cE (.str "")) (z7 (z9 zf (vE 0) (vE 0)) (zc))))))) (z9 J8 (vE 1) (cE (.int 5)))))))))))))
def f_k:List T->R T:=λts=>zr (b_k  (en0 7 ts))
def b_a:En->RS:=
  zp (zR 1 (ja (z7 (jQ 0 okX Jo) (z7 (jQ 0 okX jB) (z7 (jQ 0 okX jy) (z7 (jQ 0 okX jz) (zc)))))))
  (zp (zR 1 (z9 zf (vE 1) (ja (z7 (jQ 0 okX jA) (z7 (jQ 0 okX j4) (z7 (jQ 0 okX j5) (zc)))))))
  (zp (ifS (orT (zY neC (Xn kO (vB 1) (cE (.bl true))) (cE (.int 1))) (wb (jP (jQ 0 okX Zp)))) (zE (cE (.str "wrong"))) (nxS))
  (zE (z9 ixT (ja (z7 (cE (.str "ended")) (z7 (cE (.str "no back")) (z7 (cE (.str "no kind")) (z7 (cE (.str "no rule")) (z7 (cE (.str "no text")) (z7 (cE (.str "no worth")) (z7 (cE (.str "too many")) (zc))))))))) (Xn kQ (vB 1) (cE (.bl true)))))))
def f_a:Nat->R T:=λc=>zr (b_a  (enC 2 c))
def b_f:En->RS:=
  zE (WH (ap1 (qs "int") (vB 0)) (gw (ap1 (qs "bool") (vB 0))))
def f_f:List T->R T:=λts=>zr (b_f  (en0 1 ts))
def b_o (c_f:List T->R T):En->RS:=
  zE (WH (z8 1 c_f (z7 (vE 0) (zc))) (WH (z8 1 c_f (z7 (vE 1) (zc))) (gu leC leC leC (vB 2) (vB 0) (vB 1) (vB 3))))
def f_o:List T->R T:=λts=>zr (b_o (f_f) (en0 4 ts))
def b_b:En->RS:=
  zE (WH (ap1 (qs "tuple") (vB 0)) (chE leC leC (vB 1) (ap1 Zx (vB 0)) (vB 2)))
def f_b:List T->R T:=λts=>zr (b_b  (en0 3 ts))
def b_p:En->RS:=
  zp (ifS (orT (wb (jP (ap1 (qs "str") (vB 0)))) (wb (chT leC leC (cE (.int 1)) (ap1 Zx (vB 0)) (cE (.int 3))))) (zE (cE (.bl false))) (nxS))
  (zE (ap1 vO (Zd (jx (vE 0)) (Z5 0) (Zb) (chE leC leC (cE (.str "a")) (vB 0) (cE (.str "z"))) 1 [])))
def f_p:List T->R T:=λts=>zr (b_p  (en0 1 ts))
def b_m (c_f:List T->R T)(c_b:List T->R T)(c_p:List T->R T):En->RS:=
  zE (WH (z8 3 c_b (z7 (vE 0) (z7 (cE (.int 2)) (z7 (cE (.int 2)) (zc))))) (WH (z8 1 c_p (z7 (z9 ixT (vE 0) (cE (.int 0))) (zc))) (WH (z8 1 c_f (z7 (z9 ixT (vE 0) (cE (.int 1))) (zc))) (chE leC leC (cE (.int 1)) (z9 ixT (vE 0) (cE (.int 1))) (cE (.int 20))))))
def f_m:List T->R T:=λts=>zr (b_m (f_f) (f_b) (f_p) (en0 1 ts))
def b_l (c_b:List T->R T)(c_m:List T->R T):En->RS:=
  zp (ifS (orT (wb (jP (z8 3 c_b (z7 (vE 0) (z7 (cE (.int 1)) (z7 (cE (.int 4)) (zc))))))) (wb (jP (ap1 vO (Zd (jx (vE 0)) (Z5 0) (Zb) (z8 1 c_m (z7 (vE 0) (zc))) 1 []))))) (zE (cE (.bl false))) (nxS))
  (zp (zR 1 (Zd (jx (vE 0)) (Z5 0) (Zb) (z9 ixT (vE 0) (cE (.int 0))) 1 []))
  (zE (yT eqC (ap1 Yr (vB 1)) (ap1 Zx (vB 1)))))
def f_l:List T->R T:=λts=>zr (b_l (f_b) (f_m) (en0 2 ts))
def b_5 (c_o:List T->R T)(c_5:List T->R T)(c_l:List T->R T)(c_r:List T->R T):En->RS:=
  zp (ifS (orT (zY eqC (vB 1) (cE (.int 0))) (orT (wb (jP (ap1 (qs "tuple") (vB 0)))) (zY eqC (ap1 Zx (vB 0)) (cE (.int 0))))) (zE (cE (.bl false))) (nxS))
  (zp (ifS (zY eqC (z9 ixT (vE 0) (cE (.int 0))) (cE (.str "whole"))) (zE (WH (yT eqC (ap1 Zx (vB 0)) (cE (.int 3))) (z8 4 c_o (z7 (z9 ixT (vE 0) (cE (.int 1))) (z7 (z9 ixT (vE 0) (cE (.int 2))) (z7 (WD (cE (.int 20))) (z7 (cE (.int 20)) (zc)))))))) (nxS))
  (zp (ifS (zY eqC (z9 ixT (vE 0) (cE (.int 0))) (cE (.str "pick"))) (zE (WH (yT eqC (ap1 Zx (vB 0)) (cE (.int 2))) (z8 1 c_l (z7 (z9 ixT (vE 0) (cE (.int 1))) (zc))))) (nxS))
  (zp (ifS (zY eqC (z9 ixT (vE 0) (cE (.int 0))) (cE (.str "row"))) (zE (WH (yT eqC (ap1 Zx (vB 0)) (cE (.int 2))) (z8 2 c_r (z7 (z9 ixT (vE 0) (cE (.int 1))) (z7 (z9 JB (vE 1) (cE (.int 1))) (zc)))))) (nxS))
  (zp (ifS (zY eqC (z9 ixT (vE 0) (cE (.int 0))) (cE (.str "many"))) (zE (WH (yT eqC (ap1 Zx (vB 0)) (cE (.int 4))) (WH (z8 4 c_o (z7 (z9 ixT (vE 0) (cE (.int 2))) (z7 (z9 ixT (vE 0) (cE (.int 3))) (z7 (cE (.int 0)) (z7 (cE (.int 3)) (zc)))))) (z8 2 c_5 (z7 (z9 ixT (vE 0) (cE (.int 1))) (z7 (z9 JB (vE 1) (cE (.int 1))) (zc))))))) (nxS))
  (zE (cE (.bl false)))))))
def b_r (c_b:List T->R T)(c_5:List T->R T):En->RS:=
  zE (WH (z8 3 c_b (z7 (vE 0) (z7 (cE (.int 1)) (z7 (cE (.int 3)) (zc))))) (ap1 vO (Zd (jx (vE 0)) (Z5 0) (Zb) (z8 2 c_5 (z7 (vE 0) (z7 (vE 1) (zc)))) 1 [1])))
def S_5:Nat->Nat->List T->R T
 | 0,_=>λ_=> .bad
 | n+1,0=>λts=>zr (b_5 (f_o) (S_5 n 0) (f_l) (S_5 n 1) (en0 2 ts))
 | n+1,_=>λts=>zr (b_r (f_b) (S_5 n 0) (en0 2 ts))
abbrev f_5 (n:Nat):List T->R T:=S_5 n 0
abbrev f_r (n:Nat):List T->R T:=S_5 n 1
def b_3 (c_5:List T->R T):En->RS:=
  zE (z8 2 c_5 (z7 (vE 0) (z7 (cE (.int 3)) (zc))))
def f_3:List T->R T:=λts=>zr (b_3 (f_5 20) (en0 1 ts))
def b_q (c_3:List T->R T):En->RS:=
  ifS (wb (jP (z8 1 c_3 (z7 (vE 0) (zc))))) (ZO 0) (nxS)
def f_q:List T->R T:=λts=>zr (b_q (f_3) (en0 1 ts))
def b_g:En->RS:=
  zE (f3E ".." (vE 0) (vE 1))
def f_g:List T->R T:=λts=>zr (b_g  (en0 2 ts))
def b_7 (c_7:List T->R T)(c_g:List T->R T):En->RS:=
  zp (ifS (zY eqC (z9 ixT (vE 0) (cE (.int 0))) (cE (.str "whole"))) (zE (z8 2 c_g (z7 (z9 ixT (vE 0) (cE (.int 1))) (z7 (z9 ixT (vE 0) (cE (.int 2))) (zc))))) (nxS))
  (zp (ifS (zY eqC (z9 ixT (vE 0) (cE (.int 0))) (cE (.str "pick"))) (zE (z9 zf (z9 zf (cE (.str "{")) (ap1 (WL " ") (Zd (jx (z9 ixT (vE 0) (cE (.int 1)))) (Z9 0 1) (Zb) (f3E ":" (vE 0) (vE 1)) 2 []))) (cE (.str "}")))) (nxS))
  (zp (ifS (zY eqC (z9 ixT (vE 0) (cE (.int 0))) (cE (.str "row"))) (zE (z9 zf (z9 zf (cE (.str "(")) (ap1 (WL " ") (Zd (jx (z9 ixT (vE 0) (cE (.int 1)))) (Z5 0) (Zb) (z8 1 c_7 (z7 (vE 0) (zc))) 1 []))) (cE (.str ")")))) (nxS))
  (zE (z9 zf (z9 zf (z9 zf (cE (.str "[")) (z8 1 c_7 (z7 (z9 ixT (vE 0) (cE (.int 1))) (zc)))) (cE (.str "]"))) (z8 2 c_g (z7 (z9 ixT (vE 0) (cE (.int 2))) (z7 (z9 ixT (vE 0) (cE (.int 3))) (zc))))))))
def S_7:Nat->Nat->List T->R T
 | 0,_=>λ_=> .bad
 | n+1,_=>λts=>zr (b_7 (S_7 n 0) (f_g) (en0 1 ts))
abbrev f_7 (n:Nat):List T->R T:=S_7 n 0
def b_1 (c_q:List T->R T)(c_7:List T->R T):En->RS:=
  zp (UJ (z8 1 c_q (z7 (vE 0) (zc))))
  (zE (z8 1 c_7 (z7 (vE 0) (zc))))
def f_1:List T->R T:=λts=>zr (b_1 (f_q) (f_7 20) (en0 1 ts))
def b_t:En->RS:=
  ifS (wb (jP (ap1 (qs "str") (vB 0)))) (ZO 5) (nxS)
def f_t:List T->R T:=λts=>zr (b_t  (en0 1 ts))
def b_c:En->RS:=
  zp (ifS (zY gtC (ap1 Zx (vB 0)) (cE (.int 3))) (ZO 5) (nxS))
  (zp (vT 1 0 5)
  (zp (ifS (zY neC (ap1 wN (vE 1)) (vB 0)) (ZO 5) (nxS))
  (zE (vE 1))))
def f_c:List T->R T:=λts=>zr (b_c  (en0 2 ts))
def b_n (c_c:List T->R T):En->RS:=
  zp (zR 1 (smE vQ (vE 0) (cE (.str ":"))))
  (zE (ZX (z7 (z9 ixT (vE 1) (cE (.int 0))) (z7 (z8 1 c_c (z7 (z9 ixT (vE 1) (cE (.int 2))) (zc))) (zc)))))
def f_n:List T->R T:=λts=>zr (b_n (f_c) (en0 2 ts))
def b_d:En->RS:=
  zp (ifS (orT (wb (jP (smE yV (vE 0) (vE 1)))) (wb (jP (smE vP (vE 0) (vE 2))))) (ZO 5) (nxS))
  (zE (Zm (vE 0) (zn (ap1 Zx (vB 1))) (zn (WD (ap1 Zx (vB 2))))))
def f_d:List T->R T:=λts=>zr (b_d  (en0 3 ts))
def b_s:En->RS:=
  zp (UI 2 (zc))
  (zp (zR 3 (cE (.int 0)))
  (zp (zR 4 (cE (.int 0)))
  (zp (UL (UZ (vE 0)) (Z9 5 6) (zp (ifS (zY uc (vB 6) (cE (.str "([{"))) (zR 4 (z9 zf (vE 4) (cE (.int 1)))) (nxS))
  (zp (ifS (zY uc (vB 6) (cE (.str ")]}"))) (zR 4 (z9 JB (vE 4) (cE (.int 1)))) (nxS))
  (ifS (Qz (zY eqC (vB 4) (cE (.int 0))) (jP (Yy (vE 0) (vE 1) (vE 5)))) (zp (W2 2 (Zm (vE 0) (zn (vE 3)) (zn (vE 5))))
  (zR 3 (z9 zf (vE 5) (ap1 Zx (vB 1))))) (nxS)))))
  (zp (W2 2 (Zm (vE 0) (zn (vE 3)) (noO)))
  (zE (vE 2))))))
def f_s:List T->R T:=λts=>zr (b_s  (en0 7 ts))
def b_h (c_c:List T->R T):En->RS:=
  zp (zR 1 (smE vQ (vE 0) (cE (.str ".."))))
  (zE (ZX (z7 (z8 1 c_c (z7 (z9 ixT (vE 1) (cE (.int 0))) (zc))) (z7 (z8 1 c_c (z7 (z9 ixT (vE 1) (cE (.int 2))) (zc))) (zc)))))
def f_h:List T->R T:=λts=>zr (b_h (f_c) (en0 2 ts))
def b_9 (c_d:List T->R T)(c_s:List T->R T)(c_9:List T->R T)(c_n:List T->R T)(c_h:List T->R T):En->RS:=
  zp (ifS (zY eqC (vB 1) (cE (.int 0))) (ZO 5) (nxS))
  (zp (ifS (jP (smE yV (vE 0) (cE (.str "{")))) (zE (ZX (z7 (cE (.str "pick")) (z7 (ap1 qr (Je (jx (smE Xo (z8 3 c_d (z7 (vE 0) (z7 (cE (.str "{")) (z7 (cE (.str "}")) (zc))))) (cE (.str " ")))) (Z5 0) (Zb) (z8 1 c_n (z7 (vE 0) (zc))) 1 [])) (zc))))) (nxS))
  (zp (ifS (jP (smE yV (vE 0) (cE (.str "(")))) (zp (zR 2 (z8 2 c_s (z7 (z8 3 c_d (z7 (vE 0) (z7 (cE (.str "(")) (z7 (cE (.str ")")) (zc))))) (z7 (cE (.str " ")) (zc)))))
  (zE (ZX (z7 (cE (.str "row")) (z7 (ap1 qr (Je (jx (vE 2)) (Z5 0) (Zb) (z8 2 c_9 (z7 (vE 0) (z7 (z9 JB (vE 1) (cE (.int 1))) (zc)))) 1 [1])) (zc)))))) (nxS))
  (zp (ifS (jP (smE yV (vE 0) (cE (.str "[")))) (zp (zR 3 (smE x8 (vE 0) (cE (.str "]"))))
  (zE (z9 zf (ZX (z7 (cE (.str "many")) (z7 (z8 2 c_9 (z7 (Zm (z9 ixT (vE 3) (cE (.int 0))) (zn (cE (.int 1))) (noO)) (z7 (z9 JB (vE 1) (cE (.int 1))) (zc)))) (zc)))) (z8 1 c_h (z7 (z9 ixT (vE 3) (cE (.int 2))) (zc)))))) (nxS))
  (zE (z9 zf (ZX (z7 (cE (.str "whole")) (zc))) (z8 1 c_h (z7 (vE 0) (zc))))))))
def S_9:Nat->Nat->List T->R T
 | 0,_=>λ_=> .bad
 | n+1,_=>λts=>zr (b_9 (f_d) (f_s) (S_9 n 0) (f_n) (f_h) (en0 4 ts))
abbrev f_9 (n:Nat):List T->R T:=S_9 n 0
def b_8 (c_3:List T->R T)(c_t:List T->R T)(c_9:List T->R T):En->RS:=
  zp (UJ (z8 1 c_t (z7 (vE 0) (zc))))
  (zp (zR 1 (z8 2 c_9 (z7 (vE 0) (z7 (cE (.int 3)) (zc)))))
  (zp (ifS (wb (jP (z8 1 c_3 (z7 (vE 1) (zc))))) (ZO 5) (nxS))
  (zE (vE 1))))
def f_8:List T->R T:=λts=>zr (b_8 (f_3) (f_t) (f_9 20) (en0 2 ts))
def b_0 (c_e:List T->R T)(c_4:List T->R T)(c_2:List T->R T)(c_a:Nat->R T)(c_k:List T->R T)(c_1:List T->R T)(c_8:List T->R T)(c_6:List T->R T):En->RS:=
  zp (zR 1 (z8 1 c_6 (z7 (z8 3 c_2 (z7 (vE 0) (z7 (cE (.int 10)) (z7 (cE (.int 3)) (zc))))) (zc))))
  (zp (UI 2 (z7 (vE 1) (zc)))
  (zp (UL (jv (cE (.int 8))) (Z5 3) (zp (zR 4 (z9 zf (z9 ZT (z8 2 c_e (z7 (vE 0) (z7 (z9 zf (cE (.int 1700)) (vE 3)) (zc)))) (cE (.int 7919))) (z8 3 c_4 (z7 (vE 0) (z7 (z9 zf (cE (.int 1720)) (vE 3)) (z7 (cE (.int 999983)) (zc)))))))
  (zp (W2 2 (z8 3 c_k (z7 (vE 1) (z7 (vE 4) (z7 (cE (.str "0123-. :ab()[]{}")) (zc))))))
  (zp (zR 5 (z8 3 c_4 (z7 (vE 0) (z7 (z9 zf (cE (.int 1740)) (vE 3)) (z7 (ap1 Zx (vB 1)) (zc))))))
  (zp (zR 6 (z9 zf (cE (.int 1)) (z8 3 c_4 (z7 (vE 0) (z7 (z9 zf (cE (.int 1760)) (vE 3)) (z7 (cE (.int 5)) (zc)))))))
  (zp (W2 2 (z9 zf (Zm (vE 1) (noO) (zn (vE 5))) (Zm (vE 1) (zn (z9 zf (vE 5) (vE 6))) (noO))))
  (W2 2 (z9 zf (Zm (vE 1) (noO) (zn (z9 zf (vE 5) (vE 6)))) (Zm (vE 1) (zn (vE 5)) (noO))))))))))
  (zp (vS (UL (jx (vE 2)) (Z5 7) (zp (zR 8 (Ji [7] okX c_a (z8 1 c_1 (z7 (z8 1 c_8 (z7 (vE 0) (zc))) (zc)))))
  (ifS (Qz (zY neC (vB 8) (vB 7)) (zY neC (vB 8) (cE (.str "no text")))) (zE (cE (.bl false))) (nxS)))))
  (zp (UI 9 (z7 (cE (.str "-20..20")) (z7 (cE (.str "{a:1}")) (z7 (cE (.str "{abc:20 b:3 c:1 dd:2}")) (z7 (cE (.str "(0..0)")) (z7 (cE (.str "(0..1 {a:1} [2..3]0..3)")) (zc)))))))
  (zp (Wz 9 (ja (z7 (cE (.str "[(1..2 {z:9})]3..3")) (z7 (cE (.str "[[{a:1}]0..1]2..2")) (zc)))))
  (zp (vS (ifS (zY neC (Je (jx (vE 9)) (Z5 0) (Zb) (z8 1 c_1 (z7 (z8 1 c_8 (z7 (vE 0) (zc))) (zc))) 1 []) (vB 9)) (zE (cE (.bl false))) (nxS)))
  (zp (UI 10 (z7 (cE (.str "")) (z7 (cE (.str "0")) (z7 (cE (.str "0..")) (z7 (cE (.str "..0")) (z7 (cE (.str "1..0")) (z7 (cE (.str "0..21")) (z7 (cE (.str "-21..0")) (z7 (cE (.str "00..1")) (z7 (cE (.str "0..01")) (z7 (cE (.str "-0..1")) (z7 (cE (.str "{}")) (z7 (cE (.str "{a}")) (zc))))))))))))))
  (zp (Wz 10 (ja (z7 (cE (.str "{a:0}")) (z7 (cE (.str "{a:21}")) (z7 (cE (.str "{a:1 a:2}")) (zc))))))
  (zp (Wz 10 (ja (z7 (cE (.str "{a:1  b:1}")) (z7 (cE (.str "{abcd:1}")) (z7 (cE (.str "{a:1,b:1}")) (z7 (cE (.str "()")) (z7 (cE (.str "(0..0 )")) (z7 (cE (.str "(0..0  1..1)")) (zc)))))))))
  (zp (Wz 10 (ja (z7 (cE (.str "(0..0 0..0 0..0 0..0)")) (z7 (cE (.str "[0..0]")) (z7 (cE (.str "[0..0]0..4")) (zc))))))
  (zp (Wz 10 (ja (z7 (cE (.str "[0..0]2..1")) (z7 (cE (.str "[0..0]-1..1")) (z7 (cE (.str "[0..0")) (z7 (cE (.str "0..0]0..1")) (z7 (cE (.str "((0..0)")) (z7 (cE (.str "(((0..0)))")) (zc)))))))))
  (zp (Wz 10 (ja (z7 (cE (.str "[[[0..0]0..1]0..1]0..1")) (z7 (cE (.str "(0..0))")) (z7 (cE (.str " 0..0")) (zc))))))
  (zp (Wz 10 (ja (z7 (cE .non) (z7 (cE (.int 5)) (z7 (ZX (z7 (cE (.str "0..0")) (zc))) (z7 (cE (.str "{a:1 b:1 c:1 d:1 e:1}")) (z7 (cE (.str "0..0\n")) (z7 (cE (.str "{A:1}")) (z7 (cE (.str "0...1")) (z7 (cE (.str "[]0..1")) (z7 (cE (.str "+0..1")) (zc))))))))))))
  (zE (yT eqC (Zd (jx (vE 10)) (Z5 0) (Zb) (Ji [0] okX c_a (z8 1 c_8 (z7 (vE 0) (zc)))) 1 []) (z9 ZT (ja (z7 (cE (.str "no text")) (zc))) (cE (.int 42))))))))))))))))))
def f_0:List T->R T:=λts=>zr (b_0 (f_e) (f_4) (f_2 8) (f_a) (f_k) (f_1) (f_8) (f_6 8) (en0 11 ts))
end G
namespace G
open PySem L2 PV
noncomputable abbrev scr (ns:List Int):T:= .fz (ns.map T.int)
theorem yi (ns:List Int)(k:Int)(h0:0<=k):∃c,f_e [scr ns,.int k]= .ok (.int c):=by
 have e1:f_e [scr ns,.int k]=zr (if decide (k < ((ns.map T.int).length))=true then (atT (ns.map T.int) k).s (λt=> .rt t) else
   match (eqC (scr ns) (.lst [])).s (λb=>if b=true then RS.rt (.int 0) else .nx [.vl (scr ns),.vl (.int k)]) with
   | .nx ρ' =>zE (z9 zf (z9 ZT (z9 ixT (vE 0) (z9 J8 (vE 1) (ap1 Zx (vB 0)))) (cE (.int 31))) (vE 1)) ρ'
   | r=>r):=by
  show zr (match (if decide _=true then (atT _ k).s (λt=>RS.rt t) else .nx _) with
   | .nx ρ' =>_
   | r=>r)=_
  cases decide (k < ((ns.map _).length:Int)) with
  | true=>
   unfold atT;cases atI _ k <;> rfl
  | false=>rfl
 rw[e1,ah]
 by_cases hk:k < (ns.length)
 ·obtain⟨v,hv⟩:∃v,ns[k.toNat]? =some v:=⟨ns[k.toNat]'(by omega),az (by omega)⟩
  have ea:atI (ns.map T.int) k=some (.int v):=by
   have:k=((k.toNat):Int):=by omega
   rw[this];exact ZM (by rw[ax,hv];rfl)
  rw[decide_eq_true hk];exact⟨v,by unfold atT;rw[ea];rfl⟩
 ·rw[decide_eq_false hk];cases ns with
  | nil=>exact⟨0,rfl⟩
  | cons x xs=>
   have hm0:=fM k (show (((x :: xs).length):Int) ≠ 0 by simp only[ac];omega)
   have hm1:=eO k (show (0) < (((x :: xs).length):Int) by simp only[ac];omega)
   obtain⟨v,hv⟩:∃v,(x :: xs)[(k % (((x :: xs).length):Int)).toNat]? =some v:=⟨_,az (by omega)⟩
   have ea:atI ((x :: xs).map T.int) (k % (((x :: xs).length):Int))=some (.int v):=by
    have e:k % (((x :: xs).length):Int)=(((k % (((x :: xs).length):Int)).toNat:Nat):Int):=by omega
    rw[e];exact ZM (by rw[ax,hv];rfl)
   have cm:Wy v 31:= .inr ⟨by decide,by decide⟩
   have hp:(0:Int) < (((x :: xs).map T.int).length):=by simp only[ah,ac];omega
   refine⟨v*31+k, ?_⟩;show zr (((((if 0 < (((x :: xs).map _).length:Int) then R.ok _ else .bad).bind λy=>ixT _ y).bind λa=>ZT a _).bind λa=>zf a _).s λt=> .rt t)=_
   rw[if_pos hp];show zr ((((atT _ _).bind λa=>ZT a _).bind λa=>zf a _).s λt=> .rt t)=_;rw[ah];unfold atT;rw[ea];show zr ((((if Wy v 31 then R.ok _ else .bad)).bind λa=>zf a _).s λt=> .rt t)=_
   rw[if_pos cm];rfl
theorem zK (ns:List Int)(k m:Int)(h0:0<=k)(hm:0 < m):∃p,f_4 [scr ns,.int k,.int m]= .ok (.int p)/\0<=p/\p < m:=by
 obtain⟨c,hc⟩:=yi ns k h0;have cm2:Wy (c+6151*(k+1)) 40692:= .inr ⟨by decide,by decide⟩
 generalize hd:(c+6151*(k+1))*40692 % 2147483399=d;have cm3:Wy d d:= .inl ⟨by omega,by omega⟩
 refine⟨(d*d+d / 31) % 2147483629 % m, ?_,fM _ (by omega),eO _ hm⟩
 have e1:f_4 [scr ns,.int k,.int m]=zr (match ((((((f_e _).bind λx=>(ZT (.int 6151) (.int _)).bind λy=>zf x y).bind λx=>ZT x _).bind λx=>J8 x _)).s λt=>RS.nx _) with
   | .nx ρ' =>zE _ ρ'
   | r=>r):=rfl
 rw[e1,hc];show zr (match ((((if Wy _ _ then R.ok _ else .bad)).bind λx=>J8 x _).s λt=>RS.nx _) with
   | .nx ρ' =>_
   | r=>r)=_
 rw[if_pos cm2];show zr (zE _ _)=_;rw[hd];show zr (((((if Wy d d then R.ok _ else .bad).bind λx=>zf x _).bind λx=>J8 x _).bind λx=>J8 x _).s λt=>RS.rt t)=_
 rw[if_pos cm3];show zr ((if 0 < m then R.ok _ else .bad).s λt=>RS.rt t)=_
 rw[if_pos hm];rfl
theorem yj {ft:En->R Bool}{fe:En->R T}:∀(ts:List T) (ρ:En) (x:Sl),zt (Z5 0) ft fe ts (ρ.set 0 x)=zt (Z5 0) ft fe ts ρ
 | [],_,_=>rfl
 | t :: ts,ρ,x=>by
  unfold zt Z5;rw[List.set_set]
theorem jH {ft:En->R Bool}{fe:En->R T}{p:T->Bool}{h:T->T}:∀(ts:List T) (ρ:En),(∀t∈ts,ft (ρ.set 0 (.vl t))= .ok (p t)/\(p t=true->fe (ρ.set 0 (.vl t))= .ok (h t)))->zt (Z5 0) ft fe ts ρ= .ok ((ts.filter p).map h)
 | [],_,_=>rfl
 | t :: ts,ρ,H=>by
  obtain⟨h1,h2⟩:=H t ai;have ih:=jH ts ρ λu hu=>H u (aa _ hu);have e:zt (Z5 0) ft fe (t :: ts) ρ=(ft _).bind λk=>if k=true then (fe _).bind λv=>(zt _ ft fe ts _).bind λvs=> .ok _ else zt _ ft fe ts _:=rfl
  rw[e,h1,yj,ih];show (if p t=true then _ else _)=_
  cases hp:p t with
  | true=>rw[h2 hp,List.filter_cons_of_pos hp];rfl
  | false=>rw[if_neg aQ,List.filter_cons_of_neg (by rw[hp];exact aQ)]
theorem Jp {fe:En->R T}{h:T->T}(ts:List T)(ρ:En)(H:∀t∈ts,fe (ρ.set 0 (.vl t))= .ok (h t)):zt (Z5 0) Zb fe ts ρ= .ok (ts.map h):=by
 have:=jH (ft:=Zb) ts ρ λt ht=>⟨rfl,λ_=>H t ht⟩;rw[this,List.filter_eq_self.mpr (λ_ _=>rfl)]
theorem Zs {fe:En->R T}{h:T->T}{k:Nat}{js:List Nat}{ρ:En}(ts:List T)(hl:ts.length<=bnd)(H:∀t∈ts,fe ((JC k js ρ).set 0 (.vl t))= .ok (h t)):Zr (Z5 0) Zb fe k js ρ ts= .ok (ts.map h):=by
 unfold Zr;rw[if_pos hl,Jp ts _ H];rfl
theorem jT (p:T->Bool):∀ts:List T,U5 (ts.map λt=>T.bl (p t))=some (ts.all p)
 | []=>rfl
 | t :: ts=>by
  show (match U5 (ts.map λt=>T.bl _) with | some j=>some _ | none=>none)=_
  rw[jT p ts];rfl
noncomputable def isW:T->Bool
 | .int _=>true
 | _=>false
theorem YU (t:T):f_f [t]= .ok (.bl (isW t)):=by cases t <;> rfl
noncomputable def YV (a b:Nat):T->Bool
 | .tup xs=>decide (a<=xs.length) && decide (xs.length<=b)
 | _=>false
theorem j6 (t:T)(a b:Nat):f_b [t,.int a,.int b]= .ok (.bl (YV a b t)):=by
 cases t with
 | tup xs=>
  show zr ((if decide _=true then R.ok _ else .ok _).s λt=> .rt t)=_
  have e1:decide ((a:Int)<=(xs.length))=decide (a<=xs.length):=by simp
  have e2:decide ((xs.length:Int)<=(b))=decide (xs.length<=b):=by simp
  rw[e1,e2];show _=R.ok (T.bl (decide _ && decide _));cases decide (a<=xs.length) <;> rfl
 | _=>rfl
noncomputable def jI (lo hi:Int):T->T->Bool
 | .int i,.int j=>decide (lo<=i) && decide (i<=j) && decide (j<=hi)
 | _,_=>false
theorem yk (t u:T)(lo hi:Int):f_o [t,u,.int lo,.int hi]= .ok (.bl (jI lo hi t u)):=by
 cases t with
 | int i=>
  cases u with
  | int j=>
   show zr ((if decide _=true then (if decide _=true then R.ok _ else .ok _) else .ok _).s λt=> .rt t)=_
   show _=R.ok (T.bl (decide _ && decide _ && decide _));cases decide (lo<=i) <;> cases decide (i<=j) <;> rfl
  | _=>rfl
 | _=>cases u <;> rfl
noncomputable def Z2 (c:Nat):Bool:=decide (97<=c) && decide (c<=122)
def zW:T->Bool
 | .str x=>decide (1<=x.length) && decide (x.length<=3) && x.cps.toList.all Z2
 | _=>false
theorem qK (a b:Nat):decide ([a] < [b])=decide (a < b):=by
 by_cases h:a < b
 ·rw[decide_eq_true h];exact decide_eq_true (List.Lex.rel h)
 ·rw[decide_eq_false h];refine decide_eq_false λz=> ?_;cases z with
  | rel h' =>exact h h'
  | cons h' =>cases h'
theorem vm (c:Nat)(ρ:En):chE leC leC (cE (.str "a")) (vB 0) (cE (.str "z")) ((Sl.vl (.str ⟨#[c]⟩)) :: ρ)= .ok (.bl (Z2 c)):=by
 have e1:leC (.str "a") (.str ⟨#[c]⟩)= .ok (decide (97<=c)):=by
  show R.ok (!decide ([c] < [97]))=_;rw[qK]
  by_cases h:c < 97
  ·rw[decide_eq_true h,decide_eq_false (by omega)];rfl
  ·rw[decide_eq_false h,decide_eq_true (by omega)];rfl
 have e2:leC (.str ⟨#[c]⟩) (.str "z")= .ok (decide (c<=122)):=by
  show R.ok (!decide ([122] < [c]))=_;rw[qK]
  by_cases h:122 < c
  ·rw[decide_eq_true h,decide_eq_false (by omega)];rfl
  ·rw[decide_eq_false h,decide_eq_true (by omega)];rfl
 show (leC (.str "a") (.str _)).bind (λk=>if k=true then (leC (.str _) (.str "z")).bind λk' =>R.ok (T.bl k') else R.ok _)=_
 rw[e1,e2];unfold Z2;cases decide (97<=c) <;> rfl
def xC:T->Prop
 | .str x=>x.length<=bnd
 | _=>True
theorem vn (t:T)(ht:xC t):f_p [t]= .ok (.bl (zW t)):=by
 cases t with
 | str x=>
  have hx:=ht;have e0:Zx (.str x)= .ok _:=if_pos hx;have ec:Zr (Z5 0) Zb (chE leC leC (cE (.str "a")) (vB 0) (cE (.str "z"))) 1 [] [.vl (.str x)] (Zy x)= .ok (x.cps.toList.map λc=>T.bl (Z2 c)):=by
   have hs:(Zy x).length<=bnd:=by unfold Zy;rw[ah];exact hx
   have:=Zs (h:=λt=>match t with | .str y=>T.bl (Z2 (y.cps.toList.headD 0)) | t=>t) (k:=1) (js:=[]) (ρ:=[.vl (.str x)]) _ hs λt ht=>by
    obtain⟨c,_,rfl⟩:=bf.mp ht;exact vm c []
   rw[this];unfold Zy;rw[bz];rfl
  have ea:U5 (x.cps.toList.map λc=>T.bl (Z2 c))=some (x.cps.toList.all Z2):=by
   have:=jT (λt=>match t with | .str y=>Z2 (y.cps.toList.headD 0) | _=>true) (Zy x)
   unfold Zy at this;rw[bz,eY]at this;exact this
  have e1:f_p [.str x]=zr (match ((((Zx (.str x)).bind λy=>(leC _ y).bind λk=>if k=true then leC y _ else .ok _).bind λb=> .ok _).s λk=>if k=true then RS.rt _ else .nx _) with
    | .nx ρ' =>zE _ ρ'
    | r=>r):=rfl
  rw[e1,e0];have c1:decide ((1:Int)<=(x.length))=decide (1<=x.length):=by
   by_cases h:1<=x.length
   ·rw[decide_eq_true h];exact decide_eq_true (by omega)
   ·rw[decide_eq_false h];exact decide_eq_false (by omega)
  have c2:decide ((x.length:Int)<=(3))=decide (x.length<=3):=by
   by_cases h:x.length<=3
   ·rw[decide_eq_true h];exact decide_eq_true (by omega)
   ·rw[decide_eq_false h];exact decide_eq_false (by omega)
  show zr (match ((((if decide _=true then R.ok _ else .ok _)).bind λb=> .ok _).s λk=>if k=true then RS.rt _ else .nx _) with
    | .nx ρ' =>_
    | r=>r)=_
  rw[c1,c2];show _=R.ok (T.bl (decide _ && decide _ && x.cps.toList.all _));cases decide (1<=x.length) with
  | false=>rfl
  | true=>
   cases decide (x.length<=3) with
   | false=>rfl
   | true=>
    show zr ((((Zr _ _ _ 1 [] [.vl _] _).bind λvs=> .ok _).bind vO).s λt=> .rt t)=_;rw[ec];show zr ((match U5 (x.cps.toList.map λc=>T.bl _) with | some k=>R.ok _ | none=> .bad).s λt=> .rt t)=_
    rw[ea];rfl
 | _=>rfl
theorem bOk {α β:Type}(a:α)(f:α->R β):(R.ok a).bind f=f a:=rfl
theorem jb {α:Type}(a:α)(f:α->RS):(R.ok a).s f=f a:=rfl
theorem Jq (r:R T):zr (r.s λt=> .rt t)=r:=by cases r <;> rfl
theorem Zg (f:En->R T)(ρ:En):zE f ρ=(f (frz ρ)).s λt=> .rt t:=rfl
theorem Zj {g:List T->R T}{f:En->R T}{ρ:En}:z8 1 g (z7 f zc) ρ=(f ρ).bind λx=>g [x]:=by
 unfold z8 z7 zc;cases f ρ <;> rfl
theorem jq {g:List T->R T}{f f' :En->R T}{ρ:En}:z8 2 g (z7 f (z7 f' zc)) ρ=(f ρ).bind λx=>(f' ρ).bind λy=>g [x,y]:=by
 unfold z8 z7 zc;cases f ρ with
 | ok a=>cases f' ρ <;> rfl
 | ex c=>rfl
 | bad=>rfl
theorem ZH {g:List T->R T}{f f' f'' :En->R T}{ρ:En}:z8 3 g (z7 f (z7 f' (z7 f'' zc))) ρ=(f ρ).bind λx=>(f' ρ).bind λy=>(f'' ρ).bind λz=>g [x,y,z]:=by
 unfold z8 z7 zc;cases f ρ with
 | ok a=>
  cases f' ρ with
  | ok b=>cases f'' ρ <;> rfl
  | ex c=>rfl
  | bad=>rfl
 | ex c=>rfl
 | bad=>rfl
theorem K7 {g:List T->R T}{f f' f'' f3:En->R T}{ρ:En}:z8 4 g (z7 f (z7 f' (z7 f'' (z7 f3 zc)))) ρ=(f ρ).bind λx=>(f' ρ).bind λy=>(f'' ρ).bind λz=>(f3 ρ).bind λw=>g [x,y,z,w]:=by
 unfold z8 z7 zc;cases f ρ with
 | ok a=>
  cases f' ρ with
  | ok b=>
   cases f'' ρ with
   | ok c=>cases f3 ρ <;> rfl
   | ex c=>rfl
   | bad=>rfl
  | ex c=>rfl
  | bad=>rfl
 | ex c=>rfl
 | bad=>rfl
def Xq (r k:R T):R T:=r.bind λx=>match x with
 | .bl true=>k
 | .bl false=> .ok (.bl false)
 | _=> .bad
theorem yl (f g:En->R T)(ρ:En):WH f g ρ=Xq (f ρ) (g ρ):=rfl
theorem ZC (a:Bool)(k:R T):Xq (.ok (.bl a)) k=if a=true then k else .ok (.bl false):=by cases a <;> rfl
theorem v0 {t:T}{ρ:En}:vE 0 (.vl t :: ρ)= .ok t:=rfl
theorem v1 {t:T}{a:Sl}{ρ:En}:vE 1 (a :: .vl t :: ρ)= .ok t:=rfl
theorem w0 {t:T}{ρ:En}:vB 0 (.vl t :: ρ)= .ok t:=rfl
theorem w1 {t:T}{a:Sl}{ρ:En}:vB 1 (a :: .vl t :: ρ)= .ok t:=rfl
theorem jt {t:T}{ρ:En}:cE t ρ= .ok t:=rfl
theorem zw {g:T->T->R T}{f f' :En->R T}{ρ:En}:z9 g f f' ρ=(f ρ).bind λx=>(f' ρ).bind λy=>g x y:=rfl
theorem jC {t:T}{ρ:En}:frz (.vl t :: ρ)= .vl t :: frz ρ:=rfl
theorem YW {ρ:En}:frz (.un :: ρ)= .un :: frz ρ:=rfl
theorem jD:frz []=[]:=rfl
theorem K8 {g g' :T->T->R Bool}{fa fb fc:En->R T}{ρ:En}:chE g g' fa fb fc ρ=(fa ρ).bind λx=>(fb ρ).bind λy=>(g x y).bind λk=>if k=true then (fc ρ).bind λz=>(g' y z).bind λk' => .ok (.bl k') else .ok (.bl false):=rfl
theorem Jr {g:T->R T}{f:En->R T}{ρ:En}:ap1 g f ρ=(f ρ).bind g:=rfl
theorem ym {g:T->T->R Bool}{f f' :En->R T}{ρ:En}:yT g f f' ρ=(f ρ).bind λx=>(f' ρ).bind λy=>(g x y).bind λb=> .ok (.bl b):=rfl
theorem YX {xs:List T}:Zx (.tup xs)= .ok (.int xs.length):=rfl
theorem K9 {xs:List T}:Zx (.lst xs)= .ok (.int xs.length):=rfl
mutual
noncomputable def sOk:T->Prop
 | .str x=>x.length<=bnd
 | .tup xs=>Wm xs
 | .lst xs=>Wm xs
 | .fz xs=>Wm xs
 | _=>True
noncomputable def Wm:List T->Prop
 | []=>True
 | t :: ts=>sOk t/\Wm ts
end
theorem jr:∀{ts:List T} {t:T},Wm ts->t∈ts->sOk t
 | u :: ts,t,h,hm=>by
  have h' :=by simpa only[Wm] using h
  rcases ak.mp hm with rfl | hm
  ·exact h'.1
  ·exact jr h'.2 hm
theorem sOk.str {t:T}(h:sOk t):xC t:=by
 cases t with
 | str x=>
  have h' :=by simpa only[sOk] using h
  exact h'
 | _=>trivial
theorem wx {xs:List T}(h:sOk (.tup xs)):Wm xs:=by simpa only[sOk] using h
def zL:T->Bool
 | .tup [w,.int i]=>zW w && decide (1<=i) && decide (i<=20)
 | _=>false
theorem yn (t:T)(ht:sOk t):f_m [t]= .ok (.bl (zL t)):=by
 have e:f_m [t]=zr (b_m _ _ _ [.vl t]):=rfl;rw[e,b_m];simp only[Zg,Jq,jC,jD,yl,ZH,Zj,v0,jt,bOk,zw,K8];rw[show f_b [t,.int 2,.int 2]= .ok _ from j6 t 2 2,ZC];cases t with
 | tup xs=>
  match xs,ht with
  | [],_=>rfl
  | [_],_=>rfl
  | _ :: _ :: _ :: _,_=>simp[YV,zL]
  | [w,n],ht=>
   have hw:sOk w:=jr (wx ht) (by simp)
   show (if true=true then Xq (f_p [w]) (Xq (f_f [n]) ((leC _ n).bind λk=>if k=true then (leC n _).bind λk' =>R.ok _ else .ok _)) else _)=_
   rw[vn w hw.str,YU,ZC,ZC];cases n with
   | int i=>
    show (if zW w=true then (if true=true then (if decide _=true then R.ok _ else .ok _) else _) else _)=R.ok (T.bl (zW w && decide _ && decide _))
    cases zW w <;> cases decide (1<=i) <;> rfl
   | _=>
    cases zW w <;> rfl
 | _=>rfl
theorem ZP (f g:En->RS)(ρ:En):zp f g ρ=match f ρ with | .nx ρ' =>g ρ' | r=>r:=rfl
theorem wz (g:En->R Bool)(f1 f2:En->RS)(ρ:En):ifS g f1 f2 ρ=(g ρ).s λk=>if k=true then f1 ρ else f2 ρ:=rfl
theorem yo (f g:En->R Bool)(ρ:En):orT f g ρ=(f ρ).bind λx=>if x=true then .ok true else g ρ:=rfl
theorem jJ (f:En->R Bool)(ρ:En):wb f ρ=(f ρ).bind λx=> .ok (!x):=rfl
theorem ZW (f:En->R T)(ρ:En):jP f ρ=(f ρ).bind tru:=rfl
theorem jK (k:Bool):tru (.bl k)= .ok k:=rfl
theorem Js (i:Nat)(f:En->R T)(ρ:En):zR i f ρ=(f ρ).s λt=> .nx (ρ.set i (.vl t)):=rfl
theorem j7 {g:T->T->R Bool}{f f' :En->R T}{ρ:En}:zY g f f' ρ=(f ρ).bind λx=>(f' ρ).bind λy=>g x y:=rfl
theorem j8 {fi:En->R (List T)}{g:T->En->R En}{ft:En->R Bool}{fe:En->R T}{k:Nat}{js:List Nat}{ρ:En}:Zd fi g ft fe k js ρ=(fi ρ).bind λts=>(Zr g ft fe k js ρ ts).bind λvs=> .ok (.lst vs):=rfl
theorem yq {f:En->R T}{ρ:En}:jx f ρ=(f ρ).bind Jf:=rfl
noncomputable def ZF:T->Str
 | .tup (.str w :: _)=>w
 | _=>⟨#[]⟩
def uk:T->Bool
 | .tup cs=>decide (1<=cs.length) && decide (cs.length<=4) && cs.all zL && decide ((dd [] (cs.map ZF)).length=cs.length)
 | _=>false
theorem Wn {c:T}(h:zL c=true):∃w n,c= .tup [.str w,n]:=by
 unfold zL at h;split at h
 ·rename_i w i;cases w with
  | str x=>exact⟨x,_,rfl⟩
  | _=>cases h
 ·cases h
theorem JS:∀{cs:List T},cs.all zL=true->WK (cs.map λc=>T.str (ZF c))=some (cs.map ZF)
 | [],_=>rfl
 | c :: cs,h=>by
  rw[cY,a9]at h;have ih:=JS h.2;show (match WK (cs.map λc=>T.str _) with | some ys=>some _ | none=>none)=_
  rw[ih];rfl
theorem uV (t:T)(ht:sOk t):f_l [t]= .ok (.bl (uk t)):=by
 have e:f_l [t]=zr (b_l _ _ [.vl t,.un]):=rfl;rw[e,b_l];simp only[ZP,wz,yo,jJ,ZW,ZH,v0,jt,bOk];rw[show f_b [t,.int 1,.int 4]= .ok _ from j6 t 1 4];cases t with
 | tup cs=>
  have hl:YV 1 4 (.tup cs)=(decide _ && decide _):=rfl;rw[hl];show _=R.ok (T.bl (decide _ && decide _ && cs.all _ && decide _));cases h14:(decide (1<=cs.length) && decide (cs.length<=4)) with
  | false=>rfl
  | true=>
   rw[a9,decide_eq_true_eq,decide_eq_true_eq]at h14;have hb:cs.length<=bnd:=aC h14.2 (by decide)
   have ec:Zr _ _ (z8 1 f_m (z7 (vE 0) zc)) 1 [] [.vl (.tup cs),.un] cs= .ok (cs.map λc=>T.bl _):=
    Zs cs hb λc hc=>by
     exact yn c (jr (wx ht) hc)
   simp only[du,aF,if_false,Jr,j8,yq,v0,bOk,Jf,ec];have ea:vO (.lst (cs.map λc=>T.bl (zL c)))= .ok (.bl (cs.all zL)):=by
    show (match U5 (cs.map λc=>T.bl _) with | some k=>R.ok _ | none=> .bad)=_
    rw[jT]
   rw[ea];simp only[bOk,jK,jb];cases hall:cs.all _ with
   | false=>rfl
   | true=>
    have ew:Zr _ _ (z9 ixT (vE 0) (cE (.int 0))) 1 [] [.vl (.tup cs),.un] cs= .ok (cs.map λc=>T.str (ZF c)):=
     Zs cs hb λc hc=>by
      obtain⟨w,n,rfl⟩:=Wn (aI.mp hall c hc);rfl
    simp only[du,aF,if_false,nxS,Js,j8,yq,v0,bOk,Jf,ew,jb,Zg];show zr (((Yr (.lst (cs.map λc=>T.str _))).bind λx=>(Zx (.lst (cs.map λc=>T.str _))).bind λy=>(eqC x y).bind λb=>R.ok _).s λt=> .rt t)=_;have el:Yr (.lst (cs.map λc=>T.str (ZF c)))= .ok (.int (dd [] (cs.map ZF)).length):=by
     show (match WK (cs.map λc=>T.str _) with | some ys=>if (cs.map λc=>T.str _).length+1 < 4096 then R.ok _ else .bad | none=> .bad)=_
     rw[JS hall];exact if_pos (by rw[ah];omega)
    rw[el,K9,ah];show R.ok _=_;congr 2
    by_cases hq:(dd [] (cs.map ZF)).length=cs.length
    ·rw[hq];simp
    ·rw[decide_eq_false hq];simp only[Bool.true_and,beq_eq_false_iff_ne];omega
 | _=>rfl
noncomputable def isS (w:Str):T->Bool
 | .str s=>s == w
 | _=>false
theorem eqS (h:T)(w:Str):eqC h (.str w)= .ok (isS w h):=by cases h <;> rfl
theorem eqI (i j:Int):eqC (.int i) (.int j)= .ok (i == j):=rfl
theorem at0 {h:T}{r:List T}:ixT (.tup (h :: r)) (.int 0)= .ok h:=by
 show atT _ 0=_;unfold atT;rw[show atI _ 0=some h from ZM rfl]
theorem at1 {h a:T}{r:List T}:ixT (.tup (h :: a :: r)) (.int 1)= .ok a:=by
 show atT _ 1=_;unfold atT;rw[show atI _ 1=some a from ZM rfl]
theorem at2 {h a b:T}{r:List T}:ixT (.tup (h :: a :: b :: r)) (.int 2)= .ok b:=by
 show atT _ 2=_;unfold atT;rw[show atI _ 2=some b from ZM rfl]
theorem at3 {h a b c:T}{r:List T}:ixT (.tup (h :: a :: b :: c :: r)) (.int 3)= .ok c:=by
 show atT _ 3=_;unfold atT;rw[show atI _ 3=some c from ZM rfl]
noncomputable def Jt (k:T->Bool):T->Bool
 | .tup ks=>decide (1<=ks.length) && decide (ks.length<=3) && ks.all k
 | _=>false
def Wo:List T->Bool
 | [a,b]=>jI (-20) 20 a b
 | _=>false
def yr:List T->Bool
 | [c]=>uk c
 | _=>false
def xD (k:T->Bool):List T->Bool
 | [c]=>Jt k c
 | _=>false
def yt (k:T->Bool):List T->Bool
 | [c,a,b]=>jI 0 3 a b && k c
 | _=>false
def uW (k:T->Bool):T->Bool
 | .tup (h :: r)=>if isS "whole" h=true then Wo r else if isS "pick" h=true then yr r else if isS "row" h=true then xD k r else if isS "many" h=true then yt k r else false
 | _=>false
def isK:Nat->T->Bool
 | 0,_=>false
 | d+1,t=>uW (isK d) t
theorem yu {α:Type}(xs:List α)(n:Nat):((xs.length:Int) == (n:Int))=decide (xs.length=n):=by
 by_cases h:xs.length=n
 ·rw[h];simp
 ·rw[decide_eq_false h,beq_eq_false_iff_ne];omega
theorem xE {f:En->R T}{ρ:En}:WD f ρ=(f ρ).bind λx=>match x with | .int i=> .ok (.int (-i)) | _=> .bad:=rfl
theorem Ju {i j:Int}:JB (.int i) (.int j)= .ok (.int (i - j)):=rfl
set_option maxHeartbeats 1000000 in
theorem vo {n:Nat}{d:Nat}{k:T->Bool}(H0:∀t,sOk t->S_5 n 0 [t,.int d]= .ok (.bl (k t)))(H1:∀t,sOk t->S_5 n 1 [t,.int d]= .ok (.bl (Jt k t)))(t:T)(ht:sOk t):
  S_5 (n+1) 0 [t,.int ((d+1:Nat):Int)]= .ok (.bl (uW k t)):=by
 have e:S_5 (n+1) 0 [t,.int ((d+1:Nat))]=zr (b_5 f_o _ f_l _ [.vl t,.vl (.int _)]):=rfl;have hL:(((d+1:Nat):Int) == 0)=false:=by rw[beq_eq_false_iff_ne];omega
 have hL1:((d+1:Nat)) - 1=(d:Int):=by omega
 rw[e,b_5];simp only[ZP,wz,yo,jJ,ZW,j7,w0,w1,jt,bOk,eqI,hL,aF,if_false,Jr];cases t with
 | tup xs=>
  cases xs with
  | nil=>rfl
  | cons h r=>
   have hs:=wx ht;have hm:∀u∈r,sOk u:=λu hu=>jr hs (aa _ hu);have z0:(((h :: r).length:Int) == 0)=false:=by rw[beq_eq_false_iff_ne];simp only[ac];omega
   have ti:qs "tuple" (.tup (h :: r))= .ok (.bl true):=rfl;simp only[ti,bOk,jK,du,aF,if_false,YX,eqI,z0,jb,nxS,zw,v0,v1,jt,at0,eqS,Zg,jC,jD,yl,ym,Jr,w0,K7,Zj,jq,xE,Ju,hL1];show _=R.ok (T.bl (if isS "whole" h=true then Wo r else if isS "pick" h=true then yr r else if isS "row" h=true then xD k r else if isS "many" h=true then yt k r else false))
   have l3:(((h :: r).length:Int) == 3)=decide _:=yu (h :: r) 3;have l2:(((h :: r).length:Int) == 2)=decide _:=yu (h :: r) 2;have l4:(((h :: r).length:Int) == 4)=decide _:=yu _ 4;simp only[l2,l3,l4,ZC];cases isS _ h with
   | true=>
    match r,hm with
    | [],_=>rfl
    | [_],_=>rfl
    | _ :: _ :: _ :: _,_=>simp[Wo,jb,zr]
    | [a,b],_=>
     simp only[at1,at2,bOk,yk];rfl
   | false=>
    simp only[aF,if_false,v0,v1,w0,bOk,at0,jb,jC,jD,YX,eqI,l2,l4,ZC,Ju,hL1];cases isS _ h with
    | true=>
     match r,hm with
     | [],_=>rfl
     | _ :: _ :: _,_=>simp[yr,jb,zr]
     | [c],hm=>
      simp only[at1,bOk,uV c (hm c (by simp))]
      rfl
    | false=>
     simp only[aF,if_false,v0,v1,w0,bOk,at0,jb,jC,jD,YX,eqI,l2,l4,ZC,Ju,hL1];cases isS _ h with
     | true=>
      match r,hm with
      | [],_=>rfl
      | _ :: _ :: _,_=>simp[xD,jb,zr]
      | [c],hm=>
       simp only[at1,bOk,H1 c (hm c (by simp))]
       rfl
     | false=>
      simp only[aF,if_false,v0,v1,w0,bOk,at0,jb,jC,jD,YX,eqI,l2,l4,ZC,Ju,hL1];cases isS _ h with
      | true=>
       match r,hm with
       | [],_=>rfl
       | [_],_=>rfl
       | [_,_],_=>rfl
       | _ :: _ :: _ :: _ :: _,_=>simp[yt,jb,zr]
       | [c,a,b],hm=>
        simp only[at1,at2,at3,bOk,yk,H0 c (hm c (by simp)),ZC]
        show zr (match (if jI 0 3 a b=true then R.ok _ else .ok _).s (λt=>RS.rt t) with | .nx _=>RS.rt _ | r=>r)=R.ok (T.bl (jI 0 3 a b && k c))
        cases jI 0 3 a b <;> rfl
      | false=>rfl
 | _=>rfl
theorem xF {n:Nat}{d:Nat}{k:T->Bool}(H0:∀t,sOk t->S_5 n 0 [t,.int d]= .ok (.bl (k t)))(t:T)(ht:sOk t):S_5 (n+1) 1 [t,.int d]= .ok (.bl (Jt k t)):=by
 have e:S_5 (n+1) 1 [t,.int d]=zr (b_r f_b (S_5 n 0) [.vl t,.vl (.int d)]):=rfl;rw[e,b_r];simp only[Zg,Jq,jC,jD,yl,ZH,v0,jt,bOk];rw[show f_b [t,.int 1,.int 3]= .ok (.bl (YV 1 3 t)) from j6 t 1 3,ZC];cases t with
 | tup ks=>
  show (if (decide (1<=ks.length) && decide (ks.length<=3))=true then _ else _)=R.ok (T.bl (decide (1<=ks.length) && decide (ks.length<=3) && ks.all k))
  cases h13:(decide (1<=ks.length) && decide (ks.length<=3)) with
  | false=>rfl
  | true=>
   rw[a9,decide_eq_true_eq,decide_eq_true_eq]at h13;have hb:ks.length<=bnd:=aC h13.2 (by decide)
   have ec:Zr (Z5 0) Zb (z8 2 (S_5 n 0) (z7 (vE 0) (z7 (vE 1) zc))) 1 [1] [.vl (.tup ks),.vl (.int d)] ks= .ok (ks.map λc=>T.bl (k c)):=
    Zs (h:=λc=>T.bl (k c)) ks hb λc hc=>by
     show z8 2 (S_5 n 0) (z7 (vE 0) (z7 (vE 1) zc)) [.vl c,.vl (.int d)]=_;rw[jq,v0,v1,bOk,bOk];exact H0 c (jr (wx ht) hc)
   simp only[if_true,Jr,j8,yq,v0,bOk,Jf,ec];show (match U5 (ks.map λc=>T.bl (k c)) with | some k=>R.ok (T.bl k) | none=> .bad)=_
   rw[jT];rfl
 | _=>rfl
theorem WR:∀(d n:Nat),2*d+1<=n->∀t,sOk t->S_5 n 0 [t,.int d]= .ok (.bl (isK d t))
 | 0,n+1,_,t,_=>rfl
 | d+1,n+2,h,t,ht=>vo (n:=n+1) (λu hu=>WR d (n+1) (by omega) u hu) (λu hu=>xF (λv hv=>WR d n (by omega) v hv) u hu) t ht
theorem JT (t:T)(ht:sOk t):f_3 [t]= .ok (.bl (isK 3 t)):=by
 have e:f_3 [t]=zr (b_3 (f_5 20) [.vl t]):=rfl;rw[e,b_3];simp only[Zg,Jq,jC,jD,jq,v0,jt,bOk];exact WR 3 20 (by omega) t ht
theorem Wp:∀(ws acc:List Str),(dd acc ws).length<=acc.length+ws.length
 | [],acc=>aj _
 | w :: ws,acc=>by
  unfold dd;have:=Wp ws (if w∈acc then acc else acc++[w])
  by_cases h:w∈acc
  ·rw[if_pos h]at this ⊢;simp only[ac];omega
  ·rw[if_neg h]at this ⊢;rw[ae,bF]at this;simp only[ac];omega
theorem wA:∀(ws acc:List Str),((dd acc ws).length=acc.length+ws.length)↔∀(k:Nat) (w:Str),ws[k]? =some w->w ∉ acc++ws.take k
 | [],acc=>by simp[dd]
 | w :: ws,acc=>by
  unfold dd
  by_cases h:w∈acc
  ·rw[if_pos h];have:=Wp ws acc;constructor
   ·intro e;simp only[ac]at e;omega
   ·intro H;exact absurd (bb _ h) (H 0 w rfl)
  ·rw[if_neg h];have ih:=wA ws (acc++[w]);rw[ae,bF]at ih;rw[show acc.length+(w :: ws).length=acc.length+1+ws.length by simp only[ac];omega,ih]
   constructor
   ·intro H k v e;cases k with
    | zero=>simp at e;subst e;simpa using h
    | succ k=>
     have:=H k v (by simpa using e)
     simpa[bx] using this
   ·intro H k v e;have:=H (k+1) v (by simpa using e)
    simpa[bx] using this
theorem ltI (i j:Int):ltC (.int i) (.int j)= .ok (decide (i < j)):=rfl
theorem v2 {t:T}{a b:Sl}{ρ:En}:vE 2 (a :: b :: .vl t :: ρ)= .ok t:=rfl
theorem v3 {t:T}{a b c:Sl}{ρ:En}:vE 3 (a :: b :: c :: .vl t :: ρ)= .ok t:=rfl
theorem w2 {t:T}{a b:Sl}{ρ:En}:vB 2 (a :: b :: .vl t :: ρ)= .ok t:=rfl
theorem w3 {t:T}{a b c:Sl}{ρ:En}:vB 3 (a :: b :: c :: .vl t :: ρ)= .ok t:=rfl
theorem w5 {t:T}{a b c d e:Sl}{ρ:En}:vB 5 (a :: b :: c :: d :: e :: .vl t :: ρ)= .ok t:=rfl
theorem v4 {t:T}{a b c d:Sl}{ρ:En}:vE 4 (a :: b :: c :: d :: .vl t :: ρ)= .ok t:=rfl
theorem WS (f g:En->R Bool)(ρ:En):Qz f g ρ=(f ρ).bind λx=>if x=true then g ρ else .ok false:=rfl
theorem ul (w:Str):∀ws:List Str,Ye (λy=>eqF 30 y (.str w)) (ws.map T.str)=some (decide (w∈ws))
 | []=>rfl
 | x :: ws=>by
  have ih:=ul w ws;show (match Ye (λy=>eqF 30 y _) _ with | none=>none | some c=>some _)=_
  rw[ih]
  by_cases h:x=w
  ·subst h;simp
  ·have h' :¬ w=x:=λz=>h z.symm;simp[h,h']
theorem Wq {xs:List T}{k:Nat}{t:T}(h:xs[k]? =some t):ixT (.lst xs) (.int k)= .ok t:=by
 show atT xs k=_;unfold atT;rw[ZM h]
theorem gtI (i j:Int):gtC (.int i) (.int j)= .ok (decide (i > j)):=rfl
theorem Zn (i j:Int):zf (.int i) (.int j)= .ok (.int (i+j)):=rfl
theorem xG (p:Int)(h0:0<=p)(h1:p < 26):ixT (.str "abcdefghijklmnopqrstuvwxyz") (.int p)= .ok (.str ⟨#[97+p.toNat]⟩):=by
 obtain⟨n,rfl⟩:=cK h0;have h:n < 26:=by omega
 iterate 26 (refine(Nat.lt_or_eq_of_le (Nat.le_of_lt_succ h)).elim (λh=> ?_) (λe=>e ▸ rfl))
 exact absurd h (Nat.not_lt_zero _)
abbrev gC:En->R T:=z9 ixT (vE 3) (z8 3 f_4 (z7 (vE 1) (z7 (z9 zf (z9 zf (vE 2) (cE (.int 2))) (vE 0)) (z7 (cE (.int 26)) (zc)))))
theorem xH (ns:List Int)(k:Int)(h0:0<=k)(j:Nat):∃c:Nat,(97<=c/\c<=122)/\gC [.vl (.int (j:Int)),.vl (scr ns),.vl (.int k),.vl (.str "abcdefghijklmnopqrstuvwxyz")]= .ok (.str ⟨#[c]⟩):=by
 obtain⟨p,e,p0,p1⟩:=zK ns (k+2+j) 26 (by omega) (by omega)
 refine⟨97+p.toNat,⟨by omega,by omega⟩, ?_⟩
 simp only[gC,zw,v3,bOk,ZH,v1,v2,v0,jt,Zn,e];exact xG p p0 p1
theorem uX (ns:List Int)(k:Int)(h0:0<=k):∃w:Str,f_i [scr ns,.int k]= .ok (.str w)/\zW (.str w)=true:=by
 have e:f_i [scr ns,.int k]=zr (b_i _ [.vl _,.vl _,.un]):=rfl;obtain⟨p,e0,p0,p1⟩:=zK ns k 6 h0 (by omega)
 have hset:∀t,([Sl.vl (scr ns),Sl.vl (.int k),.un]).set 2 _=[Sl.vl _,Sl.vl _,.vl t]:=λ_=>rfl;rw[e,b_i];simp only[ZP,wz,Js,jt,jb,hset,j7,ZH,v0,v1,bOk,e0,gtI];cases hp:decide (p > 0) with
 | true=>
  obtain⟨q,e1,q0,q1⟩:=zK ns (k+1) 4 (by omega) (by omega)
  simp only[if_true,Zg,jC,jD,zw,ZH,v0,v1,jt,bOk,Zn,e1];have hq:q=0\/q=1\/q=2\/q=3:=by omega
  rcases hq with rfl | rfl | rfl | rfl
  ·exact⟨"a",rfl,by decide⟩
  ·exact⟨"b",rfl,by decide⟩
  ·exact⟨"ab",rfl,by decide⟩
  ·exact⟨"cab",rfl,by decide⟩
 | false=>
  obtain⟨q,e1,q0,q1⟩:=zK ns (k+1) 3 (by omega) (by omega)
  simp only[aF,if_false,nxS,Zg,Jq,jC,jD,Jr,j8];obtain⟨g,hg⟩:=fE.mp (xH ns k h0);have ei:jv (z9 zf (cE (.int 1)) (z8 3 f_4 (z7 (vE 0) (z7 (z9 zf (vE 1) (cE (.int 1))) (z7 (cE (.int 3)) (zc)))))) [Sl.vl (scr ns),Sl.vl (.int k),.vl (.str "abcdefghijklmnopqrstuvwxyz")]= .ok (rng 0 (1+q).toNat):=by
   unfold jv;simp only[zw,ZH,v0,v1,jt,bOk,Zn,e1];rw[if_pos ⟨by omega,by omega⟩]
  have ec:∀n,n<=3->Zr _ _ _ 1 [0,1,2] [Sl.vl _,Sl.vl _,.vl _] _= .ok ((rng 0 n).map λt=>match t with | .int j=> .str ⟨#[g j.toNat]⟩ | t=>t):=λn hn=>
   Zs _ (by unfold rng;rw[ah,cq];exact aC hn (by decide)) λt ht=>by
    obtain⟨j,_,rfl⟩:=bf.mp ht;rw[Int.zero_add];exact(hg j).2
  rw[ei,bOk,ec _ (by omega),bOk]
  have hw:∀j,Z2 _=true:=λj=>by
   obtain⟨a,b⟩:=(hg j).1;unfold Z2;rw[decide_eq_true a,decide_eq_true b];rfl
  have hq:q=0\/q=1\/q=2:=by omega
  rcases hq with rfl | rfl | rfl
  ·refine⟨⟨#[g 0]⟩,rfl, ?_⟩;show (Z2 _ && true)=true;rw[hw 0];rfl
  ·refine⟨⟨#[g 0,g 1]⟩,rfl, ?_⟩;show (Z2 _ && (Z2 _ && true))=true;rw[hw 0,hw 1];rfl
  ·refine⟨⟨#[g 0,g 1,g 2]⟩,rfl, ?_⟩;show (Z2 _ && (Z2 _ && (Z2 _ && true)))=true;rw[hw 0,hw 1,hw 2];rfl
theorem Ka (j:Int):ZT (.int 5) (.int j)= .ok (.int (5*j)):=by
 show (if Wy 5 j then R.ok _ else .bad)=_
 rw[if_pos (.inl ⟨by decide,by decide⟩)]
theorem U6 {f g:En->R T}{ρ:En}{x y:T}(hf:f ρ= .ok x)(hg:g ρ= .ok y):ZX (z7 f (z7 g zc)) ρ= .ok (.tup [x,y]):=by
 unfold ZX z7 zc;rw[hf,hg];rfl
theorem Gg {f g h:En->R T}{ρ:En}{x y z:T}(hf:f ρ= .ok x)(hg:g ρ= .ok y)(hh:h ρ= .ok z):ZX (z7 f (z7 g (z7 h zc))) ρ= .ok (.tup [x,y,z]):=by
 unfold ZX z7 zc;rw[hf,hg,hh];rfl
theorem Gh {f g h i:En->R T}{ρ:En}{x y z w:T}(hf:f ρ= .ok x)(hg:g ρ= .ok y)(hh:h ρ= .ok z)(hi:i ρ= .ok w):ZX (z7 f (z7 g (z7 h (z7 i zc)))) ρ= .ok (.tup [x,y,z,w]):=by
 unfold ZX z7 zc;rw[hf,hg,hh,hi];rfl
noncomputable def Dst (ws:List Str):Prop:=∀(k:Nat) (w:Str),ws[k]? =some w->w ∉ ws.take k
theorem Dst.add {ws:List Str}(h:Dst ws){w:Str}(hw:w ∉ ws):Dst (ws++[w]):=λk x hx=>by
 by_cases hk:k < ws.length
 ·rw[aP hk]at hx;rw[List.take_append_of_le_length (by omega)]
  exact h k x hx
 ·rw[aJ (by omega)]at hx
  have hk' :k=ws.length:=by
   rcases Nat.lt_or_ge (k - ws.length) 1 with z | z
   ·omega
   ·rw[bH (by simpa using z)]at hx;cases hx
  subst hk';rw[Nat.sub_self]at hx;cases hx;rw[List.take_left']
  ·exact hw
  ·rfl
abbrev Wr:En->RS:=zp (zR 5 (z8 2 f_i (z7 (vE 0) (z7 (z9 zf (z9 zf (vE 1) (cE (.int 5))) (z9 ZT (cE (.int 5)) (vE 4))) (zc)))))
  (ifS (zY Yg (vB 5) (vB 3)) (W2 3 (vE 5)) (nxS))
theorem Jv (ns:List Int)(k:Int)(h0:0<=k):∀(js:List Nat) (ws:List Str) (x4 x5:Sl),js.length+ws.length<=4->Dst ws->(∀w∈ws,zW (.str w)=true)->
  ∃ws' y4 y5,JF (Z5 4) Wr (js.map λ(j:Nat)=>T.int (0+(j:Int))) [.vl (scr ns),.vl (.int k),.un,.ow (ws.map T.str),x4,x5]= .nx [.vl (scr ns),.vl (.int k),.un,.ow (ws'.map T.str),y4,y5]/\ws'.length<=4/\Dst ws' /\(∀w∈ws',zW (.str w)=true)/\(0 < js.length+ws.length->0 < ws'.length)
 | [],ws,x4,x5,hl,hd,hw=>⟨ws,x4,x5,rfl,by simpa using hl,hd,hw,λh=>by simpa using h⟩
 | j :: js,ws,x4,x5,hl,hd,hw=>by
  obtain⟨w,ew,hw'⟩:=uX ns (k+5+5*(0+(j:Int))) (by omega)
  have hl' :js.length+ws.length+1<=4:=by simpa[ac,Nat.add_right_comm] using hl
  have e:JF (Z5 4) Wr ((j :: js).map λ(j:Nat)=>T.int (0+(j:Int))) [.vl (scr ns),.vl (.int k),.un,.ow (ws.map T.str),x4,x5]=match Wr [.vl (scr ns),.vl (.int k),.un,.ow (ws.map T.str),.vl (.int (0+(j:Int))),x5] with
   | .nx ρ2=>JF (Z5 4) Wr (js.map λ(j:Nat)=>T.int (0+(j:Int))) ρ2
   | .ct ρ2=>JF (Z5 4) Wr (js.map λ(j:Nat)=>T.int (0+(j:Int))) ρ2
   | .bk ρ2=> .nx ρ2
   | r=>r:=rfl
  have eb:Wr [.vl (scr ns),.vl (.int k),.un,.ow (ws.map T.str),.vl (.int (0+(j:Int))),x5]= .nx [.vl (scr ns),.vl (.int k),.un,.ow ((if w∈ws then ws else ws++[w]).map T.str),.vl (.int (0+(j:Int))),.vl (.str w)]:=by
   have w3o:∀(a b c:Sl) (ts:List T) (ρ:En),vB 3 (a :: b :: c :: .ow ts :: ρ)= .ok _:=λ_ _ _ _ _=>rfl;have hset:∀t,([.vl _,.vl (.int k),.un,.ow (ws.map T.str),.vl (.int (0+(j:Int))),x5]:En).set 5 (.vl t)=[.vl (scr ns),.vl (.int k),.un,.ow (ws.map T.str),.vl _,.vl t]:=λ_=>rfl;have en:Yg (.str w) (.lst (ws.map T.str))= .ok (!decide (w∈ws)):=by
    show ((match Ye (λy=>eqF 30 y (.str w)) (ws.map _) with | some b=>R.ok b | none=> .bad)).bind (λb=>R.ok _)=_
    rw[ul];rfl
   simp only[Wr,ZP,Js,jq,v0,v1,v4,zw,jt,bOk,Zn,Ka,ew,jb,hset,wz,j7,w5,w3o,en]
   by_cases hm:w∈ws
   ·rw[decide_eq_true hm,if_pos hm];rfl
   ·rw[decide_eq_false hm,if_neg hm];have hb:(ws.map T.str).length < bnd:=by rw[ah];exact di (show ws.length<=4 by omega) (by decide)
    show (if (ws.map _).length < bnd then RS.nx _ else .bad)=_
    rw[if_pos hb,dO];rfl
  rw[e,eb]
  by_cases hm:w∈ws
  ·rw[if_pos hm];obtain⟨ws',y4,y5,r1,r2,r3,r4,r5⟩:=Jv ns k h0 js ws _ _ (by omega) hd hw
   exact⟨ws',y4,y5,r1,r2,r3,r4,λ_=>r5 (by have:=List.length_pos_of_mem hm;omega)⟩
  ·rw[if_neg hm];obtain⟨ws',y4,y5,r1,r2,r3,r4,r5⟩:=Jv ns k h0 js _ _ _ (by simp only[ae,ac,ay];omega) (hd.add hm) (λx hx=>by
    rcases aM.mp hx with z | z
    ·exact hw x z
    ·rw[br.mp z];exact hw')
   exact⟨ws',y4,y5,r1,r2,r3,r4,λ_=>r5 (by simp only[ae,ac,ay];omega)⟩
abbrev Kb:En->R T:=ZX (z7 (vE 1) (z7 (z9 zf (cE (.int 1)) (z8 3 f_4 (z7 (vE 2) (z7 (z9 zf (z9 zf (vE 3) (cE (.int 30))) (vE 0)) (z7 (cE (.int 20)) (zc)))))) (zc)))
theorem um (ns:List Int)(k:Int)(h0:0<=k):∀(ws:List Str) (i:Nat) (x0 x1:Sl),(∀w∈ws,zW (.str w)=true)->∃cs:List T,zt (Z9 0 1) Zb Kb (((ws.map T.str).zipIdx i).map λp=>T.tup [.int (p.2:Nat),p.1]) [x0,x1,.vl (scr ns),.vl (.int k)]= .ok cs/\cs.all zL=true/\cs.map ZF=ws
 | [],i,x0,x1,_=>⟨[],rfl,rfl,rfl⟩
 | w :: ws,i,x0,x1,hw=>by
  obtain⟨p,e,p0,p1⟩:=zK ns (k+30+i) 20 (by omega) (by omega)
  obtain⟨cs,r1,r2,r3⟩:=um ns k h0 ws _ _ _ λx hx=>hw x (aa _ hx);have ec:Kb [.vl (.int (i)),.vl (.str w),.vl (scr ns),.vl (.int k)]= .ok (.tup [.str w,.int (1+p)]):=by
   have ea:z8 3 f_4 (z7 (vE 2) (z7 (z9 zf (z9 zf (vE 3) (cE (.int 30))) (vE 0)) (z7 (cE (.int 20)) (zc)))) [.vl (.int (i)),.vl (.str w),.vl (scr ns),.vl (.int k)]= .ok (.int p):=by
    simp only[ZH,v2,v3,v0,zw,jt,bOk,Zn,e]
   have eb:z9 zf (cE (.int 1)) (z8 3 f_4 (z7 (vE 2) (z7 (z9 zf (z9 zf (vE 3) (cE (.int 30))) (vE 0)) (z7 (cE (.int 20)) (zc))))) [.vl (.int (i)),.vl (.str w),.vl (scr ns),.vl (.int k)]= .ok (.int (1+p)):=by
    rw[zw,ea];rfl
   exact U6 v1 eb
  refine⟨.tup [.str w,.int (1+p)] :: cs, ?_, ?_, ?_⟩
  ·show ((Kb [.vl _,.vl _,.vl _,.vl _]).bind λv=>(zt _ _ _ (((ws.map _).zipIdx _).map λp=>T.tup _) [.vl _,.vl _,.vl _,.vl _]).bind λvs=>R.ok _)=_;rw[ec,r1];rfl
  ·rw[cY,r2,Bool.and_true];show (zW _ && decide _ && decide _)=true;rw[hw w ai,decide_eq_true (by omega),decide_eq_true (by omega)];rfl
  ·rw[aZ,r3];rfl
theorem qL (i j:Int):UF (.int i) (.int j)= .ok (.int (if j < i then j else i)):=rfl
theorem vp (ns:List Int)(k:Int)(h0:0<=k):∃t,f_j [scr ns,.int k]= .ok t/\∀d,isK (d+1) t=true:=by
 have e:f_j [scr ns,.int k]=zr (b_j f_4 f_i [.vl (scr ns),.vl (.int k),.un,.un,.un,.un]):=rfl;obtain⟨p,e0,p0,p1⟩:=zK ns k 3 h0 (by omega)
 rw[e,b_j,ZP];simp only[wz,j7,ZH,v0,v1,jt,bOk,e0,gtI,jb];cases hp:decide (p > 0) with
 | true=>
  obtain⟨q,e1,q0,q1⟩:=zK ns (k+1) 7 (by omega) (by omega)
  obtain⟨q3,e3,_,_⟩:=zK ns (k+3) 8 (by omega) (by omega)
  obtain⟨q4,e4,a4,b4⟩:=zK ns (k+4) 3 (by omega) (by omega)
  obtain⟨q2,e2,a2,b2⟩:=zK ns (k+2) 4 (by omega) (by omega)
  have hset:∀t x,([.vl (scr ns),.vl (.int k),x,.un,.un,.un]:En).set 2 (.vl t)=[.vl (scr ns),.vl (.int k),.vl t,.un,.un,.un]:=λ_ _=>rfl;have fin:∀low:Int, -20<=low->low<=20->∃t,zr (zE (ZX (z7 (cE (.str "whole")) (z7 (vE 2) (z7 (z9 UF (cE (.int 20)) (z9 zf (vE 2) (z8 3 f_4 (z7 (vE 0) (z7 (z9 zf (vE 1) (cE (.int 2))) (z7 (cE (.int 4)) (zc))))))) (zc))))) [.vl (scr ns),.vl (.int k),.vl (.int low),.un,.un,.un])= .ok t/\∀d,isK (d+1) t=true:=by
   intro low hl1 hl2;refine⟨.tup [.str "whole",.int low,.int (if low+q2 < 20 then low+q2 else 20)], ?_,λd=> ?_⟩
   ·rw[Zg,Jq];refine Gg rfl rfl ?_;simp only[jC,YW,jD,zw,v2,v0,v1,ZH,jt,bOk,Zn,e2,qL]
   ·show (decide (-20<=low) && decide (low<=_) && decide (_<=(20:Int)))=true;rw[decide_eq_true hl1,decide_eq_true (by split <;> omega),decide_eq_true (by split <;> omega)];rfl
  simp only[if_true,ZP,Js,wz,zw,ZH,v0,v1,jt,bOk,Zn,e1,Ju,jb,hset,j7,e3,eqI];cases hq:(q3 == 0) with
  | true=>
   have h3:q4=0\/q4=1\/q4=2:=by omega
   rcases h3 with rfl | rfl | rfl
   ·obtain⟨t,r,s⟩:=fin (-20) (by omega) (by omega)
    refine⟨t, ?_,s⟩;rw[← r];simp only[if_true,e4,bOk];have hv:∀ρ,(ja (z7 (WD (cE (.int 20))) (z7 (cE (.int 17)) (z7 (cE (.int 20)) (zc)))) ρ)= .ok (.lst _):=λ_=>rfl;simp only[hv,bOk];have hx:ixT (.lst [.int (-20),.int 17,.int 20]) (.int 0)= .ok (.int (-20)):=rfl;simp only[hx,jb,hset,Zg];generalize ZX _ _=z;cases z <;> rfl
   ·obtain⟨t,r,s⟩:=fin (17) (by omega) (by omega)
    refine⟨t, ?_,s⟩;rw[← r];simp only[if_true,e4,bOk];have hv:∀ρ,(ja (z7 (WD (cE (.int 20))) (z7 (cE (.int 17)) (z7 (cE (.int 20)) (zc)))) ρ)= .ok (.lst _):=λ_=>rfl;simp only[hv,bOk];have hx:ixT (.lst [.int (-20),.int 17,.int 20]) (.int 1)= .ok (.int (17)):=rfl;simp only[hx,jb,hset,Zg];generalize ZX _ _=z;cases z <;> rfl
   ·obtain⟨t,r,s⟩:=fin (20) (by omega) (by omega)
    refine⟨t, ?_,s⟩;rw[← r];simp only[if_true,e4,bOk];have hv:∀ρ,(ja (z7 (WD (cE (.int 20))) (z7 (cE (.int 17)) (z7 (cE (.int 20)) (zc)))) ρ)= .ok (.lst _):=λ_=>rfl;simp only[hv,bOk];have hx:ixT (.lst [.int (-20),.int 17,.int 20]) (.int 2)= .ok (.int (20)):=rfl;simp only[hx,jb,hset,Zg];generalize ZX _ _=z;cases z <;> rfl
  | false=>
   obtain⟨t,r,s⟩:=fin (q - 3) (by omega) (by omega)
   refine⟨t, ?_,s⟩;rw[← r];simp only[aF,if_false,nxS,Zg];generalize ZX _ _=z;cases z <;> rfl
 | false=>
  obtain⟨q,e1,q0,q1⟩:=zK ns (k+1) 4 (by omega) (by omega)
  simp only[aF,if_false,nxS,ZP];have ei:jv (z9 zf (cE (.int 1)) (z8 3 f_4 (z7 (vE 0) (z7 (z9 zf (vE 1) (cE (.int 1))) (z7 (cE (.int 4)) (zc)))))) [.vl (scr ns),.vl (.int k),.un,.ow [],.un,.un]= .ok (rng 0 (1+q).toNat):=by
   unfold jv;simp only[zw,ZH,v0,v1,jt,bOk,Zn,e1];rw[if_pos ⟨by omega,by omega⟩]
  have el:UI 3 zc [.vl (scr ns),.vl (.int k),.un,.un,.un,.un]= .nx [.vl (scr ns),.vl (.int k),.un,.ow [],.un,.un]:=rfl;rw[el];have hn:(bM (1+q).toNat).length=(1+q).toNat:=cq;obtain⟨ws,y4,y5,r1,r2,r3,r4,r5⟩:=Jv ns k h0 _ [] .un .un (by rw[hn,ay];omega) (λk w h=>by cases h) (λw h=>by cases h)
  have ef:UL (jv (z9 zf (cE (.int 1)) (z8 3 f_4 (z7 (vE 0) (z7 (z9 zf (vE 1) (cE (.int 1))) (z7 (cE (.int 4)) (zc))))))) (Z5 4) Wr [.vl (scr ns),.vl (.int k),.un,.ow [],.un,.un]= .nx [.vl (scr ns),.vl (.int k),.un,.ow (ws.map T.str),y4,y5]:=by
   unfold UL;rw[ei,jb];exact r1
  obtain⟨cs,s1,s2,s3⟩:=um ns k h0 ws 0 .un .un r4;have hcl:cs.length=ws.length:=by rw[← s3,ah]
  refine⟨.tup [.str "pick",.tup cs], ?_,λd=> ?_⟩
  ·dsimp only;rw[ef];dsimp only;rw[Zg,Jq];refine U6 rfl ?_;rw[Jr,j8];have ee:QI (vE 3) (frz [.vl (scr ns),.vl (.int k),.un,.ow (ws.map T.str),y4,y5])= .ok _:=rfl;rw[ee,bOk];unfold Zr;rw[if_pos (by unfold jk;rw[ah,List.length_zipIdx,ah];exact aC r2 (by decide))]
   have ec:zt _ _ _ (jk _) (JC 2 [0,1] (frz [.vl _,.vl _,.un,.ow (ws.map T.str),y4,y5]))= .ok cs:=s1;rw[ec];rfl
  ·show (decide _ && decide _ && cs.all _ && decide _)=true;have hd:(dd [] (cs.map ZF)).length=cs.length:=by
    rw[s3,hcl];have:=(wA ws []).mpr (λk w h=>by simpa using r3 k w h)
    simpa using this
   rw[decide_eq_true (by omega),decide_eq_true (by omega),s2,decide_eq_true hd];rfl
theorem vq (c:Int)(j:Int)(hc:Wy c j):ZT (.int c) (.int j)= .ok (.int (c*j)):=by
 show (if Wy c j then R.ok _ else .bad)=_
 rw[if_pos hc]
theorem xI (j:Int):ZT (.int 3) (.int j)= .ok (.int (3*j)):=vq _ _ (.inl ⟨by decide,by decide⟩)
theorem xJ (j:Int):ZT (.int 50) (.int j)= .ok (.int (50*j)):=vq _ _ (.inl ⟨by decide,by decide⟩)
abbrev Xr (c:List T->R T):En->R T:=z8 3 c (z7 (vE 1) (z7 (z9 zf (z9 zf (z9 ZT (cE (.int 3)) (vE 2)) (cE (.int 40))) (z9 ZT (cE (.int 50)) (vE 0))) (z7 (z9 JB (vE 3) (cE (.int 1))) (zc))))
theorem WT (ns:List Int):∀(d n:Nat),d<=n->1<=d->∀k:Int,0<=k->∃t,S_2 n 0 [scr ns,.int k,.int (d:Int)]= .ok t/\isK d t=true
 | d+1,n+1,hn,_,k,h0=>by
  have e:S_2 (n+1) 0 [scr ns,.int k,.int ((d+1:Nat))]=zr (b_2 f_4 f_j (S_2 n 0) [.vl (scr ns),.vl (.int k),.vl _,.un,.un,.un]):=rfl;obtain⟨p,e0,p0,p1⟩:=zK ns k 5 h0 (by omega)
  obtain⟨l,el,hl⟩:=vp ns (k+1) (by omega)
  have hset:([.vl (scr ns),.vl (.int k),.vl (.int ((d+1:Nat))),.un,.un,.un]:En).set 3 (.vl (.int p))=[.vl (scr ns),.vl (.int k),.vl _,.vl (.int p),.un,.un]:=rfl;rw[e,b_2];simp only[ZP,Js,wz,yo,j7,ZH,jq,v0,v1,v2,jt,bOk,e0,jb,hset,w2,w3,eqI,ltI,Zn,Zg,jC,YW,jD,zw,el];have hd1:((((d+1:Nat):Int) == 1))=decide (d=0):=by
   by_cases h:d=0
   ·subst h;rfl
   ·rw[decide_eq_false h,beq_eq_false_iff_ne];omega
  rw[hd1]
  by_cases hleaf:d=0\/p < 2
  ·refine⟨l, ?_,hl d⟩;rcases hleaf with h | h
   ·rw[decide_eq_true h];rfl
   ·rw[decide_eq_true h];cases decide (d=0) <;> rfl
  ·have hd0:¬ d=0:=λz=>hleaf (.inl z);have hp2:¬ p < 2:=λz=>hleaf (.inr z);have hsub:((d+1:Nat)) - 1=(d:Int):=by omega
   rw[decide_eq_false hd0,decide_eq_false hp2];simp only[aF,if_false,jb,nxS,w3,v0,v1,v2,bOk,ltI,jt];cases hp:decide (p < 4) with
   | true=>
    obtain⟨q,e1,q0,q1⟩:=zK ns (k+1) 3 (by omega) (by omega)
    have hj:∀j:Nat,∃t,Xr (S_2 n 0) [.vl (.int (0+(j:Int))),.vl (scr ns),.vl (.int k),.vl (.int ((d+1:Nat)))]= .ok t/\isK d t=true:=λj=>by
     obtain⟨t,r,s⟩:=WT ns d n (by omega) (by omega) (3*k+40+50*(0+(j:Int))) (by omega)
     refine⟨t, ?_,s⟩;simp only[Xr,ZH,v0,v1,v2,v3,zw,jt,bOk,xI,xJ,Zn,Ju,hsub,r]
    obtain⟨g,hg⟩:=fE.mp hj;have ei:jv (z9 zf (cE (.int 1)) (z8 3 f_4 (z7 (vE 0) (z7 (z9 zf (vE 1) (cE (.int 1))) (z7 (cE (.int 3)) (zc)))))) [.vl (scr ns),.vl (.int k),.vl (.int ((d+1:Nat))),.vl (.int p),.un,.un]= .ok (rng 0 (1+q).toNat):=by
     unfold jv;simp only[zw,ZH,v0,v1,jt,bOk,Zn,e1];rw[if_pos ⟨by omega,by omega⟩]
    have ec:Zr (Z5 0) Zb (Xr (S_2 n 0)) 1 [0,1,2] [.vl (scr ns),.vl (.int k),.vl _,.vl (.int p),.un,.un] _= .ok ((rng 0 (1+q).toNat).map λt=>match t with | .int j=>g j.toNat | t=>t):=
     Zs _ (by unfold rng;rw[ah,cq];exact aC (show (1+q).toNat<=3 by omega) (by decide)) λt ht=>by
      obtain⟨j,_,rfl⟩:=bf.mp ht;show Xr (S_2 n 0) [.vl _,.vl (scr ns),.vl (.int k),.vl _]= .ok (g _);rw[(hg j).1,Int.zero_add,Int.toNat_natCast]
    generalize hcs:((rng 0 (1+q).toNat).map λt=>match t with | .int j=>g j.toNat | t=>t)=cs at ec
    have hlen:cs.length=(1+q).toNat:=by rw[← hcs];unfold rng;rw[ah,ah,cq]
    have hall:∀t∈cs,isK d t=true:=λt ht=>by
     rw[← hcs]at ht;obtain⟨u,hu,rfl⟩:=bf.mp ht;obtain⟨j,_,rfl⟩:=bf.mp hu;exact(hg _).2
    refine⟨.tup [.str "row",.tup cs], ?_, ?_⟩
    ·have hs4:([.vl (scr ns),.vl (.int k),.vl (.int ((d+1:Nat))),.vl (.int p),.un,.un]:En).set 4 (.vl (.lst cs))=[.vl (scr ns),.vl (.int k),.vl _,.vl (.int p),.vl (.lst cs),.un]:=rfl;simp only[if_true,j8,ei,bOk,ec,jb,hs4,jC,YW,jD];rfl
    ·show (decide _ && decide _ && cs.all _)=true;rw[decide_eq_true (by omega),decide_eq_true (by omega),aI.mpr hall];rfl
   | false=>
    obtain⟨q,e1,q0,q1⟩:=zK ns (k+1) 3 (by omega) (by omega)
    obtain⟨q2,e2,_,_⟩:=zK ns (k+2) 3 (by omega) (by omega)
    obtain⟨t,r,s⟩:=WT ns d n (by omega) (by omega) (3*k+40) (by omega)
    refine⟨.tup [.str "many",t,.int q,.int (if q+q2 < 3 then q+q2 else 3)], ?_, ?_⟩
    ·have hs5:([.vl (scr ns),.vl (.int k),.vl (.int ((d+1:Nat))),.vl (.int p),.un,.un]:En).set 5 (.vl (.int q))=[.vl _,.vl _,.vl _,.vl _,.un,.vl _]:=rfl;simp only[aF,if_false,v0,v1,zw,jt,bOk,Zn,e1,jb,hs5,jC,YW,jD,Jq];refine Gh rfl ?_ rfl ?_
     ·simp only[ZH,v0,v1,v2,zw,jt,bOk,xI,Zn,Ju,hsub,r]
     ·have v5:∀{t:T} {a b c d e:Sl} {ρ:En},vE 5 (a :: b :: c :: d :: e :: .vl t :: ρ)= .ok t:=rfl;simp only[ZH,v0,v1,v5,zw,jt,bOk,Zn,e2,qL]
    ·show (jI 0 3 _ _ && isK d t)=true;rw[s,Bool.and_true];show (decide _ && decide _ && decide _)=true;rw[decide_eq_true (by omega),decide_eq_true (by split <;> omega),decide_eq_true (by split <;> omega)];rfl
mutual
noncomputable def dep:T->Nat
 | .tup xs=>yX xs+1
 | .lst xs=>yX xs+1
 | _=>1
noncomputable def yX:List T->Nat
 | []=>0
 | t :: ts=>max (dep t) (yX ts)
end
mutual
noncomputable def siz:T->Nat
 | .tup xs=>yY xs+1
 | .lst xs=>yY xs+1
 | _=>1
noncomputable def yY:List T->Nat
 | []=>0
 | t :: ts=>siz t+yY ts
end
theorem jL {w:Str}{t:T}(h:isS w t=true):t= .str w:=by
 cases t with
 | str s=>
  have:=h;rw[eq_of_beq this]
 | _=>cases h
theorem jU {lo hi:Int}{a b:T}(h:jI lo hi a b=true):∃i j,a= .int i/\b= .int j:=by
 cases a with
 | int i=>
  cases b with
  | int j=>exact⟨i,j,rfl,rfl⟩
  | _=>cases h
 | _=>cases h
structure Fit (D S:Nat) (t:T):Prop where
 so:sOk t
 dp:dep t<=D
 sz:siz t<=S
theorem uY {c:T}(h:zL c=true):Fit 2 3 c:=by
 unfold zL at h;split at h
 ·rename_i w i;have hw:=by
   rw[a9,a9]at h;exact h.1.1
  cases w with
  | str x=>
   have hx:(decide _ && decide _ && x.cps.toList.all _)=true:=hw;rw[a9,a9,decide_eq_true_eq,decide_eq_true_eq]at hx;refine⟨?_, ?_, ?_⟩
   ·simp only[sOk,Wm,and_true];exact aC hx.1.2 (by decide)
   ·simp[dep,yX]
   ·simp[siz,yY]
  | _=>cases hw
 ·cases h
theorem Kc {D S:Nat}:∀{cs:List T},(∀c∈cs,Fit D S c)->Wm cs/\yX cs<=D/\yY cs<=S*cs.length
 | [],_=>⟨by simp only[Wm],bE _,bE _⟩
 | c :: cs,h=>by
  obtain⟨a,b,d⟩:=Kc λx hx=>h x (aa _ hx);obtain⟨x,y,z⟩:=h c ai;refine⟨?_, ?_, ?_⟩
  ·exact⟨x,a⟩
  ·simp only[yX];omega
  ·simp only[yY,ac,Nat.mul_add,Nat.mul_one];omega
theorem wB:∀(d:Nat) (t:T),isK d t=true->Fit (2*d+2) (15*4 ^ d) t
 | 0,_,h=>by cases h
 | d+1,t,h=>by
  have hone:1<=4 ^ d:=Nat.pow_pos (by omega)
  have h:uW _ t=true:=h;unfold uW at h;split at h
  ·rename_i hd r;split at h
   ·rename_i e;rw[jL e];unfold Wo at h;split at h
    ·obtain⟨i,j,rfl,rfl⟩:=jU h;refine⟨by simp only[sOk,Wm,and_true];decide,by simp only[dep,yX];omega,by simp only[siz,yY];omega⟩
    ·cases h
   ·split at h
    ·rename_i e;rw[jL e];unfold yr at h;split at h
     ·unfold uk at h;split at h
      ·rw[a9,a9,a9,decide_eq_true_eq,decide_eq_true_eq]at h;obtain⟨a,b,z⟩:=Kc λc hc=>uY (aI.mp h.1.2 c hc);refine⟨by simp only[sOk,Wm,and_true];exact⟨by decide,a⟩,by simp only[dep,yX];omega,by simp only[siz,yY];omega⟩
      ·cases h
     ·cases h
    ·split at h
     ·rename_i e;rw[jL e];unfold xD at h;split at h
      ·unfold Jt at h;split at h
       ·rename_i cs;rw[a9,a9,decide_eq_true_eq,decide_eq_true_eq]at h;obtain⟨a,b,z⟩:=Kc λc hc=>wB d c (aI.mp h.2 c hc);have:15*4 ^ d*cs.length<=15*4 ^ d*3:=eF _ h.1.2;refine⟨by simp only[sOk,Wm,and_true];exact⟨by decide,a⟩,by simp only[dep,yX];omega,by simp only[siz,yY];omega⟩
       ·cases h
      ·cases h
     ·split at h
      ·rename_i e;rw[jL e];unfold yt at h;split at h
       ·rename_i c a b;rw[a9]at h;obtain⟨i,j,rfl,rfl⟩:=jU h.1;obtain⟨x,y,z⟩:=wB d c h.2;refine⟨by simp only[sOk,Wm,and_true];exact⟨by decide,x⟩,by simp only[dep,yX];omega,by simp only[siz,yY];omega⟩
       ·cases h
      ·cases h
  ·cases h
theorem Gi {f:En->R T}{ρ:En}{x:T}(hf:f ρ= .ok x):ZX (z7 f zc) ρ= .ok (.tup [x]):=by
 unfold ZX z7 zc;rw[hf];rfl
inductive Kd where
 | whole (lo hi:Int)
 | pick (cs:List (Str×Int))
 | row (ks:List Kd)
 | many (k:Kd) (lo hi:Nat)
noncomputable def jE (c:Str×Int):T:= .tup [.str c.1,.int c.2]
mutual
noncomputable def Kd.t:Kd->T
 | .whole lo hi=> .tup [.str "whole",.int lo,.int hi]
 | .pick cs=> .tup [.str "pick",.tup (cs.map jE)]
 | .row ks=> .tup [.str "row",.tup (Kd.ts ks)]
 | .many k lo hi=> .tup [.str "many",k.t,.int (lo:Int),.int (hi:Int)]
noncomputable def Kd.ts:List Kd->List T
 | []=>[]
 | k :: ks=>k.t :: Kd.ts ks
end
theorem Kd.ts_map:∀ks:List Kd,Kd.ts ks=ks.map Kd.t
 | []=>by simp only[Kd.ts,cu]
 | k :: ks=>by simp only[Kd.ts,aZ,Kd.ts_map ks]
def Kd.Ok:Nat->Kd->Prop
 | 0,_=>False
 | _+1,.whole lo hi=> -20<=lo/\lo<=hi/\hi<=20
 | _+1,.pick cs=>1<=cs.length/\cs.length<=4/\(∀c∈cs,zW (.str c.1)=true/\1<=c.2/\c.2<=20)/\Dst (cs.map (·.1))
 | d+1,.row ks=>1<=ks.length/\ks.length<=3/\∀k∈ks,Kd.Ok d k
 | d+1,.many k lo hi=>lo<=hi/\hi<=3/\Kd.Ok d k
theorem yv {c:T}(h:zL c=true):∃p:Str×Int,c=jE p/\zW (.str p.1)=true/\1<=p.2/\p.2<=20:=by
 unfold zL at h;split at h
 ·rename_i w i;rw[a9,a9,decide_eq_true_eq,decide_eq_true_eq]at h;cases w with
  | str x=>exact⟨(x,i),rfl,h.1.1,h.1.2,h.2⟩
  | _=>cases h.1.1
 ·cases h
theorem WU {α:Type}{P:T->Prop}{Q:α->Prop}{f:α->T}(H:∀t,P t->∃a,t=f a/\Q a):∀(ts:List T),(∀t∈ts,P t)->∃as:List α,ts=as.map f/\∀a∈as,Q a
 | [],_=>⟨[],rfl,λ_ h=>nomatch h⟩
 | t :: ts,h=>by
  obtain⟨a,rfl,ha⟩:=H t (h t ai);obtain⟨as,rfl,has⟩:=WU H ts λu hu=>h u (aa _ hu);exact⟨a :: as,rfl,λb hb=>by
   rcases ak.mp hb with rfl | hb
   ·exact ha
   ·exact has b hb⟩
theorem wC:∀(d:Nat) (t:T),isK d t=true->∃k:Kd,t=k.t/\k.Ok d
 | 0,_,h=>by cases h
 | d+1,t,h=>by
  have h:uW _ t=true:=h;unfold uW at h;split at h
  ·rename_i hd r;split at h
   ·rename_i e;rw[jL e];unfold Wo at h;split at h
    ·obtain⟨i,j,rfl,rfl⟩:=jU h;have h:(decide _ && decide _ && decide _)=true:=h;rw[a9,a9,decide_eq_true_eq,decide_eq_true_eq,decide_eq_true_eq]at h;exact⟨.whole i j,by simp only[Kd.t],h.1.1,h.1.2,h.2⟩
    ·cases h
   ·split at h
    ·rename_i e;rw[jL e];unfold yr at h;split at h
     ·unfold uk at h;split at h
      ·rename_i cs;rw[a9,a9,a9,decide_eq_true_eq,decide_eq_true_eq,decide_eq_true_eq]at h;obtain⟨⟨⟨h1,h2⟩,h3⟩,h4⟩:=h;obtain⟨as,rfl,has⟩:=WU (λt ht=>yv ht) cs λc hc=>aI.mp h3 c hc;rw[ah]at h1 h2;refine⟨.pick as,by simp only[Kd.t],h1,h2,has, ?_⟩
       have e1:(as.map jE).map ZF=as.map (·.1):=by rw[bz];rfl
       rw[e1]at h4;have:=(wA _ []).mp (by rw[h4,ah];simp)
       exact λk w hw hm=>this k w hw (by simpa using hm)
      ·cases h
     ·cases h
    ·split at h
     ·rename_i e;rw[jL e];unfold xD at h;split at h
      ·unfold Jt at h;split at h
       ·rename_i cs;rw[a9,a9,decide_eq_true_eq,decide_eq_true_eq]at h;obtain⟨ks,rfl,hks⟩:=WU (λt ht=>wC d t ht) cs λc hc=>aI.mp h.2 c hc;rw[ah]at h;exact⟨.row ks,by simp only[Kd.t,Kd.ts_map],h.1.1,h.1.2,hks⟩
       ·cases h
      ·cases h
     ·split at h
      ·rename_i e;rw[jL e];unfold yt at h;split at h
       ·rename_i c a b;rw[a9]at h;obtain⟨h1,h2⟩:=h;obtain⟨i,j,rfl,rfl⟩:=jU h1;obtain⟨k,rfl,hk⟩:=wC d c h2;have h1:(decide _ && decide _ && decide _)=true:=h1;rw[a9,a9,decide_eq_true_eq,decide_eq_true_eq,decide_eq_true_eq]at h1;obtain⟨⟨a1,a2⟩,a3⟩:=h1;obtain⟨m,rfl⟩:=cK a1;obtain⟨n,rfl⟩:=cK (Int.le_trans a1 a2);exact⟨.many k m n,by simp only[Kd.t],by omega,by omega,hk⟩
       ·cases h
      ·cases h
  ·cases h
noncomputable def xK (made:List (List T)):List (List T)->List (List T)
 | []=>made
 | ls :: r=>xK (made.flatMap λa=>ls.map λx=>a++[x]) r
abbrev gD (ls:List (List T)):List T:=(xK [[]] ls).map T.tup
mutual
noncomputable def Kd.all:Kd->List T
 | .whole lo hi=>(bM (hi+1 - lo).toNat).map λ(i:Nat)=>T.int (lo+(i:Int))
 | .pick cs=>cs.map λc=>T.str c.1
 | .row ks=>gD (Kd.alls ks)
 | .many k lo hi=>(bM (hi+1 - lo)).flatMap λi=>gD (av (lo+i) k.all)
noncomputable def Kd.alls:List Kd->List (List T)
 | []=>[]
 | k :: ks=>k.all :: Kd.alls ks
end
theorem zd {f g:En->RS}{ρ ρ' :En}(h:f ρ= .nx ρ'):zp f g ρ=g ρ' :=by rw[ZP,h]
theorem cs0 {x w:Str}{r:List T}{ρ:En}:zY eqC (z9 ixT (vE 0) (cE (.int 0))) (cE (.str w)) (.vl (.tup (.str x :: r)) :: ρ)= .ok (x == w):=by
 rw[j7,zw,v0,bOk,jt,bOk,at0,jt,bOk];rfl
theorem vt {a b:T}{r:List T}{ρ:En}:z9 ixT (vE 0) (cE (.int 1)) (.vl (.tup (a :: b :: r)) :: ρ)= .ok b:=by
 rw[zw,v0,bOk,jt,bOk,at1]
theorem gE {a b c:T}{r:List T}{ρ:En}:z9 ixT (vE 0) (cE (.int 2)) (.vl (.tup (a :: b :: c :: r)) :: ρ)= .ok c:=by
 rw[zw,v0,bOk,jt,bOk,at2]
theorem Gj {a b c d:T}{r:List T}{ρ:En}:z9 ixT (vE 0) (cE (.int 3)) (.vl (.tup (a :: b :: c :: d :: r)) :: ρ)= .ok d:=by
 rw[zw,v0,bOk,jt,bOk,at3]
theorem yw {g:En->R Bool}{f1 f2:En->RS}{ρ:En}(h:g ρ= .ok true):ifS g f1 f2 ρ=f1 ρ:=by rw[wz,h,jb,if_pos rfl]
theorem Gk {g:En->R Bool}{f1 f2:En->RS}{ρ:En}(h:g ρ= .ok false):ifS g f1 f2 ρ=f2 ρ:=by rw[wz,h,jb,if_neg aQ]
theorem Z3 {g:En->R Bool}{f1:En->RS}{ρ:En}(h:g ρ= .ok false):ifS g f1 nxS ρ= .nx ρ:=by rw[Gk h];rfl
theorem zP {i:Nat}{f:En->R T}{ρ:En}{t:T}(h:f ρ= .ok t):zR i f ρ= .nx (ρ.set i (.vl t)):=by rw[Js,h,jb]
theorem zX {f:En->R T}{ρ:En}{t:T}(h:f (frz ρ)= .ok t):zE f ρ= .rt t:=by rw[Zg,h,jb]
theorem uo {g:T->En->R En}{fb:En->RS}{t:T}{ts:List T}{ρ ρ1 ρ2:En}(hg:g t ρ= .ok ρ1)(hb:fb ρ1= .nx ρ2):JF g fb (t :: ts) ρ=JF g fb ts ρ2:=by
 rw[JF,hg];dsimp only;rw[hb]
theorem jM {f g:En->RS}{ρ:En}{t:T}(h:f ρ= .rt t):zp f g ρ= .rt t:=by rw[ZP,h]
theorem Ke (ns:List Int)(d:Nat)(h1:1<=d)(h8:d<=8)(k:Int)(h0:0<=k):∃q:Kd,f_2 8 [scr ns,.int k,.int (d:Int)]= .ok q.t/\q.Ok d:=by
 obtain⟨t,ht,hi⟩:=WT ns d 8 h8 h1 k h0;obtain⟨q,rfl,hq⟩:=wC d t hi;exact⟨q,ht,hq⟩
theorem yx:∀(d:Nat) (k:Kd),k.Ok d->isK d k.t=true
 | 0,_,h=>h.elim
 | d+1,.whole lo hi,h=>by
  have e:isK (d+1) (Kd.whole lo hi).t=(decide (-20<=lo) && decide (lo<=hi) && decide (hi<=20)):=by rfl
  obtain⟨h1,h2,h3⟩:=h;rw[e];simp;omega
 | d+1,.pick cs,h=>by
  have e:isK (d+1) (Kd.pick cs).t=(decide (1<=(cs.map jE).length) && decide ((cs.map jE).length<=4) && (cs.map jE).all zL && decide ((dd [] ((cs.map jE).map ZF)).length=(cs.map jE).length)):=by rfl
  obtain⟨h1,h2,h3,h4⟩:=h;have e1:(cs.map jE).map ZF=cs.map (·.1):=by rw[bz];rfl
  have e2:=(wA _ []).mpr λk w hw=>by simpa using h4 k w hw
  rw[e,e1,e2,ah];simp only[a9,decide_eq_true_eq,aI];refine⟨⟨⟨h1,h2⟩,λc hc=> ?_⟩,by simp⟩
  obtain⟨p,hp,rfl⟩:=bf.mp hc;obtain⟨a,b,c⟩:=h3 p hp;show (zW _ && decide _ && decide _)=true;rw[a];simp;omega
 | d+1,.row ks,h=>by
  have e:isK (d+1) (Kd.row ks).t=(decide (1<=(ks.map Kd.t).length) && decide ((ks.map Kd.t).length<=3) && (ks.map Kd.t).all (isK d)):=by rw[Kd.t,Kd.ts_map];rfl
  obtain⟨h1,h2,h3⟩:=h;rw[e,ah];simp only[a9,decide_eq_true_eq,aI];refine⟨⟨h1,h2⟩,λc hc=> ?_⟩;obtain⟨k,hk,rfl⟩:=bf.mp hc;exact yx d k (h3 k hk)
 | d+1,.many k lo hi,h=>by
  have e:isK (d+1) (Kd.many k lo hi).t=((decide ((0:Int)<=(lo:Int)) && decide ((lo:Int)<=(hi)) && decide ((hi:Int)<=3)) && isK d k.t):=by rfl
  obtain⟨h1,h2,h3⟩:=h;rw[e,yx d k h3];simp;omega
theorem Zh {f g:En->RS}{ρ:En}{c:Nat}(h:f ρ= .ex c):zp f g ρ= .ex c:=by rw[ZP,h]
theorem JZ (k:Kd)(m:Nat):((av m k).map λk=>k.all.length)=av m k.all.length:=by rw[List.map_replicate]
theorem Zk {f:T->T->Option Bool}:∀(xs:List T),(∀x∈xs,f x x=some true)->eqL f xs xs=some true
 | [],_=>rfl
 | x :: xs,h=>by
  unfold eqL;rw[h x ai,Zk xs λz hz=>h z (aa _ hz)];rfl
theorem yy {f:En->R T}{ρ:En}{t:T}(h:f ρ= .ok t):UJ f ρ= .nx ρ:=by unfold UJ;rw[h,jb]
theorem qM {i:Nat}{f:En->R T}{ρ:En}{c:Nat}(h:f ρ= .ex c):zR i f ρ= .ex c:=by rw[Js,h];rfl
noncomputable def S (l:List Nat):Str:=⟨l.toArray⟩
theorem zQ (l:List Nat):(S l).cps.toList=l:=by simp[S]
theorem zH (l:List Nat):(S l).length=l.length:=by simp[S,dE]
theorem Jw (a b:List Nat):S a++S b=S (a++b):=Str.ext' (by simp[S,Str.cps_append])
theorem xL (x:Str):S x.cps.toList=x:=Str.ext' (by simp[S])
theorem xM {a b:List Nat}(h:S a=S b):a=b:=by rw[← zQ a,h,zQ]
noncomputable def jn:List (List Nat)->List Nat
 | []=>[]
 | [x]=>x
 | x :: y :: r=>x++32 :: jn (y :: r)
theorem yz:∀ls:List (List Nat),Str.join (S [32]) (ls.map S)=S (jn ls)
 | []=>rfl
 | [x]=>rfl
 | x :: y :: r=>by
  have h:=yz (y :: r);show S x++S [32]++Str.join (S [32]) ((y :: r).map S)=_;rw[h,Jw,Jw];simp[jn]
theorem xN (l m:List Nat)(i:Nat):fO (S l) (S m) (S l).length i↔i+m.length<=l.length/\(l.drop i).take m.length=m:=by
 unfold fO;rw[c7,zH,zH,zQ,zQ,beq_iff_eq]
theorem xO (l:List Nat)(i j:Nat):cI (S l) i j=S ((l.drop i).take (j - i)):=by
 rw[← xL (cI (S l) i j),StrLaws.strSub_toList,zQ]
theorem vv (c d:Nat)(l:List Nat):bK (S (c :: l)) (S [d])=(c == d):=by
 unfold bK;rw[c7,zH,zH,zQ,zQ];simp
theorem Kf (c:Nat)(l:List Nat):bX (S (l++[c])) (S [c])=true:=by
 unfold bX;rw[c7,zH,zH,zQ,zQ];simp
theorem xP {l:List Nat}{a b:Nat}(h1:a<=b)(h2:b<=l.length):bR (S l) (some (a:Int)) (some (b:Int))=S ((l.drop a).take (b - a)):=by
 have:=StrLaws.sliceText_nat (S l) h1 (by rw[zH];exact h2)
 rw[zQ]at this;exact this
theorem yA {l:List Nat}{a:Nat}(h:a<=l.length):bR (S l) (some (a:Int)) none=S (l.drop a):=by
 have:=StrLaws.sliceText_from (x:=S l) (i:=(a:Int)) ⟨by omega,by rw[zQ];omega⟩
 rw[zQ]at this;refine Eq.trans this ?_;show S _=S _;congr 1
 rw[show ((a:Int)).toNat=a by omega]
 exact dL (by simp)
theorem xQ (c d:Nat)(l:List Nat):bR (S (c :: (l++[d]))) (some 1) (some (-1))=S l:=by
 have e:bR (S (c :: (l++[d]))) (some 1) (some (-1))=bR (S (c :: (l++[d]))) (some 1) (some (-1+(S (c :: (l++[d]))).length)):=StrLaws.sliceText_neg_hi _ _ (by decide) (by rw[zH];simp;omega)
 rw[e,zH,show (-1+((c :: (l++[d])).length:Nat):Int)=((l.length+1:Nat):Int) by simp;omega,show (1:Int)=((1:Nat):Int) from rfl,xP (by omega) (by simp)]
 simp
theorem Kg {l:List Nat}{c i:Nat}(h:i < l.length):cG (S l) (S [c]) (i:Int)=(l[i]? == some c):=by
 unfold cG;have e:fromIndex (S l).length (i:Int)=i:=by
  unfold fromIndex;rw[if_neg (by omega)]
  omega
 rw[e,c7,zH,zH,zQ,zQ];have e2:decide (i+[c].length<=l.length)=true:=decide_eq_true (by simp;omega)
 rw[e2,Bool.true_and];have:((l.drop i).take [c].length == [c])=(l[i]? == some c):=by
  rw[az h,bc h];show ([l[i]] == [c])=_;simp
 exact this
def nl (i:Int):List Nat:=(QU i).cps.toList
theorem Gm (i:Int):QU i=S (nl i):=(xL _).symm
def nOk (i:Int):Bool:=decide ((nl i).length<=3) && !(nl i).isEmpty && (nl i).all (λc=>c == 45 || (decide (48<=c) && decide (c<=57))) && decide (rdI (QU i)=some i)
theorem Kh:∀k < 41,nOk ((k:Nat) - 20:Int)=true:=by decide+kernel
theorem Xs {i:Int}(h1: -20<=i)(h2:i<=20):(nl i).length<=3/\nl i ≠ []/\(∀c∈nl i,c=45\/(48<=c/\c<=57))/\rdI (QU i)=some i:=by
 have:=Kh (i+20).toNat (by omega)
 rw[show (((i+20).toNat:Nat) - 20:Int)=i by omega]at this
 unfold nOk at this;simp at this;exact⟨this.1.1.1,this.1.1.2,this.1.2,this.2⟩
def chx (c:Str×Int):List Nat:=c.1.cps.toList++[58]++nl c.2
def spx (lo hi:Int):List Nat:=nl lo++[46,46]++nl hi
mutual
noncomputable def Kd.x:Kd->List Nat
 | .whole lo hi=>spx lo hi
 | .pick cs=>123 :: (jn (cs.map chx)++[125])
 | .row ks=>40 :: (jn (Kd.xs ks)++[41])
 | .many k lo hi=>91 :: (k.x++93 :: spx lo hi)
noncomputable def Kd.xs:List Kd->List (List Nat)
 | []=>[]
 | k :: ks=>k.x :: Kd.xs ks
end
theorem Kd.xs_map:∀ks:List Kd,Kd.xs ks=ks.map Kd.x
 | []=>by simp only[Kd.xs,cu]
 | k :: ks=>by simp only[Kd.xs,aZ,Kd.xs_map ks]
theorem Ws (B:Nat):∀ls:List (List Nat),(∀x∈ls,x.length<=B)->(jn ls).length<=ls.length*(B+1)
 | [],_=>by simp[jn]
 | [x],h=>by have:=h x ai;simp only[jn,ac,ay];omega
 | x :: y :: r,h=>by
  have h1:=h x ai;have h2:=Ws B (y :: r) λz hz=>h z (aa _ hz);rw[ac (a:=x),Nat.add_mul];simp only[jn,ae,ac]at h2 ⊢;omega
theorem WV (B:Nat):∀ls:List (List Nat),(∀x∈ls,x.length<=B)->(ls.map (·.length)).sum<=ls.length*B
 | [],_=>by simp
 | x :: r,h=>by
  have h1:=h x ai;have h2:=WV B r λz hz=>h z (aa _ hz);rw[aZ,List.sum_cons,ac,Nat.add_mul];omega
theorem wD {x:Str}(h:zW (.str x)=true):x.cps.toList.length<=3:=by
 have h:(decide (1<=x.length) && decide (x.length<=3) && x.cps.toList.all Z2)=true:=h;rw[a9,a9]at h;have:=of_decide_eq_true h.1.2;simpa[dE] using this
theorem wE {c:Str×Int}(h:zW (.str c.1)=true)(h1:1<=c.2)(h2:c.2<=20):(chx c).length<=7:=by
 have:=wD h;have:=(Xs (i:=c.2) (by omega) h2).1
 simp only[chx,ae,ac,ay];omega
theorem Jx {lo hi:Int}(h1: -20<=lo)(h2:lo<=hi)(h3:hi<=20):(spx lo hi).length<=8:=by
 have:=(Xs (i:=lo) h1 (by omega)).1
 have:=(Xs (i:=hi) (by omega) h3).1
 simp only[spx,ae,ac,ay];omega
noncomputable def lb:Nat->Nat
 | 0=>0
 | d+1=>3*lb d+34
theorem uZ:∀(d:Nat) (k:Kd),k.Ok d->k.x.length<=lb d
 | 0,_,h=>h.elim
 | d+1,.whole lo hi,h=>by
  have:=Jx h.1 h.2.1 h.2.2;simp only[Kd.x,lb];omega
 | d+1,.pick cs,⟨h1,h2,h3,_⟩=>by
  have:=Ws 7 (cs.map chx) λx hx=>by
   obtain⟨c,hc,rfl⟩:=bf.mp hx;obtain⟨a1,a2,a3⟩:=h3 c hc;exact wE a1 a2 a3
  rw[ah]at this;simp only[Kd.x,lb,ac,ae,ay];omega
 | d+1,.row ks,⟨h1,h2,h3⟩=>by
  have:=Ws (lb d) (ks.map Kd.x) λx hx=>by
   obtain⟨k,hk,rfl⟩:=bf.mp hx;exact uZ d k (h3 k hk)
  rw[ah]at this;have:ks.length*(lb d+1)<=3*(lb d+1):=eA _ h2;simp only[Kd.x,Kd.xs_map,lb,ac,ae,ay];omega
 | d+1,.many k lo hi,⟨h1,h2,h3⟩=>by
  have:=uZ d k h3;have:=Jx (lo:=lo) (hi:=hi) (by omega) (by omega) (by omega)
  simp only[Kd.x,lb,ac,ae];omega
theorem uq {i:Int}(h:i.natAbs < 1000000):txO (.int i)=some (S (nl i)):=by rw[← Gm];exact if_pos h
theorem xR {z:Str}{fa fb:En->R T}{ρ:En}{t u:T}{x y:Str}(ha:fa ρ= .ok t)(hb:fb ρ= .ok u)(hx:txO t=some x)(hy:txO u=some y)(hl:(x++z++y).length<=bnd):f3E z fa fb ρ= .ok (.str (x++z++y)):=by
 unfold f3E f3T;have e:(x++z).length<=bnd:=aC (by rw[f7 (x++z)];omega) hl
 rw[ha,bOk,hx];dsimp only;rw[if_pos e,hb,bOk,hy];exact if_pos hl
theorem ZD {f g:En->R T}{ρ:En}{a b:List Nat}(hf:f ρ= .ok (.str (S a)))(hg:g ρ= .ok (.str (S b)))(hl:a.length+b.length<=10000):z9 zf f g ρ= .ok (.str (S (a++b))):=by
 rw[zw,hf,bOk,hg,bOk,← Jw];exact if_pos (by rw[zH,zH];have:bnd=16777216:=rfl;omega)
theorem qN:∀ls:List (List Nat),WK (ls.map λl=>T.str (S l))=some (ls.map S)
 | []=>rfl
 | l :: r=>by
  rw[aZ];unfold WK;rw[qN r];rfl
theorem wF {f:En->R T}{ρ:En}{ls:List (List Nat)}(hf:f ρ= .ok (.lst (ls.map λl=>T.str (S l))))(hb:(ls.map (·.length)).sum+ls.length<=10000):ap1 (WL " ") f ρ= .ok (.str (S (jn ls))):=by
 rw[Jr,hf,bOk];show (match WK (ls.map λl=>T.str (S l)) with | some ys=>if (ys.map λ(y:Str)=>y.length).sum+ys.length*((" ":Str)).length<=16777216 then R.ok (T.str (Txt.join " " ys)) else .bad | none=> .bad)=_
 rw[qN];dsimp only;have e:((ls.map S).map (·.length))=ls.map (·.length):=by
  rw[bz];exact List.map_congr_left λl _=>zH l
 rw[e,ah,if_pos (show (ls.map (·.length)).sum+ls.length*((" ":Str)).length<=16777216 by rw[show ((" ":Str)).length=1 from rfl];omega)]
 show R.ok (T.str (Builtin.Str.glued (S [32]) (ls.map S)))=_;rw[StrLaws.glued_eq_join,yz]
theorem qO {lo hi:Int}(h1: -20<=lo)(h2:lo<=hi)(h3:hi<=20):f_g [.int lo,.int hi]= .ok (.str (S (spx lo hi))):=by
 have hl:=Jx h1 h2 h3;have e:f3E ".." (vE 0) (vE 1) [.vl (.int lo),.vl (.int hi)]= .ok (.str (S (spx lo hi))):=by
  have:=xR (z:="..") (fa:=vE 0) (fb:=vE 1) (ρ:=[.vl (.int lo),.vl (.int hi)]) rfl rfl (uq (i:=lo) (by omega)) (uq (i:=hi) (by omega)) (by
   rw[show (("..":Str))=S [46,46] from rfl,Jw,Jw,zH];have:bnd=16777216:=rfl;unfold spx at hl;omega)
  rw[this,show (("..":Str))=S [46,46] from rfl,Jw,Jw];rfl
 show zr (zE (f3E ".." (vE 0) (vE 1)) [.vl (.int lo),.vl (.int hi)])=_;rw[zX e];rfl
theorem Wt:∀(cs:List (Str×Int)) (x y:Sl),(∀c∈cs,zW (.str c.1)=true/\1<=c.2/\c.2<=20)->zt (Z9 0 1) Zb (f3E ":" (vE 0) (vE 1)) (cs.map jE) [x,y]= .ok (cs.map λc=>T.str (S (chx c)))
 | [],_,_,_=>rfl
 | c :: cs,x,y,h=>by
  obtain⟨a1,a2,a3⟩:=h c ai;have hl:=wE a1 a2 a3;have hw:=wD a1;have e0:txO (.str c.1)=some (S c.1.cps.toList):=by rw[xL];exact if_pos (by simp[dE]at hw ⊢;omega)
  have e1:f3E ":" (vE 0) (vE 1) [.vl (.str c.1),.vl (.int c.2)]= .ok (.str (S (chx c))):=by
   have:=xR (z:=":") (fa:=vE 0) (fb:=vE 1) (ρ:=[.vl (.str c.1),.vl (.int c.2)]) rfl rfl e0 (uq (i:=c.2) (by omega)) (by
    rw[show ((":":Str))=S [58] from rfl,Jw,Jw,zH];have:bnd=16777216:=rfl;unfold chx at hl;omega)
   rw[this,show ((":":Str))=S [58] from rfl,Jw,Jw];rfl
  have e:zt (Z9 0 1) Zb (f3E ":" (vE 0) (vE 1)) ((c :: cs).map jE) [x,y]=(f3E ":" (vE 0) (vE 1) [.vl (.str c.1),.vl (.int c.2)]).bind λv=>(zt (Z9 0 1) Zb (f3E ":" (vE 0) (vE 1)) (cs.map jE) [.vl (.str c.1),.vl (.int c.2)]).bind λvs=> .ok (v :: vs):=rfl;rw[e,e1,bOk,Wt cs _ _ λc hc=>h c (aa _ hc)];rfl
theorem yB {d:Nat}(h:d<=2):lb d<=160:=by
 have:d=0\/d=1\/d=2:=by omega
 rcases this with rfl | rfl | rfl <;> decide
theorem ur {cs:List (Str×Int)}(h2:cs.length<=4)(h3:∀c∈cs,zW (.str c.1)=true/\1<=c.2/\c.2<=20):((cs.map chx).map (·.length)).sum+(cs.map chx).length<=10000/\(jn (cs.map chx)).length<=32:=by
 have h:∀x∈cs.map chx,x.length<=7:=λx hx=>by
  obtain⟨c,hc,rfl⟩:=bf.mp hx;obtain⟨a1,a2,a3⟩:=h3 c hc;exact wE a1 a2 a3
 have e1:=WV 7 _ h;have e2:=Ws 7 _ h;rw[ah]at e1 e2 ⊢;omega
theorem ut {d:Nat}{ks:List Kd}(hd:d<=2)(h2:ks.length<=3)(h3:∀k∈ks,k.Ok d):((ks.map Kd.x).map (·.length)).sum+(ks.map Kd.x).length<=10000/\(jn (ks.map Kd.x)).length<=600:=by
 have hB:=yB hd;have h:∀x∈ks.map Kd.x,x.length<=160:=λx hx=>by
  obtain⟨k,hk,rfl⟩:=bf.mp hx;exact aC (uZ d k (h3 k hk)) hB
 have e1:=WV 160 _ h;have e2:=Ws 160 _ h;rw[ah]at e1 e2 ⊢;omega
theorem itA {f:En->R T}{ρ:En}{ts:List T}(h:f ρ= .ok (.tup ts)):jx f ρ= .ok ts:=by
 show (f ρ).bind Jf=_;rw[h];rfl
theorem Wu {fi:En->R (List T)}{g:T->En->R En}{fe:En->R T}{k:Nat}{js:List Nat}{ρ:En}{ts vs:List T}(hi:fi ρ= .ok ts)(hl:ts.length<=100)(h:zt g Zb fe ts (JC k js ρ)= .ok vs):Zd fi g Zb fe k js ρ= .ok (.lst vs):=by
 rw[j8,hi,bOk];unfold Zr;rw[if_pos (show ts.length<=bnd by have:bnd=16777216:=rfl;omega),h]
 rfl
theorem Jy {c:List T->R T}{α:Type}(f:α->T)(g:α->T):∀(as:List α) (x:Sl),(∀a∈as,c [f a]= .ok (g a))->zt (Z5 0) Zb (z8 1 c (z7 (vE 0) zc)) (as.map f) [x]= .ok (as.map g)
 | [],_,_=>rfl
 | a :: as,x,h=>by
  have e:zt (Z5 0) Zb (z8 1 c (z7 (vE 0) zc)) ((a :: as).map f) [x]=(z8 1 c (z7 (vE 0) zc) [.vl (f a)]).bind λv=>(zt (Z5 0) Zb (z8 1 c (z7 (vE 0) zc)) (as.map f) [.vl (f a)]).bind λvs=> .ok (v :: vs):=rfl;rw[e,Zj,v0,bOk,h a ai,bOk,Jy f g as _ λb hb=>h b (aa _ hb)];rfl
abbrev en1 (t:T):En:=[.vl t]
theorem Ki:∀(d n:Nat),d<=n->d<=3->∀k:Kd,k.Ok d->S_7 (n+1) 0 [k.t]= .ok (.str (S k.x))
 | 0,_,_,_,_,h=>h.elim
 | d+1,n,hn,hd,.whole lo hi,⟨h1,h2,h3⟩=>by
  have e1:z8 2 f_g (z7 (z9 ixT (vE 0) (cE (.int 1))) (z7 (z9 ixT (vE 0) (cE (.int 2))) zc)) (en1 (Kd.whole lo hi).t)= .ok (.str (S (spx lo hi))):=by
   rw[jq,Kd.t,vt,bOk,gE,bOk];exact qO h1 h2 h3
  show zr (b_7 (S_7 n 0) f_g (en1 (Kd.whole lo hi).t))=_;unfold b_7;rw[jM (t:= .str (S (spx lo hi))) (by rw[yw (by rw[Kd.t];exact cs0)];exact zX e1)]
  rw[Kd.x];rfl
 | d+1,n,hn,hd,.pick cs,⟨h1,h2,h3,_⟩=>by
  obtain⟨s1,s2⟩:=ur h2 h3;have e0:Zd (jx (z9 ixT (vE 0) (cE (.int 1)))) (Z9 0 1) Zb (f3E ":" (vE 0) (vE 1)) 2 [] (en1 (Kd.pick cs).t)= .ok (.lst ((cs.map chx).map λl=>T.str (S l))):=by
   rw[Wu (ts:=cs.map jE) (itA (by rw[Kd.t];exact vt)) (by rw[ah];omega) (Wt cs .un .un h3),bz];rfl
  have e1:=wF e0 s1;have e2:=ZD (f:=cE (.str "{")) (a:=[123]) (ρ:=en1 (Kd.pick cs).t) rfl e1 (by simp only[ac,ay];omega)
  have e3:=ZD (g:=cE (.str "}")) (b:=[125]) e2 rfl (by simp only[ae,ac,ay];omega)
  show zr (b_7 (S_7 n 0) f_g (en1 (Kd.pick cs).t))=_;unfold b_7;rw[zd (Z3 (by rw[Kd.t];exact cs0)),jM (t:= .str (S ([123]++jn (cs.map chx)++[125]))) (by rw[yw (by rw[Kd.t];exact cs0)];exact zX e3)]
  rw[Kd.x];rfl
 | d+1,n+1,hn,hd,.row ks,⟨h1,h2,h3⟩=>by
  obtain⟨s1,s2⟩:=ut (by omega) h2 h3
  have e0:Zd (jx (z9 ixT (vE 0) (cE (.int 1)))) (Z5 0) Zb (z8 1 (S_7 (n+1) 0) (z7 (vE 0) zc)) 1 [] (en1 (Kd.row ks).t)= .ok (.lst ((ks.map Kd.x).map λl=>T.str (S l))):=by
   rw[Wu (ts:=ks.map Kd.t) (itA (by rw[Kd.t,Kd.ts_map];exact vt)) (by rw[ah];omega) (Jy Kd.t (λk=>T.str (S k.x)) ks .un λk hk=>Ki d n (by omega) (by omega) k (h3 k hk)),bz];rfl
  have e1:=wF e0 s1;have e2:=ZD (f:=cE (.str "(")) (a:=[40]) (ρ:=en1 (Kd.row ks).t) rfl e1 (by simp only[ac,ay];omega)
  have e3:=ZD (g:=cE (.str ")")) (b:=[41]) e2 rfl (by simp only[ae,ac,ay];omega)
  show zr (b_7 (S_7 (n+1) 0) f_g (en1 (Kd.row ks).t))=_;unfold b_7;rw[zd (Z3 (by rw[Kd.t];exact cs0)),zd (Z3 (by rw[Kd.t];exact cs0)),jM (t:= .str (S ([40]++jn (ks.map Kd.x)++[41]))) (by rw[yw (by rw[Kd.t];exact cs0)];exact zX e3)]
  rw[Kd.x,Kd.xs_map];rfl
 | d+1,n+1,hn,hd,.many k lo hi,⟨h1,h2,h3⟩=>by
  have hx:=uZ d k h3;have hb:=yB (d:=d) (by omega)
  have hs:=Jx (lo:=lo) (hi:=hi) (by omega) (by omega) (by omega)
  have e0:z8 1 (S_7 (n+1) 0) (z7 (z9 ixT (vE 0) (cE (.int 1))) zc) (en1 (Kd.many k lo hi).t)= .ok (.str (S k.x)):=by
   rw[Zj,Kd.t,vt,bOk];exact Ki d n (by omega) (by omega) k h3
  have e1:=ZD (f:=cE (.str "[")) (a:=[91]) (ρ:=en1 (Kd.many k lo hi).t) rfl e0 (by simp only[ac,ay];omega)
  have e2:=ZD (g:=cE (.str "]")) (b:=[93]) e1 rfl (by simp only[ae,ac,ay];omega)
  have e4:z8 2 f_g (z7 (z9 ixT (vE 0) (cE (.int 2))) (z7 (z9 ixT (vE 0) (cE (.int 3))) zc)) (en1 (Kd.many k lo hi).t)= .ok (.str (S (spx lo hi))):=by
   rw[jq,Kd.t,gE,bOk,Gj,bOk];exact qO (by omega) (by omega) (by omega)
  have e3:=ZD e2 e4 (by simp only[ae,ac,ay];omega)
  show zr (b_7 (S_7 (n+1) 0) f_g (en1 (Kd.many k lo hi).t))=_;unfold b_7;rw[zd (Z3 (by rw[Kd.t];exact cs0)),zd (Z3 (by rw[Kd.t];exact cs0)),zd (Z3 (by rw[Kd.t];exact cs0)),zX e3]
  rw[Kd.x];show R.ok (T.str (S _))=_;simp
theorem Xu {f:En->R T}{ρ:En}{i:Int}(h:f ρ= .ok (.int i))(hi:i.natAbs < 1000000):ap1 wN f ρ= .ok (.str (S (nl i))):=by
 rw[Jr,h,bOk];unfold wN;rw[uq hi]
theorem JU:∀(cs:List (Str×Int)) (x y:Sl),(∀c∈cs,zW (.str c.1)=true/\1<=c.2/\c.2<=20)->zt (Z9 0 1) Zb (z9 zf (z9 zf (vE 0) (cE (.str ":"))) (ap1 wN (vE 1))) (cs.map jE) [x,y]= .ok (cs.map λc=>T.str (S (chx c)))
 | [],_,_,_=>rfl
 | c :: cs,x,y,h=>by
  obtain⟨a1,a2,a3⟩:=h c ai;have hl:=wE a1 a2 a3;have hw:=wD a1;unfold chx at hl;simp only[ae,ac,ay]at hl;have e0:vE 0 [.vl (.str c.1),.vl (.int c.2)]= .ok (.str (S c.1.cps.toList)):=by rw[xL];rfl
  have e1:=ZD (g:=cE (.str ":")) (b:=[58]) e0 rfl (by simp only[ac,ay];omega)
  have e2:=ZD e1 (Xu (f:=vE 1) (ρ:=[.vl (.str c.1),.vl (.int c.2)]) (i:=c.2) rfl (by omega)) (by simp only[ae,ac,ay];omega)
  have e:zt (Z9 0 1) Zb (z9 zf (z9 zf (vE 0) (cE (.str ":"))) (ap1 wN (vE 1))) ((c :: cs).map jE) [x,y]=(z9 zf (z9 zf (vE 0) (cE (.str ":"))) (ap1 wN (vE 1)) [.vl (.str c.1),.vl (.int c.2)]).bind λv=>(zt (Z9 0 1) Zb (z9 zf (z9 zf (vE 0) (cE (.str ":"))) (ap1 wN (vE 1))) (cs.map jE) [.vl (.str c.1),.vl (.int c.2)]).bind λvs=> .ok (v :: vs):=rfl;rw[e,e2,bOk,JU cs _ _ λc hc=>h c (aa _ hc)];rfl
theorem xS {t:T}{h:List Nat}{lo hi:Int}(h1: -20<=lo)(h2:lo<=hi)(h3:hi<=20)(hh:h.length<=1000)(e1:z9 ixT (vE 0) (WD (cE (.int 2))) [.vl t,.vl (.str (S h))]= .ok (.int lo))(e2:z9 ixT (vE 0) (WD (cE (.int 1))) [.vl t,.vl (.str (S h))]= .ok (.int hi)):
  zE (z9 zf (z9 zf (z9 zf (vE 1) (ap1 wN (z9 ixT (vE 0) (WD (cE (.int 2)))))) (cE (.str ".."))) (ap1 wN (z9 ixT (vE 0) (WD (cE (.int 1)))))) [.vl t,.vl (.str (S h))]= .rt (.str (S (h++spx lo hi))):=by
 have hs:=Jx h1 h2 h3;unfold spx at hs ⊢;simp only[ae,ac,ay]at hs;have a1:=ZD (f:=vE 1) (a:=h) rfl (Xu e1 (by omega)) (by omega)
 have a2:=ZD (g:=cE (.str "..")) (b:=[46,46]) a1 rfl (by simp only[ae,ac,ay];omega)
 have a3:=ZD a2 (Xu e2 (by omega)) (by simp only[ae,ac,ay];omega)
 rw[zX a3];simp
theorem vw:∀(d n:Nat),d<=n->d<=3->∀k:Kd,k.Ok d->S_6 (n+1) 0 [k.t]= .ok (.str (S k.x))
 | 0,_,_,_,_,h=>h.elim
 | d+1,n,hn,hd,.whole lo hi,⟨h1,h2,h3⟩=>by
  have e1:zR 1 (ifE (zY eqC (z9 ixT (vE 0) (cE (.int 0))) (cE (.str "many"))) (z9 zf (z9 zf (cE (.str "[")) (z8 1 (S_6 n 0) (z7 (z9 ixT (vE 0) (cE (.int 1))) zc))) (cE (.str "]"))) (cE (.str ""))) [.vl (Kd.whole lo hi).t,.un]= .nx [.vl (Kd.whole lo hi).t,.vl (.str (S []))]:=by
   refine zP ?_;unfold ifE;rw[Kd.t,cs0,bOk];rfl
  show zr (b_6 (S_6 n 0) [.vl (Kd.whole lo hi).t,.un])=_;unfold b_6;rw[zd (Z3 (by rw[Kd.t];exact cs0)),zd (Z3 (by rw[Kd.t];exact cs0)),zd e1,xS h1 h2 h3 (by simp) (by rw[Kd.t];rfl) (by rw[Kd.t];rfl)]
  rw[Kd.x];rfl
 | d+1,n,hn,hd,.pick cs,⟨h1,h2,h3,_⟩=>by
  obtain⟨s1,s2⟩:=ur h2 h3;have e0:Zd (jx (z9 ixT (vE 0) (cE (.int 1)))) (Z9 0 1) Zb (z9 zf (z9 zf (vE 0) (cE (.str ":"))) (ap1 wN (vE 1))) 2 [] [.vl (Kd.pick cs).t,.un]= .ok (.lst ((cs.map chx).map λl=>T.str (S l))):=by
   rw[Wu (ts:=cs.map jE) (itA (by rw[Kd.t];exact vt)) (by rw[ah];omega) (JU cs .un .un h3),bz];rfl
  have e1:=wF e0 s1;have e2:=ZD (f:=cE (.str "{")) (a:=[123]) (ρ:=[.vl (Kd.pick cs).t,.un]) rfl e1 (by simp only[ac,ay];omega)
  have e3:=ZD (g:=cE (.str "}")) (b:=[125]) e2 rfl (by simp only[ae,ac,ay];omega)
  show zr (b_6 (S_6 n 0) [.vl (Kd.pick cs).t,.un])=_;unfold b_6;rw[jM (t:= .str (S ([123]++jn (cs.map chx)++[125]))) (by rw[yw (by rw[Kd.t];exact cs0)];exact zX e3)]
  rw[Kd.x];rfl
 | d+1,n+1,hn,hd,.row ks,⟨h1,h2,h3⟩=>by
  obtain⟨s1,s2⟩:=ut (by omega) h2 h3
  have e0:Zd (jx (z9 ixT (vE 0) (cE (.int 1)))) (Z5 0) Zb (z8 1 (S_6 (n+1) 0) (z7 (vE 0) zc)) 1 [] [.vl (Kd.row ks).t,.un]= .ok (.lst ((ks.map Kd.x).map λl=>T.str (S l))):=by
   rw[Wu (ts:=ks.map Kd.t) (itA (by rw[Kd.t,Kd.ts_map];exact vt)) (by rw[ah];omega) (Jy Kd.t (λk=>T.str (S k.x)) ks .un λk hk=>vw d n (by omega) (by omega) k (h3 k hk)),bz];rfl
  have e1:=wF e0 s1;have e2:=ZD (f:=cE (.str "(")) (a:=[40]) (ρ:=[.vl (Kd.row ks).t,.un]) rfl e1 (by simp only[ac,ay];omega)
  have e3:=ZD (g:=cE (.str ")")) (b:=[41]) e2 rfl (by simp only[ae,ac,ay];omega)
  show zr (b_6 (S_6 (n+1) 0) [.vl (Kd.row ks).t,.un])=_;unfold b_6;rw[zd (Z3 (by rw[Kd.t];exact cs0)),jM (t:= .str (S ([40]++jn (ks.map Kd.x)++[41]))) (by rw[yw (by rw[Kd.t];exact cs0)];exact zX e3)]
  rw[Kd.x,Kd.xs_map];rfl
 | d+1,n+1,hn,hd,.many k lo hi,⟨h1,h2,h3⟩=>by
  have hx:=uZ d k h3;have hb:=yB (d:=d) (by omega)
  have e0:z8 1 (S_6 (n+1) 0) (z7 (z9 ixT (vE 0) (cE (.int 1))) zc) [.vl (Kd.many k lo hi).t,.un]= .ok (.str (S k.x)):=by
   rw[Zj,Kd.t,vt,bOk];exact vw d n (by omega) (by omega) k h3
  have e1:=ZD (f:=cE (.str "[")) (a:=[91]) (ρ:=[.vl (Kd.many k lo hi).t,.un]) rfl e0 (by simp only[ac,ay];omega)
  have e2:=ZD (g:=cE (.str "]")) (b:=[93]) e1 rfl (by simp only[ae,ac,ay];omega)
  have e3:zR 1 (ifE (zY eqC (z9 ixT (vE 0) (cE (.int 0))) (cE (.str "many"))) (z9 zf (z9 zf (cE (.str "[")) (z8 1 (S_6 (n+1) 0) (z7 (z9 ixT (vE 0) (cE (.int 1))) zc))) (cE (.str "]"))) (cE (.str ""))) [.vl (Kd.many k lo hi).t,.un]= .nx [.vl (Kd.many k lo hi).t,.vl (.str (S ([91]++k.x++[93])))]:=by
   refine zP ?_;unfold ifE;rw[show zY eqC (z9 ixT (vE 0) (cE (.int 0))) (cE (.str "many")) [.vl (Kd.many k lo hi).t,.un]= .ok true by rw[Kd.t];exact cs0,bOk,if_pos rfl]
   exact e2
  show zr (b_6 (S_6 (n+1) 0) [.vl (Kd.many k lo hi).t,.un])=_;unfold b_6;rw[zd (Z3 (by rw[Kd.t];exact cs0)),zd (Z3 (by rw[Kd.t];exact cs0)),zd e3,xS (lo:=lo) (hi:=hi) (by omega) (by omega) (by omega) (by simp only[ae,ac,ay];omega) (by rw[Kd.t];rfl) (by rw[Kd.t];rfl)]
  rw[Kd.x];show R.ok (T.str (S _))=_;simp
theorem YY {x:Str}(h:zW (.str x)=true):∀c∈x.cps.toList,97<=c/\c<=122:=by
 have h:(decide (1<=x.length) && decide (x.length<=3) && x.cps.toList.all Z2)=true:=h;rw[a9]at h;intro c hc;have:=aI.mp h.2 c hc;unfold Z2 at this;simp at this;exact this
theorem yC {c d:Nat}{l:List Nat}{o p:Str}(ho:o=S [c])(hp:p=S [d])(hl:l.length<=9000):f_d [.str (S (c :: (l++[d]))),.str o,.str p]= .ok (.str (S l)):=by
 subst ho hp;have e1:smE yV (vE 0) (vE 1) [.vl (.str (S (c :: (l++[d])))),.vl (.str (S [c])),.vl (.str (S [d]))]= .ok (.bl true):=by
  show R.ok (T.bl (bK (S (c :: (l++[d]))) (S [c])))=_;rw[vv];simp
 have e2:smE vP (vE 0) (vE 2) [.vl (.str (S (c :: (l++[d])))),.vl (.str (S [c])),.vl (.str (S [d]))]= .ok (.bl true):=by
  show R.ok (T.bl (bX (S ((c :: l)++[d])) (S [d])))=_;rw[Kf]
 have e3:orT (wb (jP (smE yV (vE 0) (vE 1)))) (wb (jP (smE vP (vE 0) (vE 2)))) [.vl (.str (S (c :: (l++[d])))),.vl (.str (S [c])),.vl (.str (S [d]))]= .ok false:=by
  rw[yo,jJ,ZW,e1,bOk,jK,bOk,bOk,jJ,ZW,e2,bOk,jK];rfl
 have e4:Zm (vE 0) (zn (ap1 Zx (vB 1))) (zn (WD (ap1 Zx (vB 2)))) [.vl (.str (S (c :: (l++[d])))),.vl (.str (S [c])),.vl (.str (S [d]))]= .ok (.str (S l)):=by
  show (if (S (c :: (l++[d]))).length<=bnd then R.ok (T.str (bR (S (c :: (l++[d]))) (some 1) (some (-1)))) else .bad)=_
  rw[xQ,if_pos];rw[zH];have:bnd=16777216:=rfl;simp only[ac,ae,ay];omega
 show zr (b_d [.vl (.str (S (c :: (l++[d])))),.vl (.str (S [c])),.vl (.str (S [d]))])=_;unfold b_d;rw[zd (Z3 e3),zX e4];rfl
noncomputable def opn (c:Nat):Bool:=decide (c∈[40,91,123])
noncomputable def cls (c:Nat):Bool:=decide (c∈[41,93,125])
abbrev pE (L:List Nat)(acc:List T)(b d:Int)(x y:Sl):En:=[.vl (.str (S L)),.vl (.str " "),.ow acc,.vl (.int b),.vl (.int d),x,y]
abbrev wG:En->RS:=(zp (ifS (zY uc (vB 6) (cE (.str "([{"))) (zR 4 (z9 zf (vE 4) (cE (.int 1)))) (nxS))
  (zp (ifS (zY uc (vB 6) (cE (.str ")]}"))) (zR 4 (z9 JB (vE 4) (cE (.int 1)))) (nxS))
  (ifS (Qz (zY eqC (vB 4) (cE (.int 0))) (jP (Yy (vE 0) (vE 1) (vE 5)))) (zp (W2 2 (Zm (vE 0) (zn (vE 3)) (zn (vE 5))))
  (zR 3 (z9 zf (vE 5) (ap1 Zx (vB 1))))) (nxS))))
def itm (L:List Nat):List T:=jk (Zy (S L))
theorem uu {L:List Nat}{i c:Nat}{r:List Nat}(h:L.drop i=c :: r):(itm L).drop i=T.tup [.int (i:Nat),.str (S [c])] :: (itm L).drop (i+1):=by
 have hg:L[i]? =some c:=by
  have:(L.drop i)[0]? =some c:=by rw[h];rfl
  simpa using this
 have e:(itm L)[i]? =some (T.tup [.int (i:Nat),.str (S [c])]):=by
  unfold itm jk Zy;rw[zQ,ax,dY,ax,hg];simp[S]
 obtain⟨hi,e⟩:=aO.mp e;rw[bc hi,e]
theorem xT {ρ:En}{c:Nat}(h:vB 6 ρ= .ok (.str (S [c]))):zY uc (vB 6) (cE (.str "([{")) ρ= .ok (opn c):=by
 show (R.bind (vB 6 ρ) λx=>R.bind (.ok (.str "([{")) λy=>uc x y)=_;rw[h,bOk,bOk];show R.ok (!(bL "([{" ⟨#[c]⟩ 0 ((("([{":Str))).length 1).isEmpty)=_;rw[fg];rfl
theorem vx {ρ:En}{c:Nat}(h:vB 6 ρ= .ok (.str (S [c]))):zY uc (vB 6) (cE (.str ")]}")) ρ= .ok (cls c):=by
 show (R.bind (vB 6 ρ) λx=>R.bind (.ok (.str ")]}")) λy=>uc x y)=_;rw[h,bOk,bOk];show R.ok (!(bL ")]}" ⟨#[c]⟩ 0 (((")]}":Str))).length 1).isEmpty)=_;rw[fg];rfl
theorem Kj {c:Nat}(h:opn c=true):cls c=false:=by
 unfold opn at h;unfold cls;simp at h ⊢;omega
theorem xU {acc:List T}{L:List Nat}{b d:Int}{i c:Nat}:zp (ifS (zY uc (vB 6) (cE (.str "([{"))) (zR 4 (z9 zf (vE 4) (cE (.int 1)))) nxS) (zp (ifS (zY uc (vB 6) (cE (.str ")]}"))) (zR 4 (z9 JB (vE 4) (cE (.int 1)))) nxS) f) (pE L acc b d (.vl (.int (i:Nat))) (.vl (.str (S [c]))))=f (pE L acc b (d+(if opn c then 1 else 0) - (if cls c then 1 else 0)) (.vl (.int (i:Nat))) (.vl (.str (S [c])))):=by
 cases ho:opn c with
 | true=>
  have hc:=Kj ho;have e1:zR 4 (z9 zf (vE 4) (cE (.int 1))) (pE L acc b d (.vl (.int (i:Nat))) (.vl (.str (S [c]))))= .nx (pE L acc b (d+1) (.vl (.int (i:Nat))) (.vl (.str (S [c])))):=rfl;rw[zd ((yw (by rw[xT rfl,ho])).trans e1),zd (Z3 (by rw[vx rfl,hc])),hc]
  simp
 | false=>
  rw[zd (Z3 (by rw[xT rfl,ho]))]
  cases hc:cls c with
  | true=>
   have e1:zR 4 (z9 JB (vE 4) (cE (.int 1))) (pE L acc b d (.vl (.int (i:Nat))) (.vl (.str (S [c]))))= .nx (pE L acc b (d - 1) (.vl (.int (i:Nat))) (.vl (.str (S [c])))):=rfl;rw[zd ((yw (by rw[vx rfl,hc])).trans e1)]
   simp
  | false=>
   rw[zd (Z3 (by rw[vx rfl,hc]))]
   simp
theorem xV {L:List Nat}{acc:List T}{b d:Int}{i c:Nat}{r:List Nat}(h:L.drop i=c :: r):Qz (zY eqC (vB 4) (cE (.int 0))) (jP (Yy (vE 0) (vE 1) (vE 5))) (pE L acc b d (.vl (.int (i:Nat))) (.vl (.str (S [c]))))= .ok ((d == 0) && (c == 32)):=by
 rw[WS];show (R.bind (.ok (d == 0)) _)=_;rw[bOk];cases hd:(d == 0) with
 | false=>rfl
 | true=>
  rw[if_pos rfl,ZW];have hg:L[i]? =some c:=by
   have:(L.drop i)[0]? =some c:=by rw[h];rfl
   simpa using this
  have hi:i < L.length:=(aO.mp hg).1;show R.ok (cG (S L) (S [32]) (i:Int))=_;rw[Kg hi,hg];simp
theorem xW {L:List Nat}{acc:List T}{b d:Int}{i c:Nat}{r:List Nat}{x y:Sl}(h:L.drop i=c :: r)(hn:((d+(if opn c then 1 else 0) - (if cls c then 1 else 0) == 0) && (c == 32))=false):
  JF (Z9 5 6) wG ((itm L).drop i) (pE L acc b d x y)=JF (Z9 5 6) wG ((itm L).drop (i+1)) (pE L acc b (d+(if opn c then 1 else 0) - (if cls c then 1 else 0)) (.vl (.int (i:Nat))) (.vl (.str (S [c])))):=by
 rw[uu h];refine uo (ρ1:=pE L acc b d (.vl (.int (i:Nat))) (.vl (.str (S [c])))) rfl ?_;unfold wG;rw[xU];exact Z3 (by rw[xV h,hn])
theorem Kk {L:List Nat}{acc:List T}{b i:Nat}{r:List Nat}{x y:Sl}(h:L.drop i=32 :: r)(hb:b<=i)(hl:L.length<=9000)(ha:acc.length < 1000):
  ∃x' y',JF (Z9 5 6) wG ((itm L).drop i) (pE L acc (b:Nat) 0 x y)=JF (Z9 5 6) wG ((itm L).drop (i+1)) (pE L (acc++[.str (S ((L.drop b).take (i - b)))]) ((i+1:Nat):Int) 0 x' y'):=by
 refine⟨.vl (.int (i:Nat)),.vl (.str (S [32])), ?_⟩;have hi:i<=L.length:=by
  have:=congrArg dU h;simp at this;omega
 rw[uu h];refine uo (ρ1:=pE L acc (b:Nat) 0 (.vl (.int (i:Nat))) (.vl (.str (S [32])))) rfl ?_;unfold wG;rw[xU];have e0:(0:Int)+(if opn 32 then 1 else 0) - (if cls 32 then 1 else 0)=0:=by decide
 rw[e0,yw (by rw[xV h];rfl)]
 have e1:Zm (vE 0) (zn (vE 3)) (zn (vE 5)) (pE L acc (b:Nat) 0 (.vl (.int (i:Nat))) (.vl (.str (S [32]))))= .ok (.str (S ((L.drop b).take (i - b)))):=by
  show (if (S L).length<=bnd then R.ok (T.str (bR (S L) (some (b:Int)) (some (i:Int)))) else .bad)=_
  rw[xP hb hi,if_pos];rw[zH];have:bnd=16777216:=rfl;omega
 have e2:W2 2 (Zm (vE 0) (zn (vE 3)) (zn (vE 5))) (pE L acc (b:Nat) 0 (.vl (.int (i:Nat))) (.vl (.str (S [32]))))= .nx (pE L (acc++[.str (S ((L.drop b).take (i - b)))]) (b:Nat) 0 (.vl (.int (i:Nat))) (.vl (.str (S [32])))):=by
  show (R.s (Zm (vE 0) (zn (vE 3)) (zn (vE 5)) _) λt=>if acc.length < bnd then RS.nx _ else .bad)=_
  rw[e1,jb,if_pos (by have:bnd=16777216:=rfl;omega)];rfl
 rw[zd e2];rfl
end G
namespace G
open PySem L2 PV NumText
theorem yD:∀(cs:List Nat) {p q:Array Nat×Bool},(∀d∈p.1.toList,d < 10)->cs.foldlM (dM 10) p=some q->∀d∈q.1.toList,d < 10
 | [],p,q,h,e=>by
  have e:p=q:=aq e;exact e ▸ h
 | c :: cs,p,q,h,e=>by
  rw[List.foldlM_cons]at e;cases hs:dM 10 p c with
  | none=>rw[hs]at e;exact absurd e (by simp)
  | some p' =>
   rw[hs]at e;refine yD cs (p:=p') ?_ e;unfold dM at hs;split at hs
   ·split at hs
    ·cases hs;exact h
    ·cases hs
   ·split at hs
    ·split at hs
     ·rename_i d _ hd;cases hs;intro x hx;rw[Array.toList_push,aM]at hx;rcases hx with hx | hx
      ·exact h x hx
      ·have:x=d:=by simpa using hx
       omega
     ·cases hs
    ·cases hs
theorem yE:∀(ds:List Nat) (a:Nat),(∀d∈ds,d < 10)->ds.foldl (λacc d=>acc*10+d) a < (a+1)*10 ^ ds.length
 | [],a,_=>by simp
 | d :: ds,a,h=>by
  have h1:=yE ds (a*10+d) λx hx=>h x (aa _ hx);have h2:=h d ai;rw[fH,ac,Nat.pow_succ];refine ar h1 ?_;rw[dF (10 ^ ds.length) 10,← Nat.mul_assoc];exact eA _ (by omega)
theorem xX {z:Str}{i:Int}(hz:z.length<=3)(h:intText? z=some i):i.natAbs < 1000000:=by
 unfold intText? at h;split at h
 ·split at h
  ·rename_i ds hd;split at h
   ·have hs:=digits_size hd;have h1:=aC (core_length _) (aC (seen_length z) hz);have hn:∀d∈ds.toList,d < 10:=by
     unfold digits? at hd;cases hf:(core (numSeenOf z)).foldlM (dM 10) ((#[]:Array Nat),false) with
     | none=>rw[hf]at hd;exact absurd hd (by simp)
     | some q=>
      rw[hf]at hd;have h2:(if q.2=true then some q.1 else none)=some ds:=hd
      split at h2
      ·cases h2;exact yD _ (by simp) hf
      ·cases h2
    have hb:=yE ds.toList 0 hn;have hp:10 ^ ds.toList.length<=10 ^ 3:=Nat.pow_le_pow_right (by decide) (by rw[cz];omega)
    rw[Array.foldl_toList]at hb;have h:=aq h;subst h;unfold worth;split <;> omega
   ·cases h
  ·cases h
 ·cases h
theorem jV {g:En->R Bool}{f:En->RS}{c:Nat}{ρ:En}(h:g ρ= .ok true):ifS g (ZO c) f ρ= .ex c:=by rw[yw h];rfl
theorem Kl {z:List Nat}(hl:z.length<=16000000)(hz:∀c∈z,c < 4294967296):f_c [.str (S z)]= .ex 5\/∃i,f_c [.str (S z)]= .ok (.int i)/\z=nl i:=by
 have e1:zY gtC (ap1 Zx (vB 0)) (cE (.int 3)) [.vl (.str (S z)),.un]= .ok (decide ((3:Int) < (z.length:Nat))):=by
  have e:Zx (.str (S z))= .ok (.int (z.length:Nat)):=by
   show (if (S z).length<=bnd then R.ok (T.int (S z).length) else .bad)=_
   rw[zH,if_pos (show z.length<=bnd by have:bnd=16777216:=rfl;omega)]
  show (R.bind (Zx (.str (S z))) λx=>R.bind (.ok (.int 3)) λy=>gtC x y)=_;rw[e,bOk,bOk];rfl
 show zr (b_c [.vl (.str (S z)),.un])=_\/∃i,zr (b_c [.vl (.str (S z)),.un])=_/\_;unfold b_c
 by_cases h3:z.length<=3
 ·rw[zd (Z3 (by rw[e1,decide_eq_false (by omega)]))]
  have hc:(decide ((S z).length<=640) && (S z).cps.all (· < 4294967296))=true:=by
   rw[a9,decide_eq_true_eq,eN];exact⟨by rw[zH];omega,λc hc=>decide_eq_true (hz c (by rw[← zQ z];simpa using hc))⟩
  cases hi:intText? (S z) with
  | none=>
   have e2:vT 1 0 5 [.vl (.str (S z)),.un]= .ex 5:=by
    show (if (decide ((S z).length<=640) && (S z).cps.all (· < 4294967296))=true then _ else RS.bad)=_
    rw[if_pos hc,hi]
   exact .inl (by rw[Zh e2];rfl)
  | some i=>
   have hb:=xX (by rw[zH];exact h3) hi
   have e2:vT 1 0 5 [.vl (.str (S z)),.un]= .nx [.vl (.str (S z)),.vl (.int i)]:=by
    show (if (decide ((S z).length<=640) && (S z).cps.all (· < 4294967296))=true then _ else RS.bad)=_
    rw[if_pos hc,hi];rfl
   rw[zd e2];have e3:zY neC (ap1 wN (vE 1)) (vB 0) [.vl (.str (S z)),.vl (.int i)]= .ok (!(S (nl i) == S z)):=by
    have:ap1 wN (vE 1) [.vl (.str (S z)),.vl (.int i)]= .ok (.str (S (nl i))):=Xu rfl hb;show (R.bind (ap1 wN (vE 1) _) λx=>R.bind (.ok (.str (S z))) λy=>neC x y)=_;rw[this,bOk,bOk];rfl
   cases he:S (nl i) == S z with
   | true=>
    refine .inr ⟨i, ?_,(xM (beq_iff_eq.mp he)).symm⟩;rw[zd (Z3 (by rw[e3,he];rfl)),zX (t:= .int i) rfl];rfl
   | false=>exact .inl (by rw[Zh (jV (by rw[e3,he];rfl))];rfl)
 ·exact .inl (by rw[Zh (jV (by rw[e1,decide_eq_true (by omega)]))];rfl)
end G
namespace G
open PySem L2 PV
theorem qQ {l m:List Nat}{i:Nat}(h:fO (S l) (S m) (S l).length i):l=l.take i++m++l.drop (i+m.length):=by
 rw[xN]at h
 conv=>lhs;rw[← cS i l]
 rw[bx];congr 1
 conv=>lhs;rw[← cS m.length (l.drop i)]
 rw[h.2,List.drop_drop]
theorem yF {l m:List Nat}{i:Nat}:(cI (S l) 0 i,S m,cI (S l) (i+(S m).length) (S l).length)=(S (l.take i),S m,S (l.drop (i+m.length))):=by
 rw[xO,xO,zH,zH,dX,Nat.sub_zero,dL (l:=l.drop (i+m.length)) (by simp)]
theorem xY (l m:List Nat):bo (S l) (S m)=(S l,S [],S [])\/∃a b,l=a++m++b/\bo (S l) (S m)=(S a,S m,S b):=by
 unfold bo;rcases StrLaws.occ_head (S l) (S m) 1 (aj _) with ⟨e,_⟩ | ⟨i,r,e,hi,_⟩
 ·exact .inl (by rw[e];rfl)
 ·exact .inr ⟨_,_,qQ hi,by rw[e];exact yF⟩
theorem vy (l m:List Nat):bg (S l) (S m)=(S [],S [],S l)\/∃a b,l=a++m++b/\bg (S l) (S m)=(S a,S m,S b):=by
 unfold bg;rcases StrLaws.last_spec (S l) (S m) with ⟨e,_⟩ | ⟨i,e,hi,_⟩
 ·exact .inl (by rw[e];rfl)
 ·exact .inr ⟨_,_,qQ hi,by rw[e];exact yF⟩
theorem xZ {f g:En->R T}{ρ:En}{l m:List Nat}{y:Str}(hf:f ρ= .ok (.str (S l)))(hy:y=S m)(hm:m ≠ [])(hg:g ρ= .ok (.str y))(hl:l.length<=10000):smE vQ f g ρ= .ok (.tup [.str (S l),.str (S []),.str (S [])])\/∃a b,l=a++m++b/\smE vQ f g ρ= .ok (.tup [.str (S a),.str (S m),.str (S b)]):=by
 subst hy;have e:smE vQ f g ρ= .ok (.tup [.str (bo (S l) (S m)).1,.str (bo (S l) (S m)).2.1,.str (bo (S l) (S m)).2.2]):=by
  unfold smE;rw[hf,bOk];dsimp only;rw[hg,bOk];refine if_pos ⟨by rw[zH];have:bnd=16777216:=rfl;omega, ?_⟩
  rw[zH,beq_eq_false_iff_ne];exact λz=>hm (bh.mp z)
 rw[e];rcases xY l m with h | ⟨a,b,h1,h⟩
 ·exact .inl (by rw[h])
 ·exact .inr ⟨a,b,h1,by rw[h]⟩
theorem Km {f g:En->R T}{ρ:En}{l m:List Nat}{y:Str}(hf:f ρ= .ok (.str (S l)))(hy:y=S m)(hm:m ≠ [])(hg:g ρ= .ok (.str y))(hl:l.length<=10000):smE x8 f g ρ= .ok (.tup [.str (S []),.str (S []),.str (S l)])\/∃a b,l=a++m++b/\smE x8 f g ρ= .ok (.tup [.str (S a),.str (S m),.str (S b)]):=by
 subst hy;have e:smE x8 f g ρ= .ok (.tup [.str (bg (S l) (S m)).1,.str (bg (S l) (S m)).2.1,.str (bg (S l) (S m)).2.2]):=by
  unfold smE;rw[hf,bOk];dsimp only;rw[hg,bOk];refine if_pos ⟨by rw[zH];have:bnd=16777216:=rfl;omega, ?_⟩
  rw[zH,beq_eq_false_iff_ne];exact λz=>hm (bh.mp z)
 rw[e];rcases vy l m with h | ⟨a,b,h1,h⟩
 ·exact .inl (by rw[h])
 ·exact .inr ⟨a,b,h1,by rw[h]⟩
noncomputable def fine (l:List Nat):Prop:=l.length<=1000/\∀c∈l,c < 4294967296
theorem fine.sub {l m:List Nat}(h:fine l)(hl:m.length<=l.length)(hs:∀c∈m,c∈l):fine m:=⟨aC hl h.1,λc hc=>h.2 c (hs c hc)⟩
theorem fine.l {a b:List Nat}(h:fine (a++b)):fine a:=h.sub (by simp) λc hc=>bb _ hc
theorem fine.r {a b:List Nat}(h:fine (a++b)):fine b:=h.sub (by simp) λc hc=>au _ hc
theorem fine.nil:fine []:=⟨by simp,λ_ h=>nomatch h⟩
theorem Kn {z:List Nat}(h:fine z):f_c [.str (S z)]= .ex 5\/∃i,f_c [.str (S z)]= .ok (.int i)/\z=nl i:=Kl (aC h.1 (by decide)) h.2
theorem yG:f_c [.str (S [])]= .ex 5:=by
 have hi:intText? (S [])=none:=by decide+kernel
 have e2:vT 1 0 5 [.vl (.str (S [])),.un]= .ex 5:=by
  show (if (decide ((S []).length<=640) && (S []).cps.all (· < 4294967296))=true then _ else RS.bad)=_
  rw[if_pos (by decide+kernel),hi]
 show zr (b_c [.vl (.str (S [])),.un])=_;unfold b_c;rw[zd (Z3 rfl),Zh e2];rfl
theorem yH {f g:En->R T}{ρ:En}{c:Nat}(h:f ρ= .ex c):ZX (z7 f (z7 g zc)) ρ= .ex c:=by
 show R.bind (R.bind (f ρ) _) _=_;rw[h];rfl
theorem ZE {f g:En->R T}{ρ:En}{c:Nat}{x:T}(h:f ρ= .ok x)(h2:g ρ= .ex c):ZX (z7 f (z7 g zc)) ρ= .ex c:=by
 show R.bind (R.bind (f ρ) λ_=>R.bind (R.bind (g ρ) _) _) _=_;rw[h,h2];rfl
theorem Zt {f:En->R T}{ρ:En}{c:Nat}(h:f (frz ρ)= .ex c):zE f ρ= .ex c:=by
 unfold zE;rw[h];rfl
theorem wH {f:En->R T}{ρ:En}{z:List Nat}(hf:f ρ= .ok (.str (S z)))(h:fine z):z8 1 f_c (z7 f zc) ρ= .ex 5\/∃i,z8 1 f_c (z7 f zc) ρ= .ok (.int i)/\z=nl i:=by
 rw[Zj,hf,bOk];exact Kn h
theorem qR {l:List Nat}(h:fine l):f_h [.str (S l)]= .ex 5\/∃lo hi,f_h [.str (S l)]= .ok (.tup [.int lo,.int hi])/\l=spx lo hi:=by
 have ee:f_h [.str (S l)]=zr (b_h f_c [.vl (.str (S l)),.un]):=rfl;rw[ee];unfold b_h;rcases xZ (f:=vE 0) (g:=cE (.str "..")) (ρ:=[.vl (.str (S l)),.un]) (l:=l) (m:=[46,46]) rfl rfl (by simp) rfl (aC h.1 (by decide)) with e | ⟨a,b,hab,e⟩
 ·refine .inl ?_;rw[zd (zP e)];have q2:z8 1 f_c (z7 (z9 ixT (vE 1) (cE (.int 2))) zc) (frz [.vl (.str (S l)),.vl (.tup [.str (S l),.str (S []),.str (S [])])])= .ex 5:=by rw[Zj];exact yG
  rcases wH (f:=z9 ixT (vE 1) (cE (.int 0))) (ρ:=frz [.vl (.str (S l)),.vl (.tup [.str (S l),.str (S []),.str (S [])])]) (z:=l) rfl h with q | ⟨i,q,_⟩
  ·exact congrArg zr (Zt (yH q))
  ·exact congrArg zr (Zt (ZE q q2))
 ·subst hab;rw[zd (zP e)];rcases wH (f:=z9 ixT (vE 1) (cE (.int 0))) (ρ:=frz [.vl (.str (S (a++[46,46]++b))),.vl (.tup [.str (S a),.str (S [46,46]),.str (S b)])]) (z:=a) rfl h.l.l with q | ⟨i,q,qi⟩
  ·exact .inl (congrArg zr (Zt (yH q)))
  ·rcases wH (f:=z9 ixT (vE 1) (cE (.int 2))) (ρ:=frz [.vl (.str (S (a++[46,46]++b))),.vl (.tup [.str (S a),.str (S [46,46]),.str (S b)])]) (z:=b) rfl h.r with q2 | ⟨j,q2,qj⟩
   ·exact .inl (congrArg zr (Zt (ZE q q2)))
   ·refine .inr ⟨i,j, ?_,by rw[qi,qj];rfl⟩
    exact congrArg zr (zX (U6 q q2))
theorem YZ {l:List Nat}(h:fine l):f_n [.str (S l)]= .ex 5\/∃c:Str×Int,f_n [.str (S l)]= .ok (jE c)/\l=chx c:=by
 have ee:f_n [.str (S l)]=zr (b_n f_c [.vl (.str (S l)),.un]):=rfl;rw[ee];unfold b_n;rcases xZ (f:=vE 0) (g:=cE (.str ":")) (ρ:=[.vl (.str (S l)),.un]) (l:=l) (m:=[58]) rfl rfl (by simp) rfl (aC h.1 (by decide)) with e | ⟨a,b,hab,e⟩
 ·refine .inl ?_;rw[zd (zP e)];have q2:z8 1 f_c (z7 (z9 ixT (vE 1) (cE (.int 2))) zc) (frz [.vl (.str (S l)),.vl (.tup [.str (S l),.str (S []),.str (S [])])])= .ex 5:=by rw[Zj];exact yG
  exact congrArg zr (Zt (ZE (x:= .str (S l)) rfl q2))
 ·subst hab;rw[zd (zP e)];rcases wH (f:=z9 ixT (vE 1) (cE (.int 2))) (ρ:=frz [.vl (.str (S (a++[58]++b))),.vl (.tup [.str (S a),.str (S [58]),.str (S b)])]) (z:=b) rfl h.r with q | ⟨j,q,qj⟩
  ·exact .inl (congrArg zr (Zt (ZE (x:= .str (S a)) rfl q)))
  ·refine .inr ⟨(S a,j), ?_,by rw[qj];unfold chx;rw[zQ]⟩
   exact congrArg zr (zX (U6 (x:= .str (S a)) rfl q))
theorem X1 {l:List Nat}{d:Nat}(h:bX (S l) (S [d])=true):∃m,l=m++[d]:=by
 unfold bX at h;rw[c7,zH,zH,zQ,zQ]at h;rcases List.eq_nil_or_concat l with rfl | ⟨m,c,rfl⟩
 ·simp at h
 ·refine⟨m, ?_⟩;simp at h;rw[List.concat_eq_append,h]
theorem qa {l:List Nat}{d:Nat}:bK (S l) (S [d])=(l.head? == some d):=by
 cases l with
 | nil=>
  unfold bK;rw[c7,zH,zH,zQ,zQ];rfl
 | cons c l=>rw[vv];rfl
theorem uv {c d:Nat}{r:List Nat}{o p:Str}(ho:o=S [c])(hp:p=S [d])(hcd:c ≠ d)(hl:fine (c :: r)):f_d [.str (S (c :: r)),.str o,.str p]= .ex 5\/∃m,c :: r=c :: (m++[d])/\f_d [.str (S (c :: r)),.str o,.str p]= .ok (.str (S m)):=by
 cases he:bX (S (c :: r)) p with
 | true=>
  rw[hp]at he;obtain⟨m,hm⟩:=X1 he;cases m with
  | nil=>injection hm with h1 h2;exact absurd h1 hcd
  | cons x m=>
   injection hm with h1 h2;have h2:r=m++[d]:=h2;refine .inr ⟨m,by rw[h2], ?_⟩
   rw[h2];exact yC ho hp (by have:=hl.1;rw[h2]at this;simp at this;omega)
 | false=>
  refine .inl ?_;subst ho;have e1:smE yV (vE 0) (vE 1) [.vl (.str (S (c :: r))),.vl (.str (S [c])),.vl (.str p)]= .ok (.bl true):=by
   show R.ok (T.bl (bK (S (c :: r)) (S [c])))=_;rw[vv];simp
  have e2:smE vP (vE 0) (vE 2) [.vl (.str (S (c :: r))),.vl (.str (S [c])),.vl (.str p)]= .ok (.bl false):=by
   show R.ok (T.bl (bX (S (c :: r)) p))=_;rw[he]
  have e3:orT (wb (jP (smE yV (vE 0) (vE 1)))) (wb (jP (smE vP (vE 0) (vE 2)))) [.vl (.str (S (c :: r))),.vl (.str (S [c])),.vl (.str p)]= .ok true:=by
   rw[yo,jJ,ZW,e1,bOk,jK,bOk,bOk,jJ,ZW,e2,bOk,jK];rfl
  show zr (b_d [.vl (.str (S (c :: r))),.vl (.str (S [c])),.vl (.str p)])=_;unfold b_d;rw[Zh (jV e3)];rfl
noncomputable def pre:List (List Nat)->List Nat
 | []=>[]
 | w :: r=>w++32 :: pre r
theorem yI:∀(a b:List (List Nat)),pre (a++b)=pre a++pre b
 | [],_=>rfl
 | w :: r,b=>by simp only[cW,pre,yI r b,bx]
theorem qS:∀(a:List (List Nat)) (w:List Nat),jn (a++[w])=pre a++w
 | [],_=>rfl
 | [x],w=>by simp[jn,pre]
 | x :: y :: r,w=>by
  have:=qS (y :: r) w;simp only[cW]at this ⊢;simp only[jn,pre,this,bx,cW]
theorem vz {L:List Nat}(hL:L.length<=1000):∀(n i:Nat) (as:List (List Nat)) (b:Nat) (d:Int) (x y:Sl),i+n=L.length->b<=i->as.length<=i->L.take b=pre as->
  ∃(as' :List (List Nat)) (j:Nat) (d' :Int) (x' y' :Sl),JF (Z9 5 6) wG ((itm L).drop i) (pE L (as.map λl=>T.str (S l)) (b:Nat) d x y)= .nx (pE L (as'.map λl=>T.str (S l)) (j:Nat) d' x' y')/\j<=L.length/\as'.length<=L.length/\L.take j=pre as'
 | 0,i,as,b,d,x,y,hi,hb,ha,ht=>by
  have:(itm L).drop i=[]:=by
   refine List.drop_eq_nil_of_le ?_;unfold itm jk Zy;rw[zQ];simp;omega
  exact⟨as,b,d,x,y,by rw[this];rfl,by omega,by omega,ht⟩
 | n+1,i,as,b,d,x,y,hi,hb,ha,ht=>by
  have hd:L.drop i=L[i] :: L.drop (i+1):=bc (by omega)
  cases hc:((d+(if opn L[i] then 1 else 0) - (if cls L[i] then 1 else 0) == 0) && (L[i] == 32)) with
  | false=>
   obtain⟨as',j,d',x',y',q,q1⟩:=vz hL n (i+1) as b (d+(if opn L[i] then 1 else 0) - (if cls L[i] then 1 else 0)) (.vl (.int (i:Nat))) (.vl (.str (S [L[i]]))) (by omega) (by omega) (by omega) ht
   exact⟨as',j,d',x',y',by rw[xW hd hc];exact q,q1⟩
  | true=>
   rw[a9,beq_iff_eq,beq_iff_eq]at hc;have h32:=hc.2;have hd0:d=0:=by
    have h1:=hc.1;rw[h32]at h1;have e0:d+(if opn 32 then 1 else 0) - (if cls 32 then 1 else 0)=d:=by
     have o:opn 32=false:=by decide
     have c:cls 32=false:=by decide
     rw[o,c];simp
    omega
   subst hd0;rw[h32]at hd;obtain⟨x1,y1,q1⟩:=Kk (L:=L) (acc:=as.map λl=>T.str (S l)) (b:=b) (i:=i) (x:=x) (y:=y) hd hb (by omega) (by rw[ah];omega)
   obtain⟨as',j,d',x',y',q,q2⟩:=vz hL n (i+1) (as++[(L.drop b).take (i - b)]) (i+1) 0 x1 y1 (by omega) (by omega) (by simp;omega) (by
    rw[yI,← ht];have e1:L.take (i+1)=L.take i++[32]:=by
     rw[List.take_add_one,az (by omega),h32];rfl
    have e2:L.take i=L.take b++(L.drop b).take (i - b):=by
     conv=>lhs;rw[show i=b+(i - b) by omega]
     rw[List.take_add]
    rw[e1,e2];simp[pre])
   refine⟨as',j,d',x',y', ?_,q2⟩;rw[q1,← q,dO];rfl
theorem qb {L:List Nat}(h:L.length<=1000):∃ls,f_s [.str (S L),.str " "]= .ok (.lst (ls.map λl=>T.str (S l)))/\jn ls=L/\ls.length<=1001:=by
 obtain⟨as,j,d',x',y',q,a1,a2,a3⟩:=vz h L.length 0 [] 0 0 .un .un (by omega) (by omega) (by simp) (by simp[pre])
 refine⟨as++[L.drop j], ?_,by rw[qS,← a3,cS],by simp;omega⟩
 have e1:UL (UZ (vE 0)) (Z9 5 6) wG (pE L [] 0 0 .un .un)= .nx (pE L (as.map λl=>T.str (S l)) (j:Nat) d' x' y'):=q;have e2:Zm (vE 0) (zn (vE 3)) noO (pE L (as.map λl=>T.str (S l)) (j:Nat) d' x' y')= .ok (.str (S (L.drop j))):=by
  show (if (S L).length<=bnd then R.ok (T.str (bR (S L) (some (j:Int)) none)) else .bad)=_
  rw[yA a1,if_pos];rw[zH];have:bnd=16777216:=rfl;omega
 have e3:W2 2 (Zm (vE 0) (zn (vE 3)) noO) (pE L (as.map λl=>T.str (S l)) (j:Nat) d' x' y')= .nx (pE L ((as++[L.drop j]).map λl=>T.str (S l)) (j:Nat) d' x' y'):=by
  show (R.s (Zm (vE 0) (zn (vE 3)) noO _) λt=>if (as.map λl=>T.str (S l)).length < bnd then RS.nx _ else .bad)=_
  rw[e2,jb,if_pos (by rw[ah];have:bnd=16777216:=rfl;omega),dO];rfl
 show zr (b_s [.vl (.str (S L)),.vl (.str " "),.un,.un,.un,.un,.un])=_;unfold b_s;have z1:UI 2 zc [.vl (.str (S L)),.vl (.str " "),.un,.un,.un,.un,.un]= .nx [.vl (.str (S L)),.vl (.str " "),.ow [],.un,.un,.un,.un]:=rfl;have z2:zR 3 (cE (.int 0)) [.vl (.str (S L)),.vl (.str " "),.ow [],.un,.un,.un,.un]= .nx [.vl (.str (S L)),.vl (.str " "),.ow [],.vl (.int 0),.un,.un,.un]:=rfl;have z3:zR 4 (cE (.int 0)) [.vl (.str (S L)),.vl (.str " "),.ow [],.vl (.int 0),.un,.un,.un]= .nx (pE L [] 0 0 .un .un):=rfl;unfold wG at e1;rw[zd z1,zd z2,zd z3,zd e1,zd e3];rfl
theorem Wv:∀{ls:List (List Nat)} {w:List Nat},w∈ls->w.length<=(jn ls).length/\∀c∈w,c∈jn ls
 | [x],w,h=>by
  have:w=x:=by simpa using h
  subst this;exact⟨aj _,λ_ h=>h⟩
 | x :: y :: r,w,h=>by
  rcases ak.mp h with rfl | h
  ·exact⟨by simp only[jn,ae];omega,λc hc=>bb _ hc⟩
  ·obtain⟨a,b⟩:=Wv h;exact⟨by simp only[jn,ae,ac];omega,λc hc=>au _ (aa _ (b c hc))⟩
theorem yJ {fe:En->R T}{α:Type}(g:α->T)(hx:α->List Nat)(P:α->Prop)(ρ:Sl->En)(hs:∀x y,(ρ x).set 0 y=ρ y):∀(ls:List (List Nat)) (x:Sl),(∀l∈ls,fe (ρ (.vl (.str (S l))))= .ex 5\/∃a,fe (ρ (.vl (.str (S l))))= .ok (g a)/\l=hx a/\P a)->zt (Z5 0) Zb fe (ls.map λl=>T.str (S l)) (ρ x)= .ex 5\/∃as:List α,zt (Z5 0) Zb fe (ls.map λl=>T.str (S l)) (ρ x)= .ok (as.map g)/\ls=as.map hx/\∀a∈as,P a
 | [],_,_=> .inr ⟨[],rfl,rfl,λ_ h=>nomatch h⟩
 | l :: ls,x,h=>by
  have e:zt (Z5 0) Zb fe ((l :: ls).map λl=>T.str (S l)) (ρ x)=(fe (ρ (.vl (.str (S l))))).bind λv=>(zt (Z5 0) Zb fe (ls.map λl=>T.str (S l)) (ρ (.vl (.str (S l))))).bind λvs=> .ok (v :: vs):=by
   rw[← hs x (.vl (.str (S l)))];rfl
  rw[e];rcases h l ai with q | ⟨a,q,ha,pa⟩
  ·exact .inl (by rw[q];rfl)
  ·rw[q,bOk];rcases yJ g hx P ρ hs ls (.vl (.str (S l))) λm hm=>h m (aa _ hm) with q2 | ⟨as,q2,has,pas⟩
   ·exact .inl (by rw[q2];rfl)
   ·refine .inr ⟨a :: as,by rw[q2];rfl,by rw[aZ,← ha,← has],λb hb=> ?_⟩
    rcases ak.mp hb with rfl | hb
    ·exact pa
    ·exact pas b hb
theorem wI {fi:En->R (List T)}{fe:En->R T}{k:Nat}{js:List Nat}{ρ:En}{ts:List T}(hi:fi ρ= .ok ts)(hl:ts.length<=2000):Je fi (Z5 0) Zb fe k js ρ=(zt (Z5 0) Zb fe ts (JC k js ρ)).bind λvs=> .ok (.lst vs):=by
 unfold Je UN;rw[hi,bOk,if_pos (show ts.length<=bnd by have:bnd=16777216:=rfl;omega)]
abbrev kE (t:T)(d:Int)(x y:Sl):En:=[.vl t,.vl (.int d),x,y]
def Rd:Nat->T->List Nat->Prop
 | 0,_,_=>False
 | d+1,t,l=>(∃lo hi,t= .tup [.str "whole",.int lo,.int hi]/\l=spx lo hi)\/(∃cs:List (Str×Int),t= .tup [.str "pick",.tup (cs.map jE)]/\l=123 :: (jn (cs.map chx)++[125]))\/(∃ps:List (T×List Nat),t= .tup [.str "row",.tup (ps.map (·.1))]/\l=40 :: (jn (ps.map (·.2))++[41])/\∀p∈ps,Rd d p.1 p.2)\/(∃(u:T) (m:List Nat) (lo hi:Int),t= .tup [.str "many",u,.int lo,.int hi]/\l=91 :: (m++93 :: spx lo hi)/\Rd d u m)
theorem U0 {ρ:En}{d:Nat}{l:List Nat}{s:Str}(hs:s=S [d])(h:vE 0 ρ= .ok (.str (S l))):jP (smE yV (vE 0) (cE (.str s))) ρ= .ok (l.head? == some d):=by
 subst hs;rw[ZW];unfold smE;rw[h,bOk];show R.ok (bK (S l) (S [d]))=_;rw[qa]
theorem lv1 {t:T}{d:Nat}{x y:Sl}:ifS (zY eqC (vB 1) (cE (.int 0))) (ZO 5) nxS (kE t ((d+1:Nat):Int) x y)= .nx (kE t ((d+1:Nat):Int) x y):=by
 refine Z3 ?_;show R.ok (((d+1:Nat):Int) == 0)=_;rw[beq_eq_false_iff_ne.mpr (by omega)]
theorem yK {f g:En->R T}{ρ:En}{xs ys:List T}(hf:f ρ= .ok (.tup xs))(hg:g ρ= .ok (.tup ys))(h:xs.length+ys.length<=100):z9 zf f g ρ= .ok (.tup (xs++ys)):=by
 rw[zw,hf,bOk,hg,bOk];exact if_pos (by have:bnd=16777216:=rfl;omega)
theorem qT {g:T->T->R T}{f f' :En->R T}{ρ:En}{c:Nat}(h:f ρ= .ex c):z9 g f f' ρ= .ex c:=by rw[zw,h];rfl
theorem qU {g:T->T->R T}{f f' :En->R T}{ρ:En}{c:Nat}{x:T}(h:f ρ= .ok x)(h' :f' ρ= .ex c):z9 g f f' ρ= .ex c:=by rw[zw,h,bOk,h'];rfl
theorem gF {t:T}{d:Nat}{x y:Sl}:z9 JB (vE 1) (cE (.int 1)) (kE t ((d+1:Nat):Int) x y)= .ok (.int (d:Nat)):=by
 show R.ok (T.int (((d+1:Nat):Int) - 1))=_;rw[show ((d+1:Nat):Int) - 1=(d:Nat) by omega]
theorem Jz {g:List T->R T}{f f' f'' :En->R T}{ρ:En}{x y z:T}(h:f ρ= .ok x)(h' :f' ρ= .ok y)(h'' :f'' ρ= .ok z):z8 3 g (z7 f (z7 f' (z7 f'' zc))) ρ=g [x,y,z]:=by
 rw[ZH,h,bOk,h',bOk,h'',bOk]
theorem yL {f:En->R T}{ρ:En}{ts:List T}(h:f ρ= .ok (.lst ts)):ap1 qr f ρ= .ok (.tup ts):=by
 rw[Jr,h,bOk];rfl
theorem vA (L:List Nat):∃ls,cV (S L) (S [32])=ls.map S/\jn ls=L:=by
 have e1:=StrLaws.join_split (S L) (S [32]);generalize cV (S L) (S [32])=P at e1;have e4:P=(P.map λp=>p.cps.toList).map S:=by
  rw[bz];exact(List.map_id'' (λp=>xL p) P).symm
 refine⟨P.map λp=>p.cps.toList,e4, ?_⟩;rw[e4,yz]at e1;exact xM e1
theorem qV:∀ls:List (List Nat),ls.length<=(jn ls).length+1
 | []=>by simp
 | [x]=>by simp
 | x :: y :: r=>by
  have:=qV (y :: r);simp only[jn,ae,ac]at this ⊢;omega
theorem Ko {g:T->R T}{f:En->R T}{ρ:En}{c:Nat}(h:f ρ= .ex c):ap1 g f ρ= .ex c:=by rw[Jr,h];rfl
theorem X2:∀(d:Nat) (t:T),¬ Rd d t []
 | 0,_,h=>h
 | d+1,t,h=>by
  rcases h with ⟨lo,hi,_,h⟩ | ⟨cs,_,h⟩ | ⟨ps,_,h,_⟩ | ⟨u,m,lo,hi,_,h,_⟩
  ·unfold spx at h;have:=congrArg dU h;simp at this
  ·cases h
  ·cases h
  ·cases h
theorem yZ {g:En->R Bool}{f1 f2:En->RS}{ρ:En}{r:RS}(h:g ρ= .ok true)(hr:f1 ρ=r):ifS g f1 f2 ρ=r:=by rw[yw h,hr]
theorem uw:∀(d n:Nat),d<=n->∀l:List Nat,fine l->S_9 (n+1) 0 [.str (S l),.int (d:Nat)]= .ex 5\/∃t,S_9 (n+1) 0 [.str (S l),.int (d:Nat)]= .ok t/\Rd d t l
 | 0,n,_,l,_=> .inl rfl
 | d+1,0,h,_,_=>absurd h (by omega)
 | d+1,n+1,hn,l,hl=>by
  have ee:S_9 (n+2) 0 [.str (S l),.int ((d+1:Nat):Int)]=zr (b_9 f_d f_s (S_9 (n+1) 0) f_n f_h (kE (.str (S l)) ((d+1:Nat):Int) .un .un)):=rfl;rw[ee];unfold b_9;rw[zd lv1];cases h1:l.head? == some 123 with
  | true=>
   obtain⟨r,rfl⟩:∃r,l=123 :: r:=by
    cases l with
    | nil=>cases h1
    | cons c r=>exact⟨r,by rw[show c=123 by simpa using h1]⟩
   have hs:=U0 (s:="{") (d:=123) (l:=123 :: r) (ρ:=kE (.str (S (123 :: r))) ((d+1:Nat):Int) .un .un) rfl rfl;rw[h1]at hs;have e0:z8 3 f_d (z7 (vE 0) (z7 (cE (.str "{")) (z7 (cE (.str "}")) zc))) (frz (kE (.str (S (123 :: r))) ((d+1:Nat):Int) .un .un))=f_d [.str (S (123 :: r)),.str "{",.str "}"]:=Jz rfl rfl rfl;rcases uv (o:="{") (p:="}") (c:=123) (d:=125) (r:=r) rfl rfl (by decide) hl with q | ⟨m,hm,q⟩
   ·refine .inl ?_;rw[Zh (c:=5)]
    ·rfl
    ·refine yZ hs (Zt (ZE (x:= .str "pick") rfl (Ko ?_)));show R.bind (R.bind (R.bind (z8 3 f_d _ (frz (kE (.str (S (123 :: r))) ((d+1:Nat):Int) .un .un))) _) _) _=_;rw[e0,q];rfl
   ·rw[hm]at hl;have hlm:fine m:=hl.sub (by simp only[ac,ae];omega) λc hc=>aa _ (bb _ hc)
    obtain⟨ls,e1,e2⟩:=vA m;have hc:=qV ls;rw[e2]at hc;have e3:jx (smE Xo (z8 3 f_d (z7 (vE 0) (z7 (cE (.str "{")) (z7 (cE (.str "}")) zc)))) (cE (.str " "))) (frz (kE (.str (S (123 :: r))) ((d+1:Nat):Int) .un .un))= .ok (ls.map λl=>T.str (S l)):=by
     have:smE Xo (z8 3 f_d (z7 (vE 0) (z7 (cE (.str "{")) (z7 (cE (.str "}")) zc)))) (cE (.str " ")) (frz (kE (.str (S (123 :: r))) ((d+1:Nat):Int) .un .un))= .ok (.lst (ls.map λl=>T.str (S l))):=by
      unfold smE;rw[e0,q,bOk];show (if (S m).length<=1000/\((S [32]).length == 0)=false then R.ok (T.lst ((cV (S m) (S [32])).map T.str)) else .bad)=_
      rw[if_pos ⟨by rw[zH];exact hlm.1,by rw[zH];rfl⟩,e1,bz];rfl
     show R.bind _ Jf=_;rw[this];rfl
    have e4:=wI (fe:=z8 1 f_n (z7 (vE 0) zc)) (k:=1) (js:=[]) e3 (by rw[ah];have:=hlm.1;omega)
    rcases yJ (fe:=z8 1 f_n (z7 (vE 0) zc)) jE chx (λ_=>True) (λx=>[x]) (λ_ _=>rfl) ls .un (λw hw=>by
     rw[Zj,v0,bOk];rw[← e2]at hlm;obtain⟨a,b⟩:=Wv hw;rcases YZ (hlm.sub a b) with z | ⟨c,z,y⟩
     ·exact .inl z
     ·exact .inr ⟨c,z,y,trivial⟩) with z | ⟨cs,z,y,_⟩
    ·refine .inl ?_;rw[Zh (c:=5)]
     ·rfl
     ·refine yZ hs (Zt (ZE (x:= .str "pick") rfl (Ko ?_)));rw[e4];exact congrArg (λr=>R.bind r _) z
    ·refine .inr ⟨.tup [.str "pick",.tup (cs.map jE)], ?_,.inr (.inl ⟨cs,rfl,by rw[← y,e2,hm]⟩)⟩
     rw[jM (t:= .tup [.str "pick",.tup (cs.map jE)])]
     ·rfl
     ·refine yZ hs (zX (U6 (x:= .str "pick") rfl (yL ?_)));rw[e4];exact congrArg (λr=>R.bind r _) z
  | false=>
   rw[zd (Z3 (by rw[U0 (s:="{") (d:=123) (l:=l) rfl rfl,h1]))]
   cases h2:l.head? == some 40 with
   | true=>
    obtain⟨r,rfl⟩:∃r,l=40 :: r:=by
     cases l with
     | nil=>cases h2
     | cons c r=>exact⟨r,by rw[show c=40 by simpa using h2]⟩
    have hs:=U0 (s:="(") (d:=40) (l:=40 :: r) (ρ:=kE (.str (S (40 :: r))) ((d+1:Nat):Int) .un .un) rfl rfl;rw[h2]at hs;have e0:z8 3 f_d (z7 (vE 0) (z7 (cE (.str "(")) (z7 (cE (.str ")")) zc))) (kE (.str (S (40 :: r))) ((d+1:Nat):Int) .un .un)=f_d [.str (S (40 :: r)),.str "(",.str ")"]:=Jz rfl rfl rfl;rcases uv (o:="(") (p:=")") (c:=40) (d:=41) (r:=r) rfl rfl (by decide) hl with q | ⟨m,hm,q⟩
    ·refine .inl ?_;rw[Zh (c:=5)]
     ·rfl
     ·refine yZ hs (Zh (qM ?_));rw[jq,e0,q];rfl
    ·rw[hm]at hl;have hlm:fine m:=hl.sub (by simp only[ac,ae];omega) λc hc=>aa _ (bb _ hc)
     obtain⟨ls,e1,e2,e3⟩:=qb hlm.1;have e5:zR 2 (z8 2 f_s (z7 (z8 3 f_d (z7 (vE 0) (z7 (cE (.str "(")) (z7 (cE (.str ")")) zc)))) (z7 (cE (.str " ")) zc))) (kE (.str (S (40 :: r))) ((d+1:Nat):Int) .un .un)= .nx (kE (.str (S (40 :: r))) ((d+1:Nat):Int) (.vl (.lst (ls.map λl=>T.str (S l)))) .un):=by
      refine zP ?_;rw[jq,e0,q,bOk];exact e1
     have e4:=wI (fi:=jx (vE 2)) (fe:=z8 2 (S_9 (n+1) 0) (z7 (vE 0) (z7 (z9 JB (vE 1) (cE (.int 1))) zc))) (k:=1) (js:=[1]) (ρ:=frz (kE (.str (S (40 :: r))) ((d+1:Nat):Int) (.vl (.lst (ls.map λl=>T.str (S l)))) .un)) (ts:=ls.map λl=>T.str (S l)) rfl (by rw[ah];omega)
     rcases yJ (fe:=z8 2 (S_9 (n+1) 0) (z7 (vE 0) (z7 (z9 JB (vE 1) (cE (.int 1))) zc))) (λp:T×List Nat=>p.1) (λp=>p.2) (λp=>Rd d p.1 p.2) (λx=>[x,.vl (.int ((d+1:Nat):Int))]) (λ_ _=>rfl) ls .un (λw hw=>by
      have es:z9 JB (vE 1) (cE (.int 1)) [.vl (.str (S w)),.vl (.int ((d+1:Nat):Int))]= .ok (.int (d:Nat)):=by
       show R.ok (T.int (((d+1:Nat):Int) - 1))=_;rw[show ((d+1:Nat):Int) - 1=(d:Nat) by omega]
      rw[jq,v0,bOk,es,bOk];rw[← e2]at hlm;obtain⟨a,b⟩:=Wv hw;rcases uw d n (by omega) w (hlm.sub a b) with z | ⟨t,z,y⟩
      ·exact .inl z
      ·exact .inr ⟨(t,w),z,rfl,y⟩) with z | ⟨ps,z,y,hp⟩
     ·refine .inl ?_;rw[Zh (c:=5)]
      ·rfl
      ·refine yZ hs ((zd e5).trans (Zt (ZE (x:= .str "row") rfl (Ko ?_))));rw[e4];exact congrArg (λr=>R.bind r _) z
     ·refine .inr ⟨.tup [.str "row",.tup (ps.map (·.1))], ?_,.inr (.inr (.inl ⟨ps,rfl,by rw[← y,e2,hm],hp⟩))⟩
      rw[jM (t:= .tup [.str "row",.tup (ps.map (·.1))])]
      ·rfl
      ·refine yZ hs ((zd e5).trans (zX (U6 (x:= .str "row") rfl (yL ?_))));rw[e4];exact congrArg (λr=>R.bind r _) z
   | false=>
    rw[zd (Z3 (by rw[U0 (s:="(") (d:=40) (l:=l) rfl rfl,h2]))]
    cases h3:l.head? == some 91 with
    | true=>
     have hs:=U0 (s:="[") (d:=91) (l:=l) (ρ:=kE (.str (S l)) ((d+1:Nat):Int) .un .un) rfl rfl;rw[h3]at hs;rcases Km (f:=vE 0) (g:=cE (.str "]")) (ρ:=kE (.str (S l)) ((d+1:Nat):Int) .un .un) (l:=l) (m:=[93]) rfl rfl (by simp) rfl (aC hl.1 (by decide)) with e | ⟨a,b,hab,e⟩
     ·refine .inl ?_;rw[Zh (c:=5)]
      ·rfl
      ·refine yZ hs ((zd (zP e)).trans (Zt (qT (ZE (x:= .str "many") rfl ?_))));have e2:Zm (z9 ixT (vE 3) (cE (.int 0))) (zn (cE (.int 1))) noO (frz (kE (.str (S l)) ((d+1:Nat):Int) .un (.vl (.tup [.str (S []),.str (S []),.str (S l)]))))= .ok (.str (S [])):=by
        show (if (S []).length<=bnd then R.ok (T.str (bR (S []) (some 1) none)) else .bad)=_
        rw[if_pos (by decide+kernel)]
        congr 2
       have e3:z9 JB (vE 1) (cE (.int 1)) (frz (kE (.str (S l)) ((d+1:Nat):Int) .un (.vl (.tup [.str (S []),.str (S []),.str (S l)]))))= .ok (.int (d:Nat)):=gF;show z8 2 (S_9 (n+1) 0) _ (frz (kE (.str (S l)) ((d+1:Nat):Int) .un (.vl (.tup [.str (S []),.str (S []),.str (S l)]))))=_;rw[jq,e2,bOk,e3,bOk];rcases uw d n (by omega) [] .nil with z | ⟨t,z,y⟩
       ·exact z
       ·exact absurd y (X2 _ _)
     ·obtain⟨a,rfl⟩:∃a',a=91 :: a' :=by
       cases a with
       | nil=>rw[hab]at h3;cases h3
       | cons c a=>exact⟨a,by rw[hab]at h3;rw[show c=91 by simpa using h3]⟩
      have hl2:=hl;rw[hab]at hl2;have ha:fine a:=hl2.l.l.sub (by simp) λc hc=>aa _ hc
      have hb:fine b:=hl2.r;have e2:Zm (z9 ixT (vE 3) (cE (.int 0))) (zn (cE (.int 1))) noO (frz (kE (.str (S l)) ((d+1:Nat):Int) .un (.vl (.tup [.str (S (91 :: a)),.str (S [93]),.str (S b)]))))= .ok (.str (S a)):=by
       show (if (S (91 :: a)).length<=bnd then R.ok (T.str (bR (S (91 :: a)) (some ((1:Nat):Int)) none)) else .bad)=_
       rw[yA (by simp),if_pos]
       ·rfl
       ·rw[zH];have:bnd=16777216:=rfl;have:=ha.1;simp only[ac];omega
      have e3:z9 JB (vE 1) (cE (.int 1)) (frz (kE (.str (S l)) ((d+1:Nat):Int) .un (.vl (.tup [.str (S (91 :: a)),.str (S [93]),.str (S b)]))))= .ok (.int (d:Nat)):=gF;have e4:z8 2 (S_9 (n+1) 0) (z7 (Zm (z9 ixT (vE 3) (cE (.int 0))) (zn (cE (.int 1))) noO) (z7 (z9 JB (vE 1) (cE (.int 1))) zc)) (frz (kE (.str (S l)) ((d+1:Nat):Int) .un (.vl (.tup [.str (S (91 :: a)),.str (S [93]),.str (S b)]))))=S_9 (n+1) 0 [.str (S a),.int (d:Nat)]:=by
       rw[jq,e2,bOk,e3,bOk]
      have e5:z8 1 f_h (z7 (z9 ixT (vE 3) (cE (.int 2))) zc) (frz (kE (.str (S l)) ((d+1:Nat):Int) .un (.vl (.tup [.str (S (91 :: a)),.str (S [93]),.str (S b)]))))=f_h [.str (S b)]:=by
       rw[Zj];rfl
      rcases uw d n (by omega) a ha with z | ⟨t,z,y⟩
      ·refine .inl ?_;rw[Zh (c:=5)]
       ·rfl
       ·exact yZ hs ((zd (zP e)).trans (Zt (qT (ZE (x:= .str "many") rfl (e4.trans z)))))
      ·rcases qR hb with w | ⟨lo,hi,w,hw⟩
       ·refine .inl ?_;rw[Zh (c:=5)]
        ·rfl
        ·exact yZ hs ((zd (zP e)).trans (Zt (qU (U6 (x:= .str "many") rfl (e4.trans z)) (e5.trans w))))
       ·refine .inr ⟨.tup [.str "many",t,.int lo,.int hi], ?_,.inr (.inr (.inr ⟨t,a,lo,hi,rfl,by rw[hab,hw];simp,y⟩))⟩
        rw[jM (t:= .tup [.str "many",t,.int lo,.int hi])]
        ·rfl
        ·exact yZ hs ((zd (zP e)).trans (zX (yK (U6 (x:= .str "many") rfl (e4.trans z)) (e5.trans w) (by simp))))
    | false=>
     rw[zd (Z3 (by rw[U0 (s:="[") (d:=91) (l:=l) rfl rfl,h3]))]
     have e5:z8 1 f_h (z7 (vE 0) zc) (frz (kE (.str (S l)) ((d+1:Nat):Int) .un .un))=f_h [.str (S l)]:=by
      rw[Zj];rfl
     rcases qR hl with w | ⟨lo,hi,w,hw⟩
     ·exact .inl (congrArg zr (Zt (qU (x:= .tup [.str "whole"]) rfl (e5.trans w))))
     ·refine .inr ⟨.tup [.str "whole",.int lo,.int hi], ?_,.inl ⟨lo,hi,rfl,hw⟩⟩;exact congrArg zr (zX (yK (Gi (x:= .str "whole") rfl) (e5.trans w) (by simp)))
theorem vC {a b:Str×Int}(h:jE a=jE b):a=b:=by
 unfold jE at h;injection h with h;injection h with h1 h2;injection h2 with h2 _;injection h1 with h1;injection h2 with h2;exact Prod.ext h1 h2
theorem ux:∀{a b:List (Str×Int)},a.map jE=b.map jE->a=b
 | [],[],_=>rfl
 | [],_ :: _,h=>by cases h
 | _ :: _,[],h=>by cases h
 | x :: a,y :: b,h=>by
  injection h with h1 h2;rw[vC h1,ux h2]
theorem vD:∀(d:Nat) (k:Kd) (l:List Nat),Rd d k.t l->l=k.x
 | 0,_,_,h=>h.elim
 | d+1,.whole lo hi,l,h=>by
  rw[Kd.t]at h;rcases h with ⟨a,b,h,q⟩ | ⟨cs,h,q⟩ | ⟨ps,h,q,_⟩ | ⟨u,m,a,b,h,q,_⟩
  ·injection h with h;injection h with _ h;injection h with h1 h;injection h with h2 _;injection h1 with h1;injection h2 with h2;rw[q,Kd.x,h1,h2]
  ·injection h with h;injection h with h;injection h with h;exact absurd h (by decide)
  ·injection h with h;injection h with h;injection h with h;exact absurd h (by decide)
  ·injection h with h;injection h with h;injection h with h;exact absurd h (by decide)
 | d+1,.pick ds,l,h=>by
  rw[Kd.t]at h;rcases h with ⟨a,b,h,q⟩ | ⟨cs,h,q⟩ | ⟨ps,h,q,_⟩ | ⟨u,m,a,b,h,q,_⟩
  ·injection h with h;injection h with h;injection h with h;exact absurd h (by decide)
  ·injection h with h;injection h with _ h;injection h with h1 _;injection h1 with h1;rw[q,Kd.x,ux h1]
  ·injection h with h;injection h with h;injection h with h;exact absurd h (by decide)
  ·injection h with h;injection h with h;injection h with h;exact absurd h (by decide)
 | d+1,.row ks,l,h=>by
  rw[Kd.t]at h;rcases h with ⟨a,b,h,q⟩ | ⟨cs,h,q⟩ | ⟨ps,h,q,hp⟩ | ⟨u,m,a,b,h,q,_⟩
  ·injection h with h;injection h with h;injection h with h;exact absurd h (by decide)
  ·injection h with h;injection h with h;injection h with h;exact absurd h (by decide)
  ·injection h with h;injection h with _ h;injection h with h1 _;injection h1 with h1;rw[q,Kd.x];congr 2
   congr 1
   clear q
   revert ps
   induction ks with
   | nil=>
    intro ps hp h1;cases ps with
    | nil=>rw[Kd.xs];rfl
    | cons p ps=>rw[Kd.ts]at h1;cases h1
   | cons k ks ih=>
    intro ps hp h1;cases ps with
    | nil=>rw[Kd.ts]at h1;cases h1
    | cons p ps=>
     rw[Kd.ts,aZ]at h1;injection h1 with h1 h2;rw[aZ,Kd.xs,vD d k p.2 (by rw[h1];exact hp p ai),ih ps (λr hr=>hp r (aa _ hr)) h2]
  ·injection h with h;injection h with h;injection h with h;exact absurd h (by decide)
 | d+1,.many k lo hi,l,h=>by
  rw[Kd.t]at h;rcases h with ⟨a,b,h,q⟩ | ⟨cs,h,q⟩ | ⟨ps,h,q,_⟩ | ⟨u,m,a,b,h,q,hu⟩
  ·injection h with h;injection h with h;injection h with h;exact absurd h (by decide)
  ·injection h with h;injection h with h;injection h with h;exact absurd h (by decide)
  ·injection h with h;injection h with h;injection h with h;exact absurd h (by decide)
  ·injection h with h;injection h with _ h;injection h with h1 h;injection h with h2 h;injection h with h3 _;injection h2 with h2;injection h3 with h3;rw[q,Kd.x,vD d k m (by rw[h1];exact hu),h2,h3]
theorem yM:∀{ts:List T},(∀t∈ts,sOk t)->Wm ts
 | [],_=>by unfold Wm;trivial
 | t :: ts,h=>by unfold Wm;exact⟨h t ai,yM λu hu=>h u (aa _ hu)⟩
theorem Ww {x:Str}(h:x.length<=10000):sOk (.str x):=by
 unfold sOk;have:bnd=16777216:=rfl;omega
theorem Wx {i:Int}:sOk (.int i):=by unfold sOk;trivial
theorem JA {ts:List T}(h:∀t∈ts,sOk t):sOk (.tup ts):=by unfold sOk;exact yM h
theorem vF:∀(d:Nat) (t:T) (l:List Nat),l.length<=1000->Rd d t l->sOk t
 | 0,_,_,_,h=>h.elim
 | d+1,t,l,hl,h=>by
  rcases h with ⟨a,b,rfl,q⟩ | ⟨cs,rfl,q⟩ | ⟨ps,rfl,q,hp⟩ | ⟨u,m,a,b,rfl,q,hu⟩
  ·refine JA λx hx=> ?_;simp only[ak,cw,or_false]at hx;rcases hx with rfl | rfl | rfl
   ·exact Ww (by decide)
   ·exact Wx
   ·exact Wx
  ·refine JA λx hx=> ?_;simp only[ak,cw,or_false]at hx;rcases hx with rfl | rfl
   ·exact Ww (by decide)
   ·refine JA λy hy=> ?_;obtain⟨c,hc,rfl⟩:=bf.mp hy;refine JA λz hz=> ?_;simp only[ak,cw,or_false]at hz;rcases hz with rfl | rfl
    ·refine Ww ?_;have h1:=(Wv (eG (f:=chx) hc)).1;have h2:c.1.cps.size<=(chx c).length:=by
      unfold chx;simp only[ae,cz];omega
     rw[q]at hl;simp only[ac,ae]at hl;unfold dE;omega
    ·exact Wx
  ·refine JA λx hx=> ?_;simp only[ak,cw,or_false]at hx;rcases hx with rfl | rfl
   ·exact Ww (by decide)
   ·refine JA λy hy=> ?_;obtain⟨p,hq,rfl⟩:=bf.mp hy;refine vF d _ p.2 ?_ (hp p hq);have h1:=(Wv (eG (f:=λp:T×List Nat=>p.2) hq)).1;rw[q]at hl;simp only[ac,ae]at hl;omega
  ·refine JA λx hx=> ?_;simp only[ak,cw,or_false]at hx;rcases hx with rfl | rfl | rfl | rfl
   ·exact Ww (by decide)
   ·refine vF d _ m ?_ hu;rw[q]at hl;simp only[ac,ae]at hl;omega
   ·exact Wx
   ·exact Wx
theorem X3 {k:Kd}(hk:k.Ok 3):f_3 [k.t]= .ok (.bl true):=by
 have hi:=yx 3 k hk;rw[JT _ (wB 3 _ hi).so,hi]
theorem vG {k:Kd}(hk:k.Ok 3):f_q [k.t]= .ok .non:=by
 show zr (ifS (wb (jP (z8 1 f_3 (z7 (vE 0) zc)))) (ZO 0) nxS [.vl k.t])=_;rw[Z3 (by rw[jJ,ZW,Zj,v0,bOk,X3 hk,bOk,jK,bOk];rfl)];rfl
theorem vH {k:Kd}(hk:k.Ok 3):f_1 [k.t]= .ok (.str (S k.x)):=by
 show zr (b_1 f_q (f_7 20) [.vl k.t])=_;rw[b_1,zd (yy (t:= .non) (by rw[Zj,v0,bOk,vG hk])),zX (t:= .str (S k.x))]
 ·rfl
 ·show z8 1 _ _ [.vl k.t]=_;rw[Zj,v0,bOk];exact Ki 3 19 (by decide) (by decide) k hk
theorem Gn {l:List Nat}(h:fine l):f_8 [.str (S l)]= .ex 5\/∃k:Kd,k.Ok 3/\l=k.x/\f_8 [.str (S l)]= .ok k.t:=by
 have ee:f_8 [.str (S l)]=zr (b_8 f_3 f_t (f_9 20) [.vl (.str (S l)),.un]):=rfl;rw[ee];unfold b_8;rw[zd (yy (t:= .non) (by rw[Zj];rfl))]
 have e0:z8 2 (f_9 20) (z7 (vE 0) (z7 (cE (.int 3)) zc)) [.vl (.str (S l)),.un]=S_9 20 0 [.str (S l),.int (3:Nat)]:=by
  rw[jq];rfl
 rcases uw 3 19 (by decide) l h with q | ⟨t,q,hr⟩
 ·exact .inl (by rw[Zh (qM (e0.trans q))];rfl)
 ·rw[zd (zP (e0.trans q))];have hi:=JT t (vF 3 t l h.1 hr);have e1:∀b,isK 3 t=b->wb (jP (z8 1 f_3 (z7 (vE 1) zc))) [.vl (.str (S l)),.vl t]= .ok (!b):=λb hb=>by
   rw[jJ,ZW,Zj,v1,bOk,hi,bOk,jK,bOk,hb]
  cases hb:isK 3 t with
  | false=>exact .inl (congrArg zr (Zh (jV (e1 _ hb))))
  | true=>
   obtain⟨k,rfl,hk⟩:=wC 3 t hb;refine .inr ⟨k,hk,vD 3 k l hr, ?_⟩;exact congrArg zr ((zd (Z3 (e1 _ hb))).trans (zX rfl))
theorem Go:f_a 5= .ok (.str "no text"):=rfl
theorem X4 {l:List Nat}(h:fine l){ρ:En}{f:En->R T}(hf:f ρ= .ok (.str (S l))):jR okX f_a (z8 1 f_1 (z7 (z8 1 f_8 (z7 f zc)) zc) ρ)= .ok (.str "no text")\/jR okX f_a (z8 1 f_1 (z7 (z8 1 f_8 (z7 f zc)) zc) ρ)= .ok (.str (S l)):=by
 rw[Zj,Zj,hf,bOk];rcases Gn h with q | ⟨k,hk,hx,q⟩
 ·rw[q];refine .inl ?_;show (if okX 5=true then nx1 (f_a 5) else R.bad)=_
  rw[Go];rfl
 ·rw[q,bOk,vH hk,hx];exact .inr rfl
theorem wJ {P:Nat->Prop}(h32:P 32):∀ls:List (List Nat),(∀w∈ls,∀c∈w,P c)->∀c∈jn ls,P c
 | [],_,_,h=>nomatch h
 | [x],h,c,hc=>h x ai c hc
 | x :: y :: r,h,c,hc=>by
  rcases aM.mp hc with hc | hc
  ·exact h x ai c hc
  ·rcases ak.mp hc with rfl | hc
   ·exact h32
   ·exact wJ h32 (y :: r) (λw hw=>h w (aa _ hw)) c hc
noncomputable abbrev lo7 (c:Nat):Prop:=c < 128
theorem Kp {i:Int}(h1: -20<=i)(h2:i<=20):∀c∈nl i,lo7 c:=λc hc=>by
 have:=(Xs h1 h2).2.2.1 c hc;unfold lo7;omega
theorem X5 {lo hi:Int}(h1: -20<=lo)(h2:lo<=hi)(h3:hi<=20):∀c∈spx lo hi,lo7 c:=λc hc=>by
 unfold spx at hc;rcases aM.mp hc with hc | hc
 ·rcases aM.mp hc with hc | hc
  ·exact Kp h1 (by omega) c hc
  ·have:c=46:=by simpa using hc
   subst this;decide
 ·exact Kp (by omega) h3 c hc
theorem Kq:∀(d:Nat) (k:Kd),k.Ok d->∀c∈k.x,lo7 c
 | 0,_,h=>h.elim
 | d+1,.whole lo hi,⟨h1,h2,h3⟩=>by rw[Kd.x];exact X5 h1 h2 h3
 | d+1,.pick cs,⟨_,_,h3,_⟩=>by
  rw[Kd.x];intro c hc;rcases ak.mp hc with rfl | hc
  ·decide
  ·rcases aM.mp hc with hc | hc
   ·refine wJ (P:=lo7) (by decide) _ (λw hw=> ?_) c hc
    obtain⟨p,hp,rfl⟩:=bf.mp hw;obtain⟨a1,a2,a3⟩:=h3 p hp;intro x hx;unfold chx at hx;rcases aM.mp hx with hx | hx
    ·rcases aM.mp hx with hx | hx
     ·have:=YY a1 x hx;unfold lo7;omega
     ·have:x=58:=by simpa using hx
      subst this;decide
    ·exact Kp (by omega) a3 x hx
   ·have:c=125:=by simpa using hc
    subst this;decide
 | d+1,.row ks,⟨_,_,h3⟩=>by
  rw[Kd.x,Kd.xs_map];intro c hc;rcases ak.mp hc with rfl | hc
  ·decide
  ·rcases aM.mp hc with hc | hc
   ·refine wJ (P:=lo7) (by decide) _ (λw hw=> ?_) c hc
    obtain⟨k,hk,rfl⟩:=bf.mp hw;exact Kq d k (h3 k hk)
   ·have:c=41:=by simpa using hc
    subst this;decide
 | d+1,.many k lo hi,⟨h1,h2,h3⟩=>by
  rw[Kd.x];intro c hc;rcases ak.mp hc with rfl | hc
  ·decide
  ·rcases aM.mp hc with hc | hc
   ·exact Kq d k h3 c hc
   ·rcases ak.mp hc with rfl | hc
    ·decide
    ·exact X5 (by omega) (by omega) (by omega) c hc
theorem Gp:∀k:Kd,k.x ≠ []
 | .whole lo hi,h=>by
  rw[Kd.x]at h;unfold spx at h;have:=congrArg dU h;simp at this
 | .pick _,h=>by rw[Kd.x]at h;cases h
 | .row _,h=>by rw[Kd.x]at h;cases h
 | .many _ _ _,h=>by rw[Kd.x]at h;cases h
theorem X6 {α β:Type}(f:α->Option β):∀l:List α,(l.filterMap f).length<=l.length
 | l=>List.length_filterMap_le f l
noncomputable def clp (n:Nat)(v:Option Int)(d:Int):Int:=match v with
 | none=>d
 | some i=>max 0 (min (if i < 0 then i+n else i) n)
theorem X7 {n:Nat}{v:Option Int}{d:Int}(h0:0<=d)(h1:d<=n):0<=clp n v d/\clp n v d<=n:=by
 cases v with
 | none=>exact⟨h0,h1⟩
 | some i=>unfold clp;dsimp only;constructor <;> omega
theorem X8 (a b:Int)(n:Nat)(h0:0<=a)(h1:b<=n):(sliceRange a b 1).length<=n:=by
 unfold sliceRange;rw[ah,cq,if_pos (by decide)]
 split <;> omega
theorem X9 (lo hi:Option Int)(n:Nat):(bv lo hi 1 n).length<=n:=by
 have e:bv lo hi 1 n=sliceRange (clp n lo 0) (clp n hi n) 1:=by
  cases lo <;> cases hi <;> rfl
 rw[e];exact X8 _ _ _ (X7 (by omega) (by omega)).1 (X7 (by omega) (by omega)).2
theorem Xa (l:List Nat)(lo hi:Option Int):∃m,bR (S l) lo hi=S m/\m.length<=l.length/\∀c∈m,c∈l:=by
 by_cases h:((1:Int) == 1 && (bv lo hi 1 (S l).length).length == (S l).length)=true
 ·exact⟨l,if_pos h,aj _,λ_ h=>h⟩
 ·refine⟨(bv lo hi 1 (S l).length).filterMap ((S l).cps[·]?),if_neg h, ?_, ?_⟩
  ·have:=X9 lo hi (S l).length;have:=X6 ((S l).cps[·]?) (bv lo hi 1 (S l).length);rw[zH]at*;omega
  ·intro c hc;obtain⟨i,_,hi⟩:=bS.mp hc;have hi:l.toArray[i]? =some c:=hi;rw[List.getElem?_toArray]at hi;exact dW hi
def Txx (n:Nat)(t:T):Prop:=∃m,t= .str (S m)/\m.length<=n/\∀c∈m,lo7 c
theorem Txx.le {n m:Nat}{t:T}(h:n<=m):Txx n t->Txx m t | ⟨x,a,b,c⟩=>⟨x,a,aC b h,c⟩
theorem wK {l:List Nat}(hl:l.length<=442)(hc:∀c∈l,lo7 c){ρ:En}{fa:En->R T}{fl fh:En->R (Option Int)}{lo hi:Option Int}(ha:fa ρ= .ok (.str (S l)))(h1:fl ρ= .ok lo)(h2:fh ρ= .ok hi):∃t,Zm fa fl fh ρ= .ok t/\Txx 442 t:=by
 obtain⟨m,e,a,b⟩:=Xa l lo hi;refine⟨.str (S m), ?_,m,rfl,by omega,λc h=>hc c (b c h)⟩
 unfold Zm;rw[ha,bOk,h1,bOk,h2,bOk];show (if (S l).length<=bnd then R.ok (T.str (bR (S l) lo hi)) else .bad)=_
 rw[if_pos (by rw[zH];have:bnd=16777216:=rfl;omega),e]
theorem Zu {n m:Nat}{f g:En->R T}{ρ:En}(hf:∃t,f ρ= .ok t/\Txx n t)(hg:∃t,g ρ= .ok t/\Txx m t)(h:n+m<=1000):∃t,z9 zf f g ρ= .ok t/\Txx (n+m) t:=by
 obtain⟨_,ef,a,rfl,ha,ca⟩:=hf;obtain⟨_,eg,b,rfl,hb,cb⟩:=hg;refine⟨.str (S (a++b)),ZD ef eg (by omega),a++b,rfl,by rw[ae];omega,λc hc=> ?_⟩
 rcases aM.mp hc with h | h
 ·exact ca c h
 ·exact cb c h
theorem Txx.fine {n:Nat}{t:T}(hn:n<=1000):Txx n t->∃l,t= .str (S l)/\G.fine l
 | ⟨m,a,b,c⟩=>⟨m,a,aC b hn,λx hx=>Nat.lt_trans (c x hx) (by decide)⟩
noncomputable abbrev ABC:Str:="0123-. :ab()[]{}"
theorem Xb (i:Int)(h0:0<=i)(h1:i < 16):∃t,ixT (.str ABC) (.int i)= .ok t/\Txx 1 t:=by
 have H:∀k < 16,∃c,ABC.cps.toList[k]? =some c/\c < 128:=by
  have:(bM 16).all (λk=>match ABC.cps.toList[k]? with | some c=>decide (c < 128) | none=>false)=true:=by decide+kernel
  intro k hk;have:=aI.mp this k (by simpa using hk)
  split at this
  ·rename_i c e;exact⟨c,e,of_decide_eq_true this⟩
  ·cases this
 obtain⟨c,e,hc⟩:=H i.toNat (by omega)
 refine⟨.str (S [c]), ?_,[c],rfl,by simp,λx hx=>by rw[show x=c by simpa using hx];exact hc⟩
 show (if ABC.length<=bnd then (match atI ABC.cps.toList i with | some c=>R.ok (T.str ⟨#[c]⟩) | none=> .bad) else .bad)=_
 rw[if_pos (by decide+kernel),show i=((i.toNat:Nat):Int) by omega,ZM e];rfl
theorem Xc {f g:En->R T}{ρ:En}{i j:Int}(hf:f ρ= .ok (.int i))(hg:g ρ= .ok (.int j))(hj:0 < j):z9 J8 f g ρ= .ok (.int (i % j)):=by
 rw[zw,hf,bOk,hg,bOk];exact if_pos hj
theorem fdC {f g:En->R T}{ρ:En}{i j:Int}(hf:f ρ= .ok (.int i))(hg:g ρ= .ok (.int j))(hj:0 < j/\j < 1073741824):z9 J9 f g ρ= .ok (.int (i / j)):=by
 rw[zw,hf,bOk,hg,bOk];exact if_pos hj
theorem adC {f g:En->R T}{ρ:En}{i j:Int}(hf:f ρ= .ok (.int i))(hg:g ρ= .ok (.int j)):z9 zf f g ρ= .ok (.int (i+j)):=by
 rw[zw,hf,bOk,hg,bOk];rfl
theorem lnS {f:En->R T}{ρ:En}{l:List Nat}(hf:f ρ= .ok (.str (S l)))(hl:l.length<=10000):ap1 Zx f ρ= .ok (.int (l.length:Nat)):=by
 rw[Jr,hf,bOk];show (if (S l).length<=bnd then R.ok (T.int (S l).length) else .bad)=_
 rw[zH,if_pos (show l.length<=bnd by have:bnd=16777216:=rfl;omega)]
theorem JV {n m:Nat}{f:En->R T}{ρ:En}(h:∃t,f (frz ρ)= .ok t/\Txx n t)(hn:n<=m):∃t,zr (zE f ρ)= .ok t/\Txx m t:=by
 obtain⟨t,e,ht⟩:=h;exact⟨t,by rw[zX e];rfl,ht.le hn⟩
theorem yN {m:Nat}{g:En->R Bool}{f:En->R T}{q:En->RS}{ρ:En}(hg:∃b,g ρ= .ok b)(h1:∃t,zr (zE f ρ)= .ok t/\Txx m t)(h2:∃t,zr (q ρ)= .ok t/\Txx m t):∃t,zr (zp (ifS g (zE f) nxS) q ρ)= .ok t/\Txx m t:=by
 obtain⟨b,hb⟩:=hg;cases b with
 | true=>
  obtain⟨t,e,ht⟩:=h1;refine⟨t, ?_,ht⟩;rw[← e];have er:zE f ρ=ifS g (zE f) nxS ρ:=(yw hb).symm;have:zp (ifS g (zE f) nxS) q ρ=zE f ρ:=by
   unfold zp;rw[← er];unfold zE at e ⊢;cases hq:f (frz ρ) with
   | ok a=>rfl
   | ex c=>rfl
   | bad=>rfl
  rw[this]
 | false=>rw[zd (Z3 hb)];exact h2
theorem yO {l:List Nat}(hl:l.length<=442)(hc:∀c∈l,lo7 c)(s:Int):∃t,f_k [.str (S l),.int s,.str ABC]= .ok t/\Txx 886 t:=by
 have ee:f_k [.str (S l),.int s,.str ABC]=zr (b_k [.vl (.str (S l)),.vl (.int s),.vl (.str ABC),.un,.un,.un,.un]):=rfl;rw[ee];unfold b_k;have z1:zR 3 (z9 J8 (vE 1) (z9 zf (ap1 Zx (vB 0)) (cE (.int 1)))) [.vl (.str (S l)),.vl (.int s),.vl (.str ABC),.un,.un,.un,.un]= .nx [.vl (.str (S l)),.vl (.int s),.vl (.str ABC),.vl (.int (s % ((l.length:Nat)+1))),.un,.un,.un]:=
  zP (Xc rfl (adC (lnS (l:=l) rfl (by omega)) rfl) (by omega))
 rw[zd z1];generalize s % ((l.length:Nat)+1)=a;have e16:ap1 Zx (vB 2) [.vl (.str (S l)),.vl (.int s),.vl (.str ABC),.vl (.int a),.un,.un,.un]= .ok (.int 16):=by
  show Zx (.str ABC)=_;show (if ABC.length<=bnd then R.ok (T.int (ABC.length:Nat)) else .bad)=_
  rw[if_pos (by decide+kernel),show ABC.length=16 by decide+kernel];rfl
 obtain⟨t,et,ht⟩:=Xb (s / 1000 % 16) (by omega) (by omega)
 have z2:zR 4 (z9 ixT (vE 2) (z9 J8 (z9 J9 (vE 1) (cE (.int 1000))) (ap1 Zx (vB 2)))) [.vl (.str (S l)),.vl (.int s),.vl (.str ABC),.vl (.int a),.un,.un,.un]= .nx [.vl (.str (S l)),.vl (.int s),.vl (.str ABC),.vl (.int a),.vl t,.un,.un]:=by
  refine zP ?_;rw[zw,show vE 2 [.vl (.str (S l)),.vl (.int s),.vl (.str ABC),.vl (.int a),.un,.un,.un]= .ok (.str ABC) from rfl,bOk,Xc (fdC (i:=s) (j:=1000) rfl rfl (by decide)) e16 (by decide),bOk]
  exact et
 rw[zd z2];have z3:zR 5 (z9 zf (z9 zf (vE 3) (cE (.int 1))) (z9 J8 (z9 J9 (vE 1) (cE (.int 7))) (cE (.int 9)))) [.vl (.str (S l)),.vl (.int s),.vl (.str ABC),.vl (.int a),.vl t,.un,.un]= .nx [.vl (.str (S l)),.vl (.int s),.vl (.str ABC),.vl (.int a),.vl t,.vl (.int (a+1+s / 7 % 9)),.un]:=
  zP (adC (adC rfl rfl) (Xc (fdC (i:=s) (j:=7) rfl rfl (by decide)) rfl (by decide)))
 rw[zd z3];generalize a+1+s / 7 % 9=b;have z4:zR 6 (z9 J8 (z9 J9 (vE 1) (cE (.int 100000))) (cE (.int 8))) [.vl (.str (S l)),.vl (.int s),.vl (.str ABC),.vl (.int a),.vl t,.vl (.int b),.un]= .nx [.vl (.str (S l)),.vl (.int s),.vl (.str ABC),.vl (.int a),.vl t,.vl (.int b),.vl (.int (s / 100000 % 8))]:=
  zP (Xc (fdC (i:=s) (j:=100000) rfl rfl (by decide)) rfl (by decide))
 rw[zd z4];generalize s / 100000 % 8=w;generalize hρ:([.vl (.str (S l)),.vl (.int s),.vl (.str ABC),.vl (.int a),.vl t,.vl (.int b),.vl (.int w)]:En)=ρ;have hz:frz ρ=ρ:=by rw[← hρ];rfl
 have g0:vE 0 ρ= .ok (.str (S l)):=by rw[← hρ];rfl
 have g1:vE 1 ρ= .ok (.int s):=by rw[← hρ];rfl
 have g3:vE 3 ρ= .ok (.int a):=by rw[← hρ];rfl
 have g4:vE 4 ρ= .ok t:=by rw[← hρ];rfl
 have g5:vE 5 ρ= .ok (.int b):=by rw[← hρ];rfl
 have s3:zn (vE 3) ρ= .ok (some a):=by unfold zn;rw[g3];rfl
 have s5:zn (vE 5) ρ= .ok (some b):=by unfold zn;rw[g5];rfl
 have s4:zn (z9 zf (vE 3) (cE (.int 1))) ρ= .ok (some (a+1)):=by unfold zn;rw[adC g3 (j:=1) rfl];rfl
 have n0:noO ρ= .ok none:=rfl;have T4:∃t,vE 4 ρ= .ok t/\Txx 1 t:=⟨t,g4,ht⟩;have A3:=wK hl hc g0 n0 s3;have B3:=wK hl hc g0 s3 n0;have B4:=wK hl hc g0 s4 n0;have A5:=wK hl hc g0 n0 s5;have B5:=wK hl hc g0 s5 n0;have X0:∃t,vE 0 ρ= .ok t/\Txx 442 t:=⟨_,g0,l,rfl,hl,hc⟩;have c1:∀q:Int,∃b,zY ltC (vB 6) (cE (.int q)) ρ= .ok b:=λq=>by rw[← hρ];exact⟨_,rfl⟩
 have c2:∀q:Int,∃b,zY eqC (vB 6) (cE (.int q)) ρ= .ok b:=λq=>by rw[← hρ];exact⟨_,rfl⟩
 refine yN (c1 2) (JV (n:=442+1+442) (by rw[hz];exact Zu (Zu A3 T4 (by decide)) B3 (by decide)) (by decide)) ?_
 refine yN (c2 2) (JV (n:=442+442) (by rw[hz];exact Zu A3 B4 (by decide)) (by decide)) ?_
 refine yN (c1 5) (JV (n:=442+1+442) (by rw[hz];exact Zu (Zu A3 T4 (by decide)) B4 (by decide)) (by decide)) ?_
 refine yN (c2 5) (JV (n:=442+442) (by rw[hz];exact Zu A3 B5 (by decide)) (by decide)) ?_
 refine yN (c2 6) (JV (n:=442+442) (by rw[hz];exact Zu A5 B3 (by decide)) (by decide)) ?_
 refine JV (n:=442+442) ?_ (by decide)
 rw[hz];have sp:∃t,cE (.str " ") ρ= .ok t/\Txx 1 t:=⟨_,rfl,[32],rfl,by decide,λc h=>by rw[show c=32 by simpa using h];decide⟩
 obtain⟨t1,e1,h1⟩:=Zu X0 sp (by decide)
 obtain⟨t2,e2,h2⟩:=Zu sp X0 (by decide)
 obtain⟨t3,e3,h3⟩:=Zu B3 A3 (by decide)
 obtain⟨t5,e5,h5⟩:=Zu X0 X0 (by decide)
 have h4:Txx (442+442) (.str ""):=⟨[],rfl,by decide,λ_ h=>nomatch h⟩
 have el:ja (z7 (z9 zf (vE 0) (cE (.str " "))) (z7 (z9 zf (cE (.str " ")) (vE 0)) (z7 (z9 zf (Zm (vE 0) (zn (vE 3)) noO) (Zm (vE 0) noO (zn (vE 3)))) (z7 (cE (.str "")) (z7 (z9 zf (vE 0) (vE 0)) zc))))) ρ= .ok (.lst [t1,t2,t3,.str "",t5]):=by
  unfold ja z7;rw[e1,bOk,e2,bOk,e3,bOk,e5];rfl
 have em:z9 J8 (vE 1) (cE (.int 5)) ρ= .ok (.int (s % 5)):=Xc g1 rfl (by decide)
 rw[zw,el,bOk,em,bOk];have hs:s % 5=((0:Nat):Int)\/s % 5=((1:Nat):Int)\/s % 5=((2:Nat):Int)\/s % 5=((3:Nat):Int)\/s % 5=((4:Nat):Int):=by omega
 rcases hs with h | h | h | h | h
 ·rw[h];exact⟨t1,Wq rfl,h1.le (by decide)⟩
 ·rw[h];exact⟨t2,Wq rfl,h2.le (by decide)⟩
 ·rw[h];exact⟨t3,Wq rfl,h3⟩
 ·rw[h];exact⟨_,Wq rfl,h4⟩
 ·rw[h];exact⟨t5,Wq rfl,h5⟩
mutual
noncomputable def tEq:T->T->Bool
 | .non,.non=>true
 | .bl a,.bl b=>a == b
 | .int a,.int b=>a == b
 | .str a,.str b=>a == b
 | .tup a,.tup b=>vI a b
 | .lst a,.lst b=>vI a b
 | _,_=>false
noncomputable def vI:List T->List T->Bool
 | [],[]=>true
 | a :: as,b :: bs=>tEq a b && vI as bs
 | _,_=>false
end
mutual
theorem qW:∀x y:T,tEq x y=true->x=y
 | .non,y,h=>by cases y <;> simp[tEq]at h ⊢
 | .bl a,y,h=>by cases y <;> simp[tEq]at h ⊢;exact h
 | .int a,y,h=>by cases y <;> simp[tEq]at h ⊢;exact h
 | .str a,y,h=>by cases y <;> simp[tEq]at h ⊢;exact h
 | .tup a,y,h=>by cases y <;> simp[tEq]at h ⊢;exact WW _ _ h
 | .lst a,y,h=>by cases y <;> simp[tEq]at h ⊢;exact WW _ _ h
 | .fz a,y,h=>by cases y <;> simp[tEq]at h
theorem WW:∀x y:List T,vI x y=true->x=y
 | [],y,h=>by cases y <;> simp[vI]at h ⊢
 | a :: as,y,h=>by
  cases y with
  | nil=>simp[vI]at h
  | cons b bs=>
   rw[vI,a9]at h;rw[qW a b h.1,WW as bs h.2]
end
def Xd (r:R T)(t:T):Bool:=match r with
 | .ok u=>tEq u t
 | _=>false
theorem WX {r:R T}{t:T}(h:Xd r t=true):r= .ok t:=by
 unfold Xd at h;split at h
 ·rw[qW _ _ h]
 ·cases h
abbrev yP:En->RS:=(zp (zR 4 (z9 zf (z9 ZT (z8 2 f_e (z7 (vE 0) (z7 (z9 zf (cE (.int 1700)) (vE 3)) (zc)))) (cE (.int 7919))) (z8 3 f_4 (z7 (vE 0) (z7 (z9 zf (cE (.int 1720)) (vE 3)) (z7 (cE (.int 999983)) (zc)))))))
  (zp (W2 2 (z8 3 f_k (z7 (vE 1) (z7 (vE 4) (z7 (cE (.str "0123-. :ab()[]{}")) (zc))))))
  (zp (zR 5 (z8 3 f_4 (z7 (vE 0) (z7 (z9 zf (cE (.int 1740)) (vE 3)) (z7 (ap1 Zx (vB 1)) (zc))))))
  (zp (zR 6 (z9 zf (cE (.int 1)) (z8 3 f_4 (z7 (vE 0) (z7 (z9 zf (cE (.int 1760)) (vE 3)) (z7 (cE (.int 5)) (zc)))))))
  (zp (W2 2 (z9 zf (Zm (vE 1) (noO) (zn (vE 5))) (Zm (vE 1) (zn (z9 zf (vE 5) (vE 6))) (noO))))
  (W2 2 (z9 zf (Zm (vE 1) (noO) (zn (z9 zf (vE 5) (vE 6)))) (Zm (vE 1) (zn (vE 5)) (noO)))))))))
abbrev qE (ns:List Int)(l:List Nat)(ts:List T)(a b c d:Sl):En:=[.vl (scr ns),.vl (.str (S l)),.ow ts,a,b,c,d,.un,.un,.un,.un]
abbrev yQ (s:Sl):Prop:=yU s=s
theorem vJ {ns:List Int}{l:List Nat}{ts:List T}{a b c d:Sl}{f:En->R T}{t:T}(h:f (qE ns l ts a b c d)= .ok t)(hl:ts.length<=1000):W2 2 f (qE ns l ts a b c d)= .nx (qE ns l (ts++[t]) a b c d):=by
 show (R.s (f (qE ns l ts a b c d)) λt=>if ts.length < bnd then RS.nx _ else .bad)=_
 rw[h,jb,if_pos (by have:bnd=16777216:=rfl;omega)];rfl
theorem Xe {ns:List Int}{l:List Nat}(h0:l ≠ [])(hl:l.length<=442)(hc:∀c∈l,lo7 c)(i:Nat)(ts:List T)(b c d:Sl)(hn:ts.length<=900)(ht:∀t∈ts,Txx 886 t):∃ts' b' c' d',yP (qE ns l ts (.vl (.int (i:Int))) b c d)= .nx (qE ns l ts' (.vl (.int (i:Int))) b' c' d')/\ts'.length=ts.length+3/\(∀t∈ts',Txx 886 t)/\yQ b' /\yQ c' /\yQ d' :=by
 obtain⟨u,eu⟩:=yi ns (1700+(i:Int)) (by omega)
 obtain⟨p,ep,_,_⟩:=zK ns (1720+(i:Int)) 999983 (by omega) (by decide)
 obtain⟨q,eq,_,_⟩:=zK ns (1740+(i:Int)) (l.length:Nat) (by omega) (by have:=List.length_pos_iff.mpr h0;omega)
 obtain⟨r,er,_,_⟩:=zK ns (1760+(i:Int)) 5 (by omega) (by decide)
 obtain⟨t1,e1,h1⟩:=yO hl hc (u*7919+p);have z1:zR 4 (z9 zf (z9 ZT (z8 2 f_e (z7 (vE 0) (z7 (z9 zf (cE (.int 1700)) (vE 3)) (zc)))) (cE (.int 7919))) (z8 3 f_4 (z7 (vE 0) (z7 (z9 zf (cE (.int 1720)) (vE 3)) (z7 (cE (.int 999983)) (zc)))))) (qE ns l ts (.vl (.int (i:Int))) b c d)= .nx (qE ns l ts (.vl (.int (i:Int))) (.vl (.int (u*7919+p))) c d):=by
  refine zP (adC (i:=u*7919) (j:=p) ?_ ?_)
  ·rw[zw,jq];rw[show vE 0 (qE ns l ts (.vl (.int (i:Int))) b c d)= .ok (scr ns) from rfl,bOk,adC (i:=1700) (j:=i) rfl rfl,bOk,eu,bOk];exact vq _ _ (.inr ⟨by decide,by decide⟩)
  ·rw[Jz (x:=scr ns) rfl (adC (i:=1720) (j:=i) rfl rfl) (z:= .int 999983) rfl,ep]
 have z2:W2 2 (z8 3 f_k (z7 (vE 1) (z7 (vE 4) (z7 (cE (.str "0123-. :ab()[]{}")) (zc))))) (qE ns l ts (.vl (.int (i:Int))) (.vl (.int (u*7919+p))) c d)= .nx (qE ns l (ts++[t1]) (.vl (.int (i:Int))) (.vl (.int (u*7919+p))) c d):=
  vJ (by rw[Jz (x:= .str (S l)) rfl (y:= .int (u*7919+p)) rfl (z:= .str ABC) rfl,e1]) (by omega)
 have z3:zR 5 (z8 3 f_4 (z7 (vE 0) (z7 (z9 zf (cE (.int 1740)) (vE 3)) (z7 (ap1 Zx (vB 1)) (zc))))) (qE ns l (ts++[t1]) (.vl (.int (i:Int))) (.vl (.int (u*7919+p))) c d)= .nx (qE ns l (ts++[t1]) (.vl (.int (i:Int))) (.vl (.int (u*7919+p))) (.vl (.int q)) d):=
  zP (by rw[Jz (x:=scr ns) rfl (adC (i:=1740) (j:=i) rfl rfl) (lnS (l:=l) rfl (by omega)),eq])
 have z4:zR 6 (z9 zf (cE (.int 1)) (z8 3 f_4 (z7 (vE 0) (z7 (z9 zf (cE (.int 1760)) (vE 3)) (z7 (cE (.int 5)) (zc)))))) (qE ns l (ts++[t1]) (.vl (.int (i:Int))) (.vl (.int (u*7919+p))) (.vl (.int q)) d)= .nx (qE ns l (ts++[t1]) (.vl (.int (i:Int))) (.vl (.int (u*7919+p))) (.vl (.int q)) (.vl (.int (1+r)))):=
  zP (adC rfl (by rw[Jz (x:=scr ns) rfl (adC (i:=1760) (j:=i) rfl rfl) (z:= .int 5) rfl,er]))
 have key:∀us:List T,(∃t,z9 zf (Zm (vE 1) (noO) (zn (vE 5))) (Zm (vE 1) (zn (z9 zf (vE 5) (vE 6))) (noO)) (qE ns l us (.vl (.int (i:Int))) (.vl (.int (u*7919+p))) (.vl (.int q)) (.vl (.int (1+r))))= .ok t/\Txx (442+442) t)/\∃t,z9 zf (Zm (vE 1) (noO) (zn (z9 zf (vE 5) (vE 6)))) (Zm (vE 1) (zn (vE 5)) (noO)) (qE ns l us (.vl (.int (i:Int))) (.vl (.int (u*7919+p))) (.vl (.int q)) (.vl (.int (1+r))))= .ok t/\Txx (442+442) t:=λus=>
  ⟨Zu (wK hl hc (lo:=none) (hi:=some q) rfl rfl rfl) (wK hl hc (lo:=some (q+(1+r))) (hi:=none) rfl rfl rfl) (by decide),Zu (wK hl hc (lo:=none) (hi:=some (q+(1+r))) rfl rfl rfl) (wK hl hc (lo:=some q) (hi:=none) rfl rfl rfl) (by decide)⟩
 obtain⟨⟨t2,e2,h2⟩,_⟩:=key (ts++[t1]);obtain⟨_,⟨t3,e3,h3⟩⟩:=key (ts++[t1]++[t2]);refine⟨ts++[t1]++[t2]++[t3],.vl (.int (u*7919+p)),.vl (.int q),.vl (.int (1+r)), ?_,by simp,λt hm=> ?_,rfl,rfl,rfl⟩
 ·unfold yP;rw[zd z1,zd z2,zd z3,zd z4,zd (vJ e2 (by simp;omega)),vJ e3 (by simp;omega)]
 ·rw[aM,aM,aM]at hm;rcases hm with ((hm | hm) | hm) | hm
  ·exact ht t hm
  ·rw[show t=t1 by simpa using hm];exact h1
  ·rw[show t=t2 by simpa using hm];exact h2.le (by decide)
  ·rw[show t=t3 by simpa using hm];exact h3.le (by decide)
theorem qY {ns:List Int}{l:List Nat}(h0:l ≠ [])(hl:l.length<=442)(hc:∀c∈l,lo7 c):∀(js:List Nat) (ts:List T) (a b c d:Sl),ts.length+3*js.length<=900->(∀t∈ts,Txx 886 t)->yQ a->yQ b->yQ c->yQ d->∃ts' a' b' c' d',JF (Z5 3) yP (js.map λ(j:Nat)=>T.int (j:Int)) (qE ns l ts a b c d)= .nx (qE ns l ts' a' b' c' d')/\ts'.length<=900/\(∀t∈ts',Txx 886 t)/\yQ a' /\yQ b' /\yQ c' /\yQ d'
 | [],ts,a,b,c,d,hn,ht,ha,hb,hc,hd=>⟨ts,a,b,c,d,rfl,by simpa using hn,ht,ha,hb,hc,hd⟩
 | j :: js,ts,a,b,c,d,hn,ht,_,_,_,_=>by
  simp only[ac]at hn;obtain⟨ts1,b1,c1,d1,q,n1,t1,pb,pc,pd⟩:=Xe (ns:=ns) h0 hl hc j ts b c d (by omega) ht
  obtain⟨ts2,a2,b2,c2,d2,q2,r⟩:=qY (ns:=ns) h0 hl hc js ts1 (.vl (.int (j:Int))) b1 c1 d1 (by omega) t1 rfl pb pc pd
  exact⟨ts2,a2,b2,c2,d2,by rw[aZ,uo (ρ1:=qE ns l ts (.vl (.int (j:Int))) b c d) rfl q,q2],r⟩
abbrev U1:En->RS:=(zp (zR 8 (Ji [7] okX f_a (z8 1 f_1 (z7 (z8 1 f_8 (z7 (vE 0) (zc))) (zc)))))
  (ifS (Qz (zY neC (vB 8) (vB 7)) (zY neC (vB 8) (cE (.str "no text")))) (zE (cE (.bl false))) (nxS)))
abbrev uE (s0 s1 s2 a b c d x y:Sl):En:=[s0,s1,s2,a,b,c,d,x,y,.un,.un]
theorem Xf {t:T}(ht:Txx 886 t){s0 s1 s2 a b c d y:Sl}:∃y',U1 (uE s0 s1 s2 a b c d (.vl t) y)= .nx (uE s0 s1 s2 a b c d (.vl t) y'):=by
 obtain⟨l,rfl,hf⟩:=ht.fine (by decide)
 have e:Ji [7] okX f_a (z8 1 f_1 (z7 (z8 1 f_8 (z7 (vE 0) (zc))) (zc))) (uE s0 s1 s2 a b c d (.vl (.str (S l))) y)=jR okX f_a (z8 1 f_1 (z7 (z8 1 f_8 (z7 (vE 0) zc)) zc) [.vl (.str (S l))]):=rfl;rcases X4 hf (f:=vE 0) (ρ:=[.vl (.str (S l))]) rfl with q | q
 ·refine⟨.vl (.str "no text"), ?_⟩;unfold U1;rw[zd (zP (e.trans q))];refine Z3 ?_;rw[WS];show (R.bind (R.ok (!(("no text":Str) == S l))) λx=>if x=true then R.ok false else .ok false)=_
  rw[bOk];split <;> rfl
 ·refine⟨.vl (.str (S l)), ?_⟩;unfold U1;rw[zd (zP (e.trans q))];refine Z3 ?_;rw[WS];show (R.bind (R.ok (!(S l == S l))) λx=>if x=true then R.ok (!(S l == ("no text":Str))) else .ok false)=_
  rw[bOk];simp
theorem qZ {s0 s1 s2 a b c d:Sl}:∀(ts:List T) (x y:Sl),(∀t∈ts,Txx 886 t)->∃x' y',JF (Z5 7) U1 ts (uE s0 s1 s2 a b c d x y)= .nx (uE s0 s1 s2 a b c d x' y')
 | [],x,y,_=>⟨x,y,rfl⟩
 | t :: ts,x,y,h=>by
  obtain⟨y1,q⟩:=Xf (h t ai) (s0:=s0) (s1:=s1) (s2:=s2) (a:=a) (b:=b) (c:=c) (d:=d) (y:=y);obtain⟨x2,y2,q2⟩:=qZ ts (.vl t) y1 λu hu=>h u (aa _ hu);exact⟨x2,y2,by rw[uo (ρ1:=uE s0 s1 s2 a b c d (.vl t) y) rfl q,q2]⟩
def j9:List T:=[.str "-20..20",.str "{a:1}",.str "{abc:20 b:3 c:1 dd:2}",.str "(0..0)",.str "(0..1 {a:1} [2..3]0..3)",.str "[(1..2 {z:9})]3..3",.str "[[{a:1}]0..1]2..2"]
noncomputable def JD:List T:=[.str "",.str "0",.str "0..",.str "..0",.str "1..0",.str "0..21",.str "-21..0",.str "00..1",.str "0..01",.str "-0..1",.str "{}",.str "{a}",.str "{a:0}",.str "{a:21}",.str "{a:1 a:2}",.str "{a:1  b:1}",.str "{abcd:1}",.str "{a:1,b:1}",.str "()",.str "(0..0 )",.str "(0..0  1..1)",.str "(0..0 0..0 0..0 0..0)",.str "[0..0]",.str "[0..0]0..4",.str "[0..0]2..1",.str "[0..0]-1..1",.str "[0..0",.str "0..0]0..1",.str "((0..0)",.str "(((0..0)))",.str "[[[0..0]0..1]0..1]0..1",.str "(0..0))",.str " 0..0",.non,.int 5,.tup [.str "0..0"],.str "{a:1 b:1 c:1 d:1 e:1}",.str "0..0\n",.str "{A:1}",.str "0...1",.str "[]0..1",.str "+0..1"]
theorem qc:j9.all (λx=>Xd ((f_8 [x]).bind λt=>f_1 [t]) x)=true:=by decide+kernel
theorem vK:JD.all (λx=>Xd (jR okX f_a (f_8 [x])) (.str "no text"))=true:=by decide+kernel
noncomputable def okN (r:R Bool):Bool:=match r with
 | .ok b=> !b
 | _=>false
theorem Xg {r:R Bool}(h:okN r=true):r= .ok false:=by
 unfold okN at h;split at h
 ·rename_i b;cases b with
  | true=>cases h
  | false=>rfl
 ·cases h
theorem Gq {s0 s1 s2 a b c d x y:Sl}:UI 9 (z7 (cE (.str "-20..20")) (z7 (cE (.str "{a:1}")) (z7 (cE (.str "{abc:20 b:3 c:1 dd:2}")) (z7 (cE (.str "(0..0)")) (z7 (cE (.str "(0..1 {a:1} [2..3]0..3)")) (zc)))))) [s0,s1,s2,a,b,c,d,x,y,.un,.un]= .nx [s0,s1,s2,a,b,c,d,x,y,.ow (j9.take 5),.un]:=rfl
theorem Gr {s0 s1 s2 a b c d x y:Sl}:Wz 9 (ja (z7 (cE (.str "[(1..2 {z:9})]3..3")) (z7 (cE (.str "[[{a:1}]0..1]2..2")) (zc)))) [s0,s1,s2,a,b,c,d,x,y,.ow (j9.take 5),.un]= .nx [s0,s1,s2,a,b,c,d,x,y,.ow j9,.un]:=rfl
theorem Kr {s0 s1 s2 a b c d x y:Sl}{z:Sl}:UI 10 (z7 (cE (.str "")) (z7 (cE (.str "0")) (z7 (cE (.str "0..")) (z7 (cE (.str "..0")) (z7 (cE (.str "1..0")) (z7 (cE (.str "0..21")) (z7 (cE (.str "-21..0")) (z7 (cE (.str "00..1")) (z7 (cE (.str "0..01")) (z7 (cE (.str "-0..1")) (z7 (cE (.str "{}")) (z7 (cE (.str "{a}")) (zc))))))))))))) [s0,s1,s2,a,b,c,d,x,y,z,.un]= .nx [s0,s1,s2,a,b,c,d,x,y,z,.ow (JD.take 12)]:=rfl
theorem Ks {s0 s1 s2 a b c d x y:Sl}{z:Sl}:Wz 10 (ja (z7 (cE (.str "{a:0}")) (z7 (cE (.str "{a:21}")) (z7 (cE (.str "{a:1 a:2}")) (zc))))) [s0,s1,s2,a,b,c,d,x,y,z,.ow (JD.take 12)]= .nx [s0,s1,s2,a,b,c,d,x,y,z,.ow (JD.take 15)]:=rfl
theorem Kt {s0 s1 s2 a b c d x y:Sl}{z:Sl}:Wz 10 (ja (z7 (cE (.str "{a:1  b:1}")) (z7 (cE (.str "{abcd:1}")) (z7 (cE (.str "{a:1,b:1}")) (z7 (cE (.str "()")) (z7 (cE (.str "(0..0 )")) (z7 (cE (.str "(0..0  1..1)")) (zc)))))))) [s0,s1,s2,a,b,c,d,x,y,z,.ow (JD.take 15)]= .nx [s0,s1,s2,a,b,c,d,x,y,z,.ow (JD.take 21)]:=rfl
theorem Ku {s0 s1 s2 a b c d x y:Sl}{z:Sl}:Wz 10 (ja (z7 (cE (.str "(0..0 0..0 0..0 0..0)")) (z7 (cE (.str "[0..0]")) (z7 (cE (.str "[0..0]0..4")) (zc))))) [s0,s1,s2,a,b,c,d,x,y,z,.ow (JD.take 21)]= .nx [s0,s1,s2,a,b,c,d,x,y,z,.ow (JD.take 24)]:=rfl
theorem Kv {s0 s1 s2 a b c d x y:Sl}{z:Sl}:Wz 10 (ja (z7 (cE (.str "[0..0]2..1")) (z7 (cE (.str "[0..0]-1..1")) (z7 (cE (.str "[0..0")) (z7 (cE (.str "0..0]0..1")) (z7 (cE (.str "((0..0)")) (z7 (cE (.str "(((0..0)))")) (zc)))))))) [s0,s1,s2,a,b,c,d,x,y,z,.ow (JD.take 24)]= .nx [s0,s1,s2,a,b,c,d,x,y,z,.ow (JD.take 30)]:=rfl
theorem Kw {s0 s1 s2 a b c d x y:Sl}{z:Sl}:Wz 10 (ja (z7 (cE (.str "[[[0..0]0..1]0..1]0..1")) (z7 (cE (.str "(0..0))")) (z7 (cE (.str " 0..0")) (zc))))) [s0,s1,s2,a,b,c,d,x,y,z,.ow (JD.take 30)]= .nx [s0,s1,s2,a,b,c,d,x,y,z,.ow (JD.take 33)]:=rfl
theorem Kx {s0 s1 s2 a b c d x y:Sl}{z:Sl}:Wz 10 (ja (z7 (cE .non) (z7 (cE (.int 5)) (z7 (ZX (z7 (cE (.str "0..0")) (zc))) (z7 (cE (.str "{a:1 b:1 c:1 d:1 e:1}")) (z7 (cE (.str "0..0\n")) (z7 (cE (.str "{A:1}")) (z7 (cE (.str "0...1")) (z7 (cE (.str "[]0..1")) (z7 (cE (.str "+0..1")) (zc))))))))))) [s0,s1,s2,a,b,c,d,x,y,z,.ow (JD.take 33)]= .nx [s0,s1,s2,a,b,c,d,x,y,z,.ow JD]:=rfl
theorem Xh {s0 s1 s2 a b c d x y:Sl}:vS (ifS (zY neC (Je (jx (vE 9)) (Z5 0) (Zb) (z8 1 f_1 (z7 (z8 1 f_8 (z7 (vE 0) (zc))) (zc))) 1 []) (vB 9)) (zE (cE (.bl false))) (nxS)) [s0,s1,s2,a,b,c,d,x,y,.ow j9,.un]= .nx (frz [s0,s1,s2,a,b,c,d,x,y,.ow j9,.un]):=by
 have e0:zt (Z5 0) Zb (z8 1 f_1 (z7 (z8 1 f_8 (z7 (vE 0) zc)) zc)) j9 [.un]= .ok (j9.map λx=>x):=Jp j9 _ λt ht=>by
  show z8 1 f_1 (z7 (z8 1 f_8 (z7 (vE 0) zc)) zc) [.vl t]=_;rw[Zj,Zj,v0,bOk];exact WX (aI.mp qc t ht)
 rw[List.map_id']at e0;have e1:=wI (fi:=jx (vE 9)) (fe:=z8 1 f_1 (z7 (z8 1 f_8 (z7 (vE 0) zc)) zc)) (k:=1) (js:=[]) (ρ:=frz [s0,s1,s2,a,b,c,d,x,y,.ow j9,.un]) (ts:=j9) rfl (by decide)
 refine Z3 ?_;show R.bind _ (λx=>R.bind (R.ok (.lst j9)) λy=>neC x y)=_;rw[e1];show R.bind (R.bind (zt (Z5 0) Zb (z8 1 f_1 (z7 (z8 1 f_8 (z7 (vE 0) zc)) zc)) j9 [.un]) _) _=_;rw[e0,bOk,bOk,bOk];have:okN (neC (.lst j9) (.lst j9))=true:=by decide+kernel
 exact Xg this
theorem Ky {s0 s1 s2 a b c d x y z:Sl}:zE (yT eqC (Zd (jx (vE 10)) (Z5 0) (Zb) (Ji [0] okX f_a (z8 1 f_8 (z7 (vE 0) (zc)))) 1 []) (z9 ZT (ja (z7 (cE (.str "no text")) (zc))) (cE (.int 42)))) [s0,s1,s2,a,b,c,d,x,y,z,.ow JD]= .rt (.bl true):=by
 have e0:zt (Z5 0) Zb (Ji [0] okX f_a (z8 1 f_8 (z7 (vE 0) zc))) JD [.un]= .ok (JD.map λ_=> .str "no text"):=Jp JD _ λt ht=>by
  show jR okX f_a (z8 1 f_8 (z7 (vE 0) zc) [.vl t])=_;rw[Zj,v0,bOk];exact WX (aI.mp vK t ht)
 have e1:Zd (jx (vE 10)) (Z5 0) Zb (Ji [0] okX f_a (z8 1 f_8 (z7 (vE 0) zc))) 1 [] (frz [s0,s1,s2,a,b,c,d,x,y,z,.ow JD])= .ok (.lst (JD.map λ_=> .str "no text")):=Wu (ts:=JD) rfl (by decide) e0
 refine zX ?_;rw[ym,e1,bOk];exact WX (show Xd ((z9 ZT (ja (z7 (cE (.str "no text")) (zc))) (cE (.int 42)) []).bind λy=>(eqC (.lst (JD.map λ_=> .str "no text")) y).bind λb=> .ok (.bl b)) (.bl true)=true by decide+kernel)
theorem gG:∀ns:List Int,ns.length<=63->f_0 [.fz (ns.map T.int)]= .ok (.bl true):=by
 intro ns _;obtain⟨k,ek,hk⟩:=Ke ns 3 (by decide) (by decide) 10 (by decide)
 have hl:k.x.length<=442:=aC (uZ 3 k hk) (by decide)
 have hc:=Kq 3 k hk;have z1:zR 1 (z8 1 (f_6 8) (z7 (z8 3 (f_2 8) (z7 (vE 0) (z7 (cE (.int 10)) (z7 (cE (.int 3)) (zc))))) (zc))) [.vl (scr ns),.un,.un,.un,.un,.un,.un,.un,.un,.un,.un]= .nx [.vl (scr ns),.vl (.str (S k.x)),.un,.un,.un,.un,.un,.un,.un,.un,.un]:=by
  refine zP ?_;rw[Zj,Jz (x:=scr ns) (y:= .int 10) (z:= .int 3) rfl rfl rfl];rw[show f_2 8 [scr ns,.int 10,.int 3]= .ok k.t from ek,bOk];exact vw 3 7 (by decide) (by decide) k hk
 have z2:UI 2 (z7 (vE 1) (zc)) [.vl (scr ns),.vl (.str (S k.x)),.un,.un,.un,.un,.un,.un,.un,.un,.un]= .nx (qE ns k.x [.str (S k.x)] .un .un .un .un):=rfl;obtain⟨ts,a,b,c,d,q,hn,ht,pa,pb,pc,pd⟩:=qY (ns:=ns) (Gp k) hl hc (bM 8) [.str (S k.x)] .un .un .un .un (by simp) (λt h=>by
  rw[show t= .str (S k.x) by simpa using h]
  exact⟨k.x,rfl,by omega,hc⟩) rfl rfl rfl rfl
 have z3:UL (jv (cE (.int 8))) (Z5 3) yP (qE ns k.x [.str (S k.x)] .un .un .un .un)= .nx (qE ns k.x ts a b c d):=q;have hz:frz (qE ns k.x ts a b c d)=uE (.vl (scr ns)) (.vl (.str (S k.x))) (.vl (.lst ts)) a b c d .un .un:=by
  show [yU (.vl (scr ns)),yU (.vl (.str (S k.x))),yU (.ow ts),yU a,yU b,yU c,yU d,.un,.un,.un,.un]=_;rw[pa,pb,pc,pd];rfl
 obtain⟨x,y,w⟩:=qZ (s0:= .vl (scr ns)) (s1:= .vl (.str (S k.x))) (s2:= .vl (.lst ts)) (a:=a) (b:=b) (c:=c) (d:=d) ts .un .un ht;have z4:vS (UL (jx (vE 2)) (Z5 7) U1) (qE ns k.x ts a b c d)= .nx (uE (.vl (scr ns)) (.vl (.str (S k.x))) (.vl (.lst ts)) a b c d x y):=by
  unfold vS;rw[hz];exact w
 show zr (b_0 f_e f_4 (f_2 8) f_a f_k f_1 f_8 (f_6 8) [.vl (scr ns),.un,.un,.un,.un,.un,.un,.un,.un,.un,.un])=_;unfold b_0;unfold yP at z3;unfold U1 at z4;rw[zd z1,zd z2,zd z3,zd z4,zd Gq,zd Gr,zd Xh];simp only[frz,aZ,cu];rw[show yU .un= .un from rfl];rw[zd Kr,zd Ks,zd Kt,zd Ku,zd Kv,zd Kw,zd Kx,Ky];rfl
end G
namespace G
open PySem PySem.Spec PyProof.Rows L2 PV
noncomputable def top (i:Nat):Stmt:=PySem.Challenge.pw_worthkinds_k72_whole_kind_texts_spoilt.main.body.getD i (.Pass ⟨0,0,0,0⟩)
set_option genInjectivity false in
set_option genSizeOf false in
structure Tx (K:a6) (mg:Str->Option Value):Prop where
 C_6:FE K mg "_law_kind_text" (top 41) ["_law_kind_here"]
 C_e:FE K mg "_law_cell" (top 36) ["_law_script","_law_k"]
 C_4:FE K mg "_law_pick" (top 37) ["_law_script","_law_k","_law_many"]
 C_i:FE K mg "_law_word_of" (top 38) ["_law_script","_law_at"]
 C_j:FE K mg "_law_leaf_kind" (top 39) ["_law_script","_law_at"]
 C_2:FE K mg "_law_kind" (top 40) ["_law_script","_law_at","_law_deep"]
 C_k:FE K mg "_law_spoilt" (top 45) ["_law_text","_law_cell_here","_law_signs"]
 C_a:FE K mg "_law_class" (top 43) ["_law_kept"]
 C__law_told:FE K mg "_law_told" (top 44) ["_law_deed"]
 C_f:FE K mg "is_whole" (top 13) ["thing"]
 C_o:FE K mg "is_span" (top 16) ["low","high","least","most"]
 C_b:FE K mg "is_tuple_of" (top 14) ["thing","least","most"]
 C_p:FE K mg "is_word" (top 15) ["thing"]
 C_m:FE K mg "is_choice" (top 19) ["thing"]
 C_l:FE K mg "are_choices" (top 18) ["thing"]
 C_5:FE K mg "is_kind_within" (top 17) ["thing","levels"]
 C_r:FE K mg "are_kinds_within" (top 20) ["thing","levels"]
 C_3:FE K mg "is_kind" (top 11) ["thing"]
 C_q:FE K mg "need_kind" (top 12) ["kind"]
 C_g:FE K mg "span_written" (top 30) ["low","high"]
 C_7:FE K mg "kind_written" (top 29) ["kind"]
 C_1:FE K mg "kind_text" (top 27) ["kind"]
 C_t:FE K mg "need_text" (top 22) ["thing"]
 C_c:FE K mg "number_in" (top 34) ["text"]
 C_n:FE K mg "choice_in" (top 32) ["text"]
 C_d:FE K mg "text_inside" (top 23) ["text","opening","closing"]
 C_s:FE K mg "pieces_between" (top 24) ["text","mark"]
 C_h:FE K mg "span_in" (top 33) ["text"]
 C_9:FE K mg "kind_in" (top 31) ["text","levels"]
 C_8:FE K mg "read_kind" (top 28) ["text"]
 C_0:FE K mg "law" (top 46) ["_law_script"]
 z:∀x,(["ValueError","all","bool","enumerate","int","isinstance","len","min","range","set","str","tuple"]:List Str).contains x=true->mg x=none
 c_DEEPEST:∃u,mg "DEEPEST"=some u/\∃t,u=Value.int 3 t
 c_LONGEST_NUMBER:∃u,mg "LONGEST_NUMBER"=some u/\∃t,u=Value.int 3 t
noncomputable abbrev Xv:List Value:=[.type "ValueError",.type "Exception",.type "BaseException",.type "object"]
set_option genInjectivity false in
set_option genSizeOf false in
structure Tq (K:a6) (mg:Str->Option Value) (base:Heap) (cl:Nat->Value) where
 (q_Ended q_NoBack q_NoKind q_NoRule q_NoText q_NoWorth q_TooMany q_WorthError:Addr)
 X_k:XK1 K cl okX
 e_WorthError:∀c,okX c=true->PySem.W.exmOne K (cl c) (.ref q_WorthError)=some true
 l_NoKind:cl 0= .ref q_NoKind
 l_NoText:cl 5= .ref q_NoText
 m_Ended:mg "Ended"=some (.ref q_Ended)
 m_NoBack:mg "NoBack"=some (.ref q_NoBack)
 m_NoKind:mg "NoKind"=some (.ref q_NoKind)
 m_NoRule:mg "NoRule"=some (.ref q_NoRule)
 m_NoText:mg "NoText"=some (.ref q_NoText)
 m_NoWorth:mg "NoWorth"=some (.ref q_NoWorth)
 m_TooMany:mg "TooMany"=some (.ref q_TooMany)
 m_WorthError:mg "WorthError"=some (.ref q_WorthError)
 o_NoKind:OwnCls "NoKind" q_NoKind Xv "ValueError.__new__" mg base
 o_NoText:OwnCls "NoText" q_NoText Xv "ValueError.__new__" mg base
 t_Ended:∀c,okX c=true->aH K (cl c) (.ref q_Ended)=some (Jo c)
 t_NoBack:∀c,okX c=true->aH K (cl c) (.ref q_NoBack)=some (jB c)
 t_NoKind:∀c,okX c=true->aH K (cl c) (.ref q_NoKind)=some (jy c)
 t_NoRule:∀c,okX c=true->aH K (cl c) (.ref q_NoRule)=some (jz c)
 t_NoText:∀c,okX c=true->aH K (cl c) (.ref q_NoText)=some (jA c)
 t_NoWorth:∀c,okX c=true->aH K (cl c) (.ref q_NoWorth)=some (j4 c)
 t_TooMany:∀c,okX c=true->aH K (cl c) (.ref q_TooMany)=some (j5 c)
 t_ValueError:∀c,okX c=true->aH K (cl c) (.type "ValueError")=some (Zp c)
section
variable {Z:Zz}{Pt:Addr}(tx:Tx Z.K Z.mg)(xq:Tq Z.K Z.mg Z.base Z.cl)
include tx xq
set_option hygiene false
local macro_rules | `(tactic| gp_on)=> `(tactic| first
  | (show ZI _ _ _ _;first
   | refine qm ?_ ?_
   | exact w8)
  | (show Snd _ _ (.Constant ..) _;first
   | exact k8
   | exact Vs
   | exact G5
   | exact k9)
  | (show Snd _ _ (.Name ..) _;first
   | exact k7 _ (pv _)
   | exact tx.c_DEEPEST.elim λ_ h=>US (by rfl) h.1 h.2
   | exact tx.c_LONGEST_NUMBER.elim λ_ h=>US (by rfl) h.1 h.2)
  | (show jF _ _ _ _;first
   | refine VF ?_ ?_
   | exact kG
   | refine kH ?_)
  | (show ZJ _ _ _ _;first
   | refine kI ?_
   | refine kJ ?_ ?_ ?_
   | refine VG nd (by rfl) (.inl (by rfl)) ?_
   | refine kL (pv _) ?_
   | refine kK (pv _) ?_
   | exact UU (c:=_) xq.o_NoText bj (by decide) bj hE (by rw[hy];exact xq.l_NoText) (by rfl)
   | refine VH nd (by rfl) (.inl (by rfl)) ?_
   | refine VR PassesOwn.never (by rfl) ?_ ?_ ?_
   | refine VU (cr1 hy (by kernel_rfl) (by kernel_rfl) (by rfl) ?_ (λ_ hy _ _ _ _ _ _=> ?_) (λ_ hy _ _ _ _ _ _ _ hp=> ?_)) nd (by rfl) (.inl (by rfl)) (by rfl)
   | refine VI ?_
   | refine VR fj (by rfl) ?_ ?_ ?_
   | refine s_frzS ?_
   | refine VG nd (by rfl) (.inr (by rfl)) ?_
   | exact UU (c:=_) xq.o_NoKind bj (by decide) bj hE (by rw[hy];exact xq.l_NoKind) (by rfl))
  | (show ZR _ _ _ _;first
   | exact Vr _ (pv _)
   | refine Snd.b ?_)
  | (show Snd _ _ (.Call ..) _;first
   | refine kC (by rfl) (tx.z _ (by kernel_rfl)) ?_
   | refine VX ?_
   | refine xl (by rfl) (tx.z _ (by kernel_rfl)) ?_
   | refine QA (by rfl) (tx.z _ (by kernel_rfl)) ?_
   | refine kR ?_ ?_
   | refine kF hr.hd (by rfl) (tx.z _ (by kernel_rfl)) ?_
   | refine VE (by rfl) (by rfl) (tx.z _ (by kernel_rfl)) ?_ ?_
   | refine Yk (n:="tuple") (UD _) (by rfl) (tx.z _ (by kernel_rfl)) (by rfl) (tx.z _ (by kernel_rfl)) PyProof.Rows.Boot.«tuple» ?_
   | refine Yk (n:="str") (QC _) (by rfl) (tx.z _ (by kernel_rfl)) (by rfl) (tx.z _ (by kernel_rfl)) PyProof.Rows.Boot.«str» ?_
   | refine kT ?_ ?_
   | exact ZY (by rw[hy];exact xq.X_k) (by rw[hy];exact xq.t_Ended) (by rfl) (tx.z _ (by kernel_rfl)) (pv _) (by rfl) xq.m_Ended
   | exact ZY (by rw[hy];exact xq.X_k) (by rw[hy];exact xq.t_NoBack) (by rfl) (tx.z _ (by kernel_rfl)) (pv _) (by rfl) xq.m_NoBack
   | exact ZY (by rw[hy];exact xq.X_k) (by rw[hy];exact xq.t_NoKind) (by rfl) (tx.z _ (by kernel_rfl)) (pv _) (by rfl) xq.m_NoKind
   | exact ZY (by rw[hy];exact xq.X_k) (by rw[hy];exact xq.t_NoRule) (by rfl) (tx.z _ (by kernel_rfl)) (pv _) (by rfl) xq.m_NoRule
   | exact ZY (by rw[hy];exact xq.X_k) (by rw[hy];exact xq.t_NoText) (by rfl) (tx.z _ (by kernel_rfl)) (pv _) (by rfl) xq.m_NoText
   | exact ZY (by rw[hy];exact xq.X_k) (by rw[hy];exact xq.t_NoWorth) (by rfl) (tx.z _ (by kernel_rfl)) (pv _) (by rfl) xq.m_NoWorth
   | exact ZY (by rw[hy];exact xq.X_k) (by rw[hy];exact xq.t_TooMany) (by rfl) (tx.z _ (by kernel_rfl)) (pv _) (by rfl) xq.m_TooMany
   | refine QR hr.units ?_ ?_
   | exact QP (n:="ValueError") (by rw[hy];exact xq.X_k) (by rw[hy];exact xq.t_ValueError) (by rfl) (tx.z _ (by kernel_rfl)) (pv _) (by rfl) (tx.z _ (by kernel_rfl)) PyProof.Rows.Boot.«ValueError»
   | refine QS hr.units ?_ ?_
   | refine Yk (n:="int") (QB _) (by rfl) (tx.z _ (by kernel_rfl)) (by rfl) (tx.z _ (by kernel_rfl)) PyProof.Rows.Boot.«int» ?_
   | refine Yk (n:="bool") (Yj _) (by rfl) (tx.z _ (by kernel_rfl)) (by rfl) (tx.z _ (by kernel_rfl)) PyProof.Rows.Boot.«bool» ?_
   | refine VY hr.hd (by rfl) (tx.z _ (by kernel_rfl)) (by rfl) (tx.z _ (by kernel_rfl)) ?_
   | refine kS ?_ ?_
   | refine xh ?_ ?_ ?_
   | refine kW ?_ ?_
   | refine kU ?_ ?_
   | refine cZ hy (by assumption) hr ?_
   | refine cX hy hp (by assumption) hr ?_)
  | (show Snd _ _ (.BinOp ..) _;first
   | refine kf ?_ ?_
   | refine ki ?_ ?_
   | refine kh ?_ ?_
   | refine kg ?_ ?_
   | refine Vu ?_ ?_)
  | (show JL _ _ _ _;first
   | refine uG Qt (UA hr.units) ?_ ?_ (jX _)
   | refine kz ?_
   | refine uG kn Vw ?_ ?_ (jX _)
   | refine uG Vv (qo hr.units) ?_ ?_ (jX _)
   | refine uG ko Vx ?_ ?_ (jX _)
   | refine uG x6 QT ?_ ?_ (by rfl)
   | refine uG Vz (Qv hr.units) ?_ ?_ (by rfl)
   | refine Qx WF WF Ja Ja ?_ ?_ ?_
   | refine kA ?_
   | refine U4.t ?_)
  | (show Snd _ _ (.Subscript ..) _;first
   | refine G8 ?_ ?_
   | refine kX ?_ ?_ ?_)
  | (show QD _ _ _ _;first
   | refine VD ?_
   | exact VC)
  | (show Snd _ _ (.BoolOp ..) _;first
   | refine ku ?_ ?_
   | refine kq ?_)
  | (show wc _ _ _ _ _;first
   | refine VO (by rfl) (tx.z _ (by kernel_rfl)) ?_
   | refine VW (by rfl) (tx.z _ (by kernel_rfl)) ?_
   | refine QW (by rfl) (tx.z _ (by kernel_rfl)) ?_
   | refine kN ?_)
  | (show U4 _ _ _ _;first
   | refine G6 ?_ ?_
   | refine ky ?_ ?_
   | refine kx ?_
   | refine VA ?_)
  | (show jj _ _ _ _;first
   | exact VT)
  | (show Snd _ _ (.List ..) _;first
   | refine kd ?_)
  | (show Snd _ _ (.ListComp ..) _;first
   | refine qA (cr1 hy (by kernel_rfl) (by kernel_rfl) (by rfl) ?_ (λ_ hy _ _ _ _ _ _=> ?_) (λ_ hy _ _ _ _ _ _ _ hp=> ?_))
   | refine s_compX (hE ▸ u6) (cr1 hy (by kernel_rfl) (by kernel_rfl) (by rfl) ?_ (λ_ hy _ _ _ _ _ _=> ?_) (λ_ hy _ _ _ _ _ _ _ hp=> ?_))
   | refine qA (cr2 hy (by kernel_rfl) (by kernel_rfl) (by rfl) ?_ (λ_ hy _ _ _ _ _ _=> ?_) (λ_ hy _ _ _ _ _ _ _ hp=> ?_)))
  | (show Snd _ _ (.Tuple ..) _;first
   | refine ka ?_)
  | (show Snd _ _ (.Compare ..) _;first
   | refine km Qt (UA hr.units) ?_ ?_ (jX _)
   | refine Qw WF WF Ja Ja ?_ ?_ ?_
   | refine Yh WF WF WF Ja Ja Ja ?_ ?_ ?_ ?_)
  | (show Snd _ _ (.UnaryOp ..) _;first
   | refine kl ?_
   | refine kv ?_)
  | (show VP _ _ _ _;first
   | exact qy nd (by rfl) (.inl (by rfl))
   | exact VQ (by rfl) nd (by rfl) (by rfl) (.inl (by rfl)) (.inl (by rfl))
   | exact qy nd (by rfl) (.inr (by rfl)))
  | (show Snd _ _ (.JoinedStr ..) _;first
   | refine G9 ?_ ?_)
  | (show Snd _ _ (.IfExp ..) _;first
   | refine G7 ?_ ?_ ?_)
  )
local macro_rules | `(tactic| kd_all)=> `(tactic| (intro cdv A outer s H E Y hy hE hr nd hp;repeat' gp_on))
theorem Kz {j:Nat}(hj:0<=j)(_:qP Z "_law_kind_text" 1 j c_6):qP Z "_law_kind_text" 1 (j+1) (oP 2 (b_6 c_6)):=by
 refine okP tx.C_6 ["_law_kind_here","_law_head"] λ_=> ?_
 kd_all
theorem KA:qP Z "_law_cell" 2 1 (oP 2 b_e):=by
 refine okP tx.C_e ["_law_script","_law_k"] λ_=> ?_
 kd_all
theorem KC (_:qP Z "_law_cell" 2 1 c_e):qP Z "_law_pick" 3 2 (oP 4 (b_4 c_e)):=by
 refine okP tx.C_4 ["_law_script","_law_k","_law_many","_law_drawn"] λ_=> ?_
 kd_all
theorem KD (_:qP Z "_law_pick" 3 2 c_4):qP Z "_law_word_of" 2 3 (oP 3 (b_i c_4)):=by
 refine okP tx.C_i ["_law_script","_law_at","_law_letters"] λ_=> ?_
 kd_all
theorem KG (_:qP Z "_law_pick" 3 2 c_4)(_:qP Z "_law_word_of" 2 3 c_i):qP Z "_law_leaf_kind" 2 4 (oP 6 (b_j c_4 c_i)):=by
 refine okP tx.C_j ["_law_script","_law_at","_law_low","_law_words","_law_k","_law_word"] λ_=> ?_
 kd_all
theorem KH {j:Nat}(hj:4<=j)(_:qP Z "_law_pick" 3 2 c_4)(_:qP Z "_law_leaf_kind" 2 4 c_j)(_:qP Z "_law_kind" 3 j c_2):qP Z "_law_kind" 3 (j+1) (oP 6 (b_2 c_4 c_j c_2)):=by
 refine okP tx.C_2 ["_law_script","_law_at","_law_deep","_law_way","_law_some","_law_low"] λ_=> ?_
 kd_all
theorem KI:qP Z "_law_spoilt" 3 1 (oP 7 b_k):=by
 refine okP tx.C_k ["_law_text","_law_cell_here","_law_signs","_law_at","_law_sign","_law_on","_law_way"] λ_=> ?_
 kd_all
theorem Xw:QCM "_law_class" 1 (oC 2 b_a) Z:=by
 refine Ga tx.C_a ["_law_kept","_law_kinds"] λ_=> ?_
 kd_all
theorem KJ:qP Z "is_whole" 1 1 (oP 1 b_f):=by
 refine okP tx.C_f ["thing"] λ_=> ?_
 kd_all
theorem KK (_:qP Z "is_whole" 1 1 c_f):qP Z "is_span" 4 2 (oP 4 (b_o c_f)):=by
 refine okP tx.C_o ["low","high","least","most"] λ_=> ?_
 kd_all
theorem KL:qP Z "is_tuple_of" 3 1 (oP 3 b_b):=by
 refine okP tx.C_b ["thing","least","most"] λ_=> ?_
 kd_all
theorem KM:qP Z "is_word" 1 1 (oP 1 b_p):=by
 refine okP tx.C_p ["thing"] λ_=> ?_
 kd_all
theorem KN (_:qP Z "is_whole" 1 1 c_f)(_:qP Z "is_tuple_of" 3 1 c_b)(_:qP Z "is_word" 1 1 c_p):qP Z "is_choice" 1 2 (oP 1 (b_m c_f c_b c_p)):=by
 refine okP tx.C_m ["thing"] λ_=> ?_
 kd_all
theorem KO (_:qP Z "is_tuple_of" 3 1 c_b)(_:qP Z "is_choice" 1 2 c_m):qP Z "are_choices" 1 3 (oP 2 (b_l c_b c_m)):=by
 refine okP tx.C_l ["thing","words"] λ_=> ?_
 kd_all
theorem KP {j:Nat}(hj:3<=j)(_:qP Z "is_span" 4 2 c_o)(_:qP Z "is_kind_within" 2 j c_5)(_:qP Z "are_choices" 1 3 c_l)(_:qP Z "are_kinds_within" 2 j c_r):qP Z "is_kind_within" 2 (j+1) (oP 2 (b_5 c_o c_5 c_l c_r)):=by
 refine okP tx.C_5 ["thing","levels"] λ_=> ?_
 kd_all
theorem KQ {j:Nat}(hj:3<=j)(_:qP Z "is_tuple_of" 3 1 c_b)(_:qP Z "is_kind_within" 2 j c_5):qP Z "are_kinds_within" 2 (j+1) (oP 2 (b_r c_b c_5)):=by
 refine okP tx.C_r ["thing","levels"] λ_=> ?_
 kd_all
theorem KR (_:qP Z "is_kind_within" 2 23 c_5):qP Z "is_kind" 1 24 (oP 1 (b_3 c_5)):=by
 refine okP tx.C_3 ["thing"] λ_=> ?_
 kd_all
theorem KS (_:qP Z "is_kind" 1 24 c_3):qX Z "need_kind" 1 25 (oP 1 (b_q c_3)):=by
 refine okR tx.C_q ["kind"] λ_=> ?_
 kd_all
theorem KT:qP Z "span_written" 2 1 (oP 2 b_g):=by
 refine okP tx.C_g ["low","high"] λ_=> ?_
 kd_all
theorem KU {j:Nat}(hj:1<=j)(_:qP Z "kind_written" 1 j c_7)(_:qP Z "span_written" 2 1 c_g):qP Z "kind_written" 1 (j+1) (oP 1 (b_7 c_7 c_g)):=by
 refine okP tx.C_7 ["kind"] λ_=> ?_
 kd_all
theorem KW (_:qX Z "need_kind" 1 25 c_q)(_:qP Z "kind_written" 1 21 c_7):qX Z "kind_text" 1 26 (oP 1 (b_1 c_q c_7)):=by
 refine okR tx.C_1 ["kind"] λ_=> ?_
 kd_all
theorem gH:qX Z "need_text" 1 1 (oP 1 b_t):=by
 refine okR tx.C_t ["thing"] λ_=> ?_
 kd_all
theorem gI:qXC Z "number_in" 1 1 (oP 2 b_c):=by
 refine xB tx.C_c ["text","number"] λ_=> ?_;intro cdv A outer s H E Y hy hE hr nd hp;refine zo (ZJ.c ?_) (zo (xA (i:=1) (j:=0) (c:=5) xq.o_NoText bj (by decide) bj hE (by rw[hy];exact xq.l_NoText) nd (by rfl) (.inl (by rfl)) (by rfl) (.inl (by rfl)) (by rfl) (tx.z _ (by kernel_rfl)) (by rfl) (tx.z _ (by kernel_rfl)) (by rfl)) (jF.c ?_))
 all_goals (repeat' gp_on)
theorem gJ (_:qXC Z "number_in" 1 1 c_c):qXC Z "choice_in" 1 2 (oP 2 (b_n c_c)):=by
 refine xB tx.C_n ["text","halves"] λ_=> ?_;intro cdv A outer s H E Y hy hE hr nd hp;refine zo (ZJ.c ?_) (Jl (Jm (Wi (Za (Snd.c ?_) (Za (cXC hy hp (by assumption) hr (ZI.c ?_)) (ZI.c w8))))))
 all_goals (repeat' gp_on)
theorem gK:qX Z "text_inside" 3 1 (oP 3 b_d):=by
 refine okR tx.C_d ["text","opening","closing"] λ_=> ?_
 kd_all
theorem gL:qP Z "pieces_between" 2 1 (oP 7 b_s):=by
 refine okP tx.C_s ["text","mark","pieces","begin","depth","place","sign"] λ_=> ?_
 kd_all
theorem gM (_:qXC Z "number_in" 1 1 c_c):qXC Z "span_in" 1 2 (oP 2 (b_h c_c)):=by
 refine xB tx.C_h ["text","halves"] λ_=> ?_;intro cdv A outer s H E Y hy hE hr nd hp;refine zo (ZJ.c ?_) (Jl (Jm (Wi (Za (cXC hy hp (by assumption) hr (ZI.c ?_)) (Za (cXC hy hp (by assumption) hr (ZI.c ?_)) (ZI.c w8))))))
 all_goals (repeat' gp_on)
theorem gN {j:Nat}(hj:2<=j)(_:qX Z "text_inside" 3 1 c_d)(_:qP Z "pieces_between" 2 1 c_s)(_:qXC Z "kind_in" 2 j c_9)(_:qXC Z "choice_in" 1 2 c_n)(_:qXC Z "span_in" 1 2 c_h):qXC Z "kind_in" 2 (j+1) (oP 4 (b_9 c_d c_s c_9 c_n c_h)):=by
 refine xB tx.C_9 ["text","levels","pieces","halves"] λ_=> ?_;intro cdv A outer s H E Y hy hE hr nd hp;refine zo (ZJ.c ?_) (zo (YH (JL.c ?_) (Jl (Jm (Wi (Za (Snd.c ?_) (Za (uh (by rfl) (tx.z _ (by kernel_rfl)) (wu (hE ▸ u6) (K6 hy (by kernel_rfl) (by kernel_rfl) (by rfl) ?_ (λ_ hy _ _ _ _ _ _=> ?_) (λ_ hy _ _ _ _ _ _ _ hp=>cXC hy hp (by assumption) hr (ZI.c ?_))))) (ZI.c w8)))))) (jF.c ?_)) (zo (YH (JL.c ?_) (zo (ZJ.c ?_) (Jl (Jm (Wi (Za (Snd.c ?_) (Za (uh (by rfl) (tx.z _ (by kernel_rfl)) (wu (hE ▸ u6) (K6 hy (by kernel_rfl) (by kernel_rfl) (by rfl) ?_ (λ_ hy _ _ _ _ _ _=> ?_) (λ_ hy _ _ _ _ _ _ _ hp=>cXC hy hp (by assumption) hr (ZI.c ?_))))) (ZI.c w8))))))) (jF.c ?_)) (zo (YH (JL.c ?_) (zo (ZJ.c ?_) (Jl (Jm (qI (Wi (Za (Snd.c ?_) (Za (cXC hy hp (by assumption) hr (ZI.c ?_)) (ZI.c w8)))) (cXC hy hp (by assumption) hr (ZI.c ?_)))))) (jF.c ?_)) (Jl (Jm (qI (Snd.c ?_) (cXC hy hp (by assumption) hr (ZI.c ?_))))))))
 all_goals (repeat' gp_on)
theorem gO (_:qP Z "is_kind" 1 24 c_3)(_:qX Z "need_text" 1 1 c_t)(_:qXC Z "kind_in" 2 22 c_9):qXC Z "read_kind" 1 25 (oP 2 (b_8 c_3 c_t c_9)):=by
 refine xB tx.C_8 ["text","kind"] λ_=> ?_;intro cdv A outer s H E Y hy hE hr nd hp;refine zo (ZJ.c ?_) (zo (yd nd (by rfl) (.inl (by rfl)) (cXC hy hp (by assumption) hr (ZI.c ?_))) (jF.c ?_))
 all_goals (repeat' gp_on)
theorem Gs {f c:Addr}{fd:FuncData}(C:Fn Z.K Z.mg "law" (top 46) ["_law_script"] f fd)(ec:fd.code= .ref c)(hd:cx Z.K c Pt=true)(hBT:Z.base.BuiltinsAt Z.mg Pt)(_:qP Z "_law_cell" 2 1 c_e)(_:qP Z "_law_pick" 3 2 c_4)(_:qP Z "_law_kind" 3 12 c_2)(O1:QTC "_law_told" 26 okX c_a Z)(_:qP Z "_law_spoilt" 3 1 c_k)(_:qX Z "kind_text" 1 26 c_1)(_:qXC Z "read_kind" 1 25 c_8)(U_kind_text:∀b,Z.K.In b->qX { Z with base:=b } "kind_text" 1 26 c_1)(U_read_kind:∀b,Z.K.In b->qXC { Z with base:=b } "read_kind" 1 25 c_8)(_:qP Z "_law_kind_text" 1 8 c_6):ZB Z.P Z.w Z.K Z.mg Z.base (CX1 Z.P Z.w) 30 f fd ["_law_script"] (qG Z.cl 1 (oP 11 (b_0 c_e c_4 c_2 c_a c_k c_1 c_8 c_6)) Pt (qlT "law")):=by
 refine K5 C ec hd hBT ["_law_script","_law_text","_law_some","_law_k","_law_cell_here","_law_at","_law_long","_law_one","_law_told_here","_law_good","_law_bad"] ?_;intro A outer s H E Y L hT hy hE hr nd hp;refine zo (ZJ.c ?_) (zo (ZJ.c ?_) (zo (ZJ.c ?_) (zo (yh (xw fj (by rfl) ?_ ?_ (zo (yd nd (by rfl) (.inl (by rfl)) (tdC hy O1 L hT (λ_=>rfl) hr (by omega) (by rfl) ["_law_one"] _ _ rfl rfl (by kernel_rfl) (by rfl) (by rfl) (λbase A outer s H E f c' clos Y' KB hy hE hr=>cXC hy (hE ▸ QY) (QQ.c (U_kind_text _ KB)) hr (Za (cXC hy (hE ▸ QY) (U_read_kind _ KB) hr (ZI.c ?_)) (ZI.c w8))))) (jF.c ?_)) (by intro _;rfl))) ?r1)))
 case' r1=>refine zo (ZJ.c ?_) (zo (ZJ.c ?_) (zo (yh (YH (xz Vv (qo hr.units) (ZU.b (wu (hE ▸ u6) (K6 hy (by kernel_rfl) (by kernel_rfl) (by rfl) ?_ (λ_ hy _ _ _ _ _ _=> ?_) (λ_ hy _ _ _ _ _ _ _ hp=>cXC hy hp (QQ.c (by assumption)) hr (Za (cXC hy hp (by assumption) hr (ZI.c ?_)) (ZI.c w8)))))) (ZR.c ?_) (jX _)) (jF.c ?_) (jF.c ?_))) ?r2))
 case' r2=>refine zo (ZJ.c ?_) (zo (ZJ.c ?_) (zo (ZJ.c ?_) (zo (ZJ.c ?_) (zo (ZJ.c ?_) (zo (ZJ.c ?_) (zo (ZJ.c ?_) ?r3))))))
 case' r3=>refine Jl (Jm (xy Qt (UA hr.units) (ZU.b (YS (Gf (by rfl) hy (by kernel_rfl) (by kernel_rfl) (by rfl) ?_ (λ_ hy hS _ _ _ _ _ _=> ?_) (λ_ hy hS _ _ _ _ _ _=>Ge hy O1 ⟨L.code,L.hd,L.bt,L.ql⟩ (hS _ _ hT) (by rfl) hr (by omega) (by rfl) ["_law_one"] _ _ rfl rfl (by kernel_rfl) (by rfl) (by rfl) (λbase A outer s H E f c' clos Y' KB hy hE hr=>cXC hy (hE ▸ QY) (U_read_kind _ KB) hr (ZI.c ?_)))))) (ZR.c ?_) (jX _)))
 all_goals (repeat' gp_on)
end
section
variable {Z:Zz}{Pt:Addr}(tx:Tx Z.K Z.mg)(xq:Tq Z.K Z.mg Z.base Z.cl)
include tx xq
theorem JH:QCM "_law_class" 1 (f_a) Z:=by
 have O_a:QCM "_law_class" 1 f_a Z:=Xw tx xq;exact O_a
theorem wL:qX Z "kind_text" 1 26 f_1:=by
 have R_6:∀n:Nat,qP Z "_law_kind_text" 1 (0+n) (S_6 n 0):=by
  intro n
  induction n with
  | zero=>exact okB tx.C_6
  | succ n ih=>exact Kz tx xq (aL _ _) ih
 have O_6:qP Z "_law_kind_text" 1 8 (f_6 8):=(R_6 8);have O_e:qP Z "_law_cell" 2 1 f_e:=KA tx xq;have O_4:qP Z "_law_pick" 3 2 f_4:=KC tx xq O_e;have O_i:qP Z "_law_word_of" 2 3 f_i:=KD tx xq O_4;have O_j:qP Z "_law_leaf_kind" 2 4 f_j:=KG tx xq O_4 O_i;have R_2:∀n:Nat,qP Z "_law_kind" 3 (4+n) (S_2 n 0):=by
  intro n
  induction n with
  | zero=>exact okB tx.C_2
  | succ n ih=>exact KH tx xq (aL _ _) O_4 O_j ih
 have O_2:qP Z "_law_kind" 3 12 (f_2 8):=(R_2 8);have O_k:qP Z "_law_spoilt" 3 1 f_k:=KI tx xq;have O_a:QCM "_law_class" 1 f_a Z:=Xw tx xq;have O_f:qP Z "is_whole" 1 1 f_f:=KJ tx xq;have O_o:qP Z "is_span" 4 2 f_o:=KK tx xq O_f;have O_b:qP Z "is_tuple_of" 3 1 f_b:=KL tx xq;have O_p:qP Z "is_word" 1 1 f_p:=KM tx xq;have O_m:qP Z "is_choice" 1 2 f_m:=KN tx xq O_f O_b O_p;have O_l:qP Z "are_choices" 1 3 f_l:=KO tx xq O_b O_m;have R_5:∀n:Nat,qP Z "is_kind_within" 2 (3+n) (S_5 n 0)/\qP Z "are_kinds_within" 2 (3+n) (S_5 n 1):=by
  intro n
  induction n with
  | zero=>exact⟨okB tx.C_5,okB tx.C_r⟩
  | succ n ih=>exact⟨KP tx xq (aL _ _) O_o ih.1 O_l ih.2,KQ tx xq (aL _ _) O_b ih.1⟩
 have O_5:qP Z "is_kind_within" 2 23 (f_5 20):=(R_5 20).1;have O_r:qP Z "are_kinds_within" 2 23 (f_r 20):=(R_5 20).2;have O_3:qP Z "is_kind" 1 24 f_3:=KR tx xq O_5;have O_q:qX Z "need_kind" 1 25 f_q:=KS tx xq O_3;have O_g:qP Z "span_written" 2 1 f_g:=KT tx xq;have R_7:∀n:Nat,qP Z "kind_written" 1 (1+n) (S_7 n 0):=by
  intro n
  induction n with
  | zero=>exact okB tx.C_7
  | succ n ih=>exact KU tx xq (aL _ _) ih O_g
 have O_7:qP Z "kind_written" 1 21 (f_7 20):=(R_7 20);have O_1:qX Z "kind_text" 1 26 f_1:=KW tx xq O_q O_7;exact O_1
theorem wM:qXC Z "read_kind" 1 25 f_8:=by
 have R_6:∀n:Nat,qP Z "_law_kind_text" 1 (0+n) (S_6 n 0):=by
  intro n
  induction n with
  | zero=>exact okB tx.C_6
  | succ n ih=>exact Kz tx xq (aL _ _) ih
 have O_6:qP Z "_law_kind_text" 1 8 (f_6 8):=(R_6 8);have O_e:qP Z "_law_cell" 2 1 f_e:=KA tx xq;have O_4:qP Z "_law_pick" 3 2 f_4:=KC tx xq O_e;have O_i:qP Z "_law_word_of" 2 3 f_i:=KD tx xq O_4;have O_j:qP Z "_law_leaf_kind" 2 4 f_j:=KG tx xq O_4 O_i;have R_2:∀n:Nat,qP Z "_law_kind" 3 (4+n) (S_2 n 0):=by
  intro n
  induction n with
  | zero=>exact okB tx.C_2
  | succ n ih=>exact KH tx xq (aL _ _) O_4 O_j ih
 have O_2:qP Z "_law_kind" 3 12 (f_2 8):=(R_2 8);have O_k:qP Z "_law_spoilt" 3 1 f_k:=KI tx xq;have O_a:QCM "_law_class" 1 f_a Z:=Xw tx xq;have O_f:qP Z "is_whole" 1 1 f_f:=KJ tx xq;have O_o:qP Z "is_span" 4 2 f_o:=KK tx xq O_f;have O_b:qP Z "is_tuple_of" 3 1 f_b:=KL tx xq;have O_p:qP Z "is_word" 1 1 f_p:=KM tx xq;have O_m:qP Z "is_choice" 1 2 f_m:=KN tx xq O_f O_b O_p;have O_l:qP Z "are_choices" 1 3 f_l:=KO tx xq O_b O_m;have R_5:∀n:Nat,qP Z "is_kind_within" 2 (3+n) (S_5 n 0)/\qP Z "are_kinds_within" 2 (3+n) (S_5 n 1):=by
  intro n
  induction n with
  | zero=>exact⟨okB tx.C_5,okB tx.C_r⟩
  | succ n ih=>exact⟨KP tx xq (aL _ _) O_o ih.1 O_l ih.2,KQ tx xq (aL _ _) O_b ih.1⟩
 have O_5:qP Z "is_kind_within" 2 23 (f_5 20):=(R_5 20).1;have O_r:qP Z "are_kinds_within" 2 23 (f_r 20):=(R_5 20).2;have O_3:qP Z "is_kind" 1 24 f_3:=KR tx xq O_5;have O_q:qX Z "need_kind" 1 25 f_q:=KS tx xq O_3;have O_g:qP Z "span_written" 2 1 f_g:=KT tx xq;have R_7:∀n:Nat,qP Z "kind_written" 1 (1+n) (S_7 n 0):=by
  intro n
  induction n with
  | zero=>exact okB tx.C_7
  | succ n ih=>exact KU tx xq (aL _ _) ih O_g
 have O_7:qP Z "kind_written" 1 21 (f_7 20):=(R_7 20);have O_1:qX Z "kind_text" 1 26 f_1:=KW tx xq O_q O_7;have O_t:qX Z "need_text" 1 1 f_t:=gH tx xq;have O_c:qXC Z "number_in" 1 1 f_c:=gI tx xq;have O_n:qXC Z "choice_in" 1 2 f_n:=gJ tx xq O_c;have O_d:qX Z "text_inside" 3 1 f_d:=gK tx xq;have O_s:qP Z "pieces_between" 2 1 f_s:=gL tx xq;have O_h:qXC Z "span_in" 1 2 f_h:=gM tx xq O_c;have R_9:∀n:Nat,qXC Z "kind_in" 2 (2+n) (S_9 n 0):=by
  intro n
  induction n with
  | zero=>exact gB tx.C_9
  | succ n ih=>exact gN tx xq (aL _ _) O_d O_s ih O_n O_h
 have O_9:qXC Z "kind_in" 2 22 (f_9 20):=(R_9 20);have O_8:qXC Z "read_kind" 1 25 f_8:=gO tx xq O_3 O_t O_9;exact O_8
theorem Xi (xqb:∀b,Z.K.In b->Tq Z.K Z.mg b Z.cl){f c:Addr}{fd:FuncData}(C:Fn Z.K Z.mg "law" (top 46) ["_law_script"] f fd)(ec:fd.code= .ref c)(hd:cx Z.K c Pt=true)(hBT:Z.base.BuiltinsAt Z.mg Pt):ZB Z.P Z.w Z.K Z.mg Z.base (CX1 Z.P Z.w) 30 f fd ["_law_script"] (qG Z.cl 1 f_0 Pt (qlT "law")):=by
 have U__law_class:∀b,Z.K.In b->QCM "_law_class" 1 (f_a) { Z with base:=b }:=λb hb=>JH (Z:={ Z with base:=b }) tx (xqb b hb);have U_kind_text:∀b,Z.K.In b->qX { Z with base:=b } "kind_text" 1 26 f_1:=λb hb=>wL (Z:={ Z with base:=b }) tx (xqb b hb);have U_read_kind:∀b,Z.K.In b->qXC { Z with base:=b } "read_kind" 1 25 f_8:=λb hb=>wM (Z:={ Z with base:=b }) tx (xqb b hb);have R_6:∀n:Nat,qP Z "_law_kind_text" 1 (0+n) (S_6 n 0):=by
  intro n
  induction n with
  | zero=>exact okB tx.C_6
  | succ n ih=>exact Kz tx xq (aL _ _) ih
 have O_6:qP Z "_law_kind_text" 1 8 (f_6 8):=(R_6 8);have O_e:qP Z "_law_cell" 2 1 f_e:=KA tx xq;have O_4:qP Z "_law_pick" 3 2 f_4:=KC tx xq O_e;have O_i:qP Z "_law_word_of" 2 3 f_i:=KD tx xq O_4;have O_j:qP Z "_law_leaf_kind" 2 4 f_j:=KG tx xq O_4 O_i;have R_2:∀n:Nat,qP Z "_law_kind" 3 (4+n) (S_2 n 0):=by
  intro n
  induction n with
  | zero=>exact okB tx.C_2
  | succ n ih=>exact KH tx xq (aL _ _) O_4 O_j ih
 have O_2:qP Z "_law_kind" 3 12 (f_2 8):=(R_2 8);have O_k:qP Z "_law_spoilt" 3 1 f_k:=KI tx xq;have O_a:QCM "_law_class" 1 f_a Z:=Xw tx xq;have O__law_told:QTC "_law_told" 26 okX f_a Z:=K4 (N:=["_law_deed","e"]) (i:=1) tx.C__law_told xq.m_WorthError xq.e_WorthError U__law_class (by refine⟨rfl,rfl,rfl, ?_,rfl, ?_, ?_⟩ <;> decide+kernel) rfl rfl rfl rfl rfl (by decide) rfl rfl
 have O_f:qP Z "is_whole" 1 1 f_f:=KJ tx xq;have O_o:qP Z "is_span" 4 2 f_o:=KK tx xq O_f;have O_b:qP Z "is_tuple_of" 3 1 f_b:=KL tx xq;have O_p:qP Z "is_word" 1 1 f_p:=KM tx xq;have O_m:qP Z "is_choice" 1 2 f_m:=KN tx xq O_f O_b O_p;have O_l:qP Z "are_choices" 1 3 f_l:=KO tx xq O_b O_m;have R_5:∀n:Nat,qP Z "is_kind_within" 2 (3+n) (S_5 n 0)/\qP Z "are_kinds_within" 2 (3+n) (S_5 n 1):=by
  intro n
  induction n with
  | zero=>exact⟨okB tx.C_5,okB tx.C_r⟩
  | succ n ih=>exact⟨KP tx xq (aL _ _) O_o ih.1 O_l ih.2,KQ tx xq (aL _ _) O_b ih.1⟩
 have O_5:qP Z "is_kind_within" 2 23 (f_5 20):=(R_5 20).1;have O_r:qP Z "are_kinds_within" 2 23 (f_r 20):=(R_5 20).2;have O_3:qP Z "is_kind" 1 24 f_3:=KR tx xq O_5;have O_q:qX Z "need_kind" 1 25 f_q:=KS tx xq O_3;have O_g:qP Z "span_written" 2 1 f_g:=KT tx xq;have R_7:∀n:Nat,qP Z "kind_written" 1 (1+n) (S_7 n 0):=by
  intro n
  induction n with
  | zero=>exact okB tx.C_7
  | succ n ih=>exact KU tx xq (aL _ _) ih O_g
 have O_7:qP Z "kind_written" 1 21 (f_7 20):=(R_7 20);have O_1:qX Z "kind_text" 1 26 f_1:=KW tx xq O_q O_7;have O_t:qX Z "need_text" 1 1 f_t:=gH tx xq;have O_c:qXC Z "number_in" 1 1 f_c:=gI tx xq;have O_n:qXC Z "choice_in" 1 2 f_n:=gJ tx xq O_c;have O_d:qX Z "text_inside" 3 1 f_d:=gK tx xq;have O_s:qP Z "pieces_between" 2 1 f_s:=gL tx xq;have O_h:qXC Z "span_in" 1 2 f_h:=gM tx xq O_c;have R_9:∀n:Nat,qXC Z "kind_in" 2 (2+n) (S_9 n 0):=by
  intro n
  induction n with
  | zero=>exact gB tx.C_9
  | succ n ih=>exact gN tx xq (aL _ _) O_d O_s ih O_n O_h
 have O_9:qXC Z "kind_in" 2 22 (f_9 20):=(R_9 20);have O_8:qXC Z "read_kind" 1 25 f_8:=gO tx xq O_3 O_t O_9;exact Gs tx xq C ec hd hBT O_e O_4 O_2 O__law_told O_k O_1 O_8 U_kind_text U_read_kind O_6
end
noncomputable def Q0:List Str:=["NoKind","NoWorth","NoRule","TooMany","Ended","NoText","NoBack"]
noncomputable def clK (K:a6)(c:Nat):Value:=match bA K mainGlobals (Q0.getD c "") with
 | some (some v)=>v
 | _=> .none
theorem Q1 {K:a6}{c:Nat}{x:Str}{q:Addr}(hx:(Q0.getD c "")=x)(h:bA K mainGlobals x=some (some (.ref q))):clK K c= .ref q:=by unfold clK;rw[hx,h]
noncomputable def KY:List Nat:=[0,1,2,3,4,5,6]
def yR (p:Nat->Bool):Bool:=KY.all p
theorem Xj {c:Nat}(h:okX c=true):c∈KY:=by
 unfold okX at h;unfold KY;simpa using h
theorem Zq {p:Nat->Bool}(h:yR p=true){c:Nat}(hc:okX c=true):p c=true:=aI.mp h c (Xj hc)
noncomputable def vL (K:a6)(v:Value):Bool:=match v with
 | .ref C=>cM K (.ref C) "__getattribute__" == some (some (.builtin "BaseException.__getattribute__")) && (cM K (.ref C) "__getattr__" == some none && (cM K (.ref C) "__class__" == some (some (.builtin "object.__class__")) && (eR K (.builtin "object.__class__") "__get__" == some (some (.builtin "getset_descriptor.__get__")) && (fG K (.builtin "object.__class__") == some true && (eH K C (.type "object") == some true && (eH K C (.type "BaseException") == some true && (PySem.W.clsIn K C).isSome))))))
 | _=>false
theorem qd {K:a6}{v:Value}(h:vL K v=true):∃C,v= .ref C/\PySem.W.XCls K C:=by
 unfold vL at h;split at h
 ·rename_i C;simp only[a9,beq_iff_eq]at h;obtain⟨h1,h2,h3,h4,h5,h6,h7,h8⟩:=h;exact⟨C,rfl,h1,h2,h3,h4,h5,h6,h7,h8⟩
 ·cases h
theorem Q2 {K:a6}{base:Heap}{mg:Str->Option Value}{x:Str}{C:Addr}{bmB:List Value}{newId:String}(KB:K.In base)(hb:mg x=some (.ref C))(h:dv K C bmB newId=true):OwnCls x C bmB newId mg base:=by
 unfold dv at h;split at h
 ·rename_i dd cd sl hC;split at h
  ·rename_i C1 bm a0 a1 a2 a3 m a5 hm hs;simp only[a9,beq_iff_eq,Bool.not_eq_true']at h;obtain⟨⟨⟨⟨⟨h1,h2⟩,h3⟩,h4⟩,h5⟩,h6⟩:=h;subst h1 h2;cases cd with
   | mk nm bs mro ns qn hd sn sub ab col del=>
    dsimp only at hm h3 h5 h6;subst hm h3;obtain rfl:sl= #[a0,a1,a2,a3,some (.builtin m),a5]:=by
     cases sl;simp only at hs;rw[hs]
    exact⟨hb,bm,ns,nm,qn,bs,hd,sn,sub,ab,col,dd,a0,a1,a2,a3,a5,_,KB _ _ hC,.of_isNs (PySem.W.isNs_of_in KB h5),PySem.W.nsMap_none_of_in KB h5 h6,PySem.W.tail_of_in KB h4⟩
  ·cases h
 ·cases h
theorem lz {us:List Value}{n:Nat}(h:us.length=n+1):∃a t,us=a :: t/\t.length=n:=by
 cases us with
 | nil=>cases h
 | cons a t=>exact⟨a,t,rfl,Nat.succ.inj h⟩
theorem lz1 {fd:FuncData}{p0:Str}(us:List Value)(hl:us.length=1)(h:∀a0,bindArgs fd ⟨[a0],[]⟩=pure ([p0].zip [a0])):bindArgs fd ⟨us,[]⟩=pure ([p0].zip us):=by
 obtain⟨a0,_,rfl,e0⟩:=lz hl;obtain rfl:=bh.mp e0;exact h a0
theorem lz2 {fd:FuncData}{p0 p1:Str}(us:List Value)(hl:us.length=2)(h:∀a0 a1,bindArgs fd ⟨[a0,a1],[]⟩=pure ([p0,p1].zip [a0,a1])):bindArgs fd ⟨us,[]⟩=pure ([p0,p1].zip us):=by
 obtain⟨a0,_,rfl,e0⟩:=lz hl;obtain⟨a1,_,rfl,e1⟩:=lz e0;obtain rfl:=bh.mp e1;exact h a0 a1
theorem lz3 {fd:FuncData}{p0 p1 p2:Str}(us:List Value)(hl:us.length=3)(h:∀a0 a1 a2,bindArgs fd ⟨[a0,a1,a2],[]⟩=pure ([p0,p1,p2].zip [a0,a1,a2])):bindArgs fd ⟨us,[]⟩=pure ([p0,p1,p2].zip us):=by
 obtain⟨a0,_,rfl,e0⟩:=lz hl;obtain⟨a1,_,rfl,e1⟩:=lz e0;obtain⟨a2,_,rfl,e2⟩:=lz e1;obtain rfl:=bh.mp e2;exact h a0 a1 a2
theorem lz4 {fd:FuncData}{p0 p1 p2 p3:Str}(us:List Value)(hl:us.length=4)(h:∀a0 a1 a2 a3,bindArgs fd ⟨[a0,a1,a2,a3],[]⟩=pure ([p0,p1,p2,p3].zip [a0,a1,a2,a3])):bindArgs fd ⟨us,[]⟩=pure ([p0,p1,p2,p3].zip us):=by
 obtain⟨a0,_,rfl,e0⟩:=lz hl;obtain⟨a1,_,rfl,e1⟩:=lz e0;obtain⟨a2,_,rfl,e2⟩:=lz e1;obtain⟨a3,_,rfl,e3⟩:=lz e2;obtain rfl:=bh.mp e3;exact h a0 a1 a2 a3
theorem fn1 {K:a6}{h:Heap}{mg:Str->Option Value}{f:Addr}{od an:Option Addr}{sl:Array (Option Value)}{oc kV dc pm cd ct:Value}{x:Str}{st:Stmt}{ps:List Str}(X:K.In h)(G:h.Ns mainGlobals mg)(e:bA K mainGlobals x=some (some (.ref f)))(l:K.lookup f=some ⟨oc,od,.func (bw x x (ZN st) (zv st) (za st) .none kV dc pm an cd ct),sl⟩)(g:cO K cd x=true)(k:bJ K (.ref f)=true)
  (hb:∀F:Fun K x x st f (bw x x (ZN st) (zv st) (za st) .none kV dc pm an cd ct),L2.Binds K (bw x x (ZN st) (zv st) (za st) .none kV dc pm an cd ct) ps []):Fn K mg x st ps f (bw x x (ZN st) (zv st) (za st) .none kV dc pm an cd ct):=
 have F:=Vp (st:=st) l g k
 ⟨F,hb F,bq X G e⟩
theorem zs_of {K:a6}{h:Heap}{mg:Str->Option Value}{zs:List Str}(X:K.In h)(G:h.Ns mainGlobals mg)(hz:(zs.all λx=>bA K mainGlobals x == some none)=true):∀x,zs.contains x=true->mg x=none:=λx hx=>PySem.W.mg_none_of X G (beq_iff_eq.mp (aI.mp hz x (List.contains_iff_mem.mp hx)))
noncomputable abbrev Tx' {K:a6}{h:Heap}(_:K.In h)(mg:Str->Option Value):Prop:=Tx K mg
def yS (K:a6):Bool:=K.all λp=> !(p.2.cls == Value.type "list")
theorem vM {K:a6}(h:yS K=true){a:Addr}{o:Obj}(e:K.lookup a=some o)(c:o.cls=Value.type "list"):False:=by
 have hm:(a,o)∈K:=by
  clear h
  induction K with
  | nil=>cases e
  | cons p r ih=>
   obtain⟨b,u⟩:=p
   by_cases hb:a=b
   ·subst hb;have e' :some u=some o:=by simpa[ao] using e
    cases e';exact ai
   ·have e' :r.lookup a=some o:=by rw[ao,(beq_eq_false_iff_ne.mpr hb)]at e;exact e
    exact aa _ (ih e')
 have:=aI.mp h _ hm;rw[c]at this;simp at this
noncomputable def Gv (o:Obj):Option Addr:=match o.data with
 | .fields vs=>(match (vs[11]? :Option Value) with | some (.ref P)=>some P | _=>none)
 | _=>none
structure KZ (K:a6) (c P:Addr) (o:Obj):Prop where
 t:K.lookup c=some o
 u:Gv o=some P
 h:cx K c P=true
 n:K.lookup P=none
abbrev TP {K:a6}{h:Heap}(_:K.In h)(mg:Str->Option Value):Prop:=∃f fd c Pt o,Fn K mg "law" (top 46) ["_law_script"] f fd/\fd.code= .ref c/\KZ K c Pt o/\h.get? Pt=some (cR #[])
theorem fin_ {l:PySem.W.OpenLaw}{w:World}{K:a6}{h:Heap}{mg:Str->Option Value}{fa:Addr}(X:K.In h)(G:h.Ns mainGlobals mg)(hfa:mg "law"=some (.ref fa))(tx:Tx K mg)(tp:TP X mg){q_Ended q_NoBack q_NoKind q_NoRule q_NoText q_NoWorth q_TooMany q_WorthError:Addr}(n_Ended:bA K mainGlobals "Ended"=some (some (.ref q_Ended)))(n_NoBack:bA K mainGlobals "NoBack"=some (some (.ref q_NoBack)))(n_NoKind:bA K mainGlobals "NoKind"=some (some (.ref q_NoKind)))(n_NoRule:bA K mainGlobals "NoRule"=some (some (.ref q_NoRule)))(n_NoText:bA K mainGlobals "NoText"=some (some (.ref q_NoText)))(n_NoWorth:bA K mainGlobals "NoWorth"=some (some (.ref q_NoWorth)))(n_TooMany:bA K mainGlobals "TooMany"=some (some (.ref q_TooMany)))(n_WorthError:bA K mainGlobals "WorthError"=some (some (.ref q_WorthError)))(b_K:yR (λc=>vL K (clK K c))=true)(b_e_WorthError:yR (λc=>PySem.W.exmOne K (clK K c) (.ref q_WorthError) == some true)=true)(b_o_NoKind:dv K q_NoKind Xv "ValueError.__new__"=true)(b_o_NoText:dv K q_NoText Xv "ValueError.__new__"=true)(b_t_Ended:yR (λc=>aH K (clK K c) (.ref q_Ended) == some (Jo c))=true)(b_t_NoBack:yR (λc=>aH K (clK K c) (.ref q_NoBack) == some (jB c))=true)(b_t_NoKind:yR (λc=>aH K (clK K c) (.ref q_NoKind) == some (jy c))=true)(b_t_NoRule:yR (λc=>aH K (clK K c) (.ref q_NoRule) == some (jz c))=true)(b_t_NoText:yR (λc=>aH K (clK K c) (.ref q_NoText) == some (jA c))=true)(b_t_NoWorth:yR (λc=>aH K (clK K c) (.ref q_NoWorth) == some (j4 c))=true)(b_t_TooMany:yR (λc=>aH K (clK K c) (.ref q_TooMany) == some (j5 c))=true)(b_t_ValueError:yR (λc=>aH K (clK K c) (.type "ValueError") == some (Zp c))=true):∃(fd:FuncData) (c Pt:Addr),(∀(s:Shared) (v:Value),BindsTo s fd ⟨[v],[]⟩ [("_law_script",v)])/\h.get? Pt=some (cR #[])/\K.lookup Pt=none/\cx K c Pt=true/\∀base:Heap,K.In base->base.BuiltinsAt mg Pt->ZB l.prog w K mg base (CX1 l.prog w) 30 fa fd ["_law_script"] (qG (clK K) 1 f_0 Pt (qlT "law")):=by
 obtain⟨f,fd,c,Pt,o,C,ec,tk,hm⟩:=tp;have e:=hfa.symm.trans C.m;cases e;obtain⟨oc,od,kV,doc,pm,an,cdv,ct,osl,rfl,lk,hcd⟩:=C.F.ex;have xqb:∀b,K.In b->Tq K mg b (clK K):=λbase KB=>⟨q_Ended,q_NoBack,q_NoKind,q_NoRule,q_NoText,q_NoWorth,q_TooMany,q_WorthError,⟨λc hc=>qd (Zq b_K hc)⟩,(λc hc=>beq_iff_eq.mp (Zq b_e_WorthError hc)),(Q1 (x:="NoKind") rfl n_NoKind),(Q1 (x:="NoText") rfl n_NoText),(bq X G n_Ended),(bq X G n_NoBack),(bq X G n_NoKind),(bq X G n_NoRule),(bq X G n_NoText),(bq X G n_NoWorth),(bq X G n_TooMany),(bq X G n_WorthError),(Q2 KB (bq X G n_NoKind) b_o_NoKind),(Q2 KB (bq X G n_NoText) b_o_NoText),(λc hc=>beq_iff_eq.mp (Zq b_t_Ended hc)),(λc hc=>beq_iff_eq.mp (Zq b_t_NoBack hc)),(λc hc=>beq_iff_eq.mp (Zq b_t_NoKind hc)),(λc hc=>beq_iff_eq.mp (Zq b_t_NoRule hc)),(λc hc=>beq_iff_eq.mp (Zq b_t_NoText hc)),(λc hc=>beq_iff_eq.mp (Zq b_t_NoWorth hc)),(λc hc=>beq_iff_eq.mp (Zq b_t_TooMany hc)),(λc hc=>beq_iff_eq.mp (Zq b_t_ValueError hc))⟩;exact⟨_,c,Pt,λs v=> .of_eq rfl,hm,tk.n,tk.h,λbase KB hBT=>Xi (Z:=⟨l.prog,w,K,mg,base,(clK K)⟩) tx (xqb base KB) xqb C ec tk.h hBT⟩
theorem Xk {cl:Nat->Value}{H:Hp}{a Pt:Addr}{o:Obj}{q:Str}{ns:List Int}(hL:f_0 [.fz (ns.map T.int)]= .ok (.bl true))(h:H a=some (.frz o (.lst (ns.map V.int))))(h2:H Pt=some (.tbl #[] q)):qG cl 1 f_0 Pt q [.ref a] H (λv _=>v= .bl true) λ_ _ _=>False:=by
 have scrR:∀ns:List Int,zC H (ns.map V.int) (ns.map T.int):=λns=>by
  induction ns with
  | nil=>exact .nil
  | cons n r ih=>exact .cons (.int n) ih
 refine⟨h2,H,[.fz (ns.map T.int)],rfl,zh.refl H,.cons (.fz h (scrR ns)) .nil, ?_⟩;rw[hL];intro v H' _ r;cases r;rfl
theorem walk {l:PySem.W.OpenLaw}{q:Program}{loose:List Str}{XP:(Str->Option Value)->Heap->Prop}{YP:World->Heap->Prop}{d:DefRec}{K:Params->a6}{ts:List Addr}(hn:l.most=some 63)(hdf:d.params.defaults=[])
  (hL:∀ns:List Int,ns.length<=63->f_0 [.fz (ns.map T.int)]= .ok (.bl true)) (hK:∀p,yS (K p)=true)
  (hY:∀(w:World) (h:Heap),YP w h->(K w.params).In h/\∀P∈ts,h.get? P=some (cR #[]))
  (F:∀(w:World) (mg:Str->Option Value) (fa:Addr) (h:Heap),(K w.params).In h->h.Ns mainGlobals mg->mg d.name=some (.ref fa)->(∀P∈ts,h.get? P=some (cR #[]))->
   ∃(fd:FuncData) (c Pt:Addr),(∀(s:Shared) (u:Value),BindsTo s fd ⟨[u],[]⟩ [("_law_script",u)])/\h.get? Pt=some (cR #[])/\(K w.params).lookup Pt=none/\cx (K w.params) c Pt=true/\∀base:Heap,(K w.params).In base->base.BuiltinsAt mg Pt->ZB l.prog w (K w.params) mg base (CX1 l.prog w) 30 fa fd ["_law_script"] (qG (clK (K w.params)) 1 f_0 Pt (qlT "law"))):
  PySem.W.WalkC q loose XP YP l.row.toRowW d []:=
 L2.walk_ofTC (n:=63) (k:=30) (x:="_law_script") (nm:=(qlT "law")) (CX:=λw=>(CX1 l.prog w)) (sp:=λw Pt=>qG (clK (K w.params)) 1 f_0 Pt (qlT "law")) hn (by decide) hdf ⟨rfl,by decide,by decide,rfl⟩ hY (λw a o e c=>vM (hK w.params) e c) F (λw H a Pt o ns hl h1 h2=>Xk (hL ns hl) h1 h2) λ_ _ _ _ _ ⟨_,_,_,_,_,_,_,z⟩=>z
end G
namespace PySem.W.Fast
noncomputable def tw8401597134113437433:=0
noncomputable def tw17061391617572742075:=0
noncomputable def tw6399953809718386100:=0
noncomputable def tw13555005174499780878:=0
noncomputable def tw6553388017927744516:=0
noncomputable def tw10986503358638861820:=0
noncomputable def tw17553822475396900315:=0
noncomputable def tw2480559757446952798:=0
noncomputable def tw10146741597866760907:=0
noncomputable def tw41215323860227269:=0
noncomputable def tw10306670150845802672:=0
noncomputable def tw11354442402138751752:=0
noncomputable def tw5775696903644422693:=0
noncomputable def tw4657875103318501509:=0
noncomputable def tw11611036714111007535:=0
noncomputable def tw15651459080675552991:=0
noncomputable def tw16148517677106280016:=0
noncomputable def tw18419981923121229597:=0
noncomputable def tw7645729999644724389:=0
noncomputable def tw13776687525235344950:=0
noncomputable def tw1874377653760105456:=0
noncomputable def tw11691306240737658321:=0
noncomputable def tw7911317280385384298:=0
noncomputable def tw16567334910993558149:=0
noncomputable def tw6686829897779132479:=0
noncomputable def tw8547749602991499472:=0
noncomputable def tw16930275840147328413:=0
noncomputable def tw15278110411811568906:=0
noncomputable def tw2477294570847954105:=0
noncomputable def tw16079276072818873126:=0
noncomputable def tw18409919862540164630:=0
noncomputable def tw4269998186773411678:=0
noncomputable def tw392471585255838179:=0
noncomputable def tw5498244624884479756:=0
noncomputable def tw12507259506874906116:=0
noncomputable def tw11277897529334629724:=0
noncomputable def tw10958010774704796898:=0
noncomputable def tw14074852274335692939:=0
noncomputable def tw14211325443491858909:=0
noncomputable def tw5104076965296853941:=0
noncomputable def tw8678235653755569659:=0
noncomputable def tw38401662940959388:=0
noncomputable def tw18019365639964452367:=0
noncomputable def tw12095355642611682470:=0
noncomputable def tw154057390331577877:=0
noncomputable def tw5711468340732246992:=0
noncomputable def tw3703769266828462060:=0
noncomputable def tw18018637204721987494:=0
noncomputable def tw8291707439509759076:=0
noncomputable def tw4667451040042523165:=0
noncomputable def tw9081310138029663275:=0
noncomputable def tw1282583579565515964:=0
noncomputable def tw2630106243507703740:=0
noncomputable def tw2110472098079141889:=0
noncomputable def tw8348228553316059878:=0
noncomputable def tw10282647959580321380:=0
noncomputable def tw12981094816265352407:=0
noncomputable def tw3610369983725089986:=0
noncomputable def tw4693770618466654509:=0
noncomputable def tw15983964090034419852:=0
noncomputable def tw3574295403237632317:=0
noncomputable def tw18211054582667108309:=0
noncomputable def tw3361145966247082410:=0
noncomputable def tw17758433653317006215:=0
noncomputable def tw12360542844557433708:=0
noncomputable def tw13816451658066919750:=0
noncomputable def tw3646953422445395498:=0
noncomputable def tw9130737404561524442:=0
noncomputable def tw5633292757532458453:=0
noncomputable def tw17580037334384983193:=0
noncomputable def tw17631744588792369013:=0
noncomputable def tw15487305627313533134:=0
noncomputable def tw1117749142984900133:=0
noncomputable def tw4540528354748833874:=0
noncomputable def tw8548471722264843472:=0
noncomputable def tw9031151621331136905:=0
noncomputable def tw18195305590355424285:=0
noncomputable def tw8878189253002192474:=0
noncomputable def tw4656817518558453058:=0
noncomputable def tw1889684742485590798:=0
noncomputable def tw8771816129862628531:=0
noncomputable def tw11663078066466308713:=0
noncomputable def tw2171573958429961210:=0
noncomputable def tw8723619860717164740:=0
noncomputable def tw5078696533365355204:=0
noncomputable def tw11598405221232073275:=0
noncomputable def tw3282145771873838925:=0
noncomputable def tw4071861241987537534:=0
noncomputable def tw10014340782711758421:=0
noncomputable def tw15783401498396125780:=0
noncomputable def tw15296857080670632539:=0
noncomputable def tw11630898265872047913:=0
noncomputable def tw15913200496789345994:=0
noncomputable def tw12000263854973931252:=0
noncomputable def tw8169618849966697487:=0
noncomputable def tw14977797665976702468:=0
noncomputable def tw7288282935826027712:=0
noncomputable def tw12895416452921208138:=0
noncomputable def tw6683444010527625245:=0
noncomputable def tw4256907776755975311:=0
noncomputable def tw12111046671874836812:=0
noncomputable def tw6306762108889711028:=0
noncomputable def tw2474821719688330692:=0
noncomputable def tw2800460233417091981:=0
noncomputable def tw2507823490033529897:=0
noncomputable def tw18137092398079263122:=0
noncomputable def tw2836541110781360055:=0
noncomputable def tw311229609978403996:=0
noncomputable def tw537040410206741493:=0
noncomputable def tw11258032863680573254:=0
noncomputable def tw12025893943945454311:=0
noncomputable def tw10876266546903713801:=0
noncomputable def tw14632214473767186657:=0
noncomputable def tw8013967027855304042:=0
noncomputable def tw4680308763177465125:=0
noncomputable def tw3660859721220766191:=0
noncomputable def tw4524229908671716664:=0
noncomputable def tw1615338098610106244:=0
noncomputable def tw3221586661977736212:=0
noncomputable def tw15848128966015197098:=0
noncomputable def tw8601211708574687272:=0
noncomputable def tw8819863577433062236:=0
noncomputable def tw11504531008551972414:=0
noncomputable def tw4658440935947401613:=0
noncomputable def tw15526881854495694195:=0
noncomputable def tw1146129853447091405:=0
noncomputable def tw7344410495478107332:=0
noncomputable def tw2471672392248675498:=0
noncomputable def tw11318720504084911433:=0
noncomputable def tw17712300169575214865:=0
noncomputable def tw18434694129110355560:=0
noncomputable def tw8352619263721322038:=0
noncomputable def tw15180308044502541406:=0
noncomputable def tw10766837511054602141:=0
noncomputable def tw2557403721469117805:=0
noncomputable def tw8514436934991124973:=0
noncomputable def tw15138410556525836379:=0
noncomputable def tw2595311498596258384:=0
noncomputable def tw1682841634405095366:=0
noncomputable def tw3280923456013021171:=0
noncomputable def tw9008534273418268688:=0
noncomputable def tw10571489529214689814:=0
noncomputable def tw7981539864077937626:=0
noncomputable def tw8252691458918289414:=0
noncomputable def tw3792820011297713679:=0
noncomputable def tw7267969017887342789:=0
noncomputable def tw8442393356843548608:=0
noncomputable def tw14164415483412580510:=0
noncomputable def tw784266912522615873:=0
noncomputable def tw15734325544635101271:=0
noncomputable def tw15844187734043738281:=0
noncomputable def tw12792370492218431601:=0
noncomputable def tw2282031846152311509:=0
noncomputable def tw9104340609681054684:=0
noncomputable def tw7951760759696163939:=0
noncomputable def tw14874506085751700868:=0
noncomputable def tw3167902356538040230:=0
noncomputable def tw18114830719772706624:=0
noncomputable def tw16964680610353840254:=0
noncomputable def tw15550292457780390454:=0
noncomputable def tw5288921135859422960:=0
noncomputable def tw13880748696880070701:=0
noncomputable def tw15052968875434416183:=0
noncomputable def tw2484320766564499890:=0
noncomputable def tw11626928214246592638:=0
noncomputable def tw16291217028392994832:=0
noncomputable def tw14971614775900552198:=0
noncomputable def tw6742398979821922765:=0
noncomputable def tw9385635670788916420:=0
noncomputable def tw14869359949882643227:=0
noncomputable def tw12455697099357106696:=0
noncomputable def tw14700959136857159628:=0
noncomputable def tw6073900266103946323:=0
noncomputable def tw18394355751771466154:=0
noncomputable def tw8143371413100739867:=0
noncomputable def tw8672848443563693267:=0
noncomputable def tw7803664004075159007:=0
noncomputable def tw6084785990267460324:=0
noncomputable def tw1017311510019348537:=0
noncomputable def tw15833500291370528279:=0
noncomputable def tw13314867445681931525:=0
noncomputable def tw6218528343811424680:=0
noncomputable def tw15154990583656663292:=0
noncomputable def tw12646268315246822268:=0
noncomputable def tw2282194727120704298:=0
noncomputable def tw4889152992810227647:=0
noncomputable def tw7879261671288254034:=0
noncomputable def tw5452922524180053731:=0
noncomputable def tw17588265079162365608:=0
noncomputable def tw3492675104364883670:=0
noncomputable def tw5124288137290208004:=0
noncomputable def tw14121508871725733194:=0
noncomputable def tw11486801051456972578:=0
noncomputable def tw12447458664825039241:=0
noncomputable def tw6066495911919518499:=0
noncomputable def tw11633654882703698179:=0
noncomputable def tw9045209709171278073:=0
noncomputable def tw3495036858179778892:=0
noncomputable def tw178616440117953466:=0
noncomputable def tw15435905653159873380:=0
noncomputable def tw5368555003159565202:=0
noncomputable def tw17153563904060301234:=0
noncomputable def tw6982191925683947075:=0
noncomputable def tw14659850524782777501:=0
noncomputable def tw16480057979872877633:=0
noncomputable def tw4437955240670682728:=0
noncomputable def tw2256663719187219:=0
noncomputable def tw16511981565888748549:=0
noncomputable def tw1543044930212385401:=0
noncomputable def tw16232756992533239450:=0
noncomputable def tw18094019967858944155:=0
noncomputable def tw2971128328197892996:=0
noncomputable def tw8954703257304638244:=0
noncomputable def tw6071105276718184957:=0
noncomputable def tw5000543551129206647:=0
noncomputable def tw10521666977891749515:=0
noncomputable def tw9853734989078883775:=0
noncomputable def tw10954874407899330913:=0
noncomputable def tw13494197830756715682:=0
noncomputable def tw7658188057879731577:=0
noncomputable def tw1176640721652298591:=0
noncomputable def tw14134368363921453487:=0
noncomputable def tw1151391704405713963:=0
noncomputable def tw9279775360238158479:=0
noncomputable def tw9337555920596128145:=0
noncomputable def tw17658093662777334940:=0
noncomputable def tw9565928231056674252:=0
noncomputable def tw16260218349401657885:=0
noncomputable def tw5547329135375978736:=0
noncomputable def tw15119783002882049092:=0
noncomputable def tw6870139170439178663:=0
noncomputable def tw12898218373188646848:=0
noncomputable def tw3075544405497549257:=0
noncomputable def tw13910654619731706799:=0
noncomputable def tw11482268299014282713:=0
noncomputable def tw12117837235283159910:=0
noncomputable def tw3428701568075735248:=0
noncomputable def tw1472991900669961625:=0
noncomputable def tw6172204532883991324:=0
noncomputable def tw5748015159209084644:=0
noncomputable def tw16863874765461599538:=0
noncomputable def tw14968413369873718729:=0
noncomputable def tw8237746506192102609:=0
noncomputable def tw8637396838673567178:=0
noncomputable def tw16188653332264747192:=0
noncomputable def tw1044586240155630365:=0
noncomputable def tw15045049465249159301:=0
noncomputable def tw9237748100697925783:=0
noncomputable def tw6628949144983211983:=0
noncomputable def tw569291643717143074:=0
noncomputable def tw3341141379172422174:=0
noncomputable def tw11048960991315397291:=0
noncomputable def tw7043287915494556093:=0
noncomputable def tw16328749903942404151:=0
noncomputable def tw96731223010763216:=0
noncomputable def tw974322258226828574:=0
noncomputable def tw787592421631690794:=0
noncomputable def tw18253095971406683626:=0
noncomputable def tw5992974096933281830:=0
noncomputable def tw14752453022283460871:=0
noncomputable def tw9829481167705135514:=0
noncomputable def tw523250377459605428:=0
noncomputable def tw17323442671200421163:=0
noncomputable def tw15218259964418288871:=0
noncomputable def tw1919975436592683904:=0
noncomputable def tw11205016577077232950:=0
noncomputable def tw17872000213753121172:=0
noncomputable def tw17405958798265911067:=0
noncomputable def tw5354487460680814545:=0
noncomputable def tw15525244100587698318:=0
noncomputable def tw4354202446967025313:=0
noncomputable def tw11278589299470367095:=0
noncomputable def tw1804796141186520932:=0
noncomputable def tw16261726465446202133:=0
noncomputable def tw1411790434895503740:=0
noncomputable def tw9294049431254878816:=0
noncomputable def tw15510600187811557338:=0
noncomputable def tw4176729407445741351:=0
noncomputable def tw900094147104023278:=0
noncomputable def tw12485069834441508665:=0
noncomputable def tw9056506730733084561:=0
noncomputable def tw4096183556258732153:=0
noncomputable def tw4612660399297933253:=0
noncomputable def tw7862123485153222549:=0
noncomputable def tw7003573274541216362:=0
noncomputable def tw11295261800216085427:=0
noncomputable def tw15208971491912839856:=0
noncomputable def tw17574593684766035956:=0
noncomputable def tw15387162702609509119:=0
noncomputable def tw13548183378970078845:=0
noncomputable def tw3932694864202192300:=0
noncomputable def tw11569228594011500355:=0
noncomputable def tw2274512989746078419:=0
noncomputable def tw3714463930545113183:=0
noncomputable def tw1120336617767850770:=0
noncomputable def tw13057083448370181260:=0
noncomputable def tw16155194460827405418:=0
noncomputable def tw1750584843242949111:=0
noncomputable def tw190494609815620274:=0
noncomputable def tw6815163916718260498:=0
noncomputable def tw11378977707940078025:=0
noncomputable def tw5680101233502916451:=0
noncomputable def tw8612795411716095425:=0
noncomputable def tw5471538026201290437:=0
noncomputable def tw423633403900651117:=0
noncomputable def tw4898084182167490040:=0
noncomputable def tw9457433312269171365:=0
noncomputable def tw7932719670323577762:=0
noncomputable def tw14849484314477761909:=0
noncomputable def tw2048309077442453743:=0
end PySem.W.Fast
namespace CH
open _root_.PySem _root_.PySem.W _root_.PyProof.Rows
set_option maxRecDepth 100000 in
set_option maxHeartbeats 0 in
theorem holds:PySem.Challenge.rw_worthkinds_k72_whole_kind_texts_spoilt.Holds:=by
 w_on;o_law;k_head;(case hw=>w_witness2)
 k_fill
 refine G.walk (l:=PySem.Challenge.rw_worthkinds_k72_whole_kind_texts_spoilt) rfl rfl G.gG ?nl (λw h Y=>⟨PySem.W.km_in_of Y,PySem.W.km_tabs_of Y⟩) ?F
 case nl=>intro p;kernel_rfl
 case F=>
  intro w mg fa h KX G0 hmg hT;have tx:G.Tx' KX mg:=by
   constructor
   all_goals first
    | (refine' ⟨_,_,G.fn1 KX G0 ?e ?l ?g ?k (λF=>F.binds λ_ _ _ _ _ _ us hl=>by first | exact G.lz1 us hl λ_=>rfl | exact G.lz2 us hl λ_ _=>rfl | exact G.lz3 us hl λ_ _ _=>rfl | exact G.lz4 us hl λ_ _ _ _=>rfl)⟩;(case e | l | g | k=>k_is))
    | exact⟨_,bq KX G0 (by k_is),_,rfl⟩
    | exact G.zs_of KX G0 (by kernel_rfl)
  have tp:G.TP KX mg:=by
   refine' ⟨_,_,_,_,_,G.fn1 KX G0 ?e ?l ?g ?k (λF=>F.binds λ_ _ _ _ _ _ us hl=>by first | exact G.lz1 us hl λ_=>rfl | exact G.lz2 us hl λ_ _=>rfl | exact G.lz3 us hl λ_ _ _=>rfl | exact G.lz4 us hl λ_ _ _ _=>rfl),rfl,⟨?t, ?u, ?h, ?n⟩, ?m⟩;(case e | l | g | k | t=>k_is);(case u=>exact rfl);(case h | n=>kernel_rfl);(case m=>exact hT _ (by decide))
  refine' G.fin_ KX G0 hmg tx tp ?n0 ?n1 ?n2 ?n3 ?n4 ?n5 ?n6 ?n7 ?b0 ?b1 ?b2 ?b3 ?b4 ?b5 ?b6 ?b7 ?b8 ?b9 ?b10 ?b11
  (case n0 | n1 | n2 | n3 | n4 | n5 | n6 | n7=>k_is)
  (case b0 | b1 | b2 | b3 | b4 | b5 | b6 | b7 | b8 | b9 | b10 | b11=>kernel_rfl)
end CH
theorem PySem.Challenge.cw_worthkinds_k72_whole_kind_texts_spoilt_holds : PySem.Challenge.rw_worthkinds_k72_whole_kind_texts_spoilt.Holds :=
 CH.holds
