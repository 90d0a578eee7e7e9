import PyProof.Rows.All
import Wide.All
import OpenK.AllK
import Wide.FinOn
import Lean
import PyProof.EqAt
import PyProof.EqKinds
import PyProof.TupleCall
import PyProof.NeKinds
import PyProof.WalksEnum
import PyProof.StrWalks
import PyProof.ExcAttrAll.ValueError
import PyProof.ZipIter
import KE.KRevIter
import PyProof.ListNew
import PyProof.WalksMore
import PyProof.ReprLoop
import PyProof.FactsAll.list
import PyProof.CollectIter
import PyProof.TupleOfGen
import PyProof.Draws
import PyProof.EnumMake
import PyProof.SeqI3
import KE.KMinBuiltin
import PyProof.SetRoads
import PyProof.CollectWalk
import KE.KDictSum
import PyProof.AttrMiss
import PyProof.IsiH_tuple
import KE.KDictOf
import PyProof.FitsBits
import PyProof.SliceList
import PyProof.InstFacts
import PyProof.Rows.StrNews2
import PyProof.StrBlockH
import PyProof.CallStr
import KE.KIntText
import PyProof.Rows.RuleB_pow
import KE.KSortTup
import PyProof.ReprRoads
import KE.KLam
import PySem.Challenge.RW_worthkinds_k76_whole_great_kinds
open PySem renaming wpAny_bind->aa,wpAny_pure->aq,mem_of_lookup->ba,wpAny_field->bb,wpAny_truthy_bool->bf,sizeLine_eq->bh,wpAny_setField_rec->bj,wpAny_newObj_type->bu,builtinLookup_eq_fast->bw,wpAny_mono->bB,wpAny_Call_Name_kw->bC,call_meets->bO,wpAny_seqItems->bR,wpAny_passesOwn->bS,codeAny_builtin->bU,typeLookup_type->bV,codeAny_mono->bX,wpAny_call_entry->ce,isSubtype_type->cf,wpAny_of_eq->cj,typeIs_str->cr,wpAny_execs_nil->cx,wpAny_attempt->cz,wpAny_call->dl,seqSlot_of->fN,call->hU
open PySem.W renaming Frag->ac,kitOne->aA,kia_one->bn,mg_of->bo,nsIn->bL,fnOf->bQ,keepIn->c8,excIn->cO,findIn->c_,tabObj->dk,codeHdIn->du,codeIn->dL,methodObj->dS,cellsFrom_some->eM,instObj->eQ,lookIn->eU,mroIn->f8,specialIn->fu,kitx_list->fv,kitx_dict->fw,plainGet->fI,takesIn->fV
open List renaming replicate->ad,mem_cons_of_mem->ah,getElem?_map->aj,getElem?_eq_some_iff->ak,length_map->ao,size_toArray->ar,map_cons->au,mem_cons_self->av,getElem?_eq_getElem->aw,mem_cons->ax,getElem?_replicate->aC,length_cons->aD,length_append->aF,getElem?_set_ne->aH,length_singleton->aJ,lookup_cons->aK,replicate_succ->aL,mem_append_right->aM,mem_map->aO,getElem?_append_right->aP,map_replicate->aQ,getElem?_append_left->aS,map_nil->aT,length_replicate->aU,getElem?_eq_none->aV,mem_range->aW,all_eq_true->aX,range->aY,getElem?_set_self->aZ,mem_singleton->a_,length_reverse->bc,not_mem_nil->bq,map_map->br,reverse_cons->bv,append_nil->bz,nil_append->bA,Nodup->bE,mem_of_getElem?->bF,eq_of_mem_replicate->bK,reverse_reverse->bM,flatten_cons->bN,map_congr_left->bP,length_set->bT,mem_append_left->bW,getElem?_range->c7,of_mem_zip->cy,flatMap_cons->cB,mem_flatMap->cF,filterMap_cons->cG,getElem?_take_of_lt->cJ,all_cons->cL,map_append->cP,mem_filterMap->cQ,getElem?_cons_succ->cV,append_assoc->db,range_succ_eq_map->df,length_range->dj,length_take->dm,foldl->dn,cons_append->dq,map_reverse->dt,mem_filter->dy,nodup_cons->dz,forIn_cons->dB,drop_eq_getElem_cons->dQ,ext_getElem?->dU,mem_reverse->eK,mem_append->eR,getElem?_reverse->eS,getElem_toArray->eX,reverse_append->f7,sum_cons->f9,map_singleton->fq,all_map->fA,getElem_inj->fH,length_drop->fJ,drop_length->fO,zipIdx_cons->fP,any_eq_true->fS,range'->fT,zipIdx_nil->fZ,range_succ->gT,length_nil->g_
open PySem.Heap renaming get?_push_of_some->ae,get?_push_size->af,lt_size->ai,size_push->cb,SameBut->cq,FlyingW->de,ExtBut->eW
open Nat renaming le_refl->ag,lt_of_lt_of_le->ay,ne_of_lt->az,le_trans->aE,lt_irrefl->bx,mul_comm->bG,zero_le->bI,le_mul_of_pos_right->ci,one_mul->ck,le_add_right->cD,mul_assoc->cN,ne_of_gt->cW,div_lt_of_lt_mul->dw,div_add_mod->dD,add_le_add_left->dE,pow_succ->dI,lt_of_le_of_lt->dN,lt_succ_of_lt->dW,lt_succ_self->eB,le_of_lt->eL,mul_le_mul->eZ,zero_add->fG,mul_pos->fU,mod_lt->hZ
open Bool renaming and_eq_true->am,false_ne_true->aB,false_eq_true->bi,not_true->dY
open PySem.Str renaming ofString->aG,empty_append->fR
open Option.some renaming inj->aI
open PyProof.Rows renaming callWith_type1->aN
open PySem.F renaming excBase_ValueError->aR,plainAttrs_str->bp,called_set->cu,slot_zip_next->cA,args_tuple_add_2->cK,entry_tuple_add->cS,plainAttrs_list->cT,slot_tuple_add->da,slot_tuple_iterator_next->di,slot_int_rmul->dA,slot_str_startswith->dG,type_str_startswith->dH,args_str_split_2->dO,entry_str_split->dX,slot_tuple_mul->eA,attr_ValueError->eD,args_zip_next_1->eF,slot_list_count->eG,slot_list_index->eH,slot_str_split->eJ,entry_zip_next->eO,called_tuple->eY,args_int_rmul_2->fy,slot_tuple_rmul->fB,plain_list_iadd->fD,plain_tuple_new->fE,slot_int_index->fL,entry_int_rmul->fM,fills_int_mul->fW
open False renaming elim->bg
open PySem.Txt renaming rpartition->bH,partition->bJ,split->eI,slice->fQ,startswith3->f_
open PySem.Around renaming under_plainId->bY,frames_deeper->dv
open Int renaming toNat_natCast->bZ,emod_lt_of_pos->cR,emod_nonneg->dC,natCast_mul->fY
open PySem.Builtin.List renaming listTooLong->b_,listExtendWith->dF,listSameRef->dZ
open Ne renaming symm->c6
open PySem.Builtin.Str renaming occurrences->cg,partsBetween->d_,strKind->f6
open PySem.SeqAt renaming EqAt->cC,RcNeAt->dg,RcAt->eN
open Array renaming length_toList->cH,getElem?_eq_none->dh,append_assoc->dP,getElem?_eq_getElem->dR,getD->hV
open Option renaming isSome_iff_exists->cI,getD_none->fK
open PySem.Builtin.Tuple renaming tupleExact->cM,tupleTooMany->dM
open PyProof.Rows.F renaming plain_set_update_loop->cU,entry_set_update_loop->eC
open PySem.Calls renaming Name_function_global->dJ,evalArgs_plain->eV,spliced_cons->fg,spliced_nil->fx
open PyProof.Rows.KeyOrd renaming klt_of_klt_of_kle->ei,kle_of_klt->fF
open PySem.Builtin.Range renaming rangeSize->en
open PySem.StrLaws renaming occ_length_le->eT
open PySem.Heap.SameBut renaming update->e_
open PySem.Heap.IsSliceOf renaming new->fj
open PySem.SeqAt.EqAt renaming of_refs->fk,same->fX
open PySem.Code renaming quiet_builtin->fm
open PySem.Obj renaming data_mapFields->fo
open PySem.PassesOwn renaming never->hJ
noncomputable section
set_option maxHeartbeats 4000000
set_option Elab.async false
set_option linter.all false
set_option maxRecDepth 100000
namespace L2
open PySem PySem.Spec PyProof.Rows
abbrev Key:=Sum Int Str
def QX:Key->Value->Bool
 | .inl k,v=>Value.isInt k v
 | .inr x,v=>Value.isStrOf x v
def gw (w:World):Key->Int
 | .inl k=>hashInt k
 | .inr x=>hashStr w x
theorem zy:∀ {k:Key} {v:Value},QX k v=true->(∃ i t,k=Sum.inl i/\v=Value.int i t)\/(∃ x t,k=Sum.inr x/\v=Value.str x t)
 | .inl i,v,h=>by
  obtain ⟨t,e⟩:=Value.isInt_shape (k:=i) (v:=v) h
  exact .inl ⟨i,t,rfl,e⟩
 | .inr x,v,h=>by
  obtain ⟨t,e⟩:=Value.isStrOf_shape (x:=x) (v:=v) h
  exact .inr ⟨x,t,rfl,e⟩
theorem QY (a b:Int):decide ((Sum.inl a:Key)=Sum.inl b)=(a == b):=by
 by_cases e:a=b
 ·subst e; simp
 ·have h:¬ (Sum.inl a:Key)=Sum.inl b:=fun q=>e (Sum.inl.inj q)
  rw [decide_eq_false h]
  exact (beq_eq_false_iff_ne.mpr e).symm
theorem QZ (a b:Str):decide ((Sum.inr a:Key)=Sum.inr b)=decide (a=b):=by
 by_cases e:a=b
 ·subst e; simp
 ·have h:¬ (Sum.inr a:Key)=Sum.inr b:=fun q=>e (Sum.inr.inj q)
  rw [decide_eq_false h,decide_eq_false e]
theorem v5 (a:Int) (b:Str):decide ((Sum.inl a:Key)=Sum.inr b)=false:=decide_eq_false (fun q=>nomatch q)
theorem v6 (a:Str) (b:Int):decide ((Sum.inr a:Key)=Sum.inl b)=false:=decide_eq_false (fun q=>nomatch q)
def wC (prog:Program) (w:World):PySem.KeyKind prog w Key where
 is:=QX
 hash:=gw w
 inj:=fun v a b ha hb=>by
  rcases zy ha with ⟨i,t,rfl,rfl⟩ | ⟨x,t,rfl,rfl⟩
  ·rcases zy hb with ⟨j,u,rfl,e⟩ | ⟨y,u,rfl,e⟩
   ·injection e with e1 _; rw [e1]
   ·exact nomatch e
  ·rcases zy hb with ⟨j,u,rfl,e⟩ | ⟨y,u,rfl,e⟩
   ·exact nomatch e
   ·injection e with e1 _; rw [e1]
 byValue:=fun k v h=>by
  rcases zy h with ⟨i,t,rfl,rfl⟩ | ⟨x,t,rfl,rfl⟩ <;> rfl
 pyHash:=fun hv h=>by
  rcases zy hv with ⟨i,t,rfl,rfl⟩ | ⟨x,t,rfl,rfl⟩
  ·exact wpAny_pyHash_int h
  ·exact wpAny_pyHash_str h
 eqBool:=fun hu hv h=>by
  rcases zy hu with ⟨i,t,rfl,rfl⟩ | ⟨x,t,rfl,rfl⟩
  ·rcases zy hv with ⟨j,u,rfl,rfl⟩ | ⟨y,u,rfl,rfl⟩
   ·rw [QY] at h; exact wpAny_eqBool_int h
   ·rw [v5] at h; exact cC.int_str i t y u _ _ _ _ h
  ·rcases zy hv with ⟨j,u,rfl,rfl⟩ | ⟨y,u,rfl,rfl⟩
   ·rw [v6] at h; exact cC.str_int x t j u _ _ _ _ h
   ·rw [QZ] at h; exact wpAny_eqBool_str h
 «strs»:=fun k x t v h=>by
  rcases zy h with ⟨i,u,rfl,e⟩ | ⟨y,u,rfl,e⟩
  ·exact nomatch e
  ·injection e with e1 _
   subst e1
   cases v <;> rfl
end L2
namespace L2
open PySem PySem.Spec PyProof.Rows
inductive V where
 | non | bl (b:Bool) | int (i:Int) | str (x:Str) | byt (b:Array UInt8) | flt (b:UInt64) | ref (a:Addr) | ty (n:String)
 deriving DecidableEq
def zP:V->Value->Prop
 | .non,u=>u=Value.none
 | .bl b,u=>u=Value.bool b
 | .int i,u=>∃ t,u=Value.int i t
 | .str x,u=>∃ t,u=Value.str x t
 | .byt b,u=>∃ t,u=Value.bytes b t
 | .flt b,u=>∃ t,u=Value.float b t
 | .ref a,u=>u=Value.ref a
 | .ty n,u=>u=Value.type n
abbrev zB:List V->List Value->Prop:=Paired zP
theorem zB.length {xs:List V} {us:List Value} (r:zB xs us):xs.length=us.length:=Paired.length r
theorem zB.get:∀ {xs:List V} {us:List Value} {i:Nat} {x:V},zB xs us->xs[i]? =some x->∃ u,us[i]? =some u/\zP x u
 | _,_,_,_, .nil,e=>by simp at e
 | _,_,0,_, .cons r _,e=>by simp at e; subst e; exact ⟨_,rfl,r⟩
 | _,_,i+1,x, .cons _ t,e=>by
  obtain ⟨u,h1,h2⟩:=zB.get (i:=i) (x:=x) t (by simpa using e)
  exact ⟨u,by simpa using h1,h2⟩
theorem zB.append:∀ {xs ys:List V} {us ws:List Value},zB xs us->zB ys ws->zB (xs++ys) (us++ws)
 | _,_,_,_, .nil,s=>s
 | _,_,_,_, .cons r t,s=> .cons r (zB.append t s)
theorem zB.take:∀ {xs:List V} {us:List Value} (n:Nat),zB xs us->zB (xs.take n) (us.take n)
 | _,_,0,_=> .nil
 | _,_,_+1, .nil=> .nil
 | _,_,n+1, .cons r t=> .cons r (zB.take n t)
theorem zB.drop:∀ {xs:List V} {us:List Value} (n:Nat),zB xs us->zB (xs.drop n) (us.drop n)
 | _,_,0,r=>r
 | _,_,_+1, .nil=> .nil
 | _,_,n+1, .cons _ t=>zB.drop n t
def xR:Option V->Option Value->Prop
 | some v,some u=>zP v u
 | none,none=>True
 | _,_=>False
def KV {κ:Type}:List (κ×V)->List (κ×Value)->Prop:=Paired fun (p:κ×V) (q:κ×Value)=>p.1=q.1/\zP p.2 q.2
def kV:Key->V
 | .inl i=> .int i
 | .inr x=> .str x
inductive HO where
 | lst (xs:List V)
 | tup (xs:List V)
 | dK (kvs:List (Key×V)) | dT (kvs:List (List Key×V))
 | set (S:Int->Bool) (n:Nat)
 | ins (C dx:Addr) (fs:List (Str×V))
 | own (x:Addr)
 | xd (fs:List (Str×V))
 | met (f x:Addr)
 | rng (lo hi:Int)
 | frz (o:Obj) (u:HO)
 | tbl (ps:Array Value) (q:Str)
 | ext (φ:Heap->Prop)
abbrev Hp:=Addr->Option HO
def upd (H:Hp) (a:Addr) (o:HO):Hp:=fun b=>if b=a then some o else H b
theorem zl {H:Hp} {a:Addr} {o:HO}:upd H a o a=some o:=by unfold upd; rw [if_pos rfl]
theorem zi {H:Hp} {a b:Addr} {o:HO} (h:b ≠ a):upd H a o b=H b:=by unfold upd; rw [if_neg h]
theorem zn {H:Hp} {a b:Addr} {o:HO} (h:H a=some o) (h' :H b=none):a ≠ b:=by
 intro e; subst e; rw [h] at h'; cases h'
def ITN (h:Heap) (a:Addr) (its:Array Value):Prop:=IsTup h a its/\((∃ i t,its[0]? =some (Value.int i t))\/∃ o,h.get? a=some o/\o.dict=none)
theorem ITN.new (h:Heap) (its:Array Value):ITN (h.push { cls:= .type "tuple",data:= .seq its }) h.objs.size its:=⟨IsTup.new h its, .inr ⟨_,af _ rfl,rfl⟩⟩
section
variable (P:Program) (w:World)
def zH (H:Hp) (h:Heap) (a:Addr):HO->Prop
 | .lst xs=>xs.length<=sizeLine/\∃ (its:List Value) (n:Nat),zB xs its/\h.get? a=some { cls:= .type "list",data:= .seq its.toArray n }
 | .tup xs=>xs.length<=sizeLine/\∃ its:List Value,zB xs its/\ITN h a its.toArray
 | .dK kvs=>kvs.length<=sizeLine/\(a == sysModules)=false/\∃ vs,KV kvs vs/\h.DictOf (wC P w) a vs
 | .dT kvs=>kvs.length<=sizeLine/\(a == sysModules)=false/\∃ xs:List (List Key×Addr×Value),
   Paired (fun (p:List Key×V) (q:List Key×Addr×Value)=>p.1=q.1/\H q.2.1=some (.tup (p.1.map kV))/\zP p.2 q.2.2) kvs xs/\
   ∃ o es ep,h.get? a=some o/\o.ExactDict/\o.data= .dict es ep/\es.toList=xs.map (entryOfKey (tupleKind (wC P w)))/\(xs.map (·.1)).Nodup
 | .set S n=>h.SetOf (intKind P w) a S n
 | .ins C dx fs=>H dx=some (.own a)/\fs.length<=1000/\dx ≠ a/\h.get? a=some (eQ C dx)/\
   ∃ mA,h.Ns1 dx mA/\(∀ f,xR (fs.lookup f) (mA f))/\PySem.Within mA (fs.map (·.1))
 | .own _=>∃ o,h.get? a=some o
 | .xd fs=>∃ mA,h.Ns1 a mA/\∀ f,xR (fs.lookup f) (mA f)
 | .rng lo hi=>∃ t u v,h.get? a=some { cls:= .type "range",data:= .fields #[.int lo t, .int hi u, .int 1 v] }
 | .frz o u=>h.get? a=some o/\zH H h a u
 | .tbl ps q=>∃ more:Array Value,h.get? a=some { cls:= .none,data:= .fields (ps++more) }/\TriplesOk (ps++more).toList/\∀ p cv,codeAmong p (ps++more).toList=some cv->∃ c oc vs t,cv= .ref c/\H c=some (.frz oc (.own c))/\oc.data= .fields vs/\vs[1]? =some (.str q t)
 | .met f x=>h.get? a=some (dS (.ref f) (.ref x))
 | .ext φ=>φ h/\(∃ o,h.get? a=some o)/\∀ h1 h2:Heap,φ h1->(∀ o,h1.get? a=some o->h2.get? a=some o)->φ h2
def HOk (H:Hp) (h:Heap):Prop:=∀ a o,H a=some o->zH P w H h a o
end
section
variable {P:Program} {w:World} {H H' :Hp} {h h' :Heap} {a:Addr} {o:HO}
theorem zH.lt (x:zH P w H h a o):a < h.objs.size:=by
 cases o with
 | lst xs=>obtain ⟨_,_,_,_,e⟩:=x; exact ai e
 | tup xs=>obtain ⟨_,_,_,p,_⟩:=x; exact p.lt
 | dK kvs=>obtain ⟨_,_,_,_,o,_,_,e,_⟩:=x; exact ai e
 | dT kvs=>obtain ⟨_,_,_,_,o,_,_,e,_⟩:=x; exact ai e
 | set S n=>obtain ⟨o,_,_,_,e,_⟩:=x; exact ai e
 | ins C dx fs=>obtain ⟨_,_,_,e,_⟩:=x; exact ai e
 | own y=>obtain ⟨_,e⟩:=x; exact ai e
 | xd fs=>obtain ⟨_,⟨_,_,_,e,_⟩,_⟩:=x; exact ai e
 | rng lo hi=>obtain ⟨_,_,_,e⟩:=x; exact ai e
 | frz ob u=>obtain ⟨e,_⟩:=x; exact ai e
 | tbl ps q=>obtain ⟨_,e,_⟩:=x; exact ai e
 | met f y=>exact ai (show h.get? a=some _ from x)
 | ext φ=>obtain ⟨_,⟨_,e⟩,_⟩:=x; exact ai e
theorem Paired.mapP {α β:Type} {F G:α->β->Prop}:∀ {l₁:List α} {l₂:List β},Paired F l₁ l₂->(∀ a b,F a b->G a b)->Paired G l₁ l₂
 | _,_, .nil,_=> .nil
 | _,_, .cons r t,f=> .cons (f _ _ r) (Paired.mapP t f)
theorem zH.stay (x:zH P w H h a o) (k:∀ b u,(b=a\/H b=some (.own a))->h.get? b=some u->h'.get? b=some u)
  (ho:∀ b,H b=some (.own a)->H' b=some (.own a)) (ht:∀ b xs,H b=some (.tup xs)->H' b=some (.tup xs)) (hf:∀ b o u,H b=some (.frz o u)->H' b=some (.frz o u):=by exact fun _ _ _ q=>q):zH P w H' h' a o:=by
 induction o with
 | lst xs=>obtain ⟨z,its,n,r,e⟩:=x; exact ⟨z,its,n,r,k _ _ (.inl rfl) e⟩
 | tup xs=>obtain ⟨z,its,r,⟨ob,e,c⟩,q⟩:=x; exact ⟨z,its,r,⟨ob,k _ _ (.inl rfl) e,c⟩,q.imp id fun ⟨o2,e2,d2⟩=>⟨o2,k _ _ (.inl rfl) e2,d2⟩⟩
 | dK kvs=>obtain ⟨z,y,vs,r,ob,es,ep,e,c⟩:=x; exact ⟨z,y,vs,r,ob,es,ep,k _ _ (.inl rfl) e,c⟩
 | dT kvs=>
  obtain ⟨z,y,xs,r,ob,es,ep,e,c⟩:=x
  exact ⟨z,y,xs,Paired.mapP r fun p q z=>⟨z.1,ht _ _ z.2.1,z.2.2⟩,ob,es,ep,k _ _ (.inl rfl) e,c⟩
 | set S n=>obtain ⟨ob,es,ep,t,e,c⟩:=x; exact ⟨ob,es,ep,t,k _ _ (.inl rfl) e,c⟩
 | ins C dx fs=>
  obtain ⟨d,z,ne,e,mA,⟨od,es,ep,e2,c⟩,r⟩:=x
  exact ⟨ho _ d,z,ne,k _ _ (.inl rfl) e,mA,⟨od,es,ep,k _ _ (.inr d) e2,c⟩,r⟩
 | own y=>obtain ⟨ob,e⟩:=x; exact ⟨ob,k _ _ (.inl rfl) e⟩
 | xd fs=>obtain ⟨mA,⟨od,es,ep,e,c⟩,r⟩:=x; exact ⟨mA,⟨od,es,ep,k _ _ (.inl rfl) e,c⟩,r⟩
 | rng lo hi=>obtain ⟨t,u,v,e⟩:=x; exact ⟨t,u,v,k _ _ (.inl rfl) e⟩
 | frz ob u ih=>obtain ⟨e,q⟩:=x; exact ⟨k _ _ (.inl rfl) e,ih q⟩
 | tbl ps q=>
  obtain ⟨m,e,tr,al⟩:=x
  exact ⟨m,k a _ (.inl rfl) e,tr,fun p cv z=>let ⟨c,oc,vs,t,e1,e2,e3⟩:=al p cv z; ⟨c,oc,vs,t,e1,hf _ _ _ e2,e3⟩⟩
 | met f y=>
  have e:h.get? a=some (dS (.ref f) (.ref y)):=x
  show h'.get? a=some (dS (.ref f) (.ref y))
  exact k a _ (.inl rfl) e
 | ext φ=>obtain ⟨p,⟨o,e⟩,st⟩:=x; exact ⟨st _ _ p fun o q=>k _ _ (.inl rfl) q,⟨o,k _ _ (.inl rfl) e⟩,st⟩
theorem HOk.lt (x:HOk P w H h) (e:H a=some o):a < h.objs.size:=(x a o e).lt
theorem HOk.fresh (x:HOk P w H h) (e:h.objs.size<=a):H a=none:=by
 cases q:H a with
 | none=>rfl
 | some u=>exact absurd (ay (x.lt q) e) (bx _)
theorem HOk.kept (x:HOk P w H h) (k:∀ b u,h.get? b=some u->h'.get? b=some u):HOk P w H h' :=fun a o e=>
 (x a o e).stay (fun b u _ q=>k b u q) (fun _ q=>q) fun _ _ q=>q
theorem HOk.laid (x:HOk P w H h) (k:∀ b u,h.get? b=some u->h'.get? b=some u) (hp:h.objs.size<=a) (new:zH P w (upd H a o) h' a o):HOk P w (upd H a o) h' :=fun b u e=>by
 have hn:=x.fresh hp
 by_cases hb:b=a
 ·subst hb; rw [zl] at e; cases e; exact new
 ·rw [zi hb] at e
  exact (x b u e).stay (fun c v _ q=>k c v q) (fun c q=>by rw [zi (zn q hn)]; exact q) (fun c xs q=>by rw [zi (zn q hn)]; exact q) fun c o u q=>by rw [zi (zn q hn)]; exact q
end
def Rd (H:Hp) (a:Addr) (u:HO):Prop:=H a=some u\/∃ o,H a=some (.frz o u)
theorem Rd.ok {P:Program} {w:World} {H:Hp} {h:Heap} {a:Addr} {u:HO} (r:Rd H a u) (x:HOk P w H h):zH P w H h a u:=by
 rcases r with r | ⟨o,r⟩
 ·exact x a u r
 ·obtain ⟨_,q⟩:=x a _ r
  exact q
def Mut:Option HO->Prop
 | some (.lst _)=>True
 | some (.dK _)=>True
 | some (.dT _)=>True
 | some (.set _ _)=>True
 | some (.ins _ _ _)=>True
 | some (.ext _)=>True
 | _=>False
section
variable {P:Program} {w:World} {H:Hp} {h h' :Heap} {x e:Addr} {o' :HO}
theorem HOk.write (ok:HOk P w H h) (mu:Mut (H x)) (he:e=x\/H e=some (.own x)) (k:∀ b u,b ≠ e->h.get? b=some u->h'.get? b=some u) (heo:∃ u,h'.get? e=some u)
  (new:zH P w (upd H x o') h' x o'):HOk P w (upd H x o') h' :=fun b u q=>by
 have nown:∀ c y,H c=some (.own y)->c ≠ x:=fun c y r z=>by subst z; rw [r] at mu; exact mu
 have ntup:∀ c xs,H c=some (.tup xs)->c ≠ x:=fun c xs r z=>by subst z; rw [r] at mu; exact mu
 by_cases hb:b=x
 ·subst hb; rw [zl] at q; cases q; exact new
 ·rw [zi hb] at q
  by_cases hbe:b=e
  ·have q' :H b=some (.own x):=by
    rcases he with z | z
    ·exact absurd (hbe.trans z) hb
    ·rw [hbe]; exact z
   rw [q] at q'; cases q'
   obtain ⟨v,hv⟩:=heo
   exact ⟨v,by rw [hbe]; exact hv⟩
  ·refine (ok b u q).stay (fun c v hc r=>k c v ?_ r) (fun c r=>by rw [zi (nown c b r)]; exact r) (fun c xs r=>by rw [zi (ntup c xs r)]; exact r) fun c o u r=>by rw [zi (fun z=>by subst z; rw [r] at mu; exact mu)]; exact r
   rcases hc with rfl | hc
   ·exact hbe
   ·rintro rfl
    rcases he with z | z
    ·exact nown c b hc z
    ·rw [hc] at z; cases z; exact hb rfl
end
structure Un (fs ex:List Addr) (H H' :Hp) (h h' :Heap):Prop where
 keep:∀ b o,h.get? b=some o->H b=none->b ∉ fs->b ∉ ex->h'.get? b=some o
 slot:∀ b o,h.get? b=some o->H b=none->b∈fs->b ∉ ex->∃ sl,h'.get? b=some { o with slots:=sl }
 free:∀ b o,h.get? b=some o->H b=none->b ∉ ex->H' b=none
 there:∀ b o,h.get? b=some o->b ∉ ex->∃ o',h'.get? b=some o'
 tups:∀ b xs,H b=some (.tup xs)->H' b=some (.tup xs)
 frzs:∀ b o u,H b=some (.frz o u)->H' b=some (.frz o u)
 tbls:∀ b ps q,H b=some (.tbl ps q)->H' b=some (.tbl ps q)
section
variable {fs fs' ex ex' :List Addr} {H H1 H2:Hp} {h h1 h2 h' :Heap} {a x e:Addr} {o:HO}
theorem Un.any (u:Un fs ex H H1 h h1) {b:Addr} {ob:Obj} (q:h.get? b=some ob) (n:H b=none) (hx:b ∉ ex):∃ sl,h1.get? b=some { ob with slots:=sl }:=by
 by_cases hb:b∈fs
 ·exact u.slot b ob q n hb hx
 ·exact ⟨ob.slots,u.keep b ob q n hb hx⟩
theorem Un.kept (k:∀ b u,h.get? b=some u->h'.get? b=some u):Un fs ex H H h h' :=
 ⟨fun b ob q _ _ _=>k b ob q,fun b ob q _ _ _=>⟨ob.slots,k b ob q⟩,fun _ _ _ n _=>n,fun b ob q _=>⟨ob,k b ob q⟩,fun _ _ q=>q,fun _ _ _ q=>q,fun _ _ _ q=>q⟩
theorem Un.refl:Un fs ex H H h h:=Un.kept fun _ _ q=>q
theorem Un.laid (k:∀ b u,h.get? b=some u->h'.get? b=some u) (hp:h.objs.size<=a) (hn:H a=none):Un fs ex H (upd H a o) h h' where
 keep:=fun b u q _ _ _=>k b u q
 slot:=fun b u q _ _ _=>⟨u.slots,k b u q⟩
 free:=fun b u q n _=>by rw [zi (az (ay (ai q) hp))]; exact n
 there:=fun b u q _=>⟨u,k b u q⟩
 tups:=fun b xs q=>by rw [zi (zn q hn)]; exact q
 frzs:=fun b u xs q=>by rw [zi (zn q hn)]; exact q
 tbls:=fun b ps q e=>by rw [zi (zn e hn)]; exact e
theorem Un.write (mu:Mut (H x)) (he:e=x\/H e=some (.own x)) (k:∀ b u,b ≠ e->h.get? b=some u->h'.get? b=some u) (heo:∃ u,h'.get? e=some u):Un fs ex H (upd H x o) h h' :=by
 have hx:∀ b,H b=none->b ≠ x:=fun b n z=>by subst z; rw [n] at mu; exact mu
 have hb:∀ b,H b=none->b ≠ e:=fun b n z=>by
  subst z
  rcases he with r | r
  ·exact hx b n r
  ·rw [n] at r; cases r
 have hm:∀ b u,H b=some u->¬ Mut (some u)->b ≠ x:=fun b u q nm z=>by subst z; rw [q] at mu; exact nm mu
 refine ⟨fun b u q n _ _=>k b u (hb b n) q,fun b u q n _ _=>⟨u.slots,k b u (hb b n) q⟩,fun b u q n _=>by rw [zi (hx b n)]; exact n,fun b u q _=> ?_,
  fun b xs q=>by rw [zi (hm b _ q fun z=>z)]; exact q,fun b u xs q=>by rw [zi (hm b _ q fun z=>z)]; exact q,fun b ps q e=>by rw [zi (hm b _ e fun z=>z)]; exact e⟩
 by_cases hbe:b=e
 ·subst hbe; exact heo
 ·exact ⟨u,k b u hbe q⟩
end
def trk (h:Heap) (H:Hp):List Addr:=(aY h.objs.size).filter fun a=>(H a).isSome
def yA (h:Heap) (H:Hp):Heap:=PySem.W.hideAll h (trk h H)
theorem uz (h:Heap) (H:Hp):(yA h H).objs.size=h.objs.size:=PySem.W.hideAll_size _ _
theorem Jc {h:Heap} {H:Hp} {b:Addr} {o:Obj} (e:h.get? b=some o) (n:H b=none):(yA h H).get? b=some o:=
 PySem.W.hideAll_get _ e fun hm=>by
  have q:(H b).isSome=true:=(dy.mp hm).2
  rw [n] at q; simp at q
theorem qd {h:Heap} {H:Hp} {b:Addr} {o:Obj} (e:(yA h H).get? b=some o):h.get? b=some o/\H b=none:=by
 have e' :h.get? b=some o:=PySem.W.of_hideAll (trk h H) e
 refine ⟨e', ?_⟩
 cases q:H b with
 | none=>rfl
 | some x=>
  have hm:b∈trk h H:=dy.mpr ⟨aW.mpr (ai e'),by simp [q]⟩
  have z:(yA h H).get? b=none:=PySem.W.hideAll_none (trk h H) hm
  rw [z] at e; cases e
end L2
namespace L2
open PySem PySem.Spec PyProof.Rows
structure Mod (K:ac) (mg:Str->Option Value) (base:Heap):Prop where
 kin:K.In base
 glob:base.Ns mainGlobals mg
 blt:∃ mb,base.Ns builtinsNs mb/\∀ x:Str,x ≠ "__name__"->mb x=bootBuiltins x
 nolimit:base.NoLimit
structure Cx where
 prog:Program
 w:World
 K:ac
 mg:Str->Option Value
 base:Heap
 A:Around
 N:List Str
 s₀:Shared
 H₀:Hp
 env:Env
 outer:List Env
 stack:List Env
 ex:List Addr
 fn:Str->Bool
 calm:Bool
 pn:List (Addr×Obj)
 xe:Value->Shared->Prop
def frs (l:List Env):List Addr:=l.filterMap (·.frame)
abbrev Cx.fs (X:Cx):List Addr:=frs X.outer
def Vis (sc:Scope) (x:Str):Prop:=sc.names.lookup x=some .local\/sc.names.lookup x=some .cell\/sc.names.lookup x=some .free
def Loc (sc:Scope) (x:Str):Prop:=sc.names.lookup x=some .local\/sc.names.lookup x=some .cell
def gy (env:Env) (h:Heap) (m:Str->Option Value) (x:Str) (u:Value):Prop:=
 (env.kindOf x=some .local/\m x=some u)\/((env.kindOf x=some .cell\/env.kindOf x=some .free)/\∃ c,env.cells.lookup x=some c/\h.IsCell c (some u))
structure Cx.Ok (X:Cx):Prop where
 mod:Mod X.K X.mg X.base
 kind:X.env.scope.kind= .function
 glob:X.env.globals=mainGlobals
 blt:X.env.builtins=builtinsNs
 above:X.s₀.heap.objs.size<=X.env.locals
 inj:∀ x y c,X.env.cells.lookup x=some c->X.env.cells.lookup y=some c->x=y
 has:∀ x,(X.env.kindOf x=some .cell\/X.env.kindOf x=some .free)->∃ c,X.env.cells.lookup x=some c
 cab:∀ x c,X.fn x=true->X.env.cells.lookup x=some c->X.s₀.heap.objs.size<=c
 hd:X.calm=true->X.A.handled=none
 frames:X.A.frames=some X.stack
 stk:X.stack=X.outer\/(X.stack=X.env :: X.outer/\X.env.frame=some X.env.locals)
 exf:∀ b∈X.ex,b ≠ X.env.locals/\∀ x c,X.env.cells.lookup x=some c->c ≠ b
 bs:∀ b o,X.base.get? b=some o->X.s₀.heap.get? b=some o/\X.H₀ b=none
 bsz:X.base.objs.size<=X.s₀.heap.objs.size
 noex:∀ b o,X.base.get? b=some o->b ∉ X.ex
 exfs:∀ b∈X.ex,b ∉ X.fs
 funs:X.s₀.heap.FunFrames X.base X.outer
 frf:∀ b∈X.fs,X.H₀ b=none
structure Inv (X:Cx) (pins:List (Addr×Obj)) (σ:List (Option V)) (H:Hp) (s:Shared):Prop where
 ok:X.Ok
 os:s.os=X.s₀.os
 bare:AllBare s.gens
 base:Un X.fs X.ex X.H₀ H X.s₀.heap s.heap
 loc:∃ m,s.heap.Ns X.env.locals m/\∀ (i:Nat) (x:Str) (v:V),X.N[i]? =some x->σ[i]? =some (some v)->Vis X.env.scope x->∃ u,zP v u/\gy X.env s.heap m x u
 cell:∀ x c,X.env.cells.lookup x=some c->∃ v,s.heap.IsCell c v
 free:H X.env.locals=none
 freeC:∀ x c,X.env.cells.lookup x=some c->H c=none
 pin:∀ p∈X.pn++pins,s.heap.get? p.1=some p.2/\H p.1=none/\p.1 ≠ X.env.locals/\p.1 ∉ X.fs/\∀ v,p.2.data ≠ .cell v
 hok:HOk X.prog X.w H s.heap
 len:σ.length=X.N.length
section
variable {X:Cx} {pins:List (Addr×Obj)} {σ:List (Option V)} {H H' :Hp} {s:Shared} {h' :Heap}
theorem Cx.Ok.nofr (ok:X.Ok) {b:Addr} {o:Obj} (e:X.base.get? b=some o):b ∉ X.fs:=fun hb=>by
 have:=(ok.funs.mem hb).1
 rw [e] at this; cases this
theorem Inv.bs (I:Inv X pins σ H s):∀ b o,X.base.get? b=some o->s.heap.get? b=some o/\H b=none:=fun b o e=>
 ⟨I.base.keep b o (I.ok.bs b o e).1 (I.ok.bs b o e).2 (I.ok.nofr e) (I.ok.noex b o e),I.base.free b o (I.ok.bs b o e).1 (I.ok.bs b o e).2 (I.ok.noex b o e)⟩
theorem Inv.bk (I:Inv X pins σ H s):∀ b o,X.base.get? b=some o->s.heap.get? b=some o:=fun b o e=>(I.bs b o e).1
theorem Inv.mod (I:Inv X pins σ H s):Mod X.K X.mg X.base:=I.ok.mod
theorem Inv.kIn (I:Inv X pins σ H s):X.K.In s.heap:=I.ok.mod.kin.keeps I.bk
theorem Inv.lt (I:Inv X pins σ H s):X.env.locals < s.heap.objs.size:=let ⟨_,hn,_⟩:=I.loc; hn.lt
theorem Inv.sz (I:Inv X pins σ H s):X.s₀.heap.objs.size<=s.heap.objs.size:=aE I.ok.above (eL I.lt)
theorem Inv.nofs (I:Inv X pins σ H s) {a:Addr} (h:s.heap.objs.size<=a):a ∉ X.fs:=fun hb=>by
 obtain ⟨_,o,ho,_⟩:=I.ok.funs.mem hb
 exact absurd (ay (ai ho) (aE I.sz h)) (bx _)
theorem Inv.cne (I:Inv X pins σ H s):∀ x c,X.env.cells.lookup x=some c->c ≠ X.env.locals:=fun x c e z=>by
 obtain ⟨v,o,ho,hd⟩:=I.cell x c e
 obtain ⟨m,⟨o',es,ep,ho',hd',_⟩,_⟩:=I.loc
 rw [z,ho'] at ho; cases ho; rw [hd'] at hd; cases hd
theorem Inv.funs (I:Inv X pins σ H s):s.heap.FunFrames X.base X.outer:=by
 have all:∀ (l:List Env),(∀ b∈frs l,b∈X.fs)->X.s₀.heap.FunFrames X.base l->s.heap.FunFrames X.base l:=by
  intro l
  induction l with
  | nil=>intro _ _; trivial
  | cons env r ih=>
   intro hs hl
   obtain ⟨hk,⟨L,o,hf,hn,ho,hd⟩,hr⟩:=hl
   have hL:L∈X.fs:=hs L (by unfold frs; rw [cG,hf]; exact av)
   obtain ⟨sl,e⟩:=I.base.slot L o ho (I.ok.frf L hL) hL fun z=>I.ok.exfs L z hL
   exact ⟨hk,⟨L,_,hf,hn,e,hd⟩,ih (fun b hb=>hs b (by unfold frs; rw [cG,hf]; exact ah _ hb)) hr⟩
 exact all X.outer (fun _ hb=>hb) I.ok.funs
theorem Inv.stack (I:Inv X pins σ H s):s.heap.FunFrames X.base X.stack:=by
 rcases I.ok.stk with e | ⟨e,hf⟩
 ·rw [e]; exact I.funs
 ·rw [e]
  obtain ⟨m,hn,_⟩:=I.loc
  refine .cons (by rw [I.ok.kind]; decide) hf hn ?_ I.funs
  exact Heap.get?_none_of_le (aE I.ok.bsz I.ok.above)
theorem Inv.stkSub (I:Inv X pins σ H s):∀ b∈frs X.stack,b∈X.env.locals :: X.fs:=fun b hb=>by
 rcases I.ok.stk with e | ⟨e,hf⟩
 ·rw [e] at hb; exact ah _ hb
 ·rw [e] at hb
  unfold frs at hb
  rw [cG,hf] at hb
  exact hb
theorem Inv.stkFree (I:Inv X pins σ H s):∀ b∈frs X.stack,H b=none:=fun b hb=>by
 rcases ax.mp (I.stkSub b hb) with e | hb
 ·rw [e]; exact I.free
 ·obtain ⟨_,o,ho,_⟩:=I.ok.funs.mem hb
  exact I.base.free b o ho (I.ok.frf b hb) fun z=>I.ok.exfs b z hb
theorem Inv.step {g' :Array GenState} {t' :Nat} {d' :Drawn} {ch:List Addr} (I:Inv X pins σ H s)
  (hch:∀ b∈ch,(b∈X.ex\/X.s₀.heap.objs.size<=b)/\b ≠ X.env.locals/\(∀ x c,X.env.cells.lookup x=some c->c ≠ b)/\∀ p∈X.pn++pins,p.1 ≠ b)
  (keep:∀ b o,b ≠ X.env.locals->b ∉ X.fs->b ∉ ch->s.heap.get? b=some o->H b=none->h'.get? b=some o)
  (slot:∀ b o,b ≠ X.env.locals->b∈X.fs->b ∉ ch->s.heap.get? b=some o->H b=none->∃ sl,h'.get? b=some { o with slots:=sl }) (free:∀ b o,b ∉ ch->s.heap.get? b=some o->H b=none->H' b=none)
  (there:∀ b o,b ∉ ch->s.heap.get? b=some o->∃ o',h'.get? b=some o')
  (tups:∀ b xs,H b=some (.tup xs)->H' b=some (.tup xs)) (frzs:∀ b o u,H b=some (.frz o u)->H' b=some (.frz o u)) (tbls:∀ b ps q,H b=some (.tbl ps q)->H' b=some (.tbl ps q))
  (ns:∀ m,s.heap.Ns X.env.locals m->h'.Ns X.env.locals m) (hok:HOk X.prog X.w H' h') (hg:AllBare g'):
  Inv X pins σ H' { s with heap:=h',gens:=g',drawn:=d',toks:=t' }:=by
 have neL:∀ b o,X.s₀.heap.get? b=some o->b ≠ X.env.locals:=fun b o e=>az (ay (ai e) I.ok.above)
 have neC:∀ b o,X.s₀.heap.get? b=some o->b ∉ X.ex->b ∉ ch:=fun b o e hx hb=>by
  rcases (hch b hb).1 with z | z
  ·exact hx z
  ·exact absurd (ay (ai e) z) (bx _)
 have cellK:∀ x c,X.env.cells.lookup x=some c->∀ v,s.heap.IsCell c v->h'.IsCell c v:=fun x c e v ⟨o,ho,hd⟩=>by
  have nch:c ∉ ch:=fun z=>(hch c z).2.2.1 x c e rfl
  by_cases hc:c∈X.fs
  ·obtain ⟨sl,q⟩:=slot c o (I.cne x c e) hc nch ho (I.freeC x c e)
   exact ⟨_,q,hd⟩
  ·exact ⟨o,keep c o (I.cne x c e) hc nch ho (I.freeC x c e),hd⟩
 refine ⟨I.ok,I.os,hg,⟨fun b o e n hb hx=> ?_,fun b o e n hb hx=> ?_,fun b o e n hx=> ?_,fun b o e hx=> ?_,fun b xs e=>tups b xs (I.base.tups b xs e),fun b o xs e=>frzs b o xs (I.base.frzs b o xs e),fun b ps q e=>tbls b ps q (I.base.tbls b ps q e)⟩, ?_,fun x c e=> ?_, ?_,fun x c e=> ?_,fun p hp=> ?_,hok,I.len⟩
 ·exact keep b o (neL b o e) hb (neC b o e hx) (I.base.keep b o e n hb hx) (I.base.free b o e n hx)
 ·obtain ⟨sl,e1⟩:=I.base.slot b o e n hb hx
  obtain ⟨sl',e2⟩:=slot b _ (neL b o e) hb (neC b o e hx) e1 (I.base.free b o e n hx)
  exact ⟨sl',e2⟩
 ·obtain ⟨o',e1⟩:=I.base.there b o e hx
  exact free b o' (neC b o e hx) e1 (I.base.free b o e n hx)
 ·obtain ⟨o',e1⟩:=I.base.there b o e hx
  exact there b o' (neC b o e hx) e1
 ·obtain ⟨m,hn,hl⟩:=I.loc
  refine ⟨m,ns m hn,fun i x v e1 e2 e3=> ?_⟩
  obtain ⟨u,r,l⟩:=hl i x v e1 e2 e3
  refine ⟨u,r, ?_⟩
  rcases l with l | ⟨k,c,e,z⟩
  ·exact .inl l
  ·exact .inr ⟨k,c,e,cellK x c e _ z⟩
 ·obtain ⟨v,z⟩:=I.cell x c e
  exact ⟨v,cellK x c e v z⟩
 ·obtain ⟨m,⟨o,_,_,ho,_⟩,_⟩:=I.loc
  exact free _ o (fun z=>(hch _ z).2.1 rfl) ho I.free
 ·obtain ⟨v,o,ho,hd⟩:=I.cell x c e
  exact free c o (fun z=>(hch c z).2.2.1 x c e rfl) ho (I.freeC x c e)
 ·obtain ⟨e,n,ne,nf,d⟩:=I.pin p hp
  have nch:p.1 ∉ ch:=fun z=>(hch p.1 z).2.2.2 p hp rfl
  exact ⟨keep p.1 p.2 ne nf nch e n,free p.1 p.2 nch e n,ne,nf,d⟩
theorem Inv.un {t' :Nat} (I:Inv X pins σ H s) (u:Un X.fs [] H H' s.heap h') (hok:HOk X.prog X.w H' h'):Inv X pins σ H' { s with heap:=h',toks:=t' }:=by
 obtain ⟨m,⟨o,es,ep,ho,r⟩,_⟩:=id I.loc
 obtain ⟨sl,hL⟩:=u.any ho I.free (by simp)
 exact I.step (g' :=s.gens) (d' :=s.drawn) (ch:=[]) (fun _ z=>nomatch z) (fun b o _ hb _ e n=>u.keep b o e n hb (by simp)) (fun b o _ hb _ e n=>u.slot b o e n hb (by simp)) (fun b o _ e n=>u.free b o e n (by simp)) (fun b o _ e=>u.there b o e (by simp)) u.tups u.frzs u.tbls (fun m' hm=>by
  obtain ⟨o',es',ep',ho',r'⟩:=hm
  rw [ho] at ho'; cases ho'
  exact ⟨_,es',ep',hL,r'⟩) hok I.bare
theorem Inv.call {g' :Array GenState} {t' :Nat} {d' :Drawn} {ch:List Addr} (I:Inv X pins σ H s) (u:Un (frs X.stack) ch H H' s.heap h') (hok:HOk X.prog X.w H' h') (hg:AllBare g')
  (hch:∀ b∈ch,(b∈X.ex\/X.s₀.heap.objs.size<=b)/\b ≠ X.env.locals/\(∀ x c,X.env.cells.lookup x=some c->c ≠ b)/\∀ p∈X.pn++pins,p.1 ≠ b):
  Inv X pins σ H' { s with heap:=h',gens:=g',drawn:=d',toks:=t' }:=by
 obtain ⟨m,⟨o,es,ep,ho,r⟩,_⟩:=id I.loc
 obtain ⟨sl,hL⟩:=u.any ho I.free fun z=>(hch _ z).2.1 rfl
 exact I.step (ch:=ch) hch (fun b o hL hb hc e n=>u.keep b o e n (fun z=>(ax.mp (I.stkSub b z)).elim hL hb) hc) (fun b o _ _ hc e n=>u.any e n hc) (fun b o hc e n=>u.free b o e n hc) (fun b o hc e=>u.there b o e hc) u.tups u.frzs u.tbls (fun m' hm=>by
  obtain ⟨o',es',ep',ho',r'⟩:=hm
  rw [ho] at ho'; cases ho'
  exact ⟨_,es',ep',hL,r'⟩) hok hg
theorem Inv.turned {t' :Nat} {it:Addr} (I:Inv X pins σ H s) (k:∀ b o,b ≠ it->s.heap.get? b=some o->h'.get? b=some o) (hn:H it=none) (hL:it ≠ X.env.locals)
  (h1:it∈X.ex\/X.s₀.heap.objs.size<=it) (h2:∀ x c,X.env.cells.lookup x=some c->c ≠ it) (h3:∀ p∈X.pn++pins,p.1 ≠ it):Inv X pins σ H { s with heap:=h',toks:=t' }:=by
 have nit:∀ b u,H b=some u->b ≠ it:=fun b u e z=>by rw [z,hn] at e; cases e
 refine I.step (g' :=s.gens) (d' :=s.drawn) (ch:=[it]) (fun b hb=> ?_) (fun b o _ _ hc e _=>k b o (fun z=>hc (by simp [z])) e) (fun b o _ _ hc e _=>⟨o.slots,k b o (fun z=>hc (by simp [z])) e⟩) (fun _ _ _ _ n=>n)
  (fun b o hc e=>⟨o,k b o (fun z=>hc (by simp [z])) e⟩) (fun _ _ e=>e) (fun _ _ _ e=>e) (fun _ _ _ e=>e) (fun m hm=> ?_) (fun b u e=> ?_) I.bare
 ·have e:b=it:=by simpa using hb
  subst e
  exact ⟨h1,hL,h2,h3⟩
 ·obtain ⟨o,es,ep,ho,r⟩:=hm
  exact ⟨o,es,ep,k _ o (c6 hL) ho,r⟩
 ·refine (I.hok b u e).stay (fun c v hc q=>k c v ?_ q) (fun _ q=>q) fun _ _ q=>q
  rcases hc with z | z
  ·rw [z]; exact nit b u e
  ·exact nit c _ z
theorem Inv.tok (I:Inv X pins σ H s) (t:Nat):Inv X pins σ H { s with toks:=t }:=I.un (h' :=s.heap) (t' :=t) Un.refl I.hok
theorem Inv.kept {t' :Nat} (I:Inv X pins σ H s) (k:∀ b u,s.heap.get? b=some u->h'.get? b=some u):Inv X pins σ H { s with heap:=h',toks:=t' }:=I.un (Un.kept k) (I.hok.kept k)
theorem Inv.laid {a:Addr} {o:HO} {t' :Nat} (I:Inv X pins σ H s) (k:∀ b u,s.heap.get? b=some u->h'.get? b=some u) (hp:s.heap.objs.size<=a) (new:zH X.prog X.w (upd H a o) h' a o):
  Inv X pins σ (upd H a o) { s with heap:=h',toks:=t' }:=I.un (Un.laid k hp (I.hok.fresh hp)) (I.hok.laid k hp new)
theorem Inv.write {x e:Addr} {o:HO} {t' :Nat} (I:Inv X pins σ H s) (mu:Mut (H x)) (he:e=x\/H e=some (.own x)) (k:∀ b u,b ≠ e->s.heap.get? b=some u->h'.get? b=some u) (heo:∃ u,h'.get? e=some u)
  (new:zH X.prog X.w (upd H x o) h' x o):Inv X pins σ (upd H x o) { s with heap:=h',toks:=t' }:=I.un (Un.write mu he k heo) (I.hok.write mu he k heo new)
theorem Inv.pins_of {pins' :List (Addr×Obj)} (I:Inv X pins σ H s) (h:∀ p∈pins',s.heap.get? p.1=some p.2/\H p.1=none/\p.1 ≠ X.env.locals/\p.1 ∉ X.fs/\∀ v,p.2.data ≠ .cell v):Inv X pins' σ H s:=
 ⟨I.ok,I.os,I.bare,I.base,I.loc,I.cell,I.free,I.freeC,fun p hp=>(eR.mp hp).elim (fun z=>I.pin p (bW _ z)) (h p),I.hok,I.len⟩
theorem Jd {N:List Str} (hN:N.Nodup) {i j:Nat} {x:Str} (a:N[i]? =some x) (b:N[j]? =some x):i=j:=by
 obtain ⟨h1,e1⟩:=ak.mp a
 obtain ⟨h2,e2⟩:=ak.mp b
 exact (fH hN).mp (e1.trans e2.symm)
theorem JI {M:Model} {A:Around} {E:Value->Shared->Prop} {i:Nat} {x:Str} {v:V} {u:Value} {Q:Unit->Shared->Prop} (I:Inv X pins σ H s) (hN:X.N.Nodup) (hi:X.N[i]? =some x) (hx:Loc X.env.scope x) (r:zP v u)
  (h:∀ s',Inv X pins (σ.set i (some v)) H s' ->(∃ a,cq a s.heap s'.heap/\(a=X.env.locals\/X.env.cells.lookup x=some a))->Q () s') (hf:X.fn x=true\/X.env.scope.names.lookup x=some .local:=by first | exact .inl rfl | exact .inr rfl | assumption):wpAny M A (storeName X.env x u) Q E s:=by
 obtain ⟨m,hn,hl⟩:=id I.loc
 have hcls:(X.env.scope.kind == .class || (X.env.scope.kind == .module && X.env.locals != X.env.globals))=false:=by rw [I.ok.kind]; rfl
 have hiσ:i < σ.length:=by rw [I.len]; exact (ak.mp hi).1
 have cne:=I.cne
 have tracked:∀ {a:Addr} {h' :Heap},(∃ o,s.heap.get? a=some o/\H a=none)->cq a s.heap h' ->HOk X.prog X.w H h' :=fun {a h'} ha hs b ob e=>by
  obtain ⟨_,_,hfree⟩:=ha
  refine (I.hok b ob e).stay (fun c w' hc q=>(hs.2 c ?_).trans q) (fun _ q=>q) fun _ _ q=>q
  rintro rfl
  rcases hc with rfl | hc
  ·rw [hfree] at e; cases e
  ·rw [hfree] at hc; cases hc
 rcases hx with hk | hk
 ·refine wpAny_storeName_local hk hn (fun h' hn' hs=> ?_) hcls
  obtain ⟨oL,_,_,hoL,_⟩:=id hn
  refine h _ ⟨I.ok,I.os,I.bare,⟨fun b o e n hb hx=> ?_,fun b o e n hb hx=> ?_,I.base.free,fun b o e hx=> ?_,I.base.tups,I.base.frzs,I.base.tbls⟩,⟨_,hn',fun j y v' e1 e2 e3=> ?_⟩,fun y c e=> ?_,I.free,I.freeC,fun p hp=> ?_,tracked ⟨oL,hoL,I.free⟩ hs,by simpa using I.len⟩ ⟨_,hs, .inl rfl⟩
  ·exact (hs.2 b (az (ay (ai e) I.ok.above))).trans (I.base.keep b o e n hb hx)
  ·obtain ⟨sl,e1⟩:=I.base.slot b o e n hb hx
   exact ⟨sl,(hs.2 b (az (ay (ai e) I.ok.above))).trans e1⟩
  ·obtain ⟨o',e1⟩:=I.base.there b o e hx
   exact ⟨o',(hs.2 b (az (ay (ai e) I.ok.above))).trans e1⟩
  ·by_cases hj:j=i
   ·subst hj
    rw [hi] at e1; cases e1
    rw [aZ hiσ] at e2
    cases e2
    exact ⟨u,r, .inl ⟨hk,by simp⟩⟩
   ·rw [aH (c6 hj)] at e2
    obtain ⟨u',r',q⟩:=hl j y v' e1 e2 e3
    refine ⟨u',r', ?_⟩
    rcases q with ⟨k,e⟩ | ⟨k,c,e,z⟩
    ·refine .inl ⟨k, ?_⟩
     have:y ≠ x:=fun e=>hj (Jd hN e1 (e ▸ hi))
     simp [this,e]
    ·exact .inr ⟨k,c,e,z.sameBut hs (cne y c e)⟩
  ·obtain ⟨w',z⟩:=I.cell y c e
   exact ⟨w',z.sameBut hs (cne y c e)⟩
  ·obtain ⟨e,n,ne,nf,d⟩:=I.pin p hp
   exact ⟨(hs.2 p.1 ne).trans e,n,ne,nf,d⟩
 ·have hfn:X.fn x=true:=by
   rcases hf with z | z
   ·exact z
   ·rw [z] at hk; cases hk
  obtain ⟨c,hc⟩:=I.ok.has x (.inl hk)
  obtain ⟨w',z⟩:=I.cell x c hc
  refine wpAny_storeName_cell I.ok.kind hk hc z (fun h' hc' hs=> ?_)
  obtain ⟨oc,hoc,hocd⟩:=id z
  refine h { s with heap:=h' } ⟨I.ok,I.os,I.bare,⟨fun b o e n hb hx=> ?_,fun b o e n hb hx=> ?_,I.base.free,fun b o e hx=> ?_,I.base.tups,I.base.frzs,I.base.tbls⟩,⟨m,hn.sameBut hs (c6 (cne x c hc)),fun j y v' e1 e2 e3=> ?_⟩,fun y c' e=> ?_,I.free,I.freeC,fun p hp=> ?_,tracked ⟨oc,hoc,I.freeC x c hc⟩ hs,by simpa using I.len⟩ ⟨c,hs, .inr hc⟩
  ·exact (hs.2 b (az (ay (ai e) (I.ok.cab x c hfn hc)))).trans (I.base.keep b o e n hb hx)
  ·obtain ⟨sl,e1⟩:=I.base.slot b o e n hb hx
   exact ⟨sl,(hs.2 b (az (ay (ai e) (I.ok.cab x c hfn hc)))).trans e1⟩
  ·obtain ⟨o',e1⟩:=I.base.there b o e hx
   exact ⟨o',(hs.2 b (az (ay (ai e) (I.ok.cab x c hfn hc)))).trans e1⟩
  ·by_cases hj:j=i
   ·subst hj
    rw [hi] at e1; cases e1
    rw [aZ hiσ] at e2
    cases e2
    exact ⟨u,r, .inr ⟨.inl hk,c,hc,hc'⟩⟩
   ·rw [aH (c6 hj)] at e2
    obtain ⟨u',r',q⟩:=hl j y v' e1 e2 e3
    refine ⟨u',r', ?_⟩
    rcases q with q | ⟨k,c',e,z'⟩
    ·exact .inl q
    ·refine .inr ⟨k,c',e,z'.sameBut hs ?_⟩
     rintro rfl
     exact hj (Jd hN e1 (I.ok.inj _ _ _ e hc ▸ hi))
  ·by_cases hcc:c' =c
   ·subst hcc; exact ⟨_,hc'⟩
   ·obtain ⟨w2,z2⟩:=I.cell y c' e
    exact ⟨w2,z2.sameBut hs hcc⟩
  ·obtain ⟨e,n,ne,nf,d⟩:=I.pin p hp
   refine ⟨(hs.2 p.1 ?_).trans e,n,ne,nf,d⟩
   intro q
   rw [q,hoc] at e
   have q' :oc=p.2:=aI e
   exact d w' (by rw [← q']; exact hocd)
theorem Je {M:Model} {A:Around} {E:Value->Shared->Prop} {i:Nat} {x:Str} {v:V} {u:Value} {Q:Unit->Shared->Prop} (I:Inv X pins σ H s) (hN:X.N.Nodup) (hi:X.N[i]? =some x) (hx:Loc X.env.scope x) (r:zP v u)
  (h:∀ s',Inv X pins (σ.set i (some v)) H s' ->Q () s') (hf:X.fn x=true\/X.env.scope.names.lookup x=some .local:=by first | exact .inl rfl | exact .inr rfl | assumption):wpAny M A (storeName X.env x u) Q E s:=
 JI I hN hi hx r (fun s' I' _=>h s' I') hf
theorem Inv.call' {s' :Shared} {ch:List Addr} (I:Inv X pins σ H s) (ho:s'.os=s.os) (u:Un (frs X.stack) ch H H' s.heap s'.heap) (hok:HOk X.prog X.w H' s'.heap) (hg:AllBare s'.gens)
  (hch:∀ b∈ch,(b∈X.ex\/X.s₀.heap.objs.size<=b)/\b ≠ X.env.locals/\(∀ x c,X.env.cells.lookup x=some c->c ≠ b)/\∀ p∈X.pn++pins,p.1 ≠ b):Inv X pins σ H' s' :=by
 obtain ⟨h',g',d',t',o'⟩:=s'
 have e:o' =s.os:=ho
 subst e
 exact I.call (g' :=g') (t' :=t') (d' :=d') u hok hg hch
end
abbrev XK:=Value->Option Addr->Hp->Prop
abbrev St:=List (Option V)
abbrev VK:=V->Hp->Prop
abbrev TE:=St->Hp->VK->Prop
abbrev TT:=St->Hp->(Bool->Hp->Prop)->Prop
abbrev TA:=St->Hp->(List V->Hp->Prop)->Prop
structure yB where
 nx:St->Hp->Prop
 rt:VK
 bk:St->Hp->Prop:=fun _ _=>False
 ct:St->Hp->Prop:=fun _ _=>False
abbrev TS:=yB->St->Hp->Prop
def EP (X:Cx) (pins:List (Addr×Obj)) (σ:St) (Q:VK) (u:Value) (s' :Shared):Prop:=∃ v H',Inv X pins σ H' s' /\zP v u/\Q v H'
def TP (X:Cx) (pins:List (Addr×Obj)) (σ:St) (Q:Bool->Hp->Prop) (b:Bool) (s' :Shared):Prop:=∃ H',Inv X pins σ H' s' /\Q b H'
def AP (X:Cx) (pins:List (Addr×Obj)) (σ:St) (Q:List V->Hp->Prop) (us:List Value) (s' :Shared):Prop:=∃ vs H',Inv X pins σ H' s' /\zB vs us/\Q vs H'
def SP (X:Cx) (pins:List (Addr×Obj)) (D:yB) (f:Flow) (s' :Shared):Prop:=
 match f with
 | .next=>∃ σ' H',Inv X pins σ' H' s' /\D.nx σ' H'
 | .brk=>∃ σ' H',Inv X pins σ' H' s' /\D.bk σ' H'
 | .cont=>∃ σ' H',Inv X pins σ' H' s' /\D.ct σ' H'
 | .ret u=>∃ v σ' H',Inv X pins σ' H' s' /\zP v u/\D.rt v H'
def PE (X:Cx) (e:Expr) (t:TE):Prop:=
 ∀ (pins:List (Addr×Obj)) (s:Shared) (σ:St) (H:Hp) (Q:VK),Inv X pins σ H s->t σ H Q->wpAny (model X.prog X.w) X.A (eval e X.env) (EP X pins σ Q) X.xe s
def PT (X:Cx) (e:Expr) (t:TT):Prop:=
 ∀ (pins:List (Addr×Obj)) (s:Shared) (σ:St) (H:Hp) (Q:Bool->Hp->Prop),Inv X pins σ H s->t σ H Q->wpAny (model X.prog X.w) X.A (isTrue e X.env (eval e X.env)) (TP X pins σ Q) X.xe s
def PW (X:Cx) (e:Expr) (t:TT):Prop:=
 ∀ (whole:Sem Value) (pins:List (Addr×Obj)) (s:Shared) (σ:St) (H:Hp) (Q:Bool->Hp->Prop),Inv X pins σ H s->t σ H Q->wpAny (model X.prog X.w) X.A (isTrue e X.env whole) (TP X pins σ Q) X.xe s
theorem PW.pt {X:Cx} {e:Expr} {t:TT} (h:PW X e t):PT X e t:=h _
def PA (X:Cx) (es:List Expr) (t:TA):Prop:=
 ∀ (pos:Pos) (pins:List (Addr×Obj)) (s:Shared) (σ:St) (H:Hp) (Q:List V->Hp->Prop),Inv X pins σ H s->t σ H Q->wpAny (model X.prog X.w) X.A (spliced (backTo pos (starEach es X.env))) (AP X pins σ Q) X.xe s
def PS (X:Cx) (st:Stmt) (t:TS):Prop:=
 ∀ (pins:List (Addr×Obj)) (s:Shared) (σ:St) (H:Hp) (D:yB),Inv X pins σ H s->t D σ H->wpAny (model X.prog X.w) X.A (exec st X.env) (SP X pins D) X.xe s
def PSs (X:Cx) (st:List Stmt) (t:TS):Prop:=
 ∀ (pins:List (Addr×Obj)) (s:Shared) (σ:St) (H:Hp) (D:yB),Inv X pins σ H s->t D σ H->wpAny (model X.prog X.w) X.A (execs st X.env) (SP X pins D) X.xe s
theorem thn {α:Type} {t:Sem α} {Q Q' :α->Shared->Prop} {M:Model} {A:Around} {E:Value->Shared->Prop} {s:Shared} (h:wpAny M A t Q E s) (hQ:∀ a s,Q a s->Q' a s):wpAny M A t Q' E s:=bB h hQ fun _ _ x=>x
end L2
namespace L2
open PySem PySem.Spec PyProof.Rows
section
variable {X:Cx}
theorem bin {a b:Expr} {ta tb:TE} (ha:PE X a ta) (hb:PE X b tb) {pins:List (Addr×Obj)} {s:Shared} {σ:St} {H:Hp} {R:V->V->Hp->Prop} (I:Inv X pins σ H s) (h:ta σ H fun x H1=>tb σ H1 fun y H2=>R x y H2)
  {α:Type} {Q:α->Shared->Prop} {f:Value->Value->Sem α}
  (hf:∀ v u s2 x y H2,Inv X pins σ H2 s2->zP x v->zP y u->R x y H2->wpAny (model X.prog X.w) X.A (f v u) Q X.xe s2):
  wpAny (model X.prog X.w) X.A (eval a X.env) (fun v s₁=>wpAny (model X.prog X.w) X.A (eval b X.env) (fun u s₂=>wpAny (model X.prog X.w) X.A (f v u) Q X.xe s₂) X.xe s₁) X.xe s:=by
 refine thn (ha pins s σ H _ I h) fun v s1 ⟨x,H1,I1,r1,q1⟩=> ?_
 refine thn (hb pins s1 σ H1 _ I1 q1) fun u s2 ⟨y,H2,I2,r2,q2⟩=> ?_
 exact hf v u s2 x y H2 I2 r1 r2 q2
def Yq (i:Nat):TE:=fun σ H Q=>∃ v,σ[i]? =some (some v)/\Q v H
def tC (v:V):TE:=fun _ H Q=>Q v H
theorem uA {i:Nat} {x:Str} {pos:Pos} (hN:X.N[i]? =some x) (hv:Vis X.env.scope x) (hd:(x == ("__debug__":Str))=false:=by decide) (hcd:(x == ("__classdict__":Str))=false:=by decide):PE X (.Name x pos) (Yq i):=by
 intro pins s σ H Q I h
 obtain ⟨v,e,h⟩:=h
 obtain ⟨m,hn,hl⟩:=I.loc
 obtain ⟨u,r,l⟩:=hl i x v hN e hv
 have fin:EP X pins σ Q u s:=⟨v,H,I,r,h⟩
 rcases l with ⟨hk,hm⟩ | ⟨hk,c,hc,hcell⟩
 ·exact wpAny_Name (wpAny_loadName_local I.ok.kind hk hn hm fin) hd
 ·rcases hk with hk | hk
  ·exact wpAny_Name (wpAny_loadName_cell I.ok.kind hk hc hcell fin) hd
  ·exact wpAny_Name (wpAny_loadName_free I.ok.kind hk hc hcell fin hcd) hd
theorem Yr {i j pos}:PE X (.Constant (.int i) j pos) (tC (.int i)):=fun _ _ _ H _ I h=>wpAny_Constant_int ⟨.int i,H,I.tok _,⟨_,rfl⟩,h⟩
theorem xS {b j pos}:PE X (.Constant (.bool b) j pos) (tC (.bl b)):=fun _ _ _ H _ I h=>Constant_bool ⟨.bl b,H,I,rfl,h⟩
theorem v7 {j pos}:PE X (.Constant .none j pos) (tC .non):=fun _ _ _ H _ I h=>Constant_none ⟨.non,H,I,rfl,h⟩
theorem uB {x j pos}:PE X (.Constant (.str x) j pos) (tC (.str x)):=fun _ _ _ H _ I h=>Calls.Constant_str ⟨.str x,H,I.tok _,⟨_,rfl⟩,h⟩
def Gl (X:Cx) (x:Str):Prop:=X.env.kindOf x=some .globalImplicit
theorem j9 {E:Value->Shared->Prop} {pins:List (Addr×Obj)} {s:Shared} {σ:St} {H:Hp} {x:Str} {u:Value} {pos:Pos} {Q:Value->Shared->Prop} (I:Inv X pins σ H s) (hg:Gl X x) (hm:X.mg x=some u) (h:Q u s)
  (hd:(x == ("__debug__":Str))=false:=by decide):wpAny (model X.prog X.w) X.A (eval (.Name x pos) X.env) Q E s:=
 dJ I.ok.kind hg (Calls.loadGlobal_global (by rw [I.ok.glob]; exact I.mod.glob.keeps I.bk) hm h) hd
theorem ZL {E:Value->Shared->Prop} {pins:List (Addr×Obj)} {s:Shared} {σ:St} {H:Hp} {x:Str} {u:Value} {pos:Pos} {Q:Value->Shared->Prop} (I:Inv X pins σ H s) (hg:Gl X x) (hm:X.mg x=none) (hv:bootBuiltins x=some u) (h:Q u s)
  (hn:x ≠ "__name__":=by decide) (hd:(x == ("__debug__":Str))=false:=by decide):wpAny (model X.prog X.w) X.A (eval (.Name x pos) X.env) Q E s:=by
 obtain ⟨mb,h1,h2⟩:=I.mod.blt
 exact dJ I.ok.kind hg (Calls.loadGlobal_builtin (by rw [I.ok.glob]; exact I.mod.glob.keeps I.bk) hm (by rw [I.ok.blt]; exact h1.keeps I.bk) ((h2 x hn).trans hv) h) hd
theorem uC {x:Str} {v:V} {u:Value} {pos:Pos} (hg:Gl X x) (hm:X.mg x=some u) (r:zP v u) (hd:(x == ("__debug__":Str))=false:=by decide):PE X (.Name x pos) (tC v):=
 fun _ _ _ H _ I h=>j9 I hg hm ⟨v,H,I,r,h⟩ hd
theorem uD {x:Str} {v:V} {u:Value} {pos:Pos} (hg:Gl X x) (hm:X.mg x=none) (hv:bootBuiltins x=some u) (r:zP v u) (hn:x ≠ "__name__":=by decide) (hd:(x == ("__debug__":Str))=false:=by decide):PE X (.Name x pos) (tC v):=
 fun _ _ _ H _ I h=>ZL I hg hm hv ⟨v,H,I,r,h⟩ hn hd
variable {a b:Expr} {ta tb:TE} {pos:Pos}
variable {tA tB' :TT} {rest:List Expr}
def gz (t u:TT):TT:=fun σ H Q=>t σ H fun c H1=>if c=true then u σ H1 Q else Q false H1
def tOr (t u:TT):TT:=fun σ H Q=>t σ H fun c H1=>if c=true then Q true H1 else u σ H1 Q
def gA (t:TT):TT:=fun σ H Q=>t σ H fun c H1=>Q (!c) H1
theorem qe (ha:PT X a tA):PW X (.BoolOp .And [a] pos) tA:=by
 intro wh pins s σ H Q I h
 refine isTrue_and (thn (ha pins s σ H Q I h) fun c s1 e=> ?_)
 cases c with
 | true=>exact isTrue_and_nil e
 | false=>exact e
theorem v8 (ha:PT X a tA):PW X (.BoolOp .Or [a] pos) tA:=by
 intro wh pins s σ H Q I h
 refine isTrue_or (thn (ha pins s σ H Q I h) fun c s1 e=> ?_)
 cases c with
 | false=>exact isTrue_or_nil e
 | true=>exact e
theorem v9 (ha:PT X a tA) (hb:PW X (.BoolOp .And (b :: rest) pos) tB'):PW X (.BoolOp .And (a :: b :: rest) pos) (gz tA tB'):=by
 intro wh pins s σ H Q I h
 refine isTrue_and (thn (ha pins s σ H _ I h) fun c s1 ⟨H1,I1,q1⟩=> ?_)
 cases c with
 | true=>exact hb wh pins s1 σ H1 Q I1 q1
 | false=>exact ⟨H1,I1,q1⟩
theorem xT (ha:PT X a tA) (hb:PW X (.BoolOp .Or (b :: rest) pos) tB'):PW X (.BoolOp .Or (a :: b :: rest) pos) (tOr tA tB'):=by
 intro wh pins s σ H Q I h
 refine isTrue_or (thn (ha pins s σ H _ I h) fun c s1 ⟨H1,I1,q1⟩=> ?_)
 cases c with
 | true=>exact ⟨H1,I1,q1⟩
 | false=>exact hb wh pins s1 σ H1 Q I1 q1
theorem va (ha:PT X a tA):PT X (.UnaryOp .Not a pos) (gA tA):=by
 intro pins s σ H Q I h
 exact isTrue_not (ha pins s σ H (fun c H1=>Q (!c) H1) I h)
def xU (ta tb:TE):TE:=fun σ H Q=>ta σ H fun x H1=>∃ c,x= .bl c/\if c=true then tb σ H1 Q else Q (.bl false) H1
def xV (ta:TE):TE:=fun σ H Q=>ta σ H fun x H1=>∃ c,x= .bl c/\Q (.bl (!c)) H1
theorem vb {op} {t:TE} (h:PE X a t):PE X (.BoolOp op [a] pos) t:=fun pins s σ H Q I hw=>BoolOp_one (h pins s σ H Q I hw)
theorem vc (ha:PE X a ta) (hb:PE X (.BoolOp .And (b :: rest) pos) tb):PE X (.BoolOp .And (a :: b :: rest) pos) (xU ta tb):=by
 intro pins s σ H Q I h
 refine BoolOp_and (thn (ha pins s σ H _ I h) fun v s1 ⟨x,H1,I1,r1,q1⟩=> ?_)
 obtain ⟨c,rfl,q1⟩:=q1
 cases r1
 refine bf ?_
 cases c with
 | true=>exact hb pins s1 σ H1 Q I1 q1
 | false=>exact ⟨.bl false,H1,I1,rfl,q1⟩
theorem vd (ha:PE X a ta):PE X (.UnaryOp .Not a pos) (xV ta):=by
 intro pins s σ H Q I h
 refine UnaryOp_ (thn (ha pins s σ H _ I h) fun v s1 ⟨x,H1,I1,r1,q1⟩=> ?_)
 obtain ⟨c,rfl,q1⟩:=q1
 cases r1
 exact not_of (bf ⟨.bl (!c),H1,I1,rfl,q1⟩)
def tIf (t:TT) (ta tb:TE):TE:=fun σ H Q=>t σ H fun c H1=>if c=true then ta σ H1 Q else tb σ H1 Q
theorem yC {c:Expr} (hc:PT X c tA) (ha:PE X a ta) (hb:PE X b tb):PE X (.IfExp c a b pos) (tIf tA ta tb):=by
 intro pins s σ H Q I h
 refine wpAny_IfExp (thn (hc pins s σ H _ I h) fun d s1 ⟨H1,I1,q1⟩=> ?_)
 cases d with
 | true=>exact ha pins s1 σ H1 Q I1 q1
 | false=>exact hb pins s1 σ H1 Q I1 q1
end
end L2
namespace L2
open PySem PySem.Spec PyProof.Rows
def SqL (K:ac) (H:Hp) (a:Addr) (xs:List V):Prop:=
 Rd H a (.lst xs)\/
  ∃ (o:Obj) (its:Array Value) (n:Nat),K.lookup a=some o/\o.cls= .type "list"/\o.dict=none/\o.data= .seq its n/\its.size<=sizeLine/\zB xs its.toList
def SqT (K:ac) (H:Hp) (a:Addr) (xs:List V):Prop:=
 Rd H a (.tup xs)\/
  ∃ (o:Obj) (its:Array Value) (n:Nat),K.lookup a=some o/\o.cls= .type "tuple"/\o.data= .seq its n/\its.size<=sizeLine/\zB xs its.toList
def gB:Value->Option V
 | .none=>some .non
 | .bool b=>some (.bl b)
 | .int i _=>some (.int i)
 | .str x _=>some (.str x)
 | .bytes b _=>some (.byt b)
 | .float b _=>some (.flt b)
 | .ref a=>some (.ref a)
 | .type n=>some (.ty n)
 | _=>none
theorem zP.abs {x:V} {u:Value} (r:zP x u):gB u=some x:=by
 cases x with
 | non=>cases r; rfl
 | bl _=>cases r; rfl
 | int _=>obtain ⟨t,rfl⟩:=r; rfl
 | str _=>obtain ⟨t,rfl⟩:=r; rfl
 | byt _=>obtain ⟨t,rfl⟩:=r; rfl
 | flt _=>obtain ⟨t,rfl⟩:=r; rfl
 | ref _=>cases r; rfl
 | ty _=>cases r; rfl
theorem zP.inj {x y:V} {u:Value} (r:zP x u) (q:zP y u):x=y:=aI (r.abs.symm.trans q.abs)
theorem zB.inj:∀ {xs ys:List V} {us:List Value},zB xs us->zB ys us->xs=ys
 | _,_,_, .nil, .nil=>rfl
 | _,_,_, .cons r t, .cons r' t' =>by rw [r.inj r',zB.inj t t']
section
variable {X:Cx} {pins:List (Addr×Obj)} {σ:St} {H:Hp} {s:Shared} {a:Addr} {xs ys:List V}
theorem SqL.of {K:ac} (h:H a=some (.lst xs)):SqL K H a xs:= .inl (.inl h)
theorem SqT.of {K:ac} (h:H a=some (.tup xs)):SqT K H a xs:= .inl (.inl h)
theorem Inv.list (I:Inv X pins σ H s) (h:SqL X.K H a xs):∃ its:List Value,zB xs its/\PlainL s.heap a its.toArray/\xs.length<=sizeLine:=by
 rcases h with h | ⟨o,its,n,hk,hc,hd,hs,hz,r⟩
 ·obtain ⟨z,its,n,r,e⟩:=h.ok I.hok
  exact ⟨its,r,⟨_,n,e,rfl,rfl,rfl⟩,z⟩
 ·refine ⟨its.toList,r,⟨o,n,I.kIn a o hk,hc,hd,by simpa using hs⟩, ?_⟩
  have e:=r.length
  simp only [cH] at e
  omega
theorem Inv.tuple (I:Inv X pins σ H s) (h:SqT X.K H a xs):∃ its:List Value,zB xs its/\IsTup s.heap a its.toArray/\xs.length<=sizeLine:=by
 rcases h with h | ⟨o,its,n,hk,hc,hs,hz,r⟩
 ·obtain ⟨z,its,r,p,_⟩:=h.ok I.hok
  exact ⟨its,r,p,z⟩
 ·refine ⟨its.toList,r,⟨o,I.kIn a o hk,hc,n,by simpa using hs⟩, ?_⟩
  have e:=r.length
  simp only [cH] at e
  omega
theorem Inv.list_inj (I:Inv X pins σ H s) (h:SqL X.K H a xs) (h' :SqL X.K H a ys):xs=ys:=by
 obtain ⟨its,r,⟨o,n,e,_,_,d⟩,_⟩:=I.list h
 obtain ⟨its',r',⟨o',n',e',_,_,d'⟩,_⟩:=I.list h'
 rw [e] at e'; cases e'
 rw [d] at d'
 injection d' with d1 _
 have:its=its' :=by simpa using congrArg Array.toList d1
 subst this
 exact r.inj r'
theorem Inv.tuple_inj (I:Inv X pins σ H s) (h:SqT X.K H a xs) (h' :SqT X.K H a ys):xs=ys:=by
 obtain ⟨its,r,⟨o,e,_,n,d⟩,_⟩:=I.tuple h
 obtain ⟨its',r',⟨o',e',_,n',d'⟩,_⟩:=I.tuple h'
 rw [e] at e'; cases e'
 rw [d] at d'
 injection d' with d1 _
 have:its=its' :=by simpa using congrArg Array.toList d1
 subst this
 exact r.inj r'
end
abbrev Cx.wish (X:Cx) (E:Value->Shared->Prop):Cx:={ X with xe:=E }
abbrev Cx.nox (X:Cx):Cx:=X.wish fun _ _=>False
theorem Cx.Ok.wish {X:Cx} (ok:X.Ok) (E:Value->Shared->Prop):(X.wish E).Ok:=
 ⟨ok.mod,ok.kind,ok.glob,ok.blt,ok.above,ok.inj,ok.has,ok.cab,ok.hd,ok.frames,ok.stk,ok.exf,ok.bs,ok.bsz,ok.noex,ok.exfs,ok.funs,ok.frf⟩
theorem Cx.Ok.unwish {X:Cx} {E:Value->Shared->Prop} (ok:(X.wish E).Ok):X.Ok:=
 ⟨ok.mod,ok.kind,ok.glob,ok.blt,ok.above,ok.inj,ok.has,ok.cab,ok.hd,ok.frames,ok.stk,ok.exf,ok.bs,ok.bsz,ok.noex,ok.exfs,ok.funs,ok.frf⟩
section
variable {X:Cx} {pins:List (Addr×Obj)} {σ:St} {H:Hp} {s:Shared} {E:Value->Shared->Prop}
theorem Inv.wish (I:Inv X pins σ H s) (E:Value->Shared->Prop):Inv (X.wish E) pins σ H s:=⟨I.ok.wish E,I.os,I.bare,I.base,I.loc,I.cell,I.free,I.freeC,I.pin,I.hok,I.len⟩
theorem Inv.unwish (I:Inv (X.wish E) pins σ H s):Inv X pins σ H s:=⟨I.ok.unwish,I.os,I.bare,I.base,I.loc,I.cell,I.free,I.freeC,I.pin,I.hok,I.len⟩
theorem SP.unwish {D:yB} {f:Flow} {s' :Shared} (h:SP (X.wish E) pins D f s'):SP X pins D f s' :=by
 cases f with
 | next=>obtain ⟨σ',H',I,q⟩:=h; exact ⟨σ',H',I.unwish,q⟩
 | brk=>obtain ⟨σ',H',I,q⟩:=h; exact ⟨σ',H',I.unwish,q⟩
 | cont=>obtain ⟨σ',H',I,q⟩:=h; exact ⟨σ',H',I.unwish,q⟩
 | ret u=>obtain ⟨v,σ',H',I,r,q⟩:=h; exact ⟨v,σ',H',I.unwish,r,q⟩
theorem PSs.nox {st:List Stmt} {t:TS} (h:PSs X.nox st t):PSs X st t:=fun pins s σ H D I hw=>
 bB (h pins s σ H D (I.wish _) hw) (fun _ _ q=>q.unwish) fun _ _ z=>bg z
end
section
variable {X:Cx} {st:Stmt} {rest:List Stmt} {t u:TS} {e:Expr} {te:TE} {pos:Pos}
def xW:TS:=fun D σ H=>D.nx σ H
def gC (t u:TS):TS:=fun D σ H=>t { D with nx:=u D } σ H
theorem qf:PSs X [] xW:=fun _ _ σ H _ I h=>cx ⟨σ,H,I,h⟩
theorem yD (h1:PS X st t) (h2:PSs X rest u):PSs X (st :: rest) (gC t u):=by
 intro pins s σ H D I h
 refine wpAny_execs_cons (thn (h1 pins s σ H { D with nx:=u D } I h) fun f s1 q=> ?_)
 cases f with
 | next=>
  obtain ⟨σ',H',I',q⟩:=q
  exact h2 pins s1 σ' H' D I' q
 | ret v=>exact q
 | brk=>exact q
 | cont=>exact q
theorem Jf (h1:PS X st t):PSs X [st] t:=by
 intro pins s σ H D I h
 refine wpAny_execs_cons (thn (h1 pins s σ H D I h) fun f s1 q=> ?_)
 cases f with
 | next=>exact cx q
 | ret v=>exact q
 | brk=>exact q
 | cont=>exact q
theorem Inv.quiet {pins:List (Addr×Obj)} {σ:St} {H:Hp} {s:Shared} (I:Inv X pins σ H s):interactive X.env=false:=by simp [interactive,I.ok.kind]
def xX (te:TE):TS:=fun D σ H=>te σ H fun _ H1=>D.nx σ H1
theorem uE (he:PE X e te) (hs:swapsWith e none pos.line X.env=pure false:=by rfl):PS X (.Expr e pos) (xX te):=by
 intro pins s σ H D I h
 exact wpAny_Expr_any (thn (he pins s σ H _ I h) fun v s1 ⟨x,H1,I1,r1,q1⟩=>⟨σ,H1,I1,q1⟩) I.quiet hs
def kR (te:TE):TS:=fun D σ H=>te σ H D.rt
theorem uF (he:PE X e te):PS X (.Return (some e) pos) (kR te):=by
 intro pins s σ H D I h
 exact wpAny_Return_some (thn (he pins s σ H _ I h) fun v s1 ⟨x,H1,I1,r1,q1⟩=>⟨x,σ,H1,I1,r1,q1⟩)
def gD (c:TT) (t u:TS):TS:=fun D σ H=>c σ H fun b H1=>if b=true then t D σ H1 else u D σ H1
theorem xY {c:Expr} {a b:List Stmt} {tc:TT} (hc:PT X c tc) (ha:PSs X a t) (hb:PSs X b u):PS X (.If c a b pos) (gD tc t u):=by
 intro pins s σ H D I h
 refine wpAny_If (thn (hc pins s σ H _ I h) fun d s1 ⟨H1,I1,q1⟩=> ?_)
 cases d with
 | true=>exact ha pins s1 σ H1 D I1 q1
 | false=>exact hb pins s1 σ H1 D I1 q1
end
abbrev TG:=V->St->Hp->(St->Hp->Prop)->Prop
abbrev TGs:=List V->St->Hp->(St->Hp->Prop)->Prop
def PG (X:Cx) (target:Expr) (t:TG):Prop:=
 ∀ (pins:List (Addr×Obj)) (s:Shared) (σ:St) (H:Hp) (v:V) (u:Value) (Q:St->Hp->Prop),Inv X pins σ H s->zP v u->t v σ H Q->
  wpAny (model X.prog X.w) X.A (assign target X.env u) (fun _ s' =>∃ σ' H',Inv X pins σ' H' s' /\Q σ' H') X.xe s
def PGs (X:Cx) (ts:List Expr) (t:TGs):Prop:=
 ∀ (pins:List (Addr×Obj)) (s:Shared) (σ:St) (H:Hp) (vs:List V) (us:List Value) (Q:St->Hp->Prop),Inv X pins σ H s->zB vs us->t vs σ H Q->
  wpAny (model X.prog X.w) X.A (assignInOrder ((assignEach ts X.env).map (·.2)) us) (fun _ s' =>∃ σ' H',Inv X pins σ' H' s' /\Q σ' H') X.xe s
section
variable {X:Cx} {pos:Pos}
def JJ (i:Nat):TG:=fun v σ H Q=>Q (σ.set i (some v)) H
theorem zz {i:Nat} {x:Str} (hN:X.N.Nodup) (hi:X.N[i]? =some x) (hx:Loc X.env.scope x) (hf:X.fn x=true\/X.env.scope.names.lookup x=some .local:=by first | exact .inl rfl | exact .inr rfl | assumption):PG X (.Name x pos) (JJ i):=by
 intro pins s σ H v u Q I r h
 exact wpAny_assign_Name (Je I hN hi hx r (fun s' I' =>⟨_,H,I',h⟩) hf)
def xZ:TGs:=fun vs σ H Q=>vs=[]/\Q σ H
def uG (t:TG) (u:TGs):TGs:=fun vs σ H Q=>∃ v r,vs=v :: r/\t v σ H fun σ' H' =>u r σ' H' Q
theorem wD:PGs X [] xZ:=by
 intro pins s σ H vs us Q I r h
 obtain ⟨e,h⟩:=h
 subst e
 cases r
 exact assignInOrder_nil ⟨σ,H,I,h⟩
theorem ZE {e:Expr} {es:List Expr} {t:TG} {u:TGs} (h1:PG X e t) (h2:PGs X es u)
  (hs:(assignEach (e :: es) X.env).map (·.2)=assign e X.env :: (assignEach es X.env).map (·.2):=by rfl):PGs X (e :: es) (uG t u):=by
 intro pins s σ H vs us Q I r h
 obtain ⟨v,vr,e1,h⟩:=h
 subst e1
 cases r with
 | cons r rr=>
  rw [hs]
  refine assignInOrder_cons (thn (h1 pins s σ H _ _ _ I r h) fun _ s1 ⟨σ1,H1,I1,q1⟩=> ?_)
  exact h2 pins s1 σ1 H1 _ _ Q I1 rr q1
def X0 (K:ac) (n:Nat) (t:TGs):TG:=fun v σ H Q=>∃ a xs,v= .ref a/\SqT K H a xs/\xs.length=n/\t xs σ H Q
theorem uH {es:List Expr} {k:Nat} {t:TGs} {n:Nat} (hc:X.calm=true) (h:PGs X es t)
  (hn:(assignEach es X.env).length=n:=by rfl) (hst:(assignEach es X.env).findIdx? (·.1)=none:=by rfl):PG X (.Tuple es k pos) (X0 X.K n t):=by
 intro pins s σ H v u Q I r hw
 obtain ⟨a,xs,e1,hq,hl,hw⟩:=hw
 subst e1
 cases r
 obtain ⟨its,rv,ht,hz⟩:=I.tuple hq
 refine assign_Tuple_tuple (I.ok.hd hc) ht (by simp [hn,← hl,rv.length]) hst fun h' hx=> ?_
 have I1:Inv X pins σ H { s with heap:=h' }:=I.kept (t' :=s.toks) fun b o e=>hx b o (az (ai e)) e
 exact h pins _ σ H xs _ Q I1 (by simpa using rv) hw
def kS (te:TE) (g:TG):TS:=fun D σ H=>te σ H fun x H1=>g x σ H1 D.nx
theorem ve {tg e:Expr} {te:TE} {g:TG} (he:PE X e te) (hg:PG X tg g) (hs:swapsWithSole [tg] e pos.line X.env=pure false:=by rfl) (hw:swappedStores [tg] e X.env=pure none:=by rfl)
  (h1:(assignEach [tg] X.env).map (·.2)=[assign tg X.env]:=by rfl):PS X (.Assign [tg] e pos) (kS te g):=by
 intro pins s σ H D I h
 refine wpAny_Assign_stores (thn (he pins s σ H _ I h) fun v s1 ⟨x,H1,I1,r1,q1⟩=> ?_) hs hw
 rw [h1]
 exact thn (hg pins s1 σ H1 x v _ I1 r1 q1) fun _ s2 q=>q
theorem Ys {i:Nat} {x:Str} {e:Expr} {te:TE} {pos' :Pos} (hN:X.N.Nodup) (hi:X.N[i]? =some x) (hx:Loc X.env.scope x) (he:PE X e te) (hs:swapsWith e (some (.Name x pos')) pos.line X.env=pure false:=by rfl) (hf:X.fn x=true\/X.env.scope.names.lookup x=some .local:=by first | exact .inl rfl | exact .inr rfl | assumption):
  PS X (.Assign [.Name x pos'] e pos) (kS te (JJ i)):=by
 intro pins s σ H D I h
 refine wpAny_Assign_Name (thn (he pins s σ H _ I h) fun v s1 ⟨y,H1,I1,r1,q1⟩=> ?_) hs
 exact Je I1 hN hi hx r1 (fun s2 I2=>⟨_,H1,I2,q1⟩) hf
end
section
variable {X:Cx} {pos:Pos}
def vf (c:TT) (tb:TS):TS:=fun D σ H=>∃ W:Nat->St->Hp->Prop,(∃ m,W m σ H)/\∀ m σ H,W m σ H->
 c σ H fun b H1=>if b=true then ∃ N:St->Hp->Prop,(∀ σ' H',N σ' H' ->∃ m',m' < m/\W m' σ' H')/\tb { D with nx:=N,ct:=N,bk:=D.nx } σ H1 else D.nx σ H1
theorem yE {c:Expr} {body:List Stmt} {tc:TT} {tb:TS} (hp:PassesOwn (model X.prog X.w) X.A X.env X.xe) (hc:PT X c tc) (hb:PSs X body tb):PS X (.While c body [] pos) (vf tc tb):=by
 intro pins s σ H D I h
 obtain ⟨W,⟨m0,w0⟩,turn⟩:=h
 refine wpAny_While (codeAny_whileLoop (fun n s' =>∃ σ' H',Inv X pins σ' H' s' /\W n σ' H') ?_ m0 ⟨σ,H,I,w0⟩)
 rintro n s1 ⟨σ1,H1,I1,w1⟩
 refine bS hp (thn (hc pins s1 σ1 H1 _ I1 (turn n σ1 H1 w1)) fun b s2 ⟨H2,I2,q2⟩=> ?_)
 cases b with
 | true=>
  obtain ⟨N,hN,q2⟩:=q2
  rw [if_pos rfl]
  refine bS hp (thn (hb pins s2 σ1 H2 _ I2 q2) fun f s3 q3=> ?_)
  cases f with
  | next=>
   obtain ⟨σ3,H3,I3,n3⟩:=q3
   obtain ⟨m',hm,w3⟩:=hN σ3 H3 n3
   exact ⟨m',hm,σ3,H3,I3,w3⟩
  | cont=>
   obtain ⟨σ3,H3,I3,n3⟩:=q3
   obtain ⟨m',hm,w3⟩:=hN σ3 H3 n3
   exact ⟨m',hm,σ3,H3,I3,w3⟩
  | brk=>exact q3
  | ret v=>exact q3
 | false=>
  rw [if_neg aB]
  exact cx ⟨σ1,H2,I2,q2⟩
end
structure It where
 go:Nat->Hp->Prop
 yld:Nat->Hp->V->Hp->Prop
 stop:Nat->Hp->Prop
def ww (X:Cx) (pins:List (Addr×Obj)) (H:Hp) (b:Addr):Prop:=
 H b=none/\b ≠ X.env.locals/\b ∉ X.fs/\(b∈X.ex\/X.s₀.heap.objs.size<=b)/\(∀ x c,X.env.cells.lookup x=some c->c ≠ b)/\∀ p∈X.pn++pins,p.1 ≠ b
theorem Inv.fpOk {X:Cx} {pins:List (Addr×Obj)} {σ:St} {H H' :Hp} {s:Shared} {b:Addr} (I:Inv X pins σ H s) (hb:s.heap.objs.size<=b) (hn:H' b=none):ww X pins H' b:=by
 refine ⟨hn,cW (ay I.lt hb),I.nofs hb, .inr (aE I.sz hb),fun x c e z=> ?_,fun p hp z=> ?_⟩
 ·obtain ⟨v,q⟩:=I.cell x c e
  exact absurd (ay q.lt (by rw [z]; exact hb)) (bx _)
 ·exact absurd (ay (ai (I.pin p hp).1) (by rw [z]; exact hb)) (bx _)
structure uI (P:Program) (w:World) (K:ac) (tg:Expr) (J:It) (fp:List Addr) (it:Addr) (tn:Nat->Heap->Prop):Prop where
 mem:it∈fp
 obj:∀ i h,tn i h->∀ b∈fp,∃ o,h.get? b=some o/\∀ v,o.data ≠ .cell v
 keep:∀ i h h',tn i h->(∀ b∈fp,∀ o,h.get? b=some o->h'.get? b=some o)->tn i h'
 item:∀ (X:Cx),X.prog=P->X.w=w->X.K=K->X.calm=true->∀ (i:Nat) (pins:List (Addr×Obj)) (s:Shared) (σ:St) (H:Hp) (E:Value->Shared->Prop),Inv X pins σ H s->(∀ b∈fp,ww X pins H b)->tn i s.heap->J.go i H->
  wpAny (model P w) X.A (pyNext (.ref it)) (fun r s1=>∃ u,r=some u/\
   wpAny (model P w) X.A (letOwnedTupleGo tg (.ref it) u) (fun _ s2=>∃ x H',Inv X pins σ H' s2/\zP x u/\J.yld i H x H' /\tn (i+1) s2.heap/\∀ b∈fp,H' b=none) E s1) E s
 done:∀ (X:Cx),X.prog=P->X.w=w->X.K=K->X.calm=true->∀ (i:Nat) (pins:List (Addr×Obj)) (s:Shared) (σ:St) (H:Hp) (E:Value->Shared->Prop),Inv X pins σ H s->(∀ b∈fp,ww X pins H b)->tn i s.heap->J.stop i H->
  wpAny (model P w) X.A (pyNext (.ref it)) (fun r s1=>r=none/\Inv X pins σ H s1) E s
 self:∀ (A:Around) (i:Nat) (s:Shared) (Q:Value->Shared->Prop) (E:Value->Shared->Prop),tn i s.heap->Q (.ref it) s->wpAny (model P w) A (pyIter (.ref it)) Q E s
abbrev TI:=St->Hp->(It->Hp->Prop)->Prop
def PIE (X:Cx) (pins:List (Addr×Obj)) (σ:St) (tg:Expr) (R:It->Hp->Prop) (itv:Value) (s2:Shared):Prop:=
 ∃ (it:Addr) (fp:List Addr) (tn:Nat->Heap->Prop) (J:It) (H' :Hp),itv= .ref it/\Inv X pins σ H' s2/\uI X.prog X.w X.K tg J fp it tn/\tn 0 s2.heap/\(∀ b∈fp,ww X pins H' b)/\R J H'
def PI (X:Cx) (tg iter:Expr) (wi:TI):Prop:=
 ∀ (pins:List (Addr×Obj)) (s:Shared) (σ:St) (H:Hp) (R:It->Hp->Prop),Inv X pins σ H s->wi σ H R->
  wpAny (model X.prog X.w) X.A (eval iter X.env) (fun v s1=>wpAny (model X.prog X.w) X.A (pyIter v) (PIE X pins σ tg R) X.xe s1) X.xe s
theorem WO {M:Model} {A:Around} {E:Value->Shared->Prop} {s:Shared} {tg:Expr} {it:Addr} {u:Value} {o:Obj} {n:String} {vs:Array Value} {Q:Unit->Shared->Prop} (ho:s.heap.get? it=some o) (hc:o.cls= .type n) (hd:o.data= .fields vs)
  (hn:["enumerate","zip","dict_itemiterator","dict_reverseitemiterator","odict_iterator","itertools.zip_longest","itertools.pairwise"].contains n=false) (hQ:Q () s):wpAny M A (letOwnedTupleGo tg (.ref it) u) Q E s:=by
 unfold letOwnedTupleGo
 cases tg <;> first
  | exact aq hQ
  | (cases u <;> first
    | exact aq hQ
    | (refine aa (wpAny_load ho ?_); rw [hc,hd]; show wpAny M A (if (["enumerate","zip","dict_itemiterator","dict_reverseitemiterator","odict_iterator","itertools.zip_longest","itertools.pairwise"].contains n && vs[0]? == some (rawInt _))=true then _ else _) Q E s; rw [if_neg (by intro h; rw [hn,Bool.false_and] at h; cases h)]; exact aq hQ))
def Itl (K:ac) (a:Addr):It:=
 ⟨fun i H=>∃ xs x,SqL K H a xs/\xs[i]? =some x,fun i H x H' =>H' =H/\∀ xs,SqL K H a xs->xs[i]? =some x,fun i H=>∃ xs,SqL K H a xs/\xs.length<=i⟩
def Itt (K:ac) (a:Addr):It:=
 ⟨fun i H=>∃ xs x,SqT K H a xs/\xs[i]? =some x,fun i H x H' =>H' =H/\∀ xs,SqT K H a xs->xs[i]? =some x,fun i H=>∃ xs,SqT K H a xs/\xs.length<=i⟩
def Itr (lo:Int) (n:Nat):It:=⟨fun i _=>i < n,fun i H x H' =>H' =H/\x= .int (lo+i),fun i _=>n<=i⟩
theorem uJ {P:Program} {w:World} {K:ac} {tg:Expr} (a it:Addr):uI P w K tg (Itl K a) [it] it (fun i h=>h.IsListIter it a i) where
 mem:=by simp
 obj:=fun i h st b hb=>by
  have e:b=it:=by simpa using hb
  subst e
  obtain ⟨o,e,c,d⟩:=st
  exact ⟨o,e,fun v z=>by rw [d] at z; cases z⟩
 keep:=fun i h h' st k=>st.at fun o e=>k it (by simp) o e
 item:=by
  intro X hP hw hK hc i pins s σ H E I hf st hg
  subst hP hw hK
  obtain ⟨xs,x,hq,hx⟩:=hg
  obtain ⟨its,rv,p,hz⟩:=I.list hq
  obtain ⟨u,hu,ru⟩:=rv.get hx
  obtain ⟨f0,f1,f2,f3,f4,f5⟩:=hf it (by simp)
  refine wpAny_pyNext_list_item st p.isList (x:=u) (by simpa using hu) fun h' st' sb=> ?_
  have I1:Inv X pins σ H { s with heap:=h' }:=I.turned (t' :=s.toks) (fun b o hb e=>(sb.2 b hb).trans e) f0 f1 f3 f4 f5
  obtain ⟨o,e,c,d⟩:=id st'
  exact ⟨u,rfl,WO (s:={ s with heap:=h' }) e c d (by decide) ⟨x,H,I1,ru,⟨rfl,fun ys hy=>by rw [I.list_inj hy hq]; exact hx⟩,st',fun b hb=>(hf b hb).1⟩⟩
 done:=by
  intro X hP hw hK hc i pins s σ H E I hf st hg
  subst hP hw hK
  obtain ⟨xs,hq,hx⟩:=hg
  obtain ⟨its,rv,p,hz⟩:=I.list hq
  obtain ⟨f0,f1,f2,f3,f4,f5⟩:=hf it (by simp)
  have hl:=rv.length
  exact wpAny_pyNext_list_end (I.ok.hd hc) st p.isList (by simp; omega) fun h' eb=>⟨rfl,I.turned (t' :=s.toks) (fun b o hb e=>eb b o hb e) f0 f1 f3 f4 f5⟩
 self:=fun _ _ _ _ _ st h=>wpAny_pyIter_listiter st h
theorem WP {P:Program} {w:World} {K:ac} {tg:Expr} (a it:Addr):uI P w K tg (Itt K a) [it] it (fun i h=>h.IsTupleIter it a i) where
 mem:=by simp
 obj:=fun i h st b hb=>by
  have e:b=it:=by simpa using hb
  subst e
  obtain ⟨o,e,c,d⟩:=st
  exact ⟨o,e,fun v z=>by rw [d] at z; cases z⟩
 keep:=fun i h h' st k=>st.at fun o e=>k it (by simp) o e
 item:=by
  intro X hP hw hK hc i pins s σ H E I hf st hg
  subst hP hw hK
  obtain ⟨xs,x,hq,hx⟩:=hg
  obtain ⟨its,rv,p,hz⟩:=I.tuple hq
  obtain ⟨u,hu,ru⟩:=rv.get hx
  obtain ⟨f0,f1,f2,f3,f4,f5⟩:=hf it (by simp)
  refine wpAny_pyNext_tuple_item st (show s.heap.IsTuple a its.toArray from p) (x:=u) (by simpa using hu) fun h' st' sb=> ?_
  have I1:Inv X pins σ H { s with heap:=h' }:=I.turned (t' :=s.toks) (fun b o hb e=>(sb.2 b hb).trans e) f0 f1 f3 f4 f5
  obtain ⟨o,e,c,d⟩:=id st'
  exact ⟨u,rfl,WO (s:={ s with heap:=h' }) e c d (by decide) ⟨x,H,I1,ru,⟨rfl,fun ys hy=>by rw [I.tuple_inj hy hq]; exact hx⟩,st',fun b hb=>(hf b hb).1⟩⟩
 done:=by
  intro X hP hw hK hc i pins s σ H E I hf st hg
  subst hP hw hK
  obtain ⟨xs,hq,hx⟩:=hg
  obtain ⟨its,rv,p,hz⟩:=I.tuple hq
  obtain ⟨f0,f1,f2,f3,f4,f5⟩:=hf it (by simp)
  have hl:=rv.length
  exact wpAny_pyNext_tuple_end (I.ok.hd hc) st (show s.heap.IsTuple a its.toArray from p) (by simp; omega) fun h' eb=>⟨rfl,I.turned (t' :=s.toks) (fun b o hb e=>eb b o hb e) f0 f1 f3 f4 f5⟩
 self:=fun _ _ _ _ _ st h=>wpAny_pyIter_tupleiter st h
theorem WQ {P:Program} {w:World} {K:ac} {tg:Expr} (it:Addr) (lo:Int) (n:Nat):uI P w K tg (Itr lo n) [it] it (fun i h=>IsRangeIter h it (lo+(i:Nat)*1) ((n:Int) - (i:Nat)) 1) where
 mem:=by simp
 obj:=fun i h st b hb=>by
  have e:b=it:=by simpa using hb
  subst e
  exact ⟨_,st,fun v z=>by
   have z' :Data.fields _=Data.cell v:=z
   cases z'⟩
 keep:=fun i h h' st k=>k it (by simp) _ st
 item:=by
  intro X hP hw hK hc i pins s σ H E I hf st hg
  subst hP hw hK
  obtain ⟨f0,f1,f2,f3,f4,f5⟩:=hf it (by simp)
  have W:=Walks.range (prog:=X.prog) (w:=X.w) (I.ok.hd hc) it lo 1 n
  refine W.item i s _ _ hg st fun v h' tk hv st' kk=> ?_
  obtain ⟨t,rfl⟩:=hv
  have I1:Inv X pins σ H { s with heap:=h',toks:=tk }:=I.turned (fun b o hb e=>kk b o (by simpa using hb) e) f0 f1 f3 f4 f5
  refine ⟨_,rfl,WO (s:={ s with heap:=h',toks:=tk }) (n:="range_iterator") st' rfl rfl (by decide) ⟨.int (lo+i),H,I1,⟨t, ?_⟩,⟨rfl,rfl⟩,st',fun b hb=>(hf b hb).1⟩⟩
  rw [Int.mul_one]
 done:=by
  intro X hP hw hK hc i pins s σ H E I hf st hg
  subst hP hw hK
  obtain ⟨f0,f1,f2,f3,f4,f5⟩:=hf it (by simp)
  exact wpAny_pyNext_range_end (I.ok.hd hc) st (by have:n<=i:=hg; omega) fun h' eb=>⟨rfl,I.turned (t' :=s.toks) (fun b o hb e=>eb b o hb e) f0 f1 f3 f4 f5⟩
 self:=fun _ _ _ _ _ st h=>wpAny_pyIter_rangeiter st h
end L2
namespace L2
open PySem PySem.Spec PyProof.Rows
section
variable {X:Cx} {tg:Expr}
theorem wZ {pins:List (Addr×Obj)} {σ:St} {H:Hp} {s:Shared} {R:It->Hp->Prop} {E:Value->Shared->Prop} {lo hi:Int} {t u v:Tok} {tk:Nat} (I:Inv X pins σ H s) (h1: -(2 ^ 62)<=lo) (h2:lo < 2 ^ 62) (h3: -(2 ^ 62)<=hi) (h4:hi < 2 ^ 62)
  (q:R (Itr lo (hi - lo).toNat) H):wpAny (model X.prog X.w) X.A (pyIter (.ref s.heap.objs.size)) (PIE X pins σ tg R) E { s with heap:=s.heap.push { cls:= .type "range",data:= .fields #[.int lo t, .int hi u, .int 1 v] },toks:=tk }:=by
 refine wpAny_pyIter_range (IsRange.new ..) (small_one h1 h2 h3 h4) ?_
 have I1:Inv X pins σ H { s with heap:=s.heap.push { cls:= .type "range",data:= .fields #[.int lo t, .int hi u, .int 1 v] },toks:=tk }:=I.kept fun b o e=>ae _ e
 refine ⟨(s.heap.push { cls:= .type "range",data:= .fields #[.int lo t, .int hi u, .int 1 v] }).objs.size,[(s.heap.push { cls:= .type "range",data:= .fields #[.int lo t, .int hi u, .int 1 v] }).objs.size],_,_,H,rfl,
  I1.kept (t' :=tk) fun b o e=>ae _ e,WQ _ lo (hi - lo).toNat, ?_,fun b hb=> ?_,q⟩
 ·have e1:lo+((0:Nat):Int)*1=lo:=by simp
  have e2:(((hi - lo).toNat:Nat):Int) - ((0:Nat):Int)=en lo hi 1:=by rw [rangeSize_one]; split <;> omega
  show IsRangeIter _ _ (lo+((0:Nat):Int)*1) ((((hi - lo).toNat:Nat):Int) - ((0:Nat):Int)) 1
  rw [e1,e2]
  exact af _ rfl
 ·have e:b=(s.heap.push { cls:= .type "range",data:= .fields #[.int lo t, .int hi u, .int 1 v] }).objs.size:=by simpa using hb
  subst e
  exact I1.fpOk (ag _) (I1.hok.fresh (ag _))
def X1 (ta:TA):TI:=fun σ H R=>ta σ H fun vs H1=>∃ j:Int,vs=[.int j]/\ -(2 ^ 62)<=j/\j < 2 ^ 62/\R (Itr 0 j.toNat) H1
def X2 (ta:TA):TI:=fun σ H R=>ta σ H fun vs H1=>∃ i j:Int,vs=[.int i, .int j]/\(-(2 ^ 62)<=i/\i < 2 ^ 62/\ -(2 ^ 62)<=j/\j < 2 ^ 62)/\R (Itr i (j - i).toNat) H1
theorem uK {a:Expr} {ta:TA} {p pos:Pos} (hg:Gl X "range") (hm:X.mg "range"=none) (ha:PA X [a] ta) (hs:starEach [a] X.env=[(false,eval a X.env)]:=by rfl):PI X tg (.Call (.Name "range" p) [a] [] pos) (X1 ta):=by
 intro pins s σ H R I h
 refine Call_ (ZL I hg hm boot_range (aN (thn (ha pos pins s σ H _ I h) fun us s1 ⟨vs,H1,I1,r1,q1⟩=> ?_) hs rfl))
 obtain ⟨j,e,q1,q2,q⟩:=q1
 subst e
 cases r1 with
 | cons r rr=>
  cases rr
  obtain ⟨t,rfl⟩:=r
  exact call_range_1 (wZ I1 (by omega) (by omega) q1 q2 (by simpa using q))
theorem uL {a b:Expr} {ta:TA} {p pos:Pos} (hg:Gl X "range") (hm:X.mg "range"=none) (ha:PA X [a,b] ta) (hs:starEach [a,b] X.env=[(false,eval a X.env),(false,eval b X.env)]:=by rfl) (hs2:starEach [b] X.env=[(false,eval b X.env)]:=by rfl):
  PI X tg (.Call (.Name "range" p) [a,b] [] pos) (X2 ta):=by
 intro pins s σ H R I h
 refine Call_ (ZL I hg hm boot_range (aN (thn (ha pos pins s σ H _ I h) fun us s1 ⟨vs,H1,I1,r1,q1⟩=> ?_) (by rw [hs,hs2]) (by rw [hs2]; rfl)))
 obtain ⟨i,j,e,⟨q1,q2,q3,q4⟩,q⟩:=q1
 subst e
 cases r1 with
 | cons r rr=>
  cases rr with
  | cons r' rr=>
   cases rr
   obtain ⟨t,rfl⟩:=r
   obtain ⟨t',rfl⟩:=r'
   exact call_range_2 (wZ I1 q1 q2 q3 q4 q)
def gE (wi:TI) (g:TG) (tb:TS):TS:=fun D σ H=>wi σ H fun J H1=>∃ W:Nat->Nat->St->Hp->Prop,(∃ m,W 0 m σ H1)/\∀ i m σ H,W i m σ H->
 (J.stop i H/\D.nx σ H)\/(J.go i H/\∃ N:St->Hp->Prop,(∀ σ' H',N σ' H' ->∃ m',m' < m/\W (i+1) m' σ' H')/\∀ x H',J.yld i H x H' ->g x σ H' fun σ2 H2=>tb { D with nx:=N,ct:=N,bk:=D.nx } σ2 H2)
def JK (fp:List Addr) (h:Heap):List (Addr×Obj):=fp.filterMap fun b=>(h.get? b).map fun o=>(b,o)
theorem ZF {fp:List Addr} {h:Heap} {b:Addr} {o:Obj} (hb:b∈fp) (e:h.get? b=some o):(b,o)∈JK fp h:=cQ.mpr ⟨b,hb,by rw [e]; rfl⟩
theorem uM {fp:List Addr} {h:Heap} {p:Addr×Obj} (hp:p∈JK fp h):p.1∈fp/\h.get? p.1=some p.2:=by
 obtain ⟨b,hb,e⟩:=cQ.mp hp
 cases q:h.get? b with
 | none=>rw [q] at e; cases e
 | some o=>
  rw [q] at e
  have e' :(b,o)=p:=aI e
  subst e'
  exact ⟨hb,q⟩
theorem Inv.pinned {pins:List (Addr×Obj)} {σ:St} {H:Hp} {s:Shared} {fp:List Addr} (I:Inv X pins σ H s) (hf:∀ b∈fp,ww X pins H b) (ho:∀ b∈fp,∃ o,s.heap.get? b=some o/\∀ v,o.data ≠ .cell v):Inv X (pins++JK fp s.heap) σ H s:=
 I.pins_of fun p hp=>(eR.mp hp).elim (fun z=>I.pin p (aM _ z)) fun z=>by
  obtain ⟨hb,e⟩:=uM z
  obtain ⟨f0,f1,f2,_⟩:=hf p.1 hb
  obtain ⟨o,e',d⟩:=ho p.1 hb
  rw [e] at e'; cases e'
  exact ⟨e,f0,f1,f2,d⟩
theorem Inv.unpinned {pins pl:List (Addr×Obj)} {σ:St} {H:Hp} {s:Shared} (I:Inv X (pins++pl) σ H s):Inv X pins σ H s:=I.pins_of fun p hp=>I.pin p (aM _ (bW _ hp))
theorem vg {iter:Expr} {body:List Stmt} {wi:TI} {g:TG} {tb:TS} {pos:Pos} (hp:PassesOwn (model X.prog X.w) X.A X.env X.xe) (hc:X.calm=true) (hi:PI X tg iter wi) (hg:PG X tg g) (hb:PSs X body tb)
  (hs:∀ x,foldedSetIterable iter X.env x=pure x:=by intro _; rfl):PS X (.For tg iter body [] pos) (gE wi g tb):=by
 intro pins s σ H D I h
 refine wpAny_For (thn (hi pins s σ H _ I h) fun v s1 h1=>thn h1 fun itv s2 h2=> ?_) hs
 obtain ⟨it,fp,tn,J,H2,e,I2,T,st2,f2,W,⟨m0,w0⟩,turn⟩:=h2
 subst e
 have stat:∀ {H' :Hp},(∀ b∈fp,H' b=none)->∀ b∈fp,ww X pins H' b:=fun hn b hb=>⟨hn b hb,(f2 b hb).2⟩
 refine codeAny_forLoop_any (fun n s' =>∃ i σ' H',Inv X pins σ' H' s' /\tn i s'.heap/\(∀ b∈fp,H' b=none)/\W i n σ' H') ?_ m0 ⟨0,σ,H2,I2,st2,fun b hb=>(f2 b hb).1,w0⟩
 rintro n s3 ⟨i,σ3,H3,I3,st3,fr3,w3⟩
 rcases turn i n σ3 H3 w3 with ⟨stop,qn⟩ | ⟨go,N,hN,step⟩
 ·refine bS hp (thn (T.done X rfl rfl rfl hc i pins s3 σ3 H3 X.xe I3 (stat fr3) st3 stop) fun r s4 ⟨hr,I4⟩=> ?_)
  subst hr
  exact cx ⟨σ3,H3,I4,qn⟩
 ·refine bS hp (thn (T.item X rfl rfl rfl hc i pins s3 σ3 H3 X.xe I3 (stat fr3) st3 go) fun r s4 ⟨u,hr,h4⟩=> ?_)
  subst hr
  refine bS hp (thn h4 fun _ s5 ⟨x,H5,I5,r5,y5,st5,fr5⟩=> ?_)
  have I5' :=I5.pinned (stat fr5) (T.obj _ _ st5)
  refine bS hp (thn (hg _ s5 σ3 H5 x u _ I5' r5 (step x H5 y5)) fun _ s6 ⟨σ6,H6,I6,q6⟩=> ?_)
  refine bS hp (thn (hb _ s6 σ6 H6 _ I6 q6) fun f s7 q7=> ?_)
  have again:∀ {σ7:St} {H7:Hp},Inv X (pins++JK fp s5.heap) σ7 H7 s7->N σ7 H7->∃ m,m < n/\∃ i σ' H',Inv X pins σ' H' s7/\tn i s7.heap/\(∀ b∈fp,H' b=none)/\W i m σ' H' :=fun {σ7 H7} I7 n7=>by
   obtain ⟨m',hm,w7⟩:=hN σ7 H7 n7
   refine ⟨m',hm,i+1,σ7,H7,I7.unpinned,T.keep _ _ _ st5 fun b hb o e=>(I7.pin (b,o) (aM _ (aM _ (ZF hb e)))).1,fun b hb=> ?_,w7⟩
   obtain ⟨o,e,d⟩:=T.obj _ _ st5 b hb
   exact (I7.pin (b,o) (aM _ (aM _ (ZF hb e)))).2.1
  cases f with
  | next=>obtain ⟨σ7,H7,I7,n7⟩:=q7; exact again I7 n7
  | cont=>obtain ⟨σ7,H7,I7,n7⟩:=q7; exact again I7 n7
  | brk=>obtain ⟨σ7,H7,I7,q7⟩:=q7; exact ⟨σ7,H7,I7.unpinned,q7⟩
  | ret v=>obtain ⟨x7,σ7,H7,I7,r7,q7⟩:=q7; exact ⟨x7,σ7,H7,I7.unpinned,r7,q7⟩
end
end L2
namespace L2
open PySem PySem.Spec PyProof.Rows
abbrev R2:=V->V->Hp->VK->Prop
def OpR (X:Cx) (f:Value->Value->Sem Value) (r:R2):Prop:=
 ∀ (pins:List (Addr×Obj)) (s:Shared) (σ:St) (H:Hp) (x y:V) (v u:Value) (Q:VK),Inv X pins σ H s->zP x v->zP y u->r x y H Q->
  wpAny (model X.prog X.w) X.A (f v u) (EP X pins σ Q) X.xe s
def UnR (X:Cx) (f:Value->Sem Value) (r:V->Hp->VK->Prop):Prop:=
 ∀ (pins:List (Addr×Obj)) (s:Shared) (σ:St) (H:Hp) (x:V) (v:Value) (Q:VK),Inv X pins σ H s->zP x v->r x H Q->
  wpAny (model X.prog X.w) X.A (f v) (EP X pins σ Q) X.xe s
def Zf (X:Cx) (f:Value) (r:List V->Hp->VK->Prop):Prop:=
 ∀ (pins:List (Addr×Obj)) (s:Shared) (σ:St) (H:Hp) (xs:List V) (us:List Value) (Q:VK),Inv X pins σ H s->zB xs us->r xs H Q->
  wpAny (model X.prog X.w) X.A (call f us) (EP X pins σ Q) X.xe s
def gF (X:Cx) (r:V->Hp->(Bool->Hp->Prop)->Prop):Prop:=
 ∀ (pins:List (Addr×Obj)) (s:Shared) (σ:St) (H:Hp) (x:V) (v:Value) (Q:Bool->Hp->Prop),Inv X pins σ H s->zP x v->r x H Q->
  wpAny (model X.prog X.w) X.A (truthy v) (TP X pins σ Q) X.xe s
def tOp (r:R2) (ta tb:TE):TE:=fun σ H Q=>ta σ H fun x H1=>tb σ H1 fun y H2=>r x y H2 Q
def tUn (r:V->Hp->VK->Prop) (ta:TE):TE:=fun σ H Q=>ta σ H fun x H1=>r x H1 Q
def rI (C:Int->Int->Prop) (g:Int->Int->V):R2:=fun x y H Q=>∃ i j,x= .int i/\y= .int j/\C i j/\Q (g i j) H
def rI0 (g:Int->Int->V):R2:=fun x y H Q=>∃ i j,x= .int i/\y= .int j/\Q (g i j) H
def rU (g:Int->V):V->Hp->VK->Prop:=fun x H Q=>∃ i,x= .int i/\Q (g i) H
section
variable {X:Cx} {a b c:Expr} {ta tb tc:TE} {pos:Pos}
theorem X3 (ha:PE X a ta) (hb:PE X b tb) {pins:List (Addr×Obj)} {s:Shared} {σ:St} {H:Hp} {R:V->V->Hp->Prop} (I:Inv X pins σ H s)
  (h:ta σ H fun x H1=>tb σ H1 fun y H2=>R x y H2) {Q:Value->Shared->Prop} {f:Value->Value->Sem Value}
  (hf:∀ v u s2 x y H2,Inv X pins σ H2 s2->zP x v->zP y u->R x y H2->wpAny (model X.prog X.w) X.A (f v u) Q X.xe s2):
  wpAny (model X.prog X.w) X.A (eval a X.env) (fun v s₁=>wpAny (model X.prog X.w) X.A (eval b X.env) (fun u s₂=>wpAny (model X.prog X.w) X.A (f v u) Q X.xe s₂) X.xe s₁) X.xe s:=by
 refine thn (ha pins s σ H _ I h) fun v s1 ⟨x,H1,I1,r1,q1⟩=> ?_
 refine thn (hb pins s1 σ H1 _ I1 q1) fun u s2 ⟨y,H2,I2,r2,q2⟩=> ?_
 exact hf v u s2 x y H2 I2 r1 r2 q2
theorem X4 {op:Operator} {r:R2} (ho:OpR X (binaryOp op) r) (ha:PE X a ta) (hb:PE X b tb):PE X (.BinOp a op b pos) (tOp r ta tb):=by
 intro pins s σ H Q I h
 exact wpAny_BinOp (X3 ha hb I h fun v u s2 x y H2 I2 rx ry q=>ho pins s2 σ H2 x y v u Q I2 rx ry q)
theorem vh {op:UnaryOp} {r:V->Hp->VK->Prop} (ho:UnR X (unaryOp op) r) (ha:PE X a ta):PE X (.UnaryOp op a pos) (tUn r ta):=by
 intro pins s σ H Q I h
 exact UnaryOp_ (thn (ha pins s σ H _ I h) fun v s1 ⟨x,H1,I1,r1,q1⟩=>ho pins s1 σ H1 x v Q I1 r1 q1)
theorem opI {f:Value->Value->Sem Value} {C:Int->Int->Prop} {g:Int->Int->Int}
  (rule:∀ (i j:Int) (t u:Tok) (s:Shared) (Q:Value->Shared->Prop) (E:Value->Shared->Prop),C i j->Q (.int (g i j) s.toks) { s with toks:=s.toks+1 }->wpAny (model X.prog X.w) X.A (f (.int i t) (.int j u)) Q E s):
  OpR X f (rI C fun i j=> .int (g i j)):=by
 intro pins s σ H x y v u Q I rx ry h
 obtain ⟨i,j,rfl,rfl,hc,q⟩:=h
 obtain ⟨t,rfl⟩:=rx
 obtain ⟨t',rfl⟩:=ry
 exact rule i j t t' s _ _ hc ⟨.int (g i j),H,I.tok _,⟨_,rfl⟩,q⟩
theorem kT {f:Value->Value->Sem Value} {g:Int->Int->Int}
  (rule:∀ (i j:Int) (t u:Tok) (s:Shared) (Q:Value->Shared->Prop) (E:Value->Shared->Prop),Q (.int (g i j) s.toks) { s with toks:=s.toks+1 }->wpAny (model X.prog X.w) X.A (f (.int i t) (.int j u)) Q E s):
  OpR X f (rI0 fun i j=> .int (g i j)):=by
 intro pins s σ H x y v u Q I rx ry h
 obtain ⟨i,j,rfl,rfl,q⟩:=h
 obtain ⟨t,rfl⟩:=rx
 obtain ⟨t',rfl⟩:=ry
 exact rule i j t t' s _ _ ⟨.int (g i j),H,I.tok _,⟨_,rfl⟩,q⟩
theorem X5 {f:Value->Value->Sem Value} {g:Int->Int->Bool}
  (rule:∀ (i j:Int) (t u:Tok) (s:Shared) (Q:Value->Shared->Prop) (E:Value->Shared->Prop),Q (.bool (g i j)) s->wpAny (model X.prog X.w) X.A (f (.int i t) (.int j u)) Q E s):
  OpR X f (rI0 fun i j=> .bl (g i j)):=by
 intro pins s σ H x y v u Q I rx ry h
 obtain ⟨i,j,rfl,rfl,q⟩:=h
 obtain ⟨t,rfl⟩:=rx
 obtain ⟨t',rfl⟩:=ry
 exact rule i j t t' s _ _ ⟨.bl (g i j),H,I,rfl,q⟩
def gG (i j:Int):Prop:=0 < j/\j < 1073741824
def JL (i j:Int):Prop:=(-(2 ^ 64) < i/\i < 2 ^ 64)\/(-(2 ^ 64) < j/\j < 2 ^ 64)
theorem JL.ok {i j:Int} (h:JL i j):IntMulOk i j:=by
 rcases h with ⟨h1,h2⟩ | ⟨h1,h2⟩
 ·exact .of_left (intBits_le_64 h1 h2)
 ·exact .of_right (intBits_le_64 h1 h2)
theorem vi:OpR X (binaryOp .Add) (rI0 fun i j=> .int (i+j)):=kT fun _ _ _ _ _ _ _ q=>add_int q
theorem vj:OpR X (binaryOp .Sub) (rI0 fun i j=> .int (i - j)):=kT fun _ _ _ _ _ _ _ q=>sub_int q
theorem vk:OpR X (binaryOp .Mult) (rI JL fun i j=> .int (i*j)):=opI fun _ _ _ _ _ _ _ hc q=>mul_int q hc.ok
theorem qg:OpR X (binaryOp .FloorDiv) (rI gG fun i j=> .int (i / j)):=opI fun i j _ _ _ _ _ hc q=>by
 have h1:(0:Int) < j:=hc.1
 have h2:j < 1073741824:=hc.2
 exact floordiv_int (by omega) (by rw [Int.fdiv_eq_ediv_of_nonneg i (by omega)]; exact q) (.inl (PyProof.noPylong_small (by omega)))
theorem vm:OpR X (binaryOp .Mod) (rI (fun _ j=>0 < j) fun i j=> .int (i % j)):=opI fun i j _ _ _ _ _ hc q=>by
 have h1:(0:Int) < j:=hc
 exact mod_int' (by omega) (by rw [Int.fmod_eq_emod_of_nonneg i (by omega)]; exact q)
theorem unI {f:Value->Sem Value} {g:Int->Int}
  (rule:∀ (i:Int) (t:Tok) (s:Shared) (Q:Value->Shared->Prop) (E:Value->Shared->Prop),Q (.int (g i) s.toks) { s with toks:=s.toks+1 }->wpAny (model X.prog X.w) X.A (f (.int i t)) Q E s):
  UnR X f (rU fun i=> .int (g i)):=by
 intro pins s σ H x v Q I rx h
 obtain ⟨i,rfl,q⟩:=h
 obtain ⟨t,rfl⟩:=rx
 exact rule i t s _ _ ⟨.int (g i),H,I.tok _,⟨_,rfl⟩,q⟩
theorem Yt:UnR X (unaryOp .USub) (rU fun i=> .int (-i)):=unI fun _ _ _ _ _ q=>neg_int q
theorem uN:OpR X (binaryOp .Add) (fun x y H Q=>∃ i k,x= .int i/\y= .bl k/\Q (.int (i+b2i k)) H):=by
 intro pins s σ H x y v u Q I rx ry h
 obtain ⟨i,k,rfl,rfl,q⟩:=h
 obtain ⟨t,rfl⟩:=rx
 cases ry
 exact add_int_bool ⟨.int (i+b2i k),H,I.tok _,⟨_,rfl⟩,q⟩
end
section
variable {X:Cx} {a b c:Expr} {ta tb tc:TE} {pos:Pos}
theorem X6:OpR X (compareOp .Lt) (rI0 fun i j=> .bl (decide (i < j))):=X5 fun _ _ _ _ _ _ _ q=>lt_int q
theorem X7:OpR X (compareOp .LtE) (rI0 fun i j=> .bl (decide (i<=j))):=X5 fun _ _ _ _ _ _ _ q=>le_int q
theorem X8:OpR X (compareOp .Gt) (rI0 fun i j=> .bl (decide (j < i))):=X5 fun _ _ _ _ _ _ _ q=>gt_int q
theorem jx (b:Expr) {op:CmpOp} (h:op ≠ .In:=by decide) (h2:op ≠ .NotIn:=by decide):behindInMarks op b=false:=by
 have e1:(op == CmpOp.In)=false:=by cases op <;> first | rfl | exact absurd rfl h
 have e2:(op == CmpOp.NotIn)=false:=by cases op <;> first | rfl | exact absurd rfl h2
 cases b <;> simp [behindInMarks,e1,e2]
theorem qh {op:CmpOp} {r:R2} (ho:OpR X (compareOp op) r) (ha:PE X a ta) (hb:PE X b tb) (hm:behindInMarks op b=false):PE X (.Compare a [op] [b] pos) (tOp r ta tb):=by
 intro pins s σ H Q I h
 exact wpAny_Compare1 (X3 ha hb I h fun v u s2 x y H2 I2 rx ry q=>ho pins s2 σ H2 x y v u Q I2 rx ry q) hm
def vn (t:TE):TT:=fun σ H Q=>t σ H fun x H' =>∃ k,x= .bl k/\Q k H'
theorem qi {op:CmpOp} {r:R2} (ho:OpR X (compareOp op) r) (ha:PE X a ta) (hb:PE X b tb) (hm:behindInMarks op b=false):PT X (.Compare a [op] [b] pos) (vn (tOp r ta tb)):=by
 intro pins s σ H Q I h
 refine wpAny_isTrue_Compare1 (thn (ha pins s σ H _ I h) fun v s1 ⟨x,H1,I1,r1,q1⟩=>thn (hb pins s1 σ H1 _ I1 q1) fun u s2 ⟨y,H2,I2,r2,q2⟩=>
  thn (ho pins s2 σ H2 x y v u _ I2 r1 r2 q2) fun c s3 ⟨z,H3,I3,r3,k,e,q3⟩=> ?_) hm
 subst e
 cases r3
 exact bf ⟨H3,I3,q3⟩
def Yu (r r' :R2) (ta tb tc:TE):TE:=fun σ H Q=>ta σ H fun x H1=>tb σ H1 fun y H2=>r x y H2 fun z H3=>∃ k,z= .bl k/\
 (if k=true then tc σ H3 fun w' H4=>r' y w' H4 Q else Q (.bl false) H3)
theorem yF {op op' :CmpOp} {r r' :R2} (ho:OpR X (compareOp op) r) (ho' :OpR X (compareOp op') r') (ha:PE X a ta) (hb:PE X b tb) (hc:PE X c tc)
  (hm:lastMarks [op,op'] [b,c]=false:=by with_unfolding_all rfl):PE X (.Compare a [op,op'] [b,c] pos) (Yu r r' ta tb tc):=by
 intro pins s σ H Q I h
 refine Compare_chain (thn (ha pins s σ H _ I h) fun v s1 ⟨x,H1,I1,r1,q1⟩=>chain_link (thn (hb pins s1 σ H1 _ I1 q1) fun u s2 ⟨y,H2,I2,r2,q2⟩=>
  thn (ho pins s2 σ H2 x y v u _ I2 r1 r2 q2) fun d s3 ⟨z,H3,I3,r3,k,e,q3⟩=> ?_)) hm
 subst e
 cases r3
 refine bf ?_
 cases k with
 | false=>exact ite_ff ⟨.bl false,H3,I3,rfl,q3⟩
 | true=>exact ite_tt (chain_last (thn (hc pins s3 σ H3 _ I3 q3) fun w' s4 ⟨z',H4,I4,r4,q4⟩=>ho' pins s4 σ H4 y z' u w' Q I4 r2 r4 q4))
theorem yG {op op' :CmpOp} {r r' :R2} (ho:OpR X (compareOp op) r) (ho' :OpR X (compareOp op') r') (ha:PE X a ta) (hb:PE X b tb) (hc:PE X c tc)
  (hm:lastMarks [op,op'] [b,c]=false:=by with_unfolding_all rfl):PT X (.Compare a [op,op'] [b,c] pos) (vn (Yu r r' ta tb tc)):=by
 intro pins s σ H Q I h
 refine isTrue_chain (thn (ha pins s σ H _ I h) fun v s1 ⟨x,H1,I1,r1,q1⟩=>test_link (thn (hb pins s1 σ H1 _ I1 q1) fun u s2 ⟨y,H2,I2,r2,q2⟩=>
  thn (ho pins s2 σ H2 x y v u _ I2 r1 r2 q2) fun d s3 ⟨z,H3,I3,r3,k,e,q3⟩=> ?_)) hm
 subst e
 cases r3
 refine bf ?_
 cases k with
 | false=>
  obtain ⟨k',e',q'⟩:=q3
  cases e'
  exact ite_ff ⟨H3,I3,q'⟩
 | true=>
  refine ite_tt (test_last (thn (hc pins s3 σ H3 _ I3 q3) fun w' s4 ⟨z',H4,I4,r4,q4⟩=>thn (ho' pins s4 σ H4 y z' u w' _ I4 r2 r4 q4) fun d' s5 ⟨z2,H5,I5,r5,k2,e2,q5⟩=> ?_))
  subst e2
  cases r5
  exact bf ⟨H5,I5,q5⟩
def kU (K:ac) (x:V) (H:Hp) (k:Bool):Prop:=
 match x with
 | .non=>k=false
 | .bl b=>k=b
 | .int i=>k=(i != 0)
 | .str y=>y.length<=sizeLine/\k=((y.length:Int) != 0)
 | .byt y=>y.size<=sizeLine/\k=((y.size:Int) != 0)
 | .ref p=>(∃ xs,SqL K H p xs/\k= !xs.isEmpty)\/(∃ xs,SqT K H p xs/\k= !xs.isEmpty)\/∃ kvs,H p=some (.dK kvs)/\k= !kvs.isEmpty
 | _=>False
theorem WR {κ:Type} {kvs:List (κ×V)} {vs:List (κ×Value)} (r:KV kvs vs):(!vs.isEmpty)= !kvs.isEmpty:=by
 cases r <;> rfl
theorem jT {xs:List V} {its:List Value} (r:zB xs its):(!its.toArray.isEmpty)= !xs.isEmpty:=by
 cases r <;> simp
theorem jU:(sizeLine:Nat) < 2 ^ 63:=by rw [bh]; decide
theorem vo:gF X (fun x H Q=>∃ k,kU X.K x H k/\Q k H):=by
 intro pins s σ H x v Q I rx h
 obtain ⟨k,e,q⟩:=h
 have hl:=jU
 have hs:sizeLine=16777216:=bh
 cases x with
 | non=>
  cases rx
  have e' :k=false:=e
  subst e'
  exact truthy_none ⟨H,I,q⟩
 | bl b=>
  cases rx
  have e' :k=b:=e
  subst e'
  exact bf ⟨H,I,q⟩
 | int i=>
  obtain ⟨t,rfl⟩:=rx
  have e' :k=(i != 0):=e
  subst e'
  exact PySem.P.truthy_int ⟨H,I,q⟩
 | str y=>
  obtain ⟨t,rfl⟩:=rx
  obtain ⟨hy,e'⟩:y.length<=sizeLine/\k=((y.length:Int) != 0):=e
  subst e'
  exact PySem.P.truthy_str (by omega) ⟨H,I.tok _,q⟩
 | byt y=>
  obtain ⟨t,rfl⟩:=rx
  obtain ⟨hy,e'⟩:y.size<=sizeLine/\k=((y.size:Int) != 0):=e
  subst e'
  exact PySem.W.truthy_bytes (by omega) ⟨H,I.tok _,q⟩
 | ref p=>
  cases rx
  have e' :(∃ xs,SqL X.K H p xs/\k= !xs.isEmpty)\/(∃ xs,SqT X.K H p xs/\k= !xs.isEmpty)\/∃ kvs,H p=some (.dK kvs)/\k= !kvs.isEmpty:=e
  rcases e' with ⟨xs,hx,e'⟩ | ⟨xs,hx,e'⟩ | ⟨kvs,hx,e'⟩
  ·subst e'
   obtain ⟨its,r,pl,hz⟩:=I.list hx
   have hlen:=r.length
   exact wpAny_truthy_list pl.isList (by simp only [ar]; omega) ⟨H,I.tok _,by rw [jT r]; exact q⟩
  ·subst e'
   obtain ⟨its,r,pl,hz⟩:=I.tuple hx
   have hlen:=r.length
   exact truthy_tuple pl (by simp only [ar]; omega) ⟨H,I.tok _,by rw [jT r]; exact q⟩
  ·subst e'
   obtain ⟨hz,hS,vs,r,m⟩:kvs.length<=sizeLine/\(p == sysModules)=false/\∃ vs,KV kvs vs/\s.heap.DictOf (wC X.prog X.w) p vs:=I.hok p _ hx
   have hlen:kvs.length=vs.length:=Paired.length r
   exact wpAny_truthy_dict hS m (by omega) ⟨H,I.tok _,by rw [WR r]; exact q⟩
 | _=>exact (show False from e).elim
theorem yH (ha:PE X a ta) (he:∀ whole,isTrue a X.env whole=(do let v ← whole; standAt a.pos; holding [v] (truthy v))):
  PT X a (fun σ H Q=>ta σ H fun x H' =>∃ k,kU X.K x H' k/\Q k H'):=by
 intro pins s σ H Q I h
 exact isTrue_plain (thn (ha pins s σ H _ I h) fun v s1 ⟨x,H1,I1,r1,q1⟩=>vo pins s1 σ H1 x v Q I1 r1 q1) (he _)
theorem WS:OpR X (binaryOp .Add) (fun x y H Q=>∃ i j,x= .str i/\y= .str j/\i.length+j.length<=sizeLine/\Q (.str (i++j)) H):=by
 intro pins s σ H x y v u Q I rx ry h
 obtain ⟨i,j,rfl,rfl,hz,q⟩:=h
 obtain ⟨t,rfl⟩:=rx
 obtain ⟨t',rfl⟩:=ry
 exact add_str (fun t' tk=>⟨.str (i++j),H,I.tok _,⟨_,rfl⟩,q⟩) hz
theorem Zg {x:V} {us:List Value} (r:zB [x] us):∃ u,us=[u]/\zP x u:=by
 cases r with
 | cons r1 r2=>cases r2; exact ⟨_,rfl,r1⟩
theorem uO {x y:V} {us:List Value} (r:zB [x,y] us):∃ u w',us=[u,w']/\zP x u/\zP y w' :=by
 cases r with
 | cons r1 r2=>
  cases r2 with
  | cons r3 r4=>cases r4; exact ⟨_,_,rfl,r1,r3⟩
end
end L2
namespace L2
open PySem PySem.Spec PyProof.Rows
structure X9 (h:Heap) (x dx C:Addr) (mA:Str->Option Value):Prop where
 obj:h.get? x=some (eQ C dx)
 ns:h.Ns1 dx mA
 ne:dx ≠ x
theorem uP {h:Heap} {dx:Addr} {mA:Str->Option Value} (n:h.Ns1 dx mA):∃ od,h.get? dx=some od/\∀ name,eU name od=some (mA name):=by
 obtain ⟨o,es,ep,ho,hd,hk,_,hm⟩:=n
 refine ⟨o,ho,fun name=> ?_⟩
 have e:=hm name
 unfold nsFind findBy at e
 rw [← Array.find?_toList] at e
 unfold eU
 rw [hd]
 dsimp only
 split
 ·rename_i y q
  rw [q] at e
  exact congrArg some e
 ·rename_i q
  rw [q] at e
  have a:es.toList.any (·.refKey)=false:=by
   rw [List.any_eq_false]
   intro y hy
   obtain ⟨z,t,hkey⟩:=hk y (Array.mem_toList_iff.mp hy)
   simp [DictEntry.refKey,hkey]
  have a' :¬ es.toList.any (·.refKey)=true:=by rw [a]; exact aB
  rw [if_neg a']
  exact congrArg some e
theorem X9.look {h:Heap} {x dx C:Addr} {mA:Str->Option Value} (I:X9 h x dx C mA):∃ od,PySem.W.InstAt h x (eQ C dx) C (some od)/\∀ name,eU name od=some (mA name):=
 let ⟨od,ho,hl⟩:=uP I.ns
 ⟨od,⟨I.obj,rfl,rfl,ho⟩,hl⟩
section
variable {prog:Program} {w:World} {A:Around} {E:Value->Shared->Prop} {s:Shared} {K:ac} {x dx C f:Addr} {mA:Str->Option Value} {name:Str} {v:Value}
end
section
variable {P:Program} {w:World} {H H' :Hp} {h h' :Heap} {a C dx:Addr} {fs fs' :List (Str×V)}
theorem qj (hok:HOk P w H h) (e:H a=some (.ins C dx fs)):∃ mA,X9 h a dx C mA/\(∀ f,xR (fs.lookup f) (mA f))/\PySem.Within mA (fs.map (·.1))/\fs.length<=1000/\H dx=some (.own a):=by
 obtain ⟨d,z,ne,ob,mA,n,r,q⟩:=(show zH P w H h a (.ins C dx fs) from hok a _ e)
 exact ⟨mA,⟨ob,n,ne⟩,r,q,z,d⟩
end
structure Cls (K:ac) (C:Addr):Prop where
 pg:fI K C Str.empty=true
 hd:PySem.W.hasDictIn K C=true
 po:PySem.W.plainOver K C=true
 sa:c_ K (.ref C) "__setattr__"=some (some (.builtin "object.__setattr__"))
theorem Cls.get {K:ac} {C:Addr} (c:Cls K C) (f:Str):fI K C f=true:=c.pg
section
variable {X:Cx} {pins:List (Addr×Obj)} {σ:St} {H:Hp} {s:Shared} {a C dx:Addr} {fs:List (Str×V)} {f:Str} {v:V} {A:Around} {E:Value->Shared->Prop}
end
section
variable {X:Cx} {o e value:Expr} {f:Str} {pos pos' tpos:Pos} {ta tv:TE}
end
section
variable {X:Cx} {pins:List (Addr×Obj)} {σ:St} {H:Hp} {s:Shared} {A:Around} {E:Value->Shared->Prop} {Q:Value->Shared->Prop} {c:Value} {b:Bool}
inductive WT (K:ac) (H:Hp):V->Value->Prop where
 | non:WT K H .non (.type "NoneType")
 | bl (x:Bool):WT K H (.bl x) (.type "bool")
 | int (i:Int):WT K H (.int i) (.type "int")
 | str (x:Str):WT K H (.str x) (.type "str")
 | flt (x:UInt64):WT K H (.flt x) (.type "float")
 | lst {a:Addr} {xs:List V} (e:H a=some (.lst xs)):WT K H (.ref a) (.type "list")
 | frz {a:Addr} {o:Obj} {xs:List V} (e:H a=some (.frz o (.lst xs))):WT K H (.ref a) (.type "list")
 | tup {a:Addr} {xs:List V} (e:H a=some (.tup xs)):WT K H (.ref a) (.type "tuple")
 | dK {a:Addr} {kvs:List (Key×V)} (e:H a=some (.dK kvs)):WT K H (.ref a) (.type "dict")
 | dT {a:Addr} {kvs:List (List Key×V)} (e:H a=some (.dT kvs)):WT K H (.ref a) (.type "dict")
 | ins {a C dx:Addr} {fs:List (Str×V)} (e:H a=some (.ins C dx fs)) (cl:Cls K C) (ha:c_ K (.ref C) "__class__"=some (some (.builtin "object.__class__")))
   (hn:fu K (.builtin "object.__class__") "__get__"=some (some (.builtin "getset_descriptor.__get__"))) (htk:fV K (.builtin "object.__class__")=some true)
   (hm:f8 K C (.type "object")=some true):WT K H (.ref a) (.ref C)
theorem uQ {x:V} {u t:Value} (I:Inv X pins σ H s) (rx:zP x u) (ty:WT X.K H x t) (e:aA X.K t c=some b) (h:∀ tk,Q (.bool b) { s with toks:=tk }):
  wpAny (model X.prog X.w) A (call (.builtin "isinstance") [u,c]) Q E s:=by
 cases ty with
 | non=>cases (show u=Value.none from rx); exact bn PySem.W.kitx_none I.kIn True.intro e (fun z=>nomatch z) h
 | bl y=>cases (show u=Value.bool y from rx); exact bn PySem.W.kitx_bool I.kIn True.intro e (fun z=>nomatch z) h
 | int i=>obtain ⟨t,q⟩:=(show ∃ t,u=Value.int i t from rx); cases q; exact bn PySem.W.kitx_int I.kIn True.intro e (fun z=>nomatch z) h
 | str y=>obtain ⟨t,q⟩:=(show ∃ t,u=Value.str y t from rx); cases q; exact bn PySem.W.kitx_str I.kIn True.intro e (fun z=>nomatch z) h
 | flt y=>obtain ⟨t,q⟩:=(show ∃ t,u=Value.float y t from rx); cases q; exact bn PySem.W.kitx_float I.kIn True.intro e (fun z=>nomatch z) h
 | @lst a xs ea=>
  cases (show u=Value.ref a from rx)
  obtain ⟨_,_,n,_,h1⟩:=(show zH X.prog X.w H s.heap a (.lst xs) from I.hok a _ ea)
  exact bn fv I.kIn ⟨_,h1,rfl⟩ e (fun z=>nomatch z) h
 | @frz a ob xs ea=>
  cases (show u=Value.ref a from rx)
  obtain ⟨_,_,_,n,_,h1⟩:=(show zH X.prog X.w H s.heap a (.frz ob (.lst xs)) from I.hok a _ ea)
  exact bn fv I.kIn ⟨_,h1,rfl⟩ e (fun z=>nomatch z) h
 | @tup a xs ea=>
  cases (show u=Value.ref a from rx)
  obtain ⟨_,_,_,p,_⟩:=(show zH X.prog X.w H s.heap a (.tup xs) from I.hok a _ ea)
  obtain ⟨o,h1,h2,_⟩:=p
  exact bn PySem.W.kitx_tuple I.kIn ⟨o,h1,h2⟩ e (fun z=>nomatch z) h
 | @dK a kvs ea=>
  cases (show u=Value.ref a from rx)
  obtain ⟨_,_,vs,_,p⟩:=(show zH X.prog X.w H s.heap a (.dK kvs) from I.hok a _ ea)
  obtain ⟨o,es,ep,h1,h2,_⟩:=p
  exact bn fw I.kIn ⟨o,h1,h2.1⟩ e (fun z=>nomatch z) h
 | @dT a kvs ea=>
  cases (show u=Value.ref a from rx)
  obtain ⟨_,_,xs,_,o,es,ep,h1,h2,_⟩:=(show zH X.prog X.w H s.heap a (.dT kvs) from I.hok a _ ea)
  exact bn fw I.kIn ⟨o,h1,h2.1⟩ e (fun z=>nomatch z) h
 | @ins a C dx fs ea cl ha hn htk hm=>
  cases (show u=Value.ref a from rx)
  obtain ⟨mA,O,_⟩:=qj I.hok ea
  obtain ⟨od,J,_⟩:=O.look
  exact bn (PySem.W.kitx_own (cl.get _) cl.hd ha hn htk hm) I.kIn J e (fun z=>nomatch z) h
end
end L2
namespace L2
open PySem PySem.Spec PyProof.Rows
structure ZJ (k:Nat) (A:Around):Prop where
 hd:A.handled=none
 dp:A.depth+3*k+5 < recursionLimit
 un:A.units+16*k+200 < cLine
 gd:A.guards=some []
theorem ZJ.mono {j k:Nat} {A:Around} (r:ZJ k A) (h:j<=k):ZJ j A:=⟨r.hd,by have:=r.dp; omega,by have:=r.un; omega,r.gd⟩
theorem ZJ.deeper {k:Nat} {A:Around} (r:ZJ (k+1) A) (env:Env):ZJ k (A.deeper env):=
 ⟨r.hd,by have:=r.dp; show A.depth+1+3*k+5 < _; omega,by have:=r.un; show A.units+3+16*k+200 < _; omega,r.gd⟩
theorem ZJ.depth {k:Nat} {A:Around} (r:ZJ k A):A.depth < recursionLimit:=by have:=r.dp; omega
theorem ZJ.units {k:Nat} {A:Around} (r:ZJ k A):A.units+64 < cLine:=by have:=r.un; omega
def gH:TA:=fun _ H Q=>Q [] H
def Xa (ta:TE) (tr:TA):TA:=fun σ H Q=>ta σ H fun x H1=>tr σ H1 fun xs H2=>Q (x :: xs) H2
section
variable {X:Cx} {e:Expr} {es:List Expr} {te:TE} {t:TA} {pos:Pos}
theorem zt:PA X [] gH:=fun _ _ _ _ H Q I h=>fx ⟨[],H,I, .nil,h⟩
theorem zj (ha:PE X e te) (hr:PA X es t) (hs:starEach (e :: es) X.env=(false,eval e X.env) :: starEach es X.env:=by rfl):PA X (e :: es) (Xa te t):=by
 intro pos pins s σ H Q I h
 rw [hs]
 show wpAny _ _ (spliced ((false,eval e X.env) :: backTo pos (starEach es X.env))) _ _ s
 refine fg (thn (ha pins s σ H _ I h) fun u s1 ⟨x,H1,I1,r1,q1⟩=> ?_)
 exact thn (hr pos pins s1 σ H1 _ I1 q1) fun us s2 ⟨xs,H2,I2,r2,q2⟩=>⟨x :: xs,H2,I2, .cons r1 r2,q2⟩
def gI (t:TA):TE:=fun σ H Q=>t σ H fun xs H1=>xs.length<=sizeLine/\∀ p,H1 p=none->Q (.ref p) (upd H1 p (.tup xs))
def gJ (t:TA):TE:=fun σ H Q=>t σ H fun xs H1=>xs.length<=sizeLine/\∀ p,H1 p=none->Q (.ref p) (upd H1 p (.lst xs))
theorem vp {x1} (h:PA X es t):PE X (.Tuple es x1 pos) (gI t):=by
 intro pins s σ H Q I hq
 refine wpAny_Tuple_spliced (thn (h pos pins s σ H _ I hq) fun us s1 ⟨xs,H1,I1,r,z,q⟩=>⟨by rw [← r.length]; exact z, ?_⟩)
 have hf:H1 s1.heap.objs.size=none:=I1.hok.fresh (ag _)
 refine ⟨.ref s1.heap.objs.size,upd H1 s1.heap.objs.size (.tup xs),I1.laid (t' :=s1.toks) (fun b u e=>ae _ e) (ag _) ?_,rfl,q _ hf⟩
 exact ⟨z,us,r,⟨_,af _ rfl,rfl,_,rfl⟩, .inr ⟨_,af _ rfl,rfl⟩⟩
theorem Yv (h:PA X es t):PE X (.List es pos) (gJ t):=by
 intro pins s σ H Q I hq
 refine wpAny_List_spliced (thn (h pos pins s σ H _ I hq) fun us s1 ⟨xs,H1,I1,r,z,q⟩=>⟨by rw [← r.length]; exact z, ?_⟩)
 have hf:H1 s1.heap.objs.size=none:=I1.hok.fresh (ag _)
 refine ⟨.ref s1.heap.objs.size,upd H1 s1.heap.objs.size (.lst xs),I1.laid (t' :=s1.toks) (fun b u e=>ae _ e) (ag _) ?_,rfl,q _ hf⟩
 exact ⟨z,us,0,r,af _ rfl⟩
end
abbrev Sp:=List V->Hp->VK->XK->Prop
abbrev CXT:=List Env->Hp->Shared->XK->Value->Shared->Prop
structure uR (P:Program) (w:World) (K:ac) (mg:Str->Option Value) (base:Heap) (A:Around) (outer:List Env) (s:Shared) (H:Hp):Prop where
 frames:A.frames=some outer
 mod:Mod K mg base
 bs:∀ b o,base.get? b=some o->s.heap.get? b=some o/\H b=none
 bsz:base.objs.size<=s.heap.objs.size
 funs:s.heap.FunFrames base outer
 frf:∀ b∈frs outer,H b=none
 hok:HOk P w H s.heap
 bare:AllBare s.gens
def CE (outer:List Env) (P:Program) (w:World) (H:Hp) (s:Shared) (Q:VK) (u:Value) (s' :Shared):Prop:=
 ∃ v H',s'.os=s.os/\AllBare s'.gens/\Un (frs outer) [] H H' s.heap s'.heap/\HOk P w H' s'.heap/\zP v u/\Q v H'
def CR (CX:CXT) (outer:List Env) (P:Program) (w:World) (H:Hp) (s:Shared) (Q:VK) (E:XK) (r:Result) (s' :Shared):Prop:=
 match r with
 | .ok (.ret u)=>CE outer P w H s Q u s'
 | .ok _=>False
 | .error e=>CX outer H s E e s'
structure zG (P:Program) (w:World) (K:ac) (mg:Str->Option Value) (base:Heap) (CX:CXT) (k:Nat) (f:Addr) (fd:FuncData) (ps:List Str) (sp:Sp):Prop where
 len:∀ vs H Q E,sp vs H Q E->vs.length=ps.length
 run:∀ (A:Around) (outer:List Env) (s:Shared) (H:Hp) (args:Args) (us:List Value) (vs:List V) (Q:VK) (E:XK),ZJ k A->uR P w K mg base A outer s H->BindsTo s fd args (ps.zip us)->zB vs us->sp vs H Q E->
  codeAny (model P w) A (.call (.ref f) args) (CR CX outer P w H s Q E) s
section
variable {X:Cx} {pins:List (Addr×Obj)} {σ:St} {H:Hp} {s s' :Shared}
theorem Inv.env0 (I:Inv X pins σ H s):uR X.prog X.w X.K X.mg X.base X.A X.stack s H:=
 ⟨I.ok.frames,I.ok.mod,I.bs,aE I.ok.bsz I.sz,I.stack,I.stkFree,I.hok,I.bare⟩
theorem Inv.after {Q:VK} {u:Value} (I:Inv X pins σ H s) (h:CE X.stack X.prog X.w H s Q u s'):EP X pins σ Q u s' :=by
 obtain ⟨v,H',os,bare,un,hok,r,q⟩:=h
 obtain ⟨hh,g,d,t,os'⟩:=s'
 obtain rfl:os' =s.os:=os
 exact ⟨v,H',I.call (h' :=hh) (g' :=g) (d' :=d) (t' :=t) (ch:=[]) un hok bare (fun b z=>absurd z (by simp)),r,q⟩
end
def Xb (sp:Sp) (dvs:List V) (E:XK) (t:TA):TE:=fun σ H Q=>t σ H fun vs H1=>sp (vs++dvs) H1 Q E
def Binds (K:ac) (fd:FuncData) (ps:List Str) (ds:List Value):Prop:=
 ∀ (s:Shared) (us:List Value),K.In s.heap->(us++ds).length=ps.length->BindsTo s fd ⟨us,[]⟩ (ps.zip (us++ds))
theorem Binds.all {K:ac} {fd:FuncData} {ps:List Str} (h:∀ us:List Value,us.length=ps.length->bindArgs fd ⟨us,[]⟩=pure (ps.zip us)):Binds K fd ps []:=fun s us _ hl=>by
 rw [bz] at hl ⊢
 exact .of_eq (h us hl)
def Zb (CX:CXT) (X:Cx) (E:XK):Prop:=∀ (pins:List (Addr×Obj)) (σ:St) (H:Hp) (s:Shared) (e:Value) (s' :Shared),Inv X pins σ H s->CX X.stack H s E e s' ->X.xe e s'
section
variable {X:Cx} {CX:CXT} {k:Nat} {f C:Addr} {fd:FuncData} {ps:List Str} {sp:Sp} {dvs:List V} {ds:List Value} {E:XK} {x m:Str} {p pos apos:Pos} {e o:Expr} {es:List Expr} {ta:TE} {t:TA}
theorem vq {pins:List (Addr×Obj)} {σ:St} {H:Hp} {s:Shared} {Q:VK} {us:List Value} {vs:List V} (F:zG X.prog X.w X.K X.mg X.base CX k f fd ps sp) (hr:ZJ k X.A) (hb:Binds X.K fd ps ds) (hd:zB dvs ds) (hx:Zb CX X E)
  (I:Inv X pins σ H s) (r:zB vs us) (h:sp (vs++dvs) H Q E):wpAny (model X.prog X.w) X.A (call (.ref f) us) (EP X pins σ Q) X.xe s:=by
 have r2:zB (vs++dvs) (us++ds):=r.append hd
 have hl:(us++ds).length=ps.length:=by rw [← r2.length]; exact F.len _ _ _ _ h
 refine dl (bX (F.run X.A X.stack s H ⟨us,[]⟩ (us++ds) (vs++dvs) Q E hr I.env0 (hb s us I.kIn hl) r2 h) fun r s' hq=> ?_)
 cases r with
 | error e=>exact hx pins σ H s e s' I hq
 | ok fl=>
  cases fl with
  | ret u=>exact I.after hq
  | next=>exact bg hq
  | brk=>exact bg hq
  | cont=>exact bg hq
theorem qk (F:zG X.prog X.w X.K X.mg X.base CX k f fd ps sp) (hr:ZJ k X.A) (hg:Gl X x) (hm:X.mg x=some (.ref f)) (hk:c8 X.K (.ref f)=true) (hb:Binds X.K fd ps ds) (hd:zB dvs ds) (hx:Zb CX X E)
  (ha:PA X (e :: es) t) (hdb:(x == ("__debug__":Str))=false:=by decide) (he:starEach (e :: es) X.env=(false,eval e X.env) :: starEach es X.env:=by rfl) (hpl:(backTo pos (starEach es X.env)).any (·.1)=false:=by rfl):
  PE X (.Call (.Name x p) (e :: es) [] pos) (Xb sp dvs E t):=by
 intro pins s σ H Q I h
 refine bC (j9 I hg hm ?_ hdb)
 refine PySem.W.callWith_K (h₀:=X.base) I.ok.mod.kin hk (thn (ha pos pins s σ H _ I h) fun us s1 ⟨vs,H1,I1,r,q⟩=>⟨I1.kIn, ?_⟩) he hpl
 exact vq F hr hb hd hx I1 r q
end
section
variable {X:Cx} {CX:CXT} {k:Nat} {f C:Addr} {fd:FuncData} {ps ks:List Str} {sp:Sp} {E:XK} {x m:Str} {p pos apos kpos:Pos} {e o:Expr} {es:List Expr} {kws:List Keyword} {te ta:TE} {t tk:TA} {nm:Option Str}
variable {g:List Value->List Value->List Value} {gV:List V->List V->List V}
end
structure zd (N P:List Str) (sc:Scope):Prop where
 kind:sc.kind= .function
 co:sc.isCoroutine=false
 gen:sc.isGenerator=false
 nd:N.Nodup
 pre:N.take P.length=P
 par:∀ x∈P,sc.names.lookup x=some .local\/sc.names.lookup x=some .cell
 nofree:∀ y∈sc.names,y.2 ≠ .free
theorem JM {kindOf:Str->Option NameKind} {x:Str}:∀ {binds:List (Str×Value)} {m:Str->Option Value},(∀ v,(x,v) ∉ binds)->bindL kindOf binds m x=m x
 | [],_,_=>rfl
 | (n,v) :: r,m,h=>by
  unfold bindL
  rw [JM fun w hw=>h w (ah _ hw)]
  split
  ·have:x ≠ n:=by rintro rfl; exact h v av
   simp [this]
  ·rfl
theorem JN {kindOf:Str->Option NameKind} {x:Str}:∀ {binds:List (Str×Value)} {m:Str->Option Value},(∀ v,(x,v) ∉ binds)->bindC kindOf binds m x=m x
 | [],_,_=>rfl
 | (n,v) :: r,m,h=>by
  unfold bindC
  rw [JN fun w hw=>h w (ah _ hw)]
  split
  ·rfl
  ·have:x ≠ n:=by rintro rfl; exact h v av
   simp [this]
theorem JO {kindOf:Str->Option NameKind} {x:Str} {v:Value}:∀ {P:List Str} {vs:List Value} {i:Nat} {m:Str->Option Value},P.Nodup->P[i]? =some x->vs[i]? =some v->kindOf x=some .local->
  bindL kindOf (P.zip vs) m x=some v
 | [],_,_,_,_,h,_,_=>by simp at h
 | _ :: _,[],_,_,_,_,h,_=>by simp at h
 | p :: P,w :: vs,0,m,nd,h1,h2,hk=>by
  simp at h1 h2; subst h1; subst h2
  show bindL kindOf ((p,w) :: P.zip vs) m p=_
  unfold bindL
  rw [JM fun v hv=>(dz.mp nd).1 (cy hv).1,if_pos hk]
  simp
 | p :: P,w :: vs,i+1,m,nd,h1,h2,hk=>by
  show bindL kindOf ((p,w) :: P.zip vs) m x=_
  unfold bindL
  exact JO (i:=i) (dz.mp nd).2 (by simpa using h1) (by simpa using h2) hk
theorem JP {kindOf:Str->Option NameKind} {x:Str} {v:Value}:∀ {P:List Str} {vs:List Value} {i:Nat} {m:Str->Option Value},P.Nodup->P[i]? =some x->vs[i]? =some v->kindOf x ≠ some .local->
  bindC kindOf (P.zip vs) m x=some v
 | [],_,_,_,_,h,_,_=>by simp at h
 | _ :: _,[],_,_,_,_,h,_=>by simp at h
 | p :: P,w :: vs,0,m,nd,h1,h2,hk=>by
  simp at h1 h2; subst h1; subst h2
  show bindC kindOf ((p,w) :: P.zip vs) m p=_
  unfold bindC
  rw [JN fun v hv=>(dz.mp nd).1 (cy hv).1,if_neg hk]
  simp
 | p :: P,w :: vs,i+1,m,nd,h1,h2,hk=>by
  show bindC kindOf ((p,w) :: P.zip vs) m x=_
  unfold bindC
  exact JP (i:=i) (dz.mp nd).2 (by simpa using h1) (by simpa using h2) hk
def start (N:List Str) (vs:List V):St:=vs.map some++ad (N.length - vs.length) none
def ja (CX:CXT) (P:Program) (w:World) (K:ac) (mg:Str->Option Value) (base:Heap) (N:List Str) (qual:Str) (scope:Scope) (f:Addr) (cd:Value) (A:Around) (outer:List Env) (s:Shared) (H:Hp) (E:XK):Cx where
 prog:=P
 w:=w
 K:=K
 mg:=mg
 base:=base
 A:=A.deeper (envOfC qual scope s.heap.objs.size f cd)
 N:=N
 s₀:=s
 H₀:=H
 env:=envOfC qual scope s.heap.objs.size f cd
 outer:=outer
 stack:=envOfC qual scope s.heap.objs.size f cd :: outer
 ex:=[]
 calm:=true
 fn:=fun _=>true
 pn:=[]
 xe:=fun e s' =>wpAny (model P w) (A.deeper (envOfC qual scope s.heap.objs.size f cd)) (leaving (envOfC qual scope s.heap.objs.size f cd) e) (fun _ s'' =>CX outer H s E e s'') (fun e' s'' =>CX outer H s E e' s'') s'
theorem W2 {sc:Scope} {n:Nat} {x:Str} (h:sc.names.lookup x=some .cell):∃ c,(cellsFrom n sc.names []).lookup x=some c:=by
 have q:=eM sc.names n [] (.inl h)
 exact cI.mp q
theorem JQ {CX:CXT} {P:Program} {w:World} {K:ac} {mg:Str->Option Value} {base:Heap} {N ps:List Str} {qual:Str} {scope:Scope} {f:Addr} {cd:Value} {A:Around} {outer:List Env} {s s1:Shared} {H:Hp} {E:XK} {us:List Value} {vs:List V}
  (S:zd N ps scope) (hd:A.handled=none) (e0:uR P w K mg base A outer s H) (hl:vs.length=ps.length) (r:zB vs us)
  (x:InCallC s s.heap.objs.size (bindL (envOfC qual scope s.heap.objs.size f cd).kindOf (ps.zip us) fun _=>none) (cellsFrom (s.heap.objs.size+1) scope.names []) (bindC (envOfC qual scope s.heap.objs.size f cd).kindOf (ps.zip us) fun _=>none) s1):
  Inv (ja CX P w K mg base N qual scope f cd A outer s H E) [] (start N vs) H s1:=by
 have hpl:ps.length<=N.length:=by have:=congrArg List.length S.pre; rw [dm] at this; omega
 obtain ⟨h1,tk,rfl,hk⟩:=x.done
 have noA:∀ b:Addr,b ∉ (ja CX P w K mg base N qual scope f cd A outer s H E).ex:=fun b z=>absurd (show b∈([]:List Addr) from z) (by simp)
 refine ⟨⟨e0.mod,S.kind,rfl,rfl,ag _,fun y z c h1 h2=> ?_,fun y hy=> ?_,fun y c _ h=> ?_,fun _=>hd,dv e0.frames, .inr ⟨rfl,rfl⟩,fun b z=>absurd z (noA b),e0.bs,e0.bsz,fun b _ _=>noA b,fun b z=>absurd z (noA b),e0.funs,e0.frf⟩,
  rfl,e0.bare,Un.kept hk,⟨_,x.toInCall.ns,fun i y v h1 h2 h3=> ?_⟩,fun y c h=>⟨_,x.cell y c h⟩,e0.hok.fresh (ag _),fun y c h=> ?_,fun p hp=>absurd (show p∈([]:List (Addr×Obj)) from hp) (by simp),e0.hok.kept hk, ?_⟩
 ·exact name_of_addr x.apart (ba h1) (ba h2)
 ·have hy:scope.names.lookup y=some .cell\/scope.names.lookup y=some .free:=hy
  rcases hy with hy | hy
  ·exact W2 hy
  ·exact absurd rfl (S.nofree _ (ba hy))
 ·exact eL (x.above y c (ba h))
 ·have hi:i < vs.length:=by
   unfold start at h2
   by_cases hi:i < vs.length
   ·exact hi
   ·rw [aP (by simpa using hi)] at h2
    rw [aC] at h2
    split at h2 <;> cases h2
  have ha:vs[i]? =some v:=by
   unfold start at h2
   rw [aS (by simpa using hi),aj] at h2
   cases e:vs[i]? with
   | none=>rw [e] at h2; cases h2
   | some a=>rw [e] at h2; cases h2; rfl
  obtain ⟨u,hu,rv⟩:=r.get ha
  have hp:ps[i]? =some y:=by
   rw [← S.pre,cJ (by omega)]; exact h1
  have ndP:ps.Nodup:=by rw [← S.pre]; exact S.nd.sublist (List.take_sublist _ _)
  refine ⟨u,rv, ?_⟩
  rcases S.par y (bF hp) with k | k
  ·exact .inl ⟨k,JO ndP hp hu k⟩
  ·obtain ⟨c,e⟩:=W2 (n:=s.heap.objs.size+1) k
   refine .inr ⟨.inl k,c,e, ?_⟩
   have q:=x.cell y c e
   rw [JP ndP hp hu (by show scope.names.lookup y ≠ _; rw [k]; decide)] at q
   exact q
 ·exact e0.hok.fresh (eL (x.above y c (ba h)))
 ·unfold start
  show _=N.length
  rw [aF,ao,aU]
  omega
theorem qm {CX:CXT} {P:Program} {w:World} {K:ac} {mg:Str->Option Value} {base:Heap} {k:Nat} {f:Addr} {name qual:Str} {params:Arguments} {body:List Stmt} {scope:Scope} {dV kV doc pm cdv ct oc:Value} {an od:Option Addr}
  {osl:Array (Option Value)} {N ps:List Str} {sp:Sp} (lk:K.lookup f=some ⟨oc,od, .func (bQ name qual params body scope dV kV doc pm an cdv ct),osl⟩) (hcd:dL K cdv qual=true) (S:zd N ps scope)
  (len:∀ vs H Q E,sp vs H Q E->vs.length=ps.length)
  (hbody:∀ (A:Around) (outer:List Env) (s:Shared) (H:Hp) (vs:List V) (Q:VK) (E:XK),ZJ k (A.deeper (envOfC qual scope s.heap.objs.size f cdv))->sp vs H Q E->
   ∃ t,PSs (ja CX P w K mg base N qual scope f cdv A outer s H E) body t/\t { nx:=fun _ H' =>Q .non H',rt:=Q } (start N vs) H):
  zG P w K mg base CX (k+1) f (bQ name qual params body scope dV kV doc pm an cdv ct) ps sp:=by
 refine ⟨len,fun A outer s H args us vs Q E hr e0 hb r hsp=> ?_⟩
 have hl:=len _ _ _ _ hsp
 have KX:K.In s.heap:=e0.mod.kin.keeps fun b o e=>(e0.bs b o e).1
 have lim:s.heap.NoLimit:=e0.mod.nolimit.keeps fun b o e=>(e0.bs b o e).1
 have hkind:∀ y∈ps.zip us,scope.names.lookup y.1=some .local\/(scope.names.lookup y.1=some .cell/\((cellsFrom (s.heap.objs.size+1) scope.names []).lookup y.1).isSome=true):=fun ⟨n,v⟩ hy=>by
  rcases S.par n (cy hy).1 with q | q
  ·exact .inl q
  ·exact .inr ⟨q,eM _ _ _ (.inl q)⟩
 refine codeAny_call_function hr.depth (KX _ _ lk) rfl S.co S.gen rfl (PySem.W.codeRec_of KX hcd) (hb _ _ _ _ ?_)
 refine wpAny_newFunctionEnv_cells S.kind hkind fun env he s1 x=> ?_
 subst he
 refine ⟨lim.keeps x.toInCall.keep,codeAny_func ?_⟩
 obtain ⟨t,ht,hq⟩:=hbody A outer s H vs Q E (hr.deeper _) hsp
 have I:Inv (ja CX P w K mg base N qual scope f cdv A outer s H E) [] (start N vs) H s1:=JQ S hr.hd e0 hl r x
 refine bB (ht [] s1 (start N vs) H _ I hq) (fun fl s' hs=> ?_) fun e s' hs=>hs
 have fin:∀ {σ' :St} {H' :Hp} {v:V} {u:Value},Inv (ja CX P w K mg base N qual scope f cdv A outer s H E) [] σ' H' s' ->zP v u->Q v H' ->CE outer P w H s Q u s' :=
  fun {σ' H' v u} J rv q=>⟨v,H',J.os,J.bare,J.base,J.hok,rv,q⟩
 cases fl with
 | ret u=>
  obtain ⟨v,σ',H',J,rv,q⟩:=hs
  exact fin J rv q
 | next=>
  obtain ⟨σ',H',J,q⟩:=hs
  exact fin (v:=V.non) (u:=Value.none) J rfl q
 | brk=>
  obtain ⟨_,_,_,q⟩:=hs
  exact bg q
 | cont=>
  obtain ⟨_,_,_,q⟩:=hs
  exact bg q
end L2
namespace L2
open PySem PySem.Spec PyProof.Rows
section
variable {X:Cx} {x:Str} {p pos:Pos} {e:Expr} {es:List Expr} {t:TA} {id T:String} {r:List V->Hp->VK->Prop}
def tCB (r:List V->Hp->VK->Prop) (t:TA):TE:=fun σ H Q=>t σ H fun vs H1=>r vs H1 Q
theorem j0 (hc:Zf X (.builtin id) r) (hg:Gl X x) (hm:X.mg x=none) (hv:bootBuiltins x=some (.builtin id)) (ha:PA X (e :: es) t) (hn:x ≠ "__name__":=by decide) (hdb:(x == ("__debug__":Str))=false:=by decide)
  (he:starEach (e :: es) X.env=(false,eval e X.env) :: starEach es X.env:=by rfl) (hpl:(backTo pos (starEach es X.env)).any (·.1)=false:=by rfl):PE X (.Call (.Name x p) (e :: es) [] pos) (tCB r t):=by
 intro pins s σ H Q I h
 refine bC (ZL I hg hm hv ?_ hn hdb)
 exact PyProof.Rows.callWith_builtin1 (thn (ha pos pins s σ H _ I h) fun us s1 ⟨vs,H1,I1,r1,q1⟩=>hc pins s1 σ H1 vs us Q I1 r1 q1) he hpl
theorem j1 (hc:Zf X (.type T) r) (hg:Gl X x) (hm:X.mg x=none) (hv:bootBuiltins x=some (.type T)) (ha:PA X (e :: es) t) (hn:x ≠ "__name__":=by decide) (hdb:(x == ("__debug__":Str))=false:=by decide)
  (he:starEach (e :: es) X.env=(false,eval e X.env) :: starEach es X.env:=by rfl) (hpl:(backTo pos (starEach es X.env)).any (·.1)=false:=by rfl):PE X (.Call (.Name x p) (e :: es) [] pos) (tCB r t):=by
 intro pins s σ H Q I h
 refine bC (ZL I hg hm hv ?_ hn hdb)
 exact aN (thn (ha pos pins s σ H _ I h) fun us s1 ⟨vs,H1,I1,r1,q1⟩=>hc pins s1 σ H1 vs us Q I1 r1 q1) he hpl
end
end L2
namespace HT
open PySem PyProof.Rows
section
open PySem.SeqAt
open PySem.AutoSeq1 (wpAny_loadPart')
open PySem.MeetsSeq PySem.MeetsSeq2 PySem.MeetsSeq3
end
section
variable {prog:Program} {w:World} {A:Around} {E:Value->Shared->Prop} {s:Shared}
theorem cat_tup {t b:Addr} {vs ws:List Value} {Q:Value->Shared->Prop} (ht:IsTup s.heap t vs.toArray) (hb:IsTup s.heap b ws.toArray) (hv:vs ≠ [])
  (h1:ws=[]->Q (.ref t) s) (h2:ws ≠ []->Q (.ref s.heap.objs.size) { s with heap:=s.heap.push { cls:= .type "tuple",data:= .seq (vs++ws).toArray } })
  (hsz:vs.length+ws.length<=sizeLine):wpAny (model prog w) A (binaryOp .Add (.ref t) (.ref b)) Q E s:=by
 obtain ⟨⟨cls,dd,data,sl⟩,ho,hc,n,hd⟩:=id ht
 obtain ⟨⟨cls2,dd2,data2,sl2⟩,ho2,hc2,n2,hd2⟩:=id hb
 simp only at hc hd hc2 hd2
 subst hc hd hc2 hd2
 have e:vs.toArray++ws.toArray=(vs++ws).toArray:=by simp
 by_cases hw:ws=[]
 ·exact concat_meets ⟨_,ho,rfl⟩ ⟨_,ho2,rfl⟩ noFill_tuple_add seq_tuple_add da cS (cK _ _)
   (tuple_addW1 t b vs.toArray ws.toArray n n2 dd dd2 sl sl2 (by simpa using hv) (by simp [hw])) ⟨ho,ho2,h1 hw⟩
 ·refine concat_meets ⟨_,ho,rfl⟩ ⟨_,ho2,rfl⟩ noFill_tuple_add seq_tuple_add da cS (cK _ _)
   (tuple_addW2 t b vs.toArray ws.toArray n n2 dd dd2 sl sl2 (by simpa using hv) (by simpa using hw) (by rw [ar,ar]; exact hsz)) ⟨ho,ho2, ?_⟩
  rw [e]
  exact h2 hw
def sIx (n d:Nat):Option Int->Nat
 | none=>d
 | some v=>if v < 0 then (v+(n:Int)).toNat else min v.toNat n
end
end HT
namespace L2
open PySem PySem.Spec PyProof.Rows
abbrev TO:=St->Hp->(Option Int->Hp->Prop)->Prop
def PO (X:Cx) (e:Option Expr) (t:TO):Prop:=
 ∀ (pins:List (Addr×Obj)) (s:Shared) (σ:St) (H:Hp) (Q:Option Int->Hp->Prop),Inv X pins σ H s->t σ H Q->
  wpAny (model X.prog X.w) X.A (evalPart e X.env) (fun u s' =>∃ o H',Inv X pins σ H' s' /\IsPart u o/\Q o H') X.xe s
def qo:TO:=fun _ H Q=>Q none H
def Xc (t:TE):TO:=fun σ H Q=>t σ H fun x H1=>∃ i,x= .int i/\Q (some i) H1
section
variable {X:Cx} {e:Expr} {te:TE} {lo hi:Option Expr} {tl th:TO} {pos p2:Pos}
theorem qp:PO X none qo:=by
 intro pins s σ H Q I h
 rw [evalPart_none]
 exact aq ⟨none,H,I, .none,h⟩
theorem qq (h:PE X e te):PO X (some e) (Xc te):=by
 intro pins s σ H Q I hw
 rw [evalPart_some]
 refine thn (h pins s σ H _ I hw) fun u s1 ⟨x,H1,I1,r1,q1⟩=> ?_
 obtain ⟨i,rfl,q⟩:=q1
 obtain ⟨t,rfl⟩:=r1
 exact ⟨some i,H1,I1, .int i t,q⟩
def SlR (X:Cx) (r:V->Option Int->Option Int->Hp->VK->Prop):Prop:=
 ∀ (pins:List (Addr×Obj)) (s:Shared) (σ:St) (H:Hp) (x:V) (v vl vu:Value) (lo hi:Option Int) (sl:Addr) (Q:VK),Inv X pins σ H s->zP x v->s.heap.IsSliceOf sl vl vu .none->IsPart vl lo->IsPart vu hi->r x lo hi H Q->
  ∃ T id,typeLookup (.type T) "__getitem__"=pure (some (.builtin id))/\s.TypeIs v T/\wpAny (model X.prog X.w) X.A (getItem v (.ref sl)) (EP X pins σ Q) X.xe s
def tSl (r:V->Option Int->Option Int->Hp->VK->Prop) (te:TE) (tl th:TO):TE:=fun σ H Q=>te σ H fun x H1=>tl σ H1 fun l H2=>th σ H2 fun u H3=>r x l u H3 Q
theorem yI {r:V->Option Int->Option Int->Hp->VK->Prop} (hr:SlR X r) (he:PE X e te) (hl:PO X lo tl) (hu:PO X hi th):PE X (.Subscript e (.Slice lo hi none p2) pos) (tSl r te tl th):=by
 intro pins s σ H Q I h
 refine Subscript_ (thn (he pins s σ H _ I h) fun v s1 ⟨x,H1,I1,r1,q1⟩=> ?_)
 refine wpAny_Slice (thn (hl pins s1 σ H1 _ I1 q1) fun vl s2 ⟨l,H2,I2,pl,q2⟩=>thn (hu pins s2 σ H2 _ I2 q2) fun vu s3 ⟨u,H3,I3,pu,q3⟩=> ?_)
 rw [evalPart_none]
 refine aq ?_
 have I4:Inv X pins σ H3 { s3 with heap:=s3.heap.push { cls:= .type "slice",data:= .fields #[vl,vu, .none] } }:=I3.kept (t' :=s3.toks) fun b ob q=>ae _ q
 obtain ⟨T,id,hT,ht,hg⟩:=hr pins { s3 with heap:=s3.heap.push { cls:= .type "slice",data:= .fields #[vl,vu, .none] } } σ H3 x v vl vu l u s3.heap.objs.size Q I4 r1 (fj ..) pl pu q3
 show wpAny (model X.prog X.w) X.A (subscriptTail e (.Slice lo hi none p2) v (.ref s3.heap.objs.size)) (EP X pins σ Q) X.xe { s3 with heap:=s3.heap.push { cls:= .type "slice",data:= .fields #[vl,vu, .none] } }
 exact tail_any (ops:=[.ref s3.heap.objs.size,v]) ht hT hg (by with_unfolding_all rfl)
def xI (xs:List V) (lo hi:Option Int):List V:=(xs.drop (HT.sIx xs.length 0 lo)).take (HT.sIx xs.length xs.length hi - HT.sIx xs.length 0 lo)
theorem wE (xs:List V) (lo hi:Option Int):(xI xs lo hi).length<=xs.length:=by
 unfold xI
 rw [dm,fJ]
 omega
def Xd (K:ac):R2:=fun x y H Q=>∃ a b xs ys,x= .ref a/\y= .ref b/\SqT K H a xs/\SqT K H b ys/\xs ≠ []/\xs.length+ys.length<=sizeLine/\
 (ys=[]->Q (.ref a) H)/\(ys ≠ []->∀ p,H p=none->Q (.ref p) (upd H p (.tup (xs++ys))))
theorem zB.nil_iff {xs:List V} {us:List Value} (r:zB xs us):us=[]↔xs=[]:=by
 cases r with
 | nil=>simp
 | cons _ _=>simp
theorem qr:OpR X (binaryOp .Add) (Xd X.K):=by
 intro pins s σ H x y v u Q I rx ry h
 obtain ⟨a,b,xs,ys,rfl,rfl,ha,hb,hx,hz,q1,q2⟩:=h
 cases rx
 cases ry
 obtain ⟨its,r1,p1,_⟩:=I.tuple ha
 obtain ⟨its2,r2,p2,_⟩:=I.tuple hb
 refine HT.cat_tup p1 p2 (fun z=>hx (r1.nil_iff.mp z)) (fun z=>⟨.ref a,H,I,rfl,q1 (r2.nil_iff.mp z)⟩) (fun z=> ?_) (by rw [← r1.length,← r2.length]; exact hz)
 refine ⟨.ref s.heap.objs.size,_,I.laid (t' :=s.toks) (o:= .tup (xs++ys)) (fun b ob q=>ae _ q) (ag _) ?_,rfl,q2 (fun w=>z (r2.nil_iff.mpr w)) _ (I.hok.fresh (ag _))⟩
 exact ⟨by rw [aF]; exact hz,_,r1.append r2,ITN.new _ _⟩
end
end L2
namespace L2
open PySem PySem.Spec PyProof.Rows
def ixN (n:Nat) (i:Int):Option Nat:=if 0<=i then (if i < n then some i.toNat else none) else if -(n:Int)<=i then some (i+n).toNat else none
def atI {α:Type} (xs:List α) (i:Int):Option α:=(ixN xs.length i).bind fun j=>xs[j]?
theorem qt {n:Nat} {i:Int} {j:Nat} (h:ixN n i=some j):seqIndex? i n=some j/\j < n/\ -(n:Int)<=i/\i < n:=by
 unfold ixN at h
 by_cases h0:0<=i
 ·rw [if_pos h0] at h
  by_cases h1:i < n
  ·rw [if_pos h1] at h
   have e:i.toNat=j:=aI h
   exact ⟨by rw [seqIndex_of h0 h1,e],by omega,by omega,h1⟩
  ·rw [if_neg h1] at h; cases h
 ·rw [if_neg h0] at h
  by_cases h1: -(n:Int)<=i
  ·rw [if_pos h1] at h
   have e:(i+n).toNat=j:=aI h
   exact ⟨by rw [seqIndex_neg (by omega) h1,e],by omega,h1,by omega⟩
  ·rw [if_neg h1] at h; cases h
theorem wF {α:Type} {xs:List α} {i:Int} {v:α} (h:atI xs i=some v):∃ j,seqIndex? i xs.length=some j/\xs[j]? =some v/\j < xs.length/\ -(xs.length:Int)<=i/\i < xs.length:=by
 unfold atI at h
 cases e:ixN xs.length i with
 | none=>rw [e] at h; cases h
 | some j=>
  rw [e] at h
  obtain ⟨h1,h2,h3,h4⟩:=qt e
  exact ⟨j,h1,h,h2,h3,h4⟩
theorem Zw {α:Type} {xs:List α} {j:Nat} {v:α} (h:xs[j]? =some v):atI xs (j:Int)=some v:=by
 have hj:j < xs.length:=(ak.mp h).1
 have e:ixN xs.length (j:Int)=some j:=by
  unfold ixN
  rw [if_pos (by omega),if_pos (by omega)]; simp
 unfold atI; rw [e]; exact h
def uS (b:Expr):Prop:=∀ o i,subscripted b false o i=operate [o,i] (getItem o i)
def IxR (X:Cx) (r:R2):Prop:=
 ∀ (value slice:Expr) (pins:List (Addr×Obj)) (s:Shared) (σ:St) (H:Hp) (x y:V) (v u:Value) (Q:VK),Inv X pins σ H s->zP x v->zP y u->r x y H Q->
  subscripted slice false v u=operate [v,u] (getItem v u)->wpAny (model X.prog X.w) X.A (subscriptTail value slice v u) (EP X pins σ Q) X.xe s
def MtR (X:Cx) (id:String) (r:V->List V->Hp->VK->Prop):Prop:=
 ∀ (pins:List (Addr×Obj)) (s:Shared) (σ:St) (H:Hp) (x:V) (xs:List V) (v:Value) (us:List Value) (Q:VK),Inv X pins σ H s->zP x v->zB xs us->r x xs H Q->
  wpAny (model X.prog X.w) X.A (call (.builtin id) (v :: us)) (EP X pins σ Q) X.xe s
section
variable {X:Cx} {a b:Expr} {ta tb:TE} {pos:Pos}
theorem IxR.or {r r' :R2} (h:IxR X r) (h' :IxR X r'):IxR X (fun x y H Q=>r x y H Q\/r' x y H Q):=by
 intro value slice pins s σ H x y v u Q I rx ry q hs
 rcases q with q | q
 ·exact h value slice pins s σ H x y v u Q I rx ry q hs
 ·exact h' value slice pins s σ H x y v u Q I rx ry q hs
theorem Xe {r:R2} (hr:IxR X r) (ha:PE X a ta) (hb:PE X b tb) (hs:uS b):PE X (.Subscript a b pos) (tOp r ta tb):=by
 intro pins s σ H Q I h
 exact Subscript_ (X3 ha hb I h fun v u s2 x y H2 I2 rx ry q=>hr a b pins s2 σ H2 x y v u Q I2 rx ry q (hs _ _))
def kW (K:ac):R2:=fun x y H Q=>∃ p xs i v,x= .ref p/\y= .int i/\SqL K H p xs/\atI xs i=some v/\Q v H
def kX (K:ac):R2:=fun x y H Q=>∃ p xs i v,x= .ref p/\y= .int i/\SqT K H p xs/\atI xs i=some v/\Q v H
def kY:R2:=fun x y H Q=>∃ z i c,x= .str z/\y= .int i/\z.length<=sizeLine/\atI z.cps.toList i=some c/\Q (.str ⟨#[c]⟩) H
theorem qu:IxR X (kW X.K):=by
 intro value slice pins s σ H x y v u Q I rx ry h hs
 obtain ⟨p,xs,i,z,rfl,rfl,hq,he,q⟩:=h
 cases rx
 obtain ⟨t,rfl⟩:=ry
 obtain ⟨its,r,pl,hz⟩:=I.list hq
 obtain ⟨j,h1,h2,h3,h4,h5⟩:=wF he
 obtain ⟨w,ew,rw'⟩:=r.get h2
 have hl:=r.length
 have hn:=jU
 have fin:EP X pins σ Q w s:=⟨z,H,I,rw',q⟩
 by_cases h0:0<=i
 ·have hj:i.toNat=j:=by
   rw [seqIndex_of h0 h5] at h1
   exact aI h1
  exact item_listR pl.isList h0 (by omega) (by rw [hj]; simpa using ew) fin hs
 ·have hj:(i+(its.toArray.size:Int)).toNat=j:=by
   rw [seqIndex_neg (by omega) h4] at h1
   rw [ar,← hl]
   exact aI h1
  exact subscriptTail_builtinR (x:=w) pl.isList.typeIs slot_list_getitem.lookup
   (wpAny_getItem_list_neg (Q:=fun r s' =>r=w/\EP X pins σ Q r s') pl.isList (by omega) (by rw [ar] <;> omega) (by omega) (by rw [hj]; simpa using ew) ⟨rfl,fin⟩) hs
theorem vt:IxR X (kX X.K):=by
 intro value slice pins s σ H x y v u Q I rx ry h hs
 obtain ⟨p,xs,i,z,rfl,rfl,hq,he,q⟩:=h
 cases rx
 obtain ⟨t,rfl⟩:=ry
 obtain ⟨its,r,pl,hz⟩:=I.tuple hq
 obtain ⟨j,h1,h2,h3,h4,h5⟩:=wF he
 obtain ⟨w,ew,rw'⟩:=r.get h2
 have hl:=r.length
 have hn:=jU
 have fin:EP X pins σ Q w s:=⟨z,H,I,rw',q⟩
 exact subscriptTail_builtinR (x:=w) pl.typeIs slot_tuple_getitem.lookup
  (getItem_tuple (j:=j) (Q:=fun r s' =>r=w/\EP X pins σ Q r s') pl (by omega) (by omega) (by rw [ar,← hl]; exact h1) (by simpa using ew) ⟨rfl,fin⟩) hs
theorem vv:IxR X kY:=by
 intro value slice pins s σ H x y v u Q I rx ry h hs
 obtain ⟨z,i,c,rfl,rfl,hz,he,q⟩:=h
 obtain ⟨t,rfl⟩:=rx
 obtain ⟨t',rfl⟩:=ry
 obtain ⟨j,h1,h2,h3,h4,h5⟩:=wF he
 have hl:z.cps.toList.length=z.length:=by simp [Str.length]
 rw [hl] at h1 h4 h5
 have hn:=jU
 exact tail_any (cr s z t) slot_str_getitem.lookup (getItem_str (c:=c) (by
  have e1:decide (i < -(2 ^ 63:Int))=false:=decide_eq_false (by omega)
  have e2:decide (i ≥ 2 ^ 63)=false:=decide_eq_false (by omega)
  rw [e1,e2,Bool.or_false]) (by rw [h1]; simpa using h2) ⟨.str ⟨#[c]⟩,H,I.tok _,⟨_,rfl⟩,q⟩) hs
def rIx (K:ac):R2:=fun x y H Q=>kW K x y H Q\/kX K x y H Q\/kY x y H Q
theorem vw:IxR X (rIx X.K):=qu.or (vt.or vv)
theorem JR (lo hi:Option Int) (n:Nat):(sliceBounds lo hi none n).1=((HT.sIx n 0 lo:Nat):Int)/\(sliceBounds lo hi none n).2.1=((HT.sIx n n hi:Nat):Int)/\(sliceBounds lo hi none n).2.2=1:=by
 refine ⟨?_, ?_,rfl⟩
 ·cases lo with
  | none=>simp [sliceBounds,HT.sIx]
  | some i=>
   simp only [sliceBounds,HT.sIx,fK,show (1:Int) > 0 by decide,if_true]
   by_cases h:i < 0
   ·simp only [h,if_true] <;> omega
   ·simp only [h,if_false] <;> omega
 ·cases hi with
  | none=>simp [sliceBounds,HT.sIx]
  | some i=>
   simp only [sliceBounds,HT.sIx,fK,show (1:Int) > 0 by decide,if_true]
   by_cases h:i < 0
   ·simp only [h,if_true] <;> omega
   ·simp only [h,if_false] <;> omega
theorem Jg (its:List Value) (lo hi:Option Int):slicePick its.toArray lo hi none=((its.drop (HT.sIx its.length 0 lo)).take (HT.sIx its.length its.length hi - HT.sIx its.length 0 lo)).toArray:=by
 obtain ⟨h1,h2,h3⟩:=JR lo hi its.toArray.size
 unfold slicePick
 rw [h1,h2,h3]
 simp only [sliceRange_one,pick_run,ar] <;> rfl
def gK (K:ac):V->Option Int->Option Int->Hp->VK->Prop:=fun x lo hi H Q=>∃ a xs,x= .ref a/\SqL K H a xs/\∀ p,H p=none->Q (.ref p) (upd H p (.lst (xI xs lo hi)))
theorem Xf:SlR X (gK X.K):=by
 intro pins s σ H x v vl vu lo hi sl Q I rx hs pl pu h
 obtain ⟨a,xs,rfl,hx,q⟩:=h
 cases rx
 obtain ⟨its,r,ht,hz⟩:=I.list hx
 have hlen:=r.length
 refine ⟨"list",_,slot_list_getitem.lookup,ht.isList.typeIs, ?_⟩
 refine wpAny_getItem_list_slice ht.isList hs pl pu .none (by simp) ?_ (by rw [ar] <;> omega)
 rw [Jg,← hlen]
 refine ⟨.ref s.heap.objs.size,_,I.laid (t' :=s.toks) (o:= .lst (xI xs lo hi)) (fun b ob q=>ae _ q) (ag _) ?_,rfl,q _ (I.hok.fresh (ag _))⟩
 exact ⟨aE (wE xs lo hi) hz,_,0,(r.drop (HT.sIx xs.length 0 lo)).take (HT.sIx xs.length xs.length hi - HT.sIx xs.length 0 lo),af _ rfl⟩
theorem JS:Zf X (.builtin "len") (fun xs H Q=>∃ p ys,xs=[.ref p]/\(SqL X.K H p ys\/SqT X.K H p ys)/\Q (.int ys.length) H):=by
 intro pins s σ H xs us Q I r h
 obtain ⟨p,ys,rfl,hq,q⟩:=h
 obtain ⟨u,rfl,rx⟩:=Zg r
 cases rx
 have hn:=jU
 rcases hq with hq | hq
 ·obtain ⟨its,r',pl,hz⟩:=I.list hq
  have hlen:=r'.length
  exact Calls.call_len_list pl.isList (by simp only [ar] <;> omega) ⟨.int ys.length,H,I.tok _,⟨s.toks+1,by rw [ar,hlen]⟩,q⟩
 ·obtain ⟨its,r',pl,hz⟩:=I.tuple hq
  have hlen:=r'.length
  exact len_tuple pl (by simp only [ar] <;> omega) ⟨.int ys.length,H,I.tok _,⟨s.toks+1,by rw [ar,hlen]⟩,q⟩
theorem JT:Zf X (.builtin "len") (fun xs H Q=>∃ z,xs=[.str z]/\z.length<=sizeLine/\Q (.int z.length) H):=by
 intro pins s σ H xs us Q I r h
 obtain ⟨z,rfl,hz,q⟩:=h
 obtain ⟨u,rfl,t,rfl⟩:=Zg r
 have hn:=jU
 exact len_str (by omega) ⟨.int z.length,H,I.tok _,⟨_,rfl⟩,q⟩
theorem Zf.or {f:Value} {r r' :List V->Hp->VK->Prop} (h:Zf X f r) (h' :Zf X f r'):Zf X f (fun xs H Q=>r xs H Q\/r' xs H Q):=by
 intro pins s σ H xs us Q I rs q
 rcases q with q | q
 ·exact h pins s σ H xs us Q I rs q
 ·exact h' pins s σ H xs us Q I rs q
theorem Jh:Zf X (.type "tuple") (fun xs H Q=>∃ p ys,xs=[.ref p]/\((SqL X.K H p ys/\∀ l,H l=none->Q (.ref l) (upd H l (.tup ys)))\/(SqT X.K H p ys/\Q (.ref p) H))):=by
 intro pins s σ H xs us Q I r h
 obtain ⟨p,ys,rfl,h⟩:=h
 obtain ⟨u,rfl,rx⟩:=Zg r
 cases rx
 rcases h with ⟨hq,q⟩ | ⟨hq,q⟩
 ·obtain ⟨its,r',pl,hz⟩:=I.list hq
  have hlen:=r'.length
  refine call_tuple_list pl.isList (fun h' kp=> ?_) (by simp only [ar] <;> omega)
  have I1:Inv X pins σ H { s with heap:=h' }:=I.kept (t' :=s.toks) kp
  have I2:Inv X pins σ (upd H h'.objs.size (.tup ys)) { s with heap:=h'.push { cls:= .type "tuple",data:= .seq its.toArray } }:=
   I1.laid (t' :=s.toks) (fun b o e=>ae _ e) (ag _) (show zH X.prog X.w _ _ _ (.tup ys) from ⟨hz,its,r',ITN.new _ _⟩)
  exact ⟨.ref h'.objs.size,_,I2,rfl,q _ (I1.hok.fresh (ag _))⟩
 ·obtain ⟨its,r',pl,hz⟩:=I.tuple hq
  exact call_tuple_same pl ⟨.ref p,H,I,rfl,q⟩
def tyV (K:ac) (T:String) (x:V) (H:Hp):Prop:=match x with
 | .str _=>T="str"
 | .int _=>T="int"
 | .ref p=>(T="list"/\∃ xs,SqL K H p xs)\/(T="tuple"/\∃ o,K.lookup p=some o/\o.cls= .type "tuple"/\o.dict=none)\/
   (T="dict"/\((∃ kvs,H p=some (.dK kvs))\/∃ kvs,H p=some (.dT kvs)))\/(T="set"/\∃ S n,H p=some (.set S n))
 | _=>False
theorem vx {pins:List (Addr×Obj)} {σ:St} {H:Hp} {s:Shared} {T:String} {x:V} {v:Value} (I:Inv X pins σ H s) (r:zP x v) (ty:tyV X.K T x H):
  s.TypeIs v T/\∀ a,v= .ref a->∃ ob,s.heap.get? a=some ob/\ob.dict=none:=by
 cases x with
 | str z=>
  obtain ⟨t,rfl⟩:=r
  cases (show T="str" from ty)
  exact ⟨cr s z t,fun _ e=>nomatch e⟩
 | int i=>
  obtain ⟨t,rfl⟩:=r
  cases (show T="int" from ty)
  exact ⟨typeIs_int s i t,fun _ e=>nomatch e⟩
 | ref p=>
  cases r
  rcases ty with ⟨rfl,xs,hq⟩ | ⟨rfl,o,hk,hc,hd⟩ | ⟨rfl,hk⟩ | ⟨rfl,S,n,hk⟩
  ·obtain ⟨its,_,pl,_⟩:=I.list hq
   refine ⟨pl.isList.typeIs,fun a e=> ?_⟩
   cases e
   obtain ⟨o,n,e,c,hd,_⟩:=pl
   exact ⟨o,e,hd⟩
  ·refine ⟨⟨o,I.kIn p o hk,hc⟩,fun a e=> ?_⟩
   cases e
   exact ⟨o,I.kIn _ o hk,hd⟩
  ·have z:∃ o,s.heap.get? p=some o/\o.ExactDict:=by
    rcases hk with ⟨kvs,hk⟩ | ⟨kvs,hk⟩
    ·obtain ⟨_,_,_,_,o,_,_,e,ex,_⟩:=I.hok p _ hk
     exact ⟨o,e,ex⟩
    ·obtain ⟨_,_,_,_,o,_,_,e,ex,_⟩:=I.hok p _ hk
     exact ⟨o,e,ex⟩
   obtain ⟨o,e,ex⟩:=z
   refine ⟨⟨o,e,ex.1⟩,fun a e2=> ?_⟩
   cases e2
   exact ⟨o,e,ex.2.1⟩
  ·obtain ⟨o,_,_,_,e,ex,_⟩:=I.hok p _ hk
   refine ⟨⟨o,e,ex.1⟩,fun a e2=> ?_⟩
   cases e2
   exact ⟨o,e,ex.2.1⟩
 | _=>exact bg ty
def tBM (K:ac) (T:String) (r:V->List V->Hp->VK->Prop) (to:TE) (t:TA):TE:=fun σ H Q=>to σ H fun x H1=>tyV K T x H1/\t σ H1 fun xs H2=>r x xs H2 Q
variable {o e:Expr} {es:List Expr} {to:TE} {t:TA} {name:Str} {apos cpos:Pos} {T id:String} {r:V->List V->Hp->VK->Prop}
theorem jP (pa:PlainAttrs T) (slot:Slot T name id) (hty:typeOf (.builtin id)=pure (.type "method_descriptor")) (hm:MtR X id r) (ho:PE X o to) (ha:PA X (e :: es) t)
  (hbase:attributeBase o name X.env (eval o X.env)=eval o X.env:=by rfl)
  (hfew:((backTo cpos (starEach (e :: es) X.env)).all (fun x=> !x.1) && (backToKw cpos (keywordEach [] X.env)).all (fun x=>x.1.isSome)
   && decide ((e :: es).length+([]:List Keyword).length+(if ([]:List Keyword).isEmpty then 0 else 1) < 30))=true:=by rfl)
  (hline:(apos.endLine == cpos.line)=true:=by rfl) (hs:starEach (e :: es) X.env=(false,eval e X.env) :: starEach es X.env:=by rfl) (hplain:(backTo cpos (starEach es X.env)).any (·.1)=false:=by rfl):
  PE X (.Call (.Attribute o name apos) (e :: es) [] cpos) (tBM X.K T r to t):=by
 intro pins s σ H Q I h
 refine wpAny_Call_method_late hbase hfew hline rfl (thn (ho pins s σ H _ I h) fun v s1 ⟨x,H1,I1,r1,ty,q1⟩=> ?_)
 obtain ⟨h1,h2⟩:=vx I1 r1 ty
 refine ⟨T,id,pa,slot,hty,h1,h2, ?_⟩
 have hA:=ha cpos pins s1 σ H1 _ I1 q1
 rw [hs] at hA ⊢
 refine Calls.callWith_builtin (by show (false || (backTo cpos (starEach es X.env)).any (·.1))=false; rw [hplain] <;> rfl) (eV ?_)
 exact thn hA fun us s2 ⟨vs,H2,I2,r2,q2⟩=>hm pins s2 σ H2 x vs v us Q I2 r1 r2 q2
end
end L2
namespace L2
open PySem PySem.Spec PyProof.Rows
def MtM (X:Cx) (id:String) (r:V->List V->Hp->VK->Prop):Prop:=
 ∀ (pins:List (Addr×Obj)) (s:Shared) (σ:St) (H:Hp) (x:V) (xs:List V) (v:Value) (us:List Value) (Q:VK),Inv X pins σ H s->zP x v->zB xs us->r x xs H Q->
  wpAny (model X.prog X.w) X.A (call (.builtin id) (v :: us)) (EP X pins σ Q) X.xe s
theorem zB.one:∀ {x:V} {us:List Value},zB [x] us->∃ u,us=[u]/\zP x u
 | _,_, .cons r .nil=>⟨_,rfl,r⟩
theorem zB.rep {xs:List V} {us:List Value} (h:zB xs us):∀ k:Nat,zB (ad k xs).flatten (ad k us).flatten
 | 0=> .nil
 | k+1=>by
  rw [aL,aL,bN,bN]
  exact zB.append h (zB.rep h k)
theorem j2 (its:List Value):∀ (k:Nat) (acc:List Value),
  dn (fun x1 x2=>x1++x2) acc.toArray (ad k its.toArray)=(acc++(ad k its).flatten).toArray
 | 0,acc=>by simp
 | k+1,acc=>by
  have e:acc.toArray++its.toArray=(acc++its).toArray:=by simp
  have e2:(acc++its)++(ad k its).flatten=acc++(ad (k+1) its).flatten:=by
   rw [aL,bN,db]
  rw [← e2,← j2 its k (acc++its),← e,aL,List.foldl_cons]
section
variable {X:Cx} {pins:List (Addr×Obj)} {σ:St} {H:Hp} {s:Shared} {l b:Addr} {xs ys zs:List V}
theorem Inv.lset {its its' :List Value} {n:Nat} {f:Array Value->Array Value} {t' :Nat} (I:Inv X pins σ H s) (hH:H l=some (.lst xs))
  (e:s.heap.get? l=some { cls:= .type "list",data:= .seq its.toArray n }) (hf:f its.toArray=its'.toArray) (hv:zB ys its') (hz:ys.length<=sizeLine):
  Inv X pins σ (upd H l (.lst ys)) { s with heap:=s.heap.update l (Obj.mapSeq f),toks:=t' }:=by
 have q:=PySem.IsL.update e f
 rw [hf] at q
 refine I.write (x:=l) (e:=l) (by rw [hH]; exact trivial) (.inl rfl) (fun b' u hb hu=>(Heap.get?_update_other s.heap (Obj.mapSeq f) (c6 hb)).trans hu) ⟨_,q⟩ ?_
 exact ⟨hz,its',_,hv,q⟩
theorem Inv.lnew {its:List Value} {t' :Nat} (I:Inv X pins σ H s) (hv:zB ys its) (hz:ys.length<=sizeLine):
  Inv X pins σ (upd H s.heap.objs.size (.lst ys)) { s with heap:=s.heap.push { cls:= .type "list",data:= .seq its.toArray },toks:=t' }:=
 I.laid (fun _ _ q=>ae _ q) (ag _) ⟨hz,its,0,hv,af _ rfl⟩
theorem Inv.fresh (I:Inv X pins σ H s):H s.heap.objs.size=none:=I.hok.fresh (ag _)
theorem Inv.lstM (I:Inv X pins σ H s) (hH:H l=some (.lst xs)):xs.length<=sizeLine/\∃ (its:List Value) (n:Nat),zB xs its/\xs.length=its.length/\s.heap.get? l=some { cls:= .type "list",data:= .seq its.toArray n }:=by
 obtain ⟨z,its,n,r,e⟩:=I.hok l _ hH
 exact ⟨z,its,n,r,r.length,e⟩
theorem W3 {n:Nat} (h:n<=sizeLine):b_ n=false:=by
 unfold b_
 exact decide_eq_false (by omega)
end
section
variable {X:Cx}
def qw:V->List V->Hp->VK->Prop:=fun x vs H Q=>∃ l xs y,x= .ref l/\vs=[y]/\H l=some (.lst xs)/\xs.length < sizeLine/\Q .non (upd H l (.lst (xs++[y])))
theorem JU:MtM X "list.append" qw:=by
 intro pins s σ H x vs v us Q I rx rv h
 obtain ⟨l,xs,y,rfl,rfl,hH,hz,q⟩:=h
 cases rx
 obtain ⟨u,rfl,ru⟩:=rv.one
 obtain ⟨z,its,n,r,hl,e⟩:=I.lstM hH
 refine bO F.slot_list_append ⟨_,e,rfl⟩ F.entry_list_append (F.args_list_append_2 _ _) (PySem.list_append l its.toArray n u (by rw [ar]; omega)) ⟨e, ?_⟩
 refine ⟨.non,_,I.lset (its' :=its++[u]) hH e (by simp) (r.append (.cons ru .nil)) ?_,rfl,q⟩
 rw [aF,aJ]
 omega
def qx:V->List V->Hp->VK->Prop:=fun x vs H Q=>∃ l b xs zs,x= .ref l/\vs=[.ref b]/\H l=some (.lst xs)/\H b=some (.lst zs)/\xs.length+zs.length<=sizeLine/\Q .non (upd H l (.lst (xs++zs)))
theorem vy:MtM X "list.extend" qx:=by
 intro pins s σ H x vs v us Q I rx rv h
 obtain ⟨l,b,xs,zs,rfl,rfl,hH,hB,hz,q⟩:=h
 cases rx
 obtain ⟨u,rfl,ru⟩:=rv.one
 cases ru
 obtain ⟨z,its,n,r,hl,e⟩:=I.lstM hH
 obtain ⟨z2,its2,n2,r2,hl2,e2⟩:=I.lstM hB
 have hsz:its.toArray.size+its2.toArray.size<=sizeLine:=by rw [ar,ar]; omega
 have hlong:¬ (!its.toArray.isEmpty && b_ (its.toArray.size+its2.toArray.size))=true:=by
  rw [W3 hsz,Bool.and_false]
  exact aB
 refine bO F.slot_list_extend ⟨_,e,rfl⟩ F.entry_list_extend (F.args_list_extend_2 _ _)
  (AutoSeq1.list_extend_list_list_0 l its.toArray n b its2.toArray n2 hlong (by rw [ar]; omega) (by omega)) ⟨e,e2, ?_⟩
 refine ⟨.non,_,I.lset (its' :=its++its2) hH e (by simp) (r.append r2) ?_,rfl,q⟩
 rw [aF]
 omega
def gL:R2:=fun x y H Q=>∃ l b xs zs,x= .ref l/\y= .ref b/\H l=some (.lst xs)/\H b=some (.lst zs)/\xs.length+zs.length<=sizeLine/\∀ p,H p=none->Q (.ref p) (upd H p (.lst (xs++zs)))
theorem vz:OpR X (binaryOp .Add) gL:=by
 intro pins s σ H x y v u Q I rx ry h
 obtain ⟨l,b,xs,zs,rfl,rfl,hH,hB,hz,q⟩:=h
 cases rx
 cases ry
 obtain ⟨z,its,n,r,hl,e⟩:=I.lstM hH
 obtain ⟨z2,its2,n2,r2,hl2,e2⟩:=I.lstM hB
 refine PySem.P.add_list e e2 ?_ (by rw [ar,ar]; omega)
 have ea:its.toArray++its2.toArray=(its++its2).toArray:=by simp
 rw [ea]
 exact ⟨.ref _,_,I.lnew (t' :=s.toks) (r.append r2) (by rw [aF]; omega),rfl,q _ I.fresh⟩
def gM:R2:=fun x y H Q=>∃ l k xs,x= .ref l/\y= .int k/\H l=some (.lst xs)/\ -(2 ^ 63)<=k/\k < 2 ^ 63/\xs.length*k.toNat<=sizeLine/\
 ∀ p,H p=none->Q (.ref p) (upd H p (.lst (ad k.toNat xs).flatten))
theorem jb {α:Type} (xs:List α) (k:Nat):(ad k xs).flatten.length=k*xs.length:=by
 induction k with
 | zero=>simp
 | succ k ih=>rw [aL,bN,aF,ih,Nat.succ_mul,Nat.add_comm]
theorem vA:OpR X (binaryOp .Mult) gM:=by
 intro pins s σ H x y v u Q I rx ry h
 obtain ⟨l,k,xs,rfl,rfl,hH,h1,h2,hz,q⟩:=h
 cases rx
 obtain ⟨t,rfl⟩:=ry
 obtain ⟨z,its,n,r,hl,e⟩:=I.lstM hH
 have hlen:its.toArray.size*k.toNat<=sizeLine:=by rw [ar,← hl]; exact hz
 have hcap:¬ its.toArray.size*k.toNat > (2 ^ 63 - 1) / 8:=by
  have:(sizeLine:Nat)<=(2 ^ 63 - 1) / 8:=by decide
  omega
 have hfit:¬ (!Builtin.List.listFitsIndex k)=true:=by
  rw [fitsIndex_both h1 h2]
  exact aB
 have hlong:¬ b_ (its.toArray.size*k.toNat)=true:=by
  rw [W3 hlen]
  exact aB
 have hnew:dn (fun x1 x2=>x1++x2) #[] (ad (if its.toArray.isEmpty=true then 0 else k.toNat) its.toArray)=(ad k.toNat its).flatten.toArray:=by
  have f0:∀ m:Nat,dn (fun x1 x2=>x1++x2) #[] (ad m its.toArray)=(ad m its).flatten.toArray:=fun m=>by
   have:=j2 its m []
   rw [bA] at this
   exact this
  rw [f0]
  cases its with
  | nil=>simp
  | cons a r' =>rw [if_neg (by simp)]
 refine wpAny_binaryOp_repeat_ref (T:="list") (U:="int") (by decide) ⟨_,e,rfl⟩ (fun s' =>typeIs_int s' k t) noFill_list_mul fW dA repeat_list fL.lookup
  (bO dA (typeIs_int s k t) fM (fy _ _) (int___rmul___int_list k t l its.toArray n)
   ⟨e,rfl,⟨_,e,rfl⟩,bO F.slot_list_mul ⟨_,e,rfl⟩ F.entry_list_mul (F.args_list_mul_2 _ _) (AutoListH.list___mul___list_int_3 l its.toArray n k t hfit hcap hlong) ⟨e, ?_⟩⟩)
 rw [hnew]
 exact ⟨.ref _,_,I.lnew (t' :=s.toks) (r.rep k.toNat) (by rw [jb,bG]; exact hz),rfl,q _ I.fresh⟩
end
section
variable {prog:Program} {w:World} {A:Around} {E:Value->Shared->Prop} {s:Shared}
end
section
variable {X:Cx}
end
end L2
namespace Att
open PySem PySem.W PySem.Calls PyProof.Rows
theorem jy {P:Params} {h:Heap}:∀ (ns:List Int) (vs:List Value),WellAll P h vs (ns.map WData.int)->IntsAre vs ns:=by
 intro ns
 induction ns with
 | nil=>
  intro vs w
  rw [aT] at w
  cases w
  exact .nil
 | cons n ns ih=>
  intro vs w
  rw [au] at w
  cases w with
  | cons a b=>
   cases a
   exact .cons _ _ (ih _ b)
theorem uT {l:OpenLaw} {n:Nat} (hn:l.most=some n) {P:Params} {h:Heap} {args:List WData} {vals:List Value}
  (hpre:l.row.toRowW.claim.pre args=true) (hwl:WellAll P h vals args):
  ∃ a vs ns,vals=[Value.ref a]/\args=[WData.list (ns.map WData.int)]/\h.get? a=some { cls:= .type "list",data:= .seq vs.toArray }/\IntsAre vs ns/\ns.length<=n:=by
 have hsh:WShape.hasAll [] args [.list .int]=true:=(pre_splitW hpre).1
 have hc:l.pre.holds [] { args:=args }=true:=(pre_splitW hpre).2
 obtain ⟨d,r,rfl,h1,h2⟩:=hasAllW_cons hsh
 obtain rfl:=hasAllW_nil h2
 obtain ⟨xs,rfl,h3⟩:=hasW_list h1
 obtain ⟨ns,rfl⟩:=items_int h3
 have hlen:ns.length<=n:=by
  unfold OpenLaw.pre at hc
  have h4:(WTm.not (.lt (.lit (.int (n:Int))) (.len (.arg 0)))).holds [] { args:=[.list (ns.map .int)] }=true:=by
   have h4:=(holds_andW hc).1
   rw [hn] at h4
   exact h4
  have h5:=condW_of h4 (w_not (w_lt w_lit (w_len_list (w_arg rfl))))
  rw [ao] at h5
  refine Nat.le_of_not_lt fun q=> ?_
  have q' :(n:Int) < ((ns.length:Nat):Int):=by omega
  first
   | (rw [decide_eq_true q'] at h5; exact absurd h5 (by decide))
   | (simp at h5; omega)
 cases hwl with
 | cons w1 w2=>
  cases w2
  cases w1 with
  | list ho hall=>exact ⟨_,_,ns,rfl,rfl,ho,jy ns _ hall,hlen⟩
theorem uU (l:OpenLaw) (args:List WData):l.row.toRowW.claim.post args (.bool true) args=true:=
 postW_of (r:=l.row.toRowW) (X:=(true == true))
  (show WShape.has [] (.bool true) .bool=true by first | rfl | decide | simp [WShape.has,WShape.arms,WShape.armsAll])
  (show (WTm.eq .res (.lit (.bool true))).value [] { args:=args,res:=some (.bool true),after:=args }=some (.bool (true == true)) from w_eq_bool (w_res rfl) w_lit) rfl
theorem attach_call {l:OpenLaw} {n:Nat} {q:Program} {loose:List Str} {XP:(Str->Option Value)->Heap->Prop} {YP:World->Heap->Prop} {d:DefRec}
  (hn:l.most=some n) (hdf:d.params.defaults=[])
  (call:∀ (w:World) (s₀ s₁:Shared) (mg mb:Str->Option Value) (fa:Addr) (o:Obj) (pm cd doc:Value) (a:Addr) (vs:List Value) (ns:List Int),
   Ground q loose [] XP w s₀ mg mb s₁.heap->YP w s₁.heap->
   s₁.heap.get? fa=some o->o.data= .func (docDef d.name d.params d.body d.scope pm cd doc)->s₁.heap.CodeRec cd d.name->mg d.name=some (.ref fa)->
   s₁.heap.get? a=some { cls:= .type "list",data:= .seq vs.toArray }->IntsAre vs ns->ns.length<=n->s₁.gens= #[]->
   codeAny (model l.prog w) callerA (.call (.ref fa) ⟨[.ref a],[]⟩) (fun r s' =>r= .ok (.ret (.bool true))/\OldK s₁.heap s'.heap/\s'.os=s₁.os/\AllBare s'.gens) s₁):
  WalkO q loose XP YP l.row.toRowW d [] (fun f vs=>hU f vs):=by
 intro w s₀ s₁ mg mb G Y fa o pm cd doc dV kV ho hd hcd hD hmg hg args vals as hpre hlay hrd hwl hlo
 obtain rfl:dV= .none:=Dflts.none hD hdf
 obtain rfl:kV= .none:=Dflts.noKw hD
 obtain ⟨a,vs,ns,rfl,rfl,hobj,hints,hlen⟩:=uT hn hpre hwl
 refine enter_call (bX (call w s₀ s₁ mg mb fa o pm cd doc a vs ns G Y ho (fd_plain hd) hcd hmg hobj hints hlen hg) fun r s' hq=> ?_)
 obtain ⟨rfl,h2,h3,h4⟩:=hq
 exact ⟨.inl ⟨.bool true, .bool true,[],rfl,fun _=>rfl, .bool true,uU l _,fun _=>⟨List.Pairwise.nil,fun _ hm=>(nomatch hm)⟩⟩,h2,h3,h4⟩
section
variable {prog:Program} {w:World} {A:Around} {E:Value->Shared->Prop} {s:Shared} {K:Frag}
end
end Att
namespace L2
open PySem PySem.Spec PyProof.Rows
theorem JV:∀ {vs:List Value} {ns:List Int},IntsAre vs ns->zB (ns.map V.int) vs
 | _,_, .nil=> .nil
 | _,_, .cons n t h=> .cons ⟨t,rfl⟩ (JV h)
end L2
namespace L2
open PySem PySem.Spec PyProof.Rows
end L2
namespace L2
open PySem PySem.Spec PyProof.Rows
def Zx (s:Stmt):Arguments:=match s with
 | .FunctionDef _ a _ _ _ _ _ _ _ _=>a
 | _=>{ posonlyargs:=[],args:=[],vararg:=none,kwonlyargs:=[],kw_defaults:=[],kwarg:=none,defaults:=[] }
def zE (s:Stmt):List Stmt:=match s with
 | .FunctionDef _ _ b _ _ _ _ _ _ _=>b
 | _=>[]
def za (s:Stmt):Scope:=match s with
 | .FunctionDef _ _ _ _ _ _ sc _ _ _=>sc
 | _=>{ kind:= .function,names:=[],isGenerator:=false,isCoroutine:=false }
abbrev CX0:CXT:=fun _ _ _ _ _ _=>False
abbrev E0:XK:=fun _ _ _=>False
structure Fun (K:ac) (x qual:Str) (st:Stmt) (f:Addr) (fd:FuncData):Prop where
 ex:∃ (oc:Value) (od:Option Addr) (kV doc pm:Value) (an:Option Addr) (cdv ct:Value) (osl:Array (Option Value)),
  fd=bQ x qual (Zx st) (zE st) (za st) .none kV doc pm an cdv ct/\K.lookup f=some ⟨oc,od, .func fd,osl⟩/\dL K cdv qual=true
 kp:c8 K (.ref f)=true
section
variable {P:Program} {w:World} {K:ac} {mg:Str->Option Value} {base:Heap}
theorem Fun.ok {x qual:Str} {st:Stmt} {f:Addr} {fd:FuncData} {N ps:List Str} {k:Nat} {sp:Sp} (F:Fun K x qual st f fd) (S:zd N ps (za st)) (len:∀ vs H Q E,sp vs H Q E->vs.length=ps.length)
  (hbody:∀ (cdv:Value) (A:Around) (outer:List Env) (s:Shared) (H:Hp) (vs:List V) (Q:VK) (E:XK),ZJ k (A.deeper (envOfC qual (za st) s.heap.objs.size f cdv))->sp vs H Q E->
   ∃ t,PSs (ja CX0 P w K mg base N qual (za st) f cdv A outer s H E).nox (zE st) t/\t { nx:=fun _ H' =>Q .non H',rt:=Q } (start N vs) H):zG P w K mg base CX0 (k+1) f fd ps sp:=by
 obtain ⟨oc,od,kV,doc,pm,an,cdv,ct,osl,rfl,lk,hcd⟩:=F.ex
 refine qm lk hcd S len fun A outer s H vs Q E hr hsp=> ?_
 obtain ⟨t,h,q⟩:=hbody cdv A outer s H vs Q E hr hsp
 exact ⟨t,h.nox,q⟩
theorem Fun.binds {x qual:Str} {st:Stmt} {f:Addr} {fd:FuncData} {ps:List Str} (F:Fun K x qual st f fd)
  (h:∀ (kV doc pm:Value) (an:Option Addr) (cdv ct:Value) (us:List Value),us.length=ps.length->bindArgs (bQ x qual (Zx st) (zE st) (za st) .none kV doc pm an cdv ct) ⟨us,[]⟩=pure (ps.zip us)):Binds K fd ps []:=by
 obtain ⟨oc,od,kV,doc,pm,an,cdv,ct,osl,rfl,lk,hcd⟩:=F.ex
 exact .all (h kV doc pm an cdv ct)
theorem vC {x qual:Str} {st:Stmt} {f:Addr} {oc:Value} {od an:Option Addr} {osl:Array (Option Value)} {kV doc pm cdv ct:Value} (l:K.lookup f=some ⟨oc,od, .func (bQ x qual (Zx st) (zE st) (za st) .none kV doc pm an cdv ct),osl⟩)
  (c:dL K cdv qual=true) (k:c8 K (.ref f)=true):Fun K x qual st f (bQ x qual (Zx st) (zE st) (za st) .none kV doc pm an cdv ct):=⟨⟨oc,od,kV,doc,pm,an,cdv,ct,osl,rfl,l,c⟩,k⟩
end
section
variable {X:Cx}
theorem pv (i:Nat) {x:Str} {pos:Pos} (hN:X.N[i]? =some x:=by rfl) (hv:Vis X.env.scope x:=by first | exact Or.inl rfl | exact Or.inr (Or.inl rfl) | exact Or.inr (Or.inr rfl)) (hd:(x == ("__debug__":Str))=false:=by decide)
  (hcd:(x == ("__classdict__":Str))=false:=by decide):PE X (.Name x pos) (Yq i):=uA hN hv hd hcd
end
def zm (H H' :Hp):Prop:=∀ b o,H b=some o->H' b=some o
theorem zm.refl (H:Hp):zm H H:=fun _ _ h=>h
theorem zm.trans {H H1 H2:Hp} (a:zm H H1) (b:zm H1 H2):zm H H2:=fun c o h=>b c o (a c o h)
theorem zm.free {H H' :Hp} (e:zm H H') {l:Addr} (h:H' l=Option.none):H l=Option.none:=by
 cases q:H l with
 | none=>rfl
 | some o=>
  rw [e l o q] at h
  cases h
end L2
namespace L2
open PySem PySem.Spec PyProof.Rows PySem.W
theorem W4 {env:Env} {outer:List Env} {L:Addr} (h:env.frame=some L):frs (env :: outer)=L :: frs outer:=by
 unfold frs; rw [cG,h]
structure wG (P:Program) (w:World) (outer:List Env) (H:Hp) (s s' :Shared) (ea:Addr) (cls a0:Value) (B:Heap) (H' :Hp):Prop where
 os:s'.os=s.os
 bare:AllBare s'.gens
 fly:de B outer ea cls a0 s'.heap
 hok:HOk P w H' B
 un:Un (frs outer) [] H H' s.heap s'.heap
 inB:∀ b o,s.heap.get? b=some o->b ∉ frs outer->(H b=none->B.get? b=some o)/\∃ o',B.get? b=some o'
def CX1 (P:Program) (w:World):CXT:=fun outer H s E e s' =>∃ ea cls a0 B H',e= .ref ea/\wG P w outer H s s' ea cls a0 B H' /\E cls none H'
section
variable {X:Cx} {pins:List (Addr×Obj)} {σ:St} {H H' :Hp} {s s' :Shared} {ea:Addr} {cls a0:Value} {B:Heap} {h' h'' :Heap}
theorem Inv.frNf (I:Inv X pins σ H s):∀ b∈frs X.stack,H b=none/\∃ o,s.heap.get? b=some o/\∀ vs,o.data ≠ .fields vs:=fun b hb=>⟨I.stkFree b hb,(I.stack.mem hb).2⟩
theorem wG.on {P:Program} {w:World} {outer:List Env} (L:wG P w outer H s s' ea cls a0 B H') (ff:∀ b∈frs outer,H b=none/\∃ o,s.heap.get? b=some o/\∀ vs,o.data ≠ .fields vs)
  (fl:de B outer ea cls a0 h') (sl:s'.heap.UpToSlots h'):wG P w outer H s { s' with heap:=h' } ea cls a0 B H' where
 os:=L.os
 bare:=L.bare
 fly:=fl
 hok:=L.hok
 inB:=L.inB
 un:=by
  have slot:∀ b o,s.heap.get? b=some o->H b=none->b∈frs outer->∃ sl,h'.get? b=some { o with slots:=sl }:=fun b o e n hb=>by
   obtain ⟨sl1,e1⟩:=L.un.slot b o e n hb (by simp)
   obtain ⟨_,o2,e2,nf⟩:=ff b hb
   rw [e] at e2; cases e2
   obtain ⟨sl2,e3⟩:=sl b _ e1 nf
   exact ⟨sl2,e3⟩
  exact ⟨fun b o e n hb _=>fl.1 b o ((L.inB b o e hb).1 n),fun b o e n hb _=>slot b o e n hb,L.un.free,fun b o e _=>by
   by_cases hb:b∈frs outer
   ·obtain ⟨sl1,e1⟩:=slot b o e (ff b hb).1 hb
    exact ⟨_,e1⟩
   ·obtain ⟨o',e'⟩:=(L.inB b o e hb).2
    exact ⟨o',fl.1 b o' e'⟩,L.un.tups,L.un.frzs,L.un.tbls⟩
theorem Inv.old (I:Inv X pins σ H s) {b:Addr} {o:Obj} (hX:X.stack=X.env :: X.outer) (hf:X.env.frame=some X.env.locals) (e:X.s₀.heap.get? b=some o) (hb:b ∉ frs X.outer):b ∉ frs X.stack:=by
 rw [hX,W4 hf]
 intro z
 rcases ax.mp z with z | z
 ·exact absurd (ay (ai e) I.ok.above) (by rw [z]; exact bx _)
 ·exact hb z
theorem wH {X:Cx} (hX:X.stack=X.env :: X.outer) (hf:X.env.frame=some X.env.locals) {b:Addr} (hb:b∈frs X.outer):b∈frs X.stack:=by
 rw [hX,W4 hf]; exact ah _ hb
theorem wG.out (I:Inv X pins σ H s) (hX:X.stack=X.env :: X.outer) (hf:X.env.frame=some X.env.locals) (hex:X.ex=[]) (L:wG X.prog X.w X.stack H s s' ea cls a0 B H')
  (fl:de B X.outer ea cls a0 h') (sl:s'.heap.UpToSlots h'):wG X.prog X.w X.outer X.H₀ X.s₀ { s' with heap:=h' } ea cls a0 B H' where
 os:=L.os.trans I.os
 bare:=L.bare
 fly:=fl
 hok:=L.hok
 inB:=fun b o e hb=>by
  have nx:b ∉ X.ex:=by rw [hex]; simp
  obtain ⟨o1,e1⟩:=I.base.there b o e nx
  have hb' :=I.old hX hf e hb
  exact ⟨fun n=>(L.inB b o (I.base.keep b o e n hb nx) hb').1 (I.base.free b o e n nx),(L.inB b o1 e1 hb').2⟩
 un:=by
  have nx:∀ b,b ∉ X.ex:=fun b=>by rw [hex]; simp
  have slot:∀ b o,X.s₀.heap.get? b=some o->X.H₀ b=none->b∈frs X.outer->∃ sl,h'.get? b=some { o with slots:=sl }:=fun b o e n hb=>by
   obtain ⟨sl1,e1⟩:=I.base.slot b o e n hb (nx b)
   have n1:=I.base.free b o e n (nx b)
   obtain ⟨sl2,e2⟩:=L.un.slot b _ e1 n1 (wH hX hf hb) (by simp)
   obtain ⟨_,o3,e3,nf⟩:=I.frNf b (wH hX hf hb)
   rw [e1] at e3; cases e3
   obtain ⟨sl4,e4⟩:=sl b _ e2 nf
   exact ⟨sl4,e4⟩
  refine ⟨fun b o e n hb _=> ?_,fun b o e n hb _=>slot b o e n hb,fun b o e n _=> ?_,fun b o e _=> ?_,fun b xs e=>L.un.tups b xs (I.base.tups b xs e),fun b o xs e=>L.un.frzs b o xs (I.base.frzs b o xs e),fun b ps q e=>L.un.tbls b ps q (I.base.tbls b ps q e)⟩
  ·exact fl.1 b o ((L.inB b o (I.base.keep b o e n hb (nx b)) (I.old hX hf e hb)).1 (I.base.free b o e n (nx b)))
  ·obtain ⟨o1,e1⟩:=I.base.there b o e (nx b)
   exact L.un.free b o1 e1 (I.base.free b o e n (nx b)) (by simp)
  ·by_cases hb:b∈frs X.outer
   ·obtain ⟨sl1,e1⟩:=slot b o e (I.ok.frf b hb) hb
    exact ⟨_,e1⟩
   ·obtain ⟨o1,e1⟩:=I.base.there b o e (nx b)
    obtain ⟨o',e'⟩:=(L.inB b o1 e1 (I.old hX hf e hb)).2
    exact ⟨o',fl.1 b o' e'⟩
theorem wG.made (I:Inv X pins σ H s) (hX:X.stack=X.env :: X.outer) (hf:X.env.frame=some X.env.locals) (hex:X.ex=[]) {vs:List Value} (hx:Heap.MadeExcOf s.heap h' ea cls vs)
  (fl:de (hideAll s.heap (frs X.stack)) X.outer ea cls a0 h'') (sl:h'.UpToSlots h''):wG X.prog X.w X.outer X.H₀ X.s₀ { s with heap:=h'' } ea cls a0 (hideAll s.heap (frs X.stack)) H where
 os:=I.os
 bare:=I.bare
 fly:=fl
 hok:=fun a o e=>(I.hok a o e).stay (fun b u hb q=>hideAll_get _ q fun z=>by
   have:=I.stkFree b z
   rcases hb with rfl | hb
   ·rw [e] at this; cases this
   ·rw [hb] at this; cases this) (fun _ q=>q) fun _ _ q=>q
 inB:=fun b o e hb=>by
  have nx:b ∉ X.ex:=by rw [hex]; simp
  obtain ⟨o1,e1⟩:=I.base.there b o e nx
  have hb' :=I.old hX hf e hb
  exact ⟨fun n=>hideAll_get _ (I.base.keep b o e n hb nx) hb',o1,hideAll_get _ e1 hb'⟩
 un:=by
  have nx:∀ b,b ∉ X.ex:=fun b=>by rw [hex]; simp
  have slot:∀ b o,X.s₀.heap.get? b=some o->X.H₀ b=none->b∈frs X.outer->∃ sl,h''.get? b=some { o with slots:=sl }:=fun b o e n hb=>by
   obtain ⟨sl1,e1⟩:=I.base.slot b o e n hb (nx b)
   obtain ⟨_,o3,e3,nf⟩:=I.frNf b (wH hX hf hb)
   rw [e1] at e3; cases e3
   obtain ⟨sl4,e4⟩:=sl b _ (hx.keeps b _ e1) nf
   exact ⟨sl4,e4⟩
  refine ⟨fun b o e n hb _=> ?_,fun b o e n hb _=>slot b o e n hb,fun b o e n _=>I.base.free b o e n (nx b),fun b o e _=> ?_,I.base.tups,I.base.frzs,I.base.tbls⟩
  ·exact fl.1 b o (hideAll_get _ (I.base.keep b o e n hb (nx b)) (I.old hX hf e hb))
  ·by_cases hb:b∈frs X.outer
   ·obtain ⟨sl1,e1⟩:=slot b o e (I.ok.frf b hb) hb
    exact ⟨_,e1⟩
   ·obtain ⟨o1,e1⟩:=I.base.there b o e (nx b)
    exact ⟨o1,fl.1 b o1 (hideAll_get _ e1 (I.old hX hf e hb))⟩
end
section
variable {P:Program} {w:World} {K:Frag} {mg:Str->Option Value} {base:Heap} {N:List Str} {qual:Str} {scope:Scope} {f:Addr} {cd:Value} {A:Around} {outer:List Env} {s:Shared} {H:Hp} {E:XK}
theorem ZP:Zb (CX1 P w) (ja (CX1 P w) P w K mg base N qual scope f cd A outer s H E) E:=by
 intro pins σ H1 s1 e s' I ⟨ea,cls,a0,B,H',he,L,hE⟩
 subst he
 exact wpAny_leaves_onW (base:=B) I.ok.frames rfl L.fly fun h' fl sl=>⟨ea,cls,a0,B,H',rfl,L.out I rfl rfl rfl fl sl,hE⟩
theorem uV {x:Str} {C:Addr} {bm bmN:List Value} {Bn Bb newId nid initId inN:String} {np cpos pos:Pos} {e:Expr} {t:TA} (O:OwnCls x C bm newId mg base) (Fn:ExcBaseFacts Bn newId inN bmN) (hBn:bm.contains (.type Bn)=true) (FB:ExcBaseFacts Bb nid initId bm)
  (hg:Gl (ja (CX1 P w) P w K mg base N qual scope f cd A outer s H E) x) (ha:PA (ja (CX1 P w) P w K mg base N qual scope f cd A outer s H E) [e] t)
  (he:starEach [e] (envOfC qual scope s.heap.objs.size f cd)=[(false,eval e (envOfC qual scope s.heap.objs.size f cd))]) (hd:(x == ("__debug__":Str))=false:=by decide):
  PS (ja (CX1 P w) P w K mg base N qual scope f cd A outer s H E) (.Raise (some (.Call (.Name x np) [e] [] cpos)) none pos) (fun _ σ H1=>t σ H1 fun vs H2=>vs.length<=sizeLine/\E (.ref C) none H2):=by
 intro pins s1 σ H1 D I hw
 obtain ⟨tl,N',nm,q,bs,hdct,sn,sub,ab,col,dd,k0,k1,k2,k3,k5,mN,hC,hN,hni,T⟩:=O.obj
 have hp:(backTo cpos (starEach [e] (envOfC qual scope s.heap.objs.size f cd))).any (·.1)=false:=by rw [he]; rfl
 refine wpAny_Raise_call_subU (C:=C) (nm:=nm) (q:=q) (N:=N') (bs:=bs) (bm:=tl) (hdct:=hdct) (sn:=sn) (sub:=sub) (ab:=ab) (col:=col) (dd:=dd) (k0:=k0) (k1:=k1) (k2:=k2) (k3:=k3) (k5:=k5)
  Fn hBn FB (mN:=mN) (T.hasType FB.hasBase) (I.ok.hd rfl) hp hni (j9 I hg O.bound ⟨rfl, ?_⟩ hd)
 have h2:=ha cpos pins s1 σ H1 _ I hw
 have he' :starEach [e] (ja (CX1 P w) P w K mg base N qual scope f cd A outer s H E).env=[(false,eval e (ja (CX1 P w) P w K mg base N qual scope f cd A outer s H E).env)]:=he
 rw [he'] at h2 ⊢
 refine eV (thn h2 fun us s2 ⟨vs,H2,I2,r,hl,hE⟩=>⟨rfl,by rw [← r.length]; exact hl,I2.bk _ _ hC,hN.keeps I2.bk,T.keeps I2.bk,fun h' ea hx=> ?_⟩)
 have hin:∀ env∈(ja (CX1 P w) P w K mg base N qual scope f cd A outer s H E).stack,∀ b,env.frame=some b->b∈frs (ja (CX1 P w) P w K mg base N qual scope f cd A outer s H E).stack:=fun env he b hb=>cQ.mpr ⟨env,he,hb⟩
 exact wpAny_leaves_madeW (base:=hideAll s2.heap (frs (ja (CX1 P w) P w K mg base N qual scope f cd A outer s H E).stack)) (h:=s2.heap) I2.ok.frames rfl (fun b o q=>of_hideAll _ q) (funFrames_hide I2.stack hin) hx fun h'' t' fl _ _ sl=>
  ⟨ea, .ref C, .ref t',_,H2,rfl,wG.made I2 rfl rfl rfl hx fl sl,hE⟩
end
end L2
namespace L2
open PySem PySem.Spec PyProof.Rows PySem.W
theorem zH.there {P:Program} {w:World} {H:Hp} {h:Heap} {a:Addr} {o:HO} (x:zH P w H h a o):∃ ob,h.get? a=some ob:=by
 cases o with
 | lst xs=>obtain ⟨_,_,_,_,e⟩:=x; exact ⟨_,e⟩
 | tup xs=>obtain ⟨_,_,_,⟨_,e,_⟩,_⟩:=x; exact ⟨_,e⟩
 | dK kvs=>obtain ⟨_,_,_,_,o,_,_,e,_⟩:=x; exact ⟨_,e⟩
 | dT kvs=>obtain ⟨_,_,_,_,o,_,_,e,_⟩:=x; exact ⟨_,e⟩
 | set S n=>obtain ⟨o,_,_,_,e,_⟩:=x; exact ⟨_,e⟩
 | ins C dx fs=>obtain ⟨_,_,_,e,_⟩:=x; exact ⟨_,e⟩
 | own y=>obtain ⟨_,e⟩:=x; exact ⟨_,e⟩
 | xd fs=>obtain ⟨_,⟨_,_,_,e,_⟩,_⟩:=x; exact ⟨_,e⟩
 | rng lo hi=>obtain ⟨_,_,_,e⟩:=x; exact ⟨_,e⟩
 | frz ob u=>obtain ⟨e,_⟩:=x; exact ⟨_,e⟩
 | tbl ps q=>obtain ⟨_,e,_⟩:=x; exact ⟨_,e⟩
 | met f y=>exact ⟨_,(show h.get? a=some _ from x)⟩
 | ext φ=>obtain ⟨_,e,_⟩:=x; exact e
def W5 (cls:Value) (a:Addr) (h:Heap):Prop:=∃ o,h.get? a=some o/\o.cls=cls
theorem W5.ok {P:Program} {w:World} {H:Hp} {h:Heap} {a:Addr} {cls:Value} (x:W5 cls a h):zH P w H h a (.ext (W5 cls a)):=
 ⟨x,let ⟨o,e,_⟩:=x; ⟨o,e⟩,fun _ _ ⟨o,e,c⟩ k=>⟨o,k o e,c⟩⟩
abbrev Cx.try' (X:Cx) (pn:List (Addr×Obj)) (xe:Value->Shared->Prop):Cx:={ X with pn:=pn,xe:=xe }
abbrev Cx.mark' (X:Cx) (e:Value):Cx:={ X with A:=X.A.mark (some e),calm:=false,xe:=fun _ _=>False }
section
variable {X:Cx} {pins pins' :List (Addr×Obj)} {σ:St} {H H' :Hp} {s s' :Shared} {xe:Value->Shared->Prop}
theorem Cx.Ok.try' (ok:X.Ok) {pn:List (Addr×Obj)}:(X.try' pn xe).Ok:=
 ⟨ok.mod,ok.kind,ok.glob,ok.blt,ok.above,ok.inj,ok.has,ok.cab,ok.hd,ok.frames,ok.stk,ok.exf,ok.bs,ok.bsz,ok.noex,ok.exfs,ok.funs,ok.frf⟩
theorem Cx.Ok.untry {pn:List (Addr×Obj)} (ok:(X.try' pn xe).Ok):X.Ok:=
 ⟨ok.mod,ok.kind,ok.glob,ok.blt,ok.above,ok.inj,ok.has,ok.cab,ok.hd,ok.frames,ok.stk,ok.exf,ok.bs,ok.bsz,ok.noex,ok.exfs,ok.funs,ok.frf⟩
theorem Inv.try' (I:Inv X pins σ H s) (xe:Value->Shared->Prop):Inv (X.try' (X.pn++pins) xe) [] σ H s:=
 ⟨I.ok.try',I.os,I.bare,I.base,I.loc,I.cell,I.free,I.freeC,fun p hp=>I.pin p (by simpa using hp),I.hok,I.len⟩
theorem Inv.untry (I:Inv (X.try' (X.pn++pins) xe) pins' σ H s):Inv X pins σ H s:=
 ⟨I.ok.untry,I.os,I.bare,I.base,I.loc,I.cell,I.free,I.freeC,fun p hp=>I.pin p (bW _ hp),I.hok,I.len⟩
theorem Inv.mark' (I:Inv X pins σ H s) (e:Value):Inv (X.mark' e) pins σ H s:=
 ⟨⟨I.ok.mod,I.ok.kind,I.ok.glob,I.ok.blt,I.ok.above,I.ok.inj,I.ok.has,I.ok.cab,fun z=>(by cases z),I.ok.frames,I.ok.stk,I.ok.exf,I.ok.bs,I.ok.bsz,I.ok.noex,I.ok.exfs,I.ok.funs,I.ok.frf⟩,I.os,I.bare,I.base,I.loc,I.cell,I.free,I.freeC,I.pin,I.hok,I.len⟩
theorem Inv.unmark {e:Value} (I:Inv (X.mark' e) pins σ H s) (hd:X.calm=true->X.A.handled=none):Inv X pins σ H s:=
 ⟨⟨I.ok.mod,I.ok.kind,I.ok.glob,I.ok.blt,I.ok.above,I.ok.inj,I.ok.has,I.ok.cab,hd,I.ok.frames,I.ok.stk,I.ok.exf,I.ok.bs,I.ok.bsz,I.ok.noex,I.ok.exfs,I.ok.funs,I.ok.frf⟩,I.os,I.bare,I.base,I.loc,I.cell,I.free,I.freeC,I.pin,I.hok,I.len⟩
theorem SP.untry {D:yB} {f:Flow} {pins' :List (Addr×Obj)} (h:SP (X.try' (X.pn++pins) xe) pins' D f s'):SP X pins D f s' :=by
 cases f with
 | next=>obtain ⟨σ',H',I,q⟩:=h; exact ⟨σ',H',I.untry,q⟩
 | brk=>obtain ⟨σ',H',I,q⟩:=h; exact ⟨σ',H',I.untry,q⟩
 | cont=>obtain ⟨σ',H',I,q⟩:=h; exact ⟨σ',H',I.untry,q⟩
 | ret u=>obtain ⟨v,σ',H',I,r,q⟩:=h; exact ⟨v,σ',H',I.untry,r,q⟩
theorem qy {A:Around} {E:Value->Shared->Prop} {M:Model} {i:Nat} {n:Str} {pos:Pos} {Q:Unit->Shared->Prop} (I:Inv X pins σ H s) (hN:X.N.Nodup) (hi:X.N[i]? =some n) (hl:X.env.kindOf n=some .local) (h:∀ s',Inv X pins (σ.set i none) H s' ->Q () s'):
  wpAny M A (do bindName X.env n .none; unbindBehindTheSuite X.env n pos) Q E s:=by
 obtain ⟨m,hn,hlo⟩:=id I.loc
 have hcls:(X.env.scope.kind == .class || (X.env.scope.kind == .module && X.env.locals != X.env.globals))=false:=by rw [I.ok.kind]; rfl
 refine wpAny_nameGoes_keeps hl hn hcls fun h' v hn' hs=> ?_
 obtain ⟨oL,_,_,hoL,_⟩:=id hn
 refine h _ ⟨I.ok,I.os,I.bare,⟨fun b o e n hb hx=> ?_,fun b o e n hb hx=> ?_,I.base.free,fun b o e hx=> ?_,I.base.tups,I.base.frzs,I.base.tbls⟩,⟨_,hn',fun j y v' e1 e2 e3=> ?_⟩,fun y c e=> ?_,I.free,I.freeC,fun p hp=> ?_,fun b ob e=> ?_,by simpa using I.len⟩
 ·exact (hs.2 b (az (ay (ai e) I.ok.above))).trans (I.base.keep b o e n hb hx)
 ·obtain ⟨sl,e1⟩:=I.base.slot b o e n hb hx
  exact ⟨sl,(hs.2 b (az (ay (ai e) I.ok.above))).trans e1⟩
 ·obtain ⟨o',e1⟩:=I.base.there b o e hx
  exact ⟨o',(hs.2 b (az (ay (ai e) I.ok.above))).trans e1⟩
 ·by_cases hj:j=i
  ·subst hj
   have hiσ:j < σ.length:=by rw [I.len]; exact (ak.mp hi).1
   rw [aZ hiσ] at e2
   cases e2
  ·rw [aH (c6 hj)] at e2
   obtain ⟨u',r',q⟩:=hlo j y v' e1 e2 e3
   refine ⟨u',r', ?_⟩
   rcases q with ⟨k,e⟩ | ⟨k,c,e,z⟩
   ·refine .inl ⟨k, ?_⟩
    have:y ≠ n:=fun e=>hj (Jd hN e1 (e ▸ hi))
    simp [this,e]
   ·exact .inr ⟨k,c,e,z.sameBut hs (I.cne y c e)⟩
 ·obtain ⟨w',z⟩:=I.cell y c e
  exact ⟨w',z.sameBut hs (I.cne y c e)⟩
 ·obtain ⟨e,n,ne,nf,d⟩:=I.pin p hp
  exact ⟨(hs.2 p.1 ne).trans e,n,ne,nf,d⟩
 ·refine (I.hok b ob e).stay (fun c w' hc q=>(hs.2 c ?_).trans q) (fun _ q=>q) fun _ _ q=>q
  rintro rfl
  rcases hc with rfl | hc
  ·rw [I.free] at e; cases e
  ·rw [I.free] at hc; cases hc
end
section
variable {prog:Program} {w:World} {A:Around} {E:Value->Shared->Prop} {s:Shared} {env:Env}
theorem WU {K:Frag} {e:Addr} {cls c:Value} {t:Expr} {n:Str} {b₀:Stmt} {suite:List Stmt} {pos:Pos} {rest:List ExceptHandler} {Q:Flow->Shared->Prop} (hx:exmOne K cls c=some true)
  (h:wpAny (model prog w) (A.mark (some (.ref e))) (eval t env) (fun v s₁=>v=c/\K.In s₁.heap/\(∃ oe,s₁.heap.get? e=some oe/\oe.cls=cls)/\
   wpAny (model prog w) (A.mark (some (.ref e))) (setFlight (.ref e) none) (fun _ s₂=>
     wpAny (model prog w) (A.mark (some (.ref e))) (storeName env n (.ref e)) (fun _ s₃=>
      wpAny (model prog w) (A.mark (some (.ref e))) (execs (b₀ :: suite) env)
       (fun f s₄=>wpAny (model prog w) A (do bindName env n .none; unbindBehindTheSuite env n pos) (fun _ s₅=>Q f s₅) E s₄)
       (fun _ _=>False) s₃) (fun _ _=>False) s₂) (fun _ _=>False) s₁) (fun _ _=>False) s):
  wpAny (model prog w) A (handleBy (.ref e) env (.ExceptHandler (some t) (some n) (b₀ :: suite) pos :: rest)) Q E s:=by
 refine wpAny_handleBy_cons (codeAny_handlers_test (bB h (fun v s₁ h₁=> ?_) fun _ _ y=>y.elim)) (by intro q; cases q)
 obtain ⟨rfl,X,⟨oe,he,hcls⟩,hk⟩:=h₁
 have LT:Looks (model prog w) s₁.heap (typeOf (.ref e)) cls:=by
  rw [← hcls]
  exact (Looks.ld he).andThen .now
 refine (exm_one X LT hx) _ _ _ _ (fun b o q=>q) (codeAny_handlers_suite_as ?_)
 exact bB hk (fun _ s₂ h₂=>bB h₂ (fun _ s₃ h₃=>bB h₃ (fun _ _ y=>y) fun _ _ y=>y.elim) fun _ _ y=>y.elim) fun _ _ y=>y.elim
end
end L2
namespace L2
open PySem PySem.Spec PyProof.Rows PySem.W
section
variable {X:Cx} {pins:List (Addr×Obj)} {σ:St} {H H' :Hp} {s s' :Shared} {ea:Addr} {cls a0:Value} {B:Heap} {h3:Heap}
theorem Inv.caught (I:Inv X pins σ H s) (L:wG X.prog X.w X.stack H s s' ea cls a0 B H') (fl:de B X.stack ea cls a0 h3) (sl:s'.heap.UpToSlots h3):Inv X pins σ H' { s' with heap:=h3 }:=
 have L3:=L.on I.frNf fl sl
 I.call' (ch:=[]) L3.os L3.un (L.hok.kept fl.1) L3.bare (fun b z=>absurd z (by simp))
theorem wG.fresh {P:Program} {w:World} {outer:List Env} (L:wG P w outer H s s' ea cls a0 B H'):H' ea=none:=by
 cases q:H' ea with
 | none=>rfl
 | some o=>
  obtain ⟨ob,e⟩:=(L.hok ea o q).there
  have:=L.fly.2.1
  rw [e] at this; cases this
theorem Inv.caughtX (I:Inv X pins σ H s) (L:wG X.prog X.w X.stack H s s' ea cls a0 B H') (fl:de B X.stack ea cls a0 h3) (sl:s'.heap.UpToSlots h3):Inv X pins σ (upd H' ea (.ext (W5 cls ea))) { s' with heap:=h3 }:=by
 have L3:=L.on I.frNf fl sl
 have hfree:=L.fresh
 obtain ⟨oe,vs,he,hc,hd,_⟩:=fl.first
 have hne:∀ b o,s.heap.get? b=some o->b ≠ ea:=fun b o e z=>by
  subst z
  by_cases hb:b∈frs X.stack
  ·obtain ⟨n,o2,e2,nf⟩:=I.frNf b hb
   obtain ⟨sl1,e3⟩:=L3.un.slot b o2 e2 n hb (by simp)
   have e3:h3.get? b=some { o2 with slots:=sl1 }:=e3
   rw [he] at e3; cases e3
   exact nf vs hd
  ·obtain ⟨o',e'⟩:=(L.inB b o e hb).2
   have:=L.fly.2.1
   rw [e'] at this; cases this
 have nt:∀ b u,H' b=some u->b ≠ ea:=fun b u e z=>by rw [z,hfree] at e; cases e
 refine I.call' (ch:=[]) L3.os ⟨L3.un.keep,L3.un.slot,fun b o e n hx=> ?_,L3.un.there,fun b xs e=> ?_,fun b o xs e=> ?_,fun b ps q e=> ?_⟩ ?_ L3.bare (fun b z=>absurd z (by simp))
 ·rw [zi (hne b o e)]; exact L3.un.free b o e n hx
 ·have:=L3.un.tups b xs e
  rw [zi (nt b _ this)]; exact this
 ·have:=L3.un.frzs b o xs e
  rw [zi (nt b _ this)]; exact this
 ·have:=L3.un.tbls b ps q e
  rw [zi (nt b _ this)]; exact this
 ·intro b u e
  by_cases hb:b=ea
  ·subst hb
   rw [zl] at e; cases e
   exact W5.ok ⟨oe,he,hc⟩
  ·rw [zi hb] at e
   exact ((L.hok.kept fl.1) b u e).stay (fun _ _ _ q=>q) (fun c q=>by rw [zi (nt c _ q)]; exact q) (fun c xs q=>by rw [zi (nt c _ q)]; exact q) fun c o u q=>by rw [zi (nt c _ q)]; exact q
end
end L2
namespace PySem
open PySem.W
section
variable {M:Model} {A:Around} {E:Value->Shared->Prop} {s:Shared}
end
end PySem
namespace L2
open PySem PySem.Spec PyProof.Rows PySem.W
section
variable {X:Cx} {pins:List (Addr×Obj)} {σ:St} {H H' :Hp} {s s' :Shared} {ea C:Addr} {cls a0:Value} {B:Heap} {h' :Heap}
def vD (X:Cx) (E:XK):Prop:=∀ (pins:List (Addr×Obj)) (σ:St) (H:Hp) (s:Shared) (e:Value) (s' :Shared) (C:Addr) (m:Str->Option Value) (E' :Value->Shared->Prop) (cenv:Env),Inv X pins σ H s->s.heap.Ns C m->H C=none->X.s₀.heap.objs.size<=C->C ∉ frs X.stack->cenv.frame=X.env.frame->CX1 X.prog X.w X.stack H s E e s' ->
 wpAny (model X.prog X.w) X.A (noteFrame e cenv) (fun _ s'' =>∃ m,s''.heap.Ns C m/\∀ h',cq C s''.heap h' ->∀ env:Env,env.locals=C->wpAny (model X.prog X.w) X.A (passOn "comprehension.variables-let-go" e env:Sem Value) (fun _ _=>False) X.xe { s'' with heap:=h' }) E' s'
theorem jV {E:XK} (h:E=fun _ _ _=>False):vD X E:=fun pins σ H s e s' C m E' cenv I _ _ _ _ _ ⟨_,_,_,_,_,_,_,z⟩=>by subst h; exact z.elim
end
end L2
namespace L2
open PySem PySem.Spec PyProof.Rows
theorem PE.imp {X:Cx} {e:Expr} {t t' :TE} (h:PE X e t) (i:∀ σ H Q,t' σ H Q->t σ H Q):PE X e t' :=fun pins s σ H Q I q=>h pins s σ H Q I (i σ H Q q)
theorem PT.imp {X:Cx} {e:Expr} {t t' :TT} (h:PT X e t) (i:∀ σ H Q,t' σ H Q->t σ H Q):PT X e t' :=fun pins s σ H Q I q=>h pins s σ H Q I (i σ H Q q)
theorem PA.imp {X:Cx} {e:List Expr} {t t' :TA} (h:PA X e t) (i:∀ σ H Q,t' σ H Q->t σ H Q):PA X e t' :=fun pos pins s σ H Q I q=>h pos pins s σ H Q I (i σ H Q q)
theorem PS.imp {X:Cx} {e:Stmt} {t t' :TS} (h:PS X e t) (i:∀ D σ H,t' D σ H->t D σ H):PS X e t' :=fun pins s σ H D I q=>h pins s σ H D I (i D σ H q)
theorem PSs.imp {X:Cx} {e:List Stmt} {t t' :TS} (h:PSs X e t) (i:∀ D σ H,t' D σ H->t D σ H):PSs X e t' :=fun pins s σ H D I q=>h pins s σ H D I (i D σ H q)
end L2
namespace PV
open PySem
def JW:Expr->Bool
 | .Starred _ _=>false
 | _=>true
theorem zD {e:Expr} {rest:List Expr} {env:Env} (h:JW e=true):starEach (e :: rest) env=(false,eval e env) :: starEach rest env:=by
 cases e <;> first | rfl | cases h
theorem st2 {a b:Expr} {env:Env} (h:JW a=true) (h' :JW b=true):starEach [a,b] env=[(false,eval a env),(false,eval b env)]:=by
 rw [zD h,zD h']; rfl
theorem st1 {a:Expr} {env:Env} (h:JW a=true):starEach [a] env=[(false,eval a env)]:=by
 rw [zD h]; rfl
theorem Z2 {pos:Pos} {env:Env}:∀ {es:List Expr},es.all JW=true->((backTo pos (starEach es env)).any fun x=>x.fst)=false
 | [],_=>rfl
 | e :: es,h=>by
  rw [cL,am] at h
  rw [zD h.1]
  have:=Z2 (pos:=pos) (env:=env) h.2
  show (false || ((backTo pos (starEach es env)).any fun x=>x.fst))=false
  rw [this]; rfl
open PySem PySem.Spec PyProof.Rows L2
abbrev Sg:=L2.St
inductive T where
 | non | bl (b:Bool) | int (i:Int) | str (x:Str) | tup (xs:List T) | lst (xs:List T) | fz (xs:List T)
inductive R (α:Type) where
 | ok (a:α) | ex (c:Nat) | bad
def R.bind {α β:Type} (r:R α) (f:α->R β):R β:=match r with
 | .ok a=>f a
 | .ex c=> .ex c
 | .bad=> .bad
mutual
inductive Rep (H:Hp):V->T->Prop where
 | non:Rep H .non .non
 | bl (b:Bool):Rep H (.bl b) (.bl b)
 | int (i:Int):Rep H (.int i) (.int i)
 | str (x:Str):Rep H (.str x) (.str x)
 | tup {a:Addr} {xs:List V} {ts:List T}:H a=some (.tup xs)->zq H xs ts->Rep H (.ref a) (.tup ts)
 | lst {a:Addr} {xs:List V} {ts:List T}:H a=some (.lst xs)->zq H xs ts->Rep H (.ref a) (.lst ts)
 | fz {a:Addr} {o:Obj} {xs:List V} {ts:List T}:H a=some (.frz o (.lst xs))->zq H xs ts->Rep H (.ref a) (.fz ts)
inductive zq (H:Hp):List V->List T->Prop where
 | nil:zq H [] []
 | cons {v:V} {t:T} {vs:List V} {ts:List T}:Rep H v t->zq H vs ts->zq H (v :: vs) (t :: ts)
end
mutual
theorem Rep.mono {H H' :Hp} (s:zm H H'):∀ {v:V} {t:T},Rep H v t->Rep H' v t
 | _,_, .non=> .non
 | _,_, .bl b=> .bl b
 | _,_, .int i=> .int i
 | _,_, .str x=> .str x
 | _,_, .tup h r=> .tup (s _ _ h) (zq.mono s r)
 | _,_, .lst h r=> .lst (s _ _ h) (zq.mono s r)
 | _,_, .fz h r=> .fz (s _ _ h) (zq.mono s r)
theorem zq.mono {H H' :Hp} (s:zm H H'):∀ {v:List V} {t:List T},zq H v t->zq H' v t
 | _,_, .nil=> .nil
 | _,_, .cons h r=> .cons (Rep.mono s h) (zq.mono s r)
end
theorem zq.length {H:Hp}:∀ {vs:List V} {ts:List T},zq H vs ts->vs.length=ts.length
 | _,_, .nil=>rfl
 | _,_, .cons _ r=>congrArg (·+1) (zq.length r)
theorem zq.get {H:Hp}:∀ {vs:List V} {ts:List T} {i:Nat} {t:T},zq H vs ts->ts[i]? =some t->∃ v,vs[i]? =some v/\Rep H v t
 | _,_,_,_, .nil,e=>by simp at e
 | _,_,0,_, .cons r _,e=>by simp at e; subst e; exact ⟨_,rfl,r⟩
 | _,_,i+1,t, .cons _ q,e=>by
  obtain ⟨v,h1,h2⟩:=zq.get (i:=i) (t:=t) q (by simpa using e)
  exact ⟨v,by simpa using h1,h2⟩
theorem zq.getV {H:Hp}:∀ {vs:List V} {ts:List T} {i:Nat} {v:V},zq H vs ts->vs[i]? =some v->∃ t,ts[i]? =some t/\Rep H v t
 | _,_,_,_, .nil,e=>by simp at e
 | _,_,0,_, .cons r _,e=>by simp at e; subst e; exact ⟨_,rfl,r⟩
 | _,_,i+1,v, .cons _ q,e=>by
  obtain ⟨t,h1,h2⟩:=zq.getV (i:=i) (v:=v) q (by simpa using e)
  exact ⟨t,by simpa using h1,h2⟩
theorem zq.append {H:Hp}:∀ {vs ws:List V} {ts us:List T},zq H vs ts->zq H ws us->zq H (vs++ws) (ts++us)
 | _,_,_,_, .nil,q=>q
 | _,_,_,_, .cons r t,q=> .cons r (zq.append t q)
theorem zq.rep {H:Hp} {vs:List V} {ts:List T} (h:zq H vs ts):∀ n:Nat,zq H (ad n vs).flatten (ad n ts).flatten
 | 0=> .nil
 | n+1=>by
  rw [aL,aL,bN,bN]
  exact h.append (zq.rep h n)
theorem zq.nil_iff {H:Hp} {vs:List V} {ts:List T} (h:zq H vs ts):vs=[]↔ts=[]:=by
 cases h <;> simp
def zr (B H H' :Hp):Hp:=fun b=>match H b with
 | none=>H' b
 | some _=>B b
theorem zC {B H H' :Hp} {b:Addr} (h:H b=none):zr B H H' b=H' b:=by unfold zr; rw [h]
theorem zI {B H H' :Hp} {b:Addr} {o:HO} (h:H b=some o):zr B H H' b=B b:=by unfold zr; rw [h]
theorem zr.ge {B H H' :Hp} (s:zm B H) (s' :zm H H'):zm B (zr B H H'):=fun b o h=>by
 rw [zI (s b o h)]; exact h
theorem zr.le {B H H' :Hp} (s:zm B H) (s' :zm H H'):zm (zr B H H') H' :=fun b o h=>by
 cases q:H b with
 | none=>rw [zC q] at h; exact h
 | some u=>rw [zI q] at h; exact s' b o (s b o h)
theorem zr.self (B H:Hp) (s:zm B H):zr B H H=B:=by
 funext b
 cases q:H b with
 | none=>
  rw [zC q,q]
  cases z:B b with
  | none=>rfl
  | some o=>rw [s b o z] at q; cases q
 | some u=>rw [zI q]
theorem zr.trans {B H H1 H2:Hp} (s1:zm H H1) (s2:zm H1 H2):zr (zr B H H1) H1 H2=zr B H H2:=by
 funext b
 cases q:H b with
 | none=>
  rw [zC q]
  cases z:H1 b with
  | none=>rw [zC z]
  | some o=>rw [zI z,zC q,z,s2 b o z]
 | some u=>rw [zI q,zI (s1 b u q),zI q]
inductive Sl where
 | un | vl (t:T) | ow (ts:List T) | xc (c:Nat)
abbrev En:=List Sl
structure Fx where
 B0:Hp
 H0:Hp
 E:XK
 cl:Nat->Value
structure SI (Y:Fx) (B:Hp) (ρ:En) (σ:Sg) (H:Hp):Prop where
 s0:zm Y.B0 Y.H0
 sH:zm Y.H0 H
 sB:zm B H
 old:∀ b o,Y.H0 b=some o->B b=Y.B0 b
 len:ρ.length=σ.length
 vl:∀ (i:Nat) (t:T),ρ[i]? =some (Sl.vl t)->∃ v:V,σ[i]? =some (some v)/\Rep B v t
 ow:∀ (i:Nat) (ts:List T),ρ[i]? =some (Sl.ow ts)->∃ (a:Addr) (xs:List V),σ[i]? =some (some (V.ref a))/\B a=none/\Y.H0 a=none/\H a=some (.lst xs)/\zq B xs ts/\
  ∀ (j:Nat) (us:List T),j ≠ i->ρ[j]? =some (Sl.ow us)->σ[j]? ≠ some (some (V.ref a))
 xc:∀ (i:Nat) (c:Nat),ρ[i]? =some (Sl.xc c)->∃ a:Addr,σ[i]? =some (some (V.ref a))/\B a=some (.ext (W5 (Y.cl c) a))
theorem SI.grow {Y:Fx} {B:Hp} {ρ:En} {σ:Sg} {H H' :Hp} (I:SI Y B ρ σ H) (s:zm H H'):SI Y (zr B H H') ρ σ H' where
 s0:=I.s0
 sH:=I.sH.trans s
 sB:=zr.le I.sB s
 old:=fun b o h=>by rw [zI (I.sH b o h)]; exact I.old b o h
 len:=I.len
 vl:=fun i t h=>let ⟨v,e,r⟩:=I.vl i t h; ⟨v,e,r.mono (zr.ge I.sB s)⟩
 ow:=fun i ts h=>let ⟨a,xs,e,b,h0,hh,r,d⟩:=I.ow i ts h; ⟨a,xs,e,by rw [zI hh]; exact b,h0,s _ _ hh,r.mono (zr.ge I.sB s),d⟩
 xc:=fun i c h=>let ⟨a,e,r⟩:=I.xc i c h; ⟨a,e,zr.ge I.sB s a _ r⟩
def XP (Y:Fx) (B:Hp) (c:Nat):Prop:=∀ (d:Option Addr) (H' :Hp),zm Y.H0 H' ->zm B H' ->Y.E (Y.cl c) d H'
def Po {α β:Type} (Y:Fx) (rel:Hp->Hp->β->α->Prop) (B H:Hp) (r:R α) (Q:β->Hp->Prop):Prop:=match r with
 | .ok a=>∀ b H',zm H H' ->rel (zr B H H') H' b a->Q b H'
 | .ex c=>XP Y B c
 | .bad=>False
abbrev rC:Hp->Hp->V->T->Prop:=fun B _ v t=>Rep B v t
abbrev rB:Hp->Hp->V->T->Prop:=fun _ H v t=>Rep H v t
abbrev rCs:Hp->Hp->List V->List T->Prop:=fun B _ v t=>zq B v t
abbrev rE {α:Type}:Hp->Hp->α->α->Prop:=fun _ _ a b=>a=b
def tS {α β:Type} (Y:Fx) (rel:Hp->Hp->β->α->Prop) (f:En->R α) (ρ:En):Sg->Hp->(β->Hp->Prop)->Prop:=fun σ H Q=>∃ B,SI Y B ρ σ H/\Po Y rel B H (f ρ) Q
structure Snd (X:Cx) (Y:Fx) (e:Expr) (f:En->R T):Prop where
 mk ::
 go:∀ ρ,PE X e (tS Y rC f ρ)
instance {X:Cx} {Y:Fx} {e:Expr} {f:En->R T}:CoeFun (Snd X Y e f) fun _=>∀ ρ,PE X e (tS Y rC f ρ):=⟨Snd.go⟩
structure ZQ (X:Cx) (Y:Fx) (e:Expr) (f:En->R T):Prop where
 mk ::
 go:∀ ρ,PE X e (tS Y rB f ρ)
instance {X:Cx} {Y:Fx} {e:Expr} {f:En->R T}:CoeFun (ZQ X Y e f) fun _=>∀ ρ,PE X e (tS Y rB f ρ):=⟨ZQ.go⟩
structure wx (X:Cx) (Y:Fx) (e:Expr) (f:En->R Bool):Prop where
 mk ::
 go:∀ ρ,PT X e (tS Y rE f ρ)
instance {X:Cx} {Y:Fx} {e:Expr} {f:En->R Bool}:CoeFun (wx X Y e f) fun _=>∀ ρ,PT X e (tS Y rE f ρ):=⟨wx.go⟩
structure wI (X:Cx) (Y:Fx) (es:List Expr) (f:En->R (List T)):Prop where
 mk ::
 go:∀ ρ,PA X es (tS Y rCs f ρ)
instance {X:Cx} {Y:Fx} {es:List Expr} {f:En->R (List T)}:CoeFun (wI X Y es f) fun _=>∀ ρ,PA X es (tS Y rCs f ρ):=⟨wI.go⟩
theorem step {α α' β β' :Type} {Y:Fx} {rel:Hp->Hp->β->α->Prop} {rel' :Hp->Hp->β' ->α' ->Prop} {f:En->R α} {k:α->R α'} {ρ:En} {B:Hp} {σ:Sg} {H:Hp} {Q:β' ->Hp->Prop} {K:β->Hp->Prop}
  (I:SI Y B ρ σ H) (h:Po Y rel' B H ((f ρ).bind k) Q)
  (n:∀ a b H1,f ρ= .ok a->zm H H1->rel (zr B H H1) H1 b a->SI Y (zr B H H1) ρ σ H1->Po Y rel' (zr B H H1) H1 (k a) Q->K b H1):tS Y rel f ρ σ H K:=by
 refine ⟨B,I, ?_⟩
 cases e:f ρ with
 | bad=>rw [e] at h; exact h
 | ex c=>rw [e] at h; exact h
 | ok a=>
  rw [e] at h
  intro b H1 s r
  refine n a b H1 e s r (I.grow s) ?_
  have h' :Po Y rel' B H (k a) Q:=h
  revert h'
  cases k a with
  | bad=>exact fun h' =>h'
  | ex c=>exact fun h' d H' s0 sB' =>h' d H' s0 ((zr.ge I.sB s).trans sB')
  | ok a' =>exact fun h' b' H2 s2 r2=>h' b' H2 (s.trans s2) (by rw [← zr.trans s s2]; exact r2)
theorem Za {α β:Type} {Y:Fx} {rel:Hp->Hp->β->α->Prop} {ρ:En} {B:Hp} {σ:Sg} {H:Hp} {a:α} {b:β} {Q:β->Hp->Prop} (I:SI Y B ρ σ H) (h:Po Y rel B H (.ok a) Q) (r:rel B H b a):Q b H:=h b H (zm.refl H) (by rw [zr.self B H I.sB]; exact r)
theorem Snd.b {X:Cx} {Y:Fx} {e:Expr} {f:En->R T} (h:Snd X Y e f):ZQ X Y e f:= .mk fun ρ=>PE.imp (h ρ) fun σ H Q ⟨B,I,q⟩=>⟨B,I,by
 revert q
 cases f ρ with
 | bad=>exact fun q=>q
 | ex c=>exact fun q=>q
 | ok a=>exact fun q b H' s r=>q b H' s (r.mono (zr.le I.sB s))⟩
section
variable {X:Cx} {Y:Fx} {a b c:Expr} {fa fb fc:En->R T} {pos:Pos}
def vE (i:Nat):En->R T:=fun ρ=>match ρ[i]? with
 | some (.vl t)=> .ok t
 | _=> .bad
def vB (i:Nat):En->R T:=fun ρ=>match ρ[i]? with
 | some (.vl t)=> .ok t
 | some (.ow ts)=> .ok (.lst ts)
 | _=> .bad
def cE (t:T):En->R T:=fun _=> .ok t
theorem Xg (i:Nat) {x:Str} (h:PE X (.Name x pos) (Yq i)):Snd X Y (.Name x pos) (vE i):= .mk fun ρ=>PE.imp h fun σ H Q ⟨B,I,q⟩=>by
 unfold vE at q
 split at q
 ·rename_i t e
  obtain ⟨v,e1,r⟩:=I.vl i t e
  exact ⟨v,e1,Za I q r⟩
 ·exact q.elim
theorem vF (i:Nat) {x:Str} (h:PE X (.Name x pos) (Yq i)):ZQ X Y (.Name x pos) (vB i):= .mk fun ρ=>PE.imp h fun σ H Q ⟨B,I,q⟩=>by
 unfold vB at q
 split at q
 ·rename_i t e
  obtain ⟨v,e1,r⟩:=I.vl i t e
  exact ⟨v,e1,Za I q (r.mono I.sB)⟩
 ·rename_i ts e
  obtain ⟨a,xs,e1,_,_,hh,r,_⟩:=I.ow i ts e
  exact ⟨.ref a,e1,Za I q (.lst hh (r.mono I.sB))⟩
 ·exact q.elim
theorem Xh {i j}:Snd X Y (.Constant (.int i) j pos) (cE (.int i)):= .mk fun ρ=>PE.imp Yr fun σ H Q ⟨B,I,q⟩=>Za I q (.int i)
theorem gN {i j}:Snd X Y (.Constant (.bool i) j pos) (cE (.bl i)):= .mk fun ρ=>PE.imp xS fun σ H Q ⟨B,I,q⟩=>Za I q (.bl i)
theorem Xi {j}:Snd X Y (.Constant .none j pos) (cE .non):= .mk fun ρ=>PE.imp v7 fun σ H Q ⟨B,I,q⟩=>Za I q .non
theorem vG {i j}:Snd X Y (.Constant (.str i) j pos) (cE (.str i)):= .mk fun ρ=>PE.imp uB fun σ H Q ⟨B,I,q⟩=>Za I q (.str i)
def zc:En->R (List T):=fun _=> .ok []
def z9 (f:En->R T) (g:En->R (List T)):En->R (List T):=fun ρ=>(f ρ).bind fun t=>(g ρ).bind fun ts=> .ok (t :: ts)
theorem vH:wI X Y [] zc:= .mk fun ρ=>PA.imp zt fun σ H Q ⟨B,I,q⟩=>Za I q .nil
theorem Yw {es:List Expr} {g:En->R (List T)} (h:Snd X Y a fa) (hs:wI X Y es g) (hq:starEach (a :: es) X.env=(false,eval a X.env) :: starEach es X.env:=by exact zD rfl):wI X Y (a :: es) (z9 fa g):= .mk fun ρ=>
 PA.imp (zj (h ρ) (hs ρ) hq) fun σ H Q ⟨B,I,q⟩=>step I q fun t v H1 _ s1 r1 I1 q1=>step I1 q1 fun ts vs H2 _ s2 r2 I2 q2=>Za I2 q2 (.cons (r1.mono (zr.ge I1.sB s2)) r2)
theorem zm.new {H:Hp} {p:Addr} (h:H p=none) (o:HO):zm H (upd H p o):=fun b u q=>by rw [zi (zn q h)]; exact q
theorem ZR {B H:Hp} {p:Addr} (h:H p=none) (o:HO):zr B H (upd H p o) p=some o:=by rw [zC h,zl]
def bnd:Nat:=16777216
theorem zS {n:Nat} (h:n<=bnd):n<=sizeLine:=by rw [bh]; exact h
def Z0 (g:En->R (List T)):En->R T:=fun ρ=>(g ρ).bind fun ts=>if ts.length<=bnd then .ok (.tup ts) else .bad
def jt (g:En->R (List T)):En->R T:=fun ρ=>(g ρ).bind fun ts=>if ts.length<=bnd then .ok (.lst ts) else .bad
theorem qz {ρ:En} {σ:Sg} {B H:Hp} {xs:List V} {ts:List T} (I:SI Y B ρ σ H) (r:zq B xs ts) {p:Addr} (h:H p=none):Rep (zr B H (upd H p (.tup xs))) (.ref p) (.tup ts):=
 .tup (ZR h _) (r.mono (zr.ge I.sB (zm.new h _)))
theorem qA {ρ:En} {σ:Sg} {B H:Hp} {xs:List V} {ts:List T} (I:SI Y B ρ σ H) (r:zq B xs ts) {p:Addr} (h:H p=none):Rep (zr B H (upd H p (.lst xs))) (.ref p) (.lst ts):=
 .lst (ZR h _) (r.mono (zr.ge I.sB (zm.new h _)))
theorem Xj {es:List Expr} {g:En->R (List T)} {x1} (h:wI X Y es g):Snd X Y (.Tuple es x1 pos) (Z0 g):= .mk fun ρ=>PE.imp (vp (h ρ)) fun σ H Q ⟨B,I,q⟩=>
 step I q fun ts vs H1 _ s1 r1 I1 q1=>by
  split at q1
  ·rename_i hb
   refine ⟨by rw [r1.length]; exact zS hb,fun p hp=>q1 _ _ (zm.new hp _) (qz I1 r1 hp)⟩
  ·exact q1.elim
theorem Xk {es:List Expr} {g:En->R (List T)} (h:wI X Y es g):Snd X Y (.List es pos) (jt g):= .mk fun ρ=>PE.imp (Yv (h ρ)) fun σ H Q ⟨B,I,q⟩=>
 step I q fun ts vs H1 _ s1 r1 I1 q1=>by
  split at q1
  ·rename_i hb
   refine ⟨by rw [r1.length]; exact zS hb,fun p hp=>q1 _ _ (zm.new hp _) (qA I1 r1 hp)⟩
  ·exact q1.elim
end
end PV
namespace PV
open PySem PySem.Spec PyProof.Rows L2
def eqL (f:T->T->Option Bool):List T->List T->Option Bool
 | [],[]=>some true
 | [],_ :: _=>some false
 | _ :: _,[]=>some false
 | x :: xs,y :: ys=>match f x y with
  | none=>none
  | some b=>match eqL f xs ys with
   | none=>none
   | some c=>some (b && c)
def b2 (b:Bool):Int:=if b then 1 else 0
def eqF:Nat->T->T->Option Bool
 | _, .non, .non=>some true
 | _, .bl a, .bl b=>some (a == b)
 | _, .bl a, .int j=>some (b2 a == j)
 | _, .int i, .bl b=>some (i == b2 b)
 | _, .int i, .int j=>some (i == j)
 | _, .str x, .str y=>some (x == y)
 | n+1, .tup xs, .tup ys=>eqL (eqF n) xs ys
 | n+1, .lst xs, .lst ys=>eqL (eqF n) xs ys
 | n+1, .fz xs, .lst ys=>eqL (eqF n) xs ys
 | n+1, .lst xs, .fz ys=>eqL (eqF n) xs ys
 | n+1, .fz xs, .fz ys=>eqL (eqF n) xs ys
 | 0, .tup _, .tup _=>none
 | 0, .lst _, .lst _=>none
 | 0, .fz _, .lst _=>none
 | 0, .lst _, .fz _=>none
 | 0, .fz _, .fz _=>none
 | _, .non,_=>some false
 | _, .bl _,_=>some false
 | _, .int _,_=>some false
 | _, .str _,_=>some false
 | _, .tup _,_=>some false
 | _, .lst _,_=>some false
 | _, .fz _,_=>some false
mutual
theorem Rep.fn {H:Hp}:∀ {v:V} {t t' :T},Rep H v t->Rep H v t' ->t=t'
 | _,_,_, .non, .non=>rfl
 | _,_,_, .bl _, .bl _=>rfl
 | _,_,_, .int _, .int _=>rfl
 | _,_,_, .str _, .str _=>rfl
 | _,_,_, .tup h r, .tup h' r' =>by
  rw [h] at h'; cases h'; rw [zq.fn r r']
 | _,_,_, .tup h r, .lst h' r' =>by rw [h] at h'; cases h'
 | _,_,_, .tup h r, .fz h' r' =>by rw [h] at h'; cases h'
 | _,_,_, .lst h r, .tup h' r' =>by rw [h] at h'; cases h'
 | _,_,_, .lst h r, .lst h' r' =>by
  rw [h] at h'; cases h'; rw [zq.fn r r']
 | _,_,_, .lst h r, .fz h' r' =>by rw [h] at h'; cases h'
 | _,_,_, .fz h r, .tup h' r' =>by rw [h] at h'; cases h'
 | _,_,_, .fz h r, .lst h' r' =>by rw [h] at h'; cases h'
 | _,_,_, .fz h r, .fz h' r' =>by
  rw [h] at h'; cases h'; rw [zq.fn r r']
theorem zq.fn {H:Hp}:∀ {v:List V} {t t' :List T},zq H v t->zq H v t' ->t=t'
 | _,_,_, .nil, .nil=>rfl
 | _,_,_, .cons h r, .cons h' r' =>by rw [Rep.fn h h',zq.fn r r']
end
theorem zW {f:T->T->Option Bool} (hf:∀ x b,f x x=some b->b=true):∀ (xs:List T) (b:Bool),eqL f xs xs=some b->b=true
 | [],b,h=>by
  have h' :some true=some b:=h
  cases h'; rfl
 | x :: xs,b,h=>by
  unfold eqL at h
  cases e:f x x with
  | none=>rw [e] at h; cases h
  | some c=>
   rw [e] at h
   cases e' :eqL f xs xs with
   | none=>rw [e'] at h; cases h
   | some d=>
    rw [e'] at h
    cases h
    rw [hf x c e,zW hf xs d e']
    rfl
theorem zK:∀ (n:Nat) (t:T) (b:Bool),eqF n t t=some b->b=true
 | n, .non,b,h=>by unfold eqF at h; cases h; rfl
 | n, .bl x,b,h=>by unfold eqF at h; cases h; simp
 | n, .int x,b,h=>by unfold eqF at h; cases h; simp
 | n, .str x,b,h=>by unfold eqF at h; cases h; simp
 | 0, .tup x,b,h=>by unfold eqF at h; cases h
 | 0, .lst x,b,h=>by unfold eqF at h; cases h
 | 0, .fz x,b,h=>by unfold eqF at h; cases h
 | n+1, .tup x,b,h=>by unfold eqF at h; exact zW (zK n) x b h
 | n+1, .lst x,b,h=>by unfold eqF at h; exact zW (zK n) x b h
 | n+1, .fz x,b,h=>by unfold eqF at h; exact zW (zK n) x b h
theorem uW {f:T->T->Option Bool}:∀ {xs ys:List T} {b:Bool},eqL f xs ys=some b->
  ∃ e:Nat->Bool,(∀ j x y,xs[j]? =some x->ys[j]? =some y->f x y=some (e j))/\((aY (min xs.length ys.length)).all e && xs.length == ys.length)=b
 | [],[],b,h=>by
  have h' :some true=some b:=h
  cases h'
  exact ⟨fun _=>true,fun j x y h=>by simp at h,by simp⟩
 | [],y :: ys,b,h=>by
  have h' :some false=some b:=h
  cases h'
  exact ⟨fun _=>true,fun j x y h=>by simp at h,by simp⟩
 | x :: xs,[],b,h=>by
  have h' :some false=some b:=h
  cases h'
  exact ⟨fun _=>true,fun j x y h h' =>by simp at h',by simp⟩
 | x :: xs,y :: ys,b,h=>by
  unfold eqL at h
  cases e:f x y with
  | none=>rw [e] at h; cases h
  | some c=>
   rw [e] at h
   cases e' :eqL f xs ys with
   | none=>rw [e'] at h; cases h
   | some d=>
    rw [e'] at h
    cases h
    obtain ⟨g,h1,h2⟩:=uW e'
    refine ⟨fun j=>match j with | 0=>c | j+1=>g j,fun j u v hu hv=> ?_, ?_⟩
    ·cases j with
     | zero=>simp at hu hv; subst hu hv; exact e
     | succ j=>exact h1 j u v (by simpa using hu) (by simpa using hv)
    ·have z:min (x :: xs).length (y :: ys).length=min xs.length ys.length+1:=by simp only [aD]; omega
     rw [z,df,cL,fA]
     have z2:((x :: xs).length == (y :: ys).length)=(xs.length == ys.length):=by simp
     rw [z2,← h2,Bool.and_assoc]
     rfl
section
variable {X:Cx} {pins:List (Addr×Obj)} {σ:Sg} {H:Hp} {s:Shared}
theorem Zh {a:Addr} {xs:List V} {ts:List T} (I:L2.Inv X pins σ H s) (h:H a=some (.tup xs)) (r:zq H xs ts):∃ its:List Value,zB xs its/\s.heap.IsTuple a its.toArray/\ts.length=its.length/\xs.length<=sizeLine:=by
 obtain ⟨its,rv,p,z⟩:=I.tuple (SqT.of h)
 exact ⟨its,rv,p,by rw [← r.length]; exact rv.length,z⟩
theorem zA {a:Addr} {xs:List V} {ts:List T} (I:L2.Inv X pins σ H s) (h:Rd H a (.lst xs)) (r:zq H xs ts):∃ its:List Value,zB xs its/\s.heap.IsList a its.toArray/\ts.length=its.length/\xs.length<=sizeLine:=by
 obtain ⟨its,rv,p,z⟩:=I.list (.inl h)
 exact ⟨its,rv,p.isList,by rw [← r.length]; exact rv.length,z⟩
end
abbrev EqN (A:Around) (s:Shared) (u u' :Value) (b:Bool):Prop:=cC A s u u' b/\eN A s u u' b/\dg A s u u' (!b)
section
variable {X:Cx} {pins:List (Addr×Obj)} {σ:Sg} {H:Hp} {s:Shared}
theorem uX {xs ys:List V} {ts us:List T} {its its' :List Value} {A:Around} {f:T->T->Option Bool} {e:Nat->Bool} (r:zq H xs ts) (r' :zq H ys us) (v:zB xs its) (v' :zB ys its')
  (he:∀ (j:Nat) (x y:T),ts[j]? =some x->us[j]? =some y->f x y=some (e j))
  (ih:∀ (x y:T) (b:Bool) (p q:V) (u w:Value),f x y=some b->Rep H p x->Rep H q y->zP p u->zP q w->EqN A s u w b) (j:Nat) (h1:j < its.toArray.size) (h2:j < its'.toArray.size):
  cC A s its.toArray[j] its'.toArray[j] (e j):=by
 have l1:=v.length
 have l2:=v'.length
 have m1:=r.length
 have m2:=r'.length
 have k1:j < xs.length:=by simp at h1; omega
 have k2:j < ys.length:=by simp at h2; omega
 obtain ⟨t,et,rt⟩:=r.getV (aw k1)
 obtain ⟨t',et',rt'⟩:=r'.getV (aw k2)
 obtain ⟨u,eu,ru⟩:=v.get (aw k1)
 obtain ⟨u',eu',ru'⟩:=v'.get (aw k2)
 have q1:its.toArray[j]=u:=by
  have:its[j]? =some its.toArray[j]:=by simp at h1 ⊢
  rw [eu] at this; exact (aI this).symm
 have q2:its'.toArray[j]=u' :=by
  have:its'[j]? =some its'.toArray[j]:=by simp at h2 ⊢
  rw [eu'] at this; exact (aI this).symm
 rw [q1,q2]
 exact (ih t t' (e j) _ _ u u' (he j t t' et et') rt rt' ru ru').1
theorem qB {A:Around} {a c:Addr} {xs ys:List V} {ts us:List T} {b:Bool} {f:T->T->Option Bool} (I:L2.Inv X pins σ H s) (hu:A.units < cLine) (ha:H a=some (.tup xs)) (hc:H c=some (.tup ys)) (r:zq H xs ts) (r' :zq H ys us)
  (hb:eqL f ts us=some b) (hr:∀ x b,f x x=some b->b=true)
  (ih:∀ (x y:T) (b:Bool) (p q:V) (u w:Value),f x y=some b->Rep H p x->Rep H q y->zP p u->zP q w->EqN A.in1 s u w b):EqN A s (.ref a) (.ref c) b:=by
 obtain ⟨its,v,p,l,_⟩:=Zh I ha r
 obtain ⟨its',v',p',l',_⟩:=Zh I hc r'
 obtain ⟨e,he,hb'⟩:=uW hb
 have hp:=uX (A:=A.in1) r r' v v' he ih
 have z:((aY (min its.toArray.size its'.toArray.size)).all e && its.toArray.size == its'.toArray.size)=b:=by
  rw [← hb']; simp [l,l']
 have R:=eN.tuples p p' hu hp
 have N:=dg.tuples p p' hu hp
 rw [z] at R
 have N' :dg A s (.ref a) (.ref c) (!b):=by
  rw [← z]; exact N
 refine ⟨?_,R,N'⟩
 by_cases hac:a=c
 ·subst hac
  rw [ha] at hc; cases hc
  have:=r.fn r'; subst this
  rw [zW hr ts b hb]
  exact fX _
 ·exact fk hac R
theorem Ji {A:Around} {a c:Addr} {xs ys:List V} {ts us:List T} {b:Bool} {f:T->T->Option Bool} (I:L2.Inv X pins σ H s) (hu:A.units < cLine) (ha:Rd H a (.lst xs)) (hc:Rd H c (.lst ys)) (r:zq H xs ts) (r' :zq H ys us)
  (hb:eqL f ts us=some b) (hr:∀ x b,f x x=some b->b=true)
  (ih:∀ (x y:T) (b:Bool) (p q:V) (u w:Value),f x y=some b->Rep H p x->Rep H q y->zP p u->zP q w->EqN A.in1 s u w b):EqN A s (.ref a) (.ref c) b:=by
 obtain ⟨its,v,p,l,_⟩:=zA I ha r
 obtain ⟨its',v',p',l',_⟩:=zA I hc r'
 obtain ⟨e,he,hb'⟩:=uW hb
 have hp:=uX (A:=A.in1) r r' v v' he ih
 have RN:eN A s (.ref a) (.ref c) b/\dg A s (.ref a) (.ref c) (!b):=by
  by_cases hl:its.toArray.size=its'.toArray.size
  ·have z:(aY its.toArray.size).all e=b:=by
    rw [← hb']
    have:ts.length=us.length:=by simp at hl; omega
    rw [this]
    have k:its.toArray.size=us.length:=by simp; omega
    rw [k]; simp
   have R:=eN.lists p p' hl hu hp
   have N:=dg.lists p p' hl hu hp
   rw [z] at R
   refine ⟨R, ?_⟩
   rw [← z]; exact N
  ·have hl' :(its.toArray.size != its'.toArray.size)=true:=by simpa using hl
   have z:b=false:=by
    rw [← hb']
    have:¬ ts.length=us.length:=by simp at hl; omega
    simp [this]
   subst z
   exact ⟨eN.lists_lengths p p' hl' hu,dg.lists_lengths p p' hl' hu⟩
 refine ⟨?_,RN.1,RN.2⟩
 by_cases hac:a=c
 ·subst hac
  have hxy:xs=ys:=by
   rcases ha with ha | ⟨o,ha⟩ <;> rcases hc with hc | ⟨o',hc⟩ <;> (rw [ha] at hc; cases hc) <;> rfl
  subst hxy
  have:=r.fn r'; subst this
  rw [zW hr ts b hb]
  exact fX _
 ·exact fk hac RN.1
end
section
variable {X:Cx} {pins:List (Addr×Obj)} {σ:Sg} {H:Hp} {s:Shared}
theorem j3 {A:Around}:A.in1.units=A.units+1:=rfl
set_option maxHeartbeats 2000000 in
theorem uY (I:L2.Inv X pins σ H s):∀ (A:Around),A.units < cLine->∀ (x y:T) (b:Bool) (p q:V) (u w:Value),eqF 0 x y=some b->Rep H p x->Rep H q y->zP p u->zP q w->EqN A s u w b:=by
 intro A hu x y b p q u w h rp rq ru rw'
 have hu' :=hu
 cases rp with
 | non=>
  obtain rfl:u=Value.none:=ru
  cases rq with
  | non=>obtain rfl:w=Value.none:=rw'; unfold eqF at h; cases h; exact ⟨.same _, .none_none, .none_none⟩
  | bl c=>obtain rfl:w=Value.bool c:=rw'; unfold eqF at h; cases h; exact ⟨.none_bool _, .none_bool _, .none_bool _⟩
  | int c=>obtain ⟨t,rfl⟩:=rw'; unfold eqF at h; cases h; exact ⟨.none_int _ _, .none_int _ _, .none_int _ _⟩
  | str c=>obtain ⟨t,rfl⟩:=rw'; unfold eqF at h; cases h; exact ⟨.none_str _ _, .none_str _ _, .none_str _ _⟩
  | tup h1 r1=>obtain rfl:w=Value.ref _:=rw'; unfold eqF at h; cases h; obtain ⟨i,_,p,_⟩:=Zh I h1 r1; exact ⟨.none_tuple p hu', .none_tuple p hu', .none_tuple p hu'⟩
  | lst h1 r1=>obtain rfl:w=Value.ref _:=rw'; unfold eqF at h; cases h; obtain ⟨i,_,p,_⟩:=zA I (.inl h1) r1; exact ⟨.none_list p hu', .none_list p hu', .none_list p hu'⟩
  | fz h1 r1=>obtain rfl:w=Value.ref _:=rw'; unfold eqF at h; cases h; obtain ⟨i,_,p,_⟩:=zA I (.inr ⟨_,h1⟩) r1; exact ⟨.none_list p hu', .none_list p hu', .none_list p hu'⟩
 | bl d=>
  obtain rfl:u=Value.bool d:=ru
  cases rq with
  | non=>obtain rfl:w=Value.none:=rw'; unfold eqF at h; cases h; exact ⟨.bool_none _, .bool_none _, .bool_none _⟩
  | bl c=>obtain rfl:w=Value.bool c:=rw'; unfold eqF at h; cases h; exact ⟨.bool_bool _ _, .bool_bool _ _, .bool_bool _ _⟩
  | int c=>obtain ⟨t,rfl⟩:=rw'; unfold eqF at h; cases h; exact ⟨.bool_int _ _ _, .bool_int _ _ _, .bool_int _ _ _⟩
  | str c=>obtain ⟨t,rfl⟩:=rw'; unfold eqF at h; cases h; exact ⟨.bool_str _ _ _, .bool_str _ _ _, .bool_str _ _ _⟩
  | tup h1 r1=>obtain rfl:w=Value.ref _:=rw'; unfold eqF at h; cases h; obtain ⟨i,_,p,_⟩:=Zh I h1 r1; exact ⟨.bool_tuple _ p hu', .bool_tuple _ p hu', .bool_tuple _ p hu'⟩
  | lst h1 r1=>obtain rfl:w=Value.ref _:=rw'; unfold eqF at h; cases h; obtain ⟨i,_,p,_⟩:=zA I (.inl h1) r1; exact ⟨.bool_list _ p hu', .bool_list _ p hu', .bool_list _ p hu'⟩
  | fz h1 r1=>obtain rfl:w=Value.ref _:=rw'; unfold eqF at h; cases h; obtain ⟨i,_,p,_⟩:=zA I (.inr ⟨_,h1⟩) r1; exact ⟨.bool_list _ p hu', .bool_list _ p hu', .bool_list _ p hu'⟩
 | int d=>
  obtain ⟨t0,rfl⟩:=ru
  cases rq with
  | non=>obtain rfl:w=Value.none:=rw'; unfold eqF at h; cases h; exact ⟨.int_none _ _, .int_none _ _, .int_none _ _⟩
  | bl c=>obtain rfl:w=Value.bool c:=rw'; unfold eqF at h; cases h; exact ⟨.int_bool _ _ _, .int_bool _ _ _, .int_bool _ _ _⟩
  | int c=>obtain ⟨t,rfl⟩:=rw'; unfold eqF at h; cases h; exact ⟨.int_int _ _ _ _, .int_int _ _ _ _, .int_int _ _ _ _⟩
  | str c=>obtain ⟨t,rfl⟩:=rw'; unfold eqF at h; cases h; exact ⟨.int_str _ _ _ _, .int_str _ _ _ _, .int_str _ _ _ _⟩
  | tup h1 r1=>obtain rfl:w=Value.ref _:=rw'; unfold eqF at h; cases h; obtain ⟨i,_,p,_⟩:=Zh I h1 r1; exact ⟨.int_tuple _ _ p hu', .int_tuple _ _ p hu', .int_tuple _ _ p hu'⟩
  | lst h1 r1=>obtain rfl:w=Value.ref _:=rw'; unfold eqF at h; cases h; obtain ⟨i,_,p,_⟩:=zA I (.inl h1) r1; exact ⟨.int_list _ _ p hu', .int_list _ _ p hu', .int_list _ _ p hu'⟩
  | fz h1 r1=>obtain rfl:w=Value.ref _:=rw'; unfold eqF at h; cases h; obtain ⟨i,_,p,_⟩:=zA I (.inr ⟨_,h1⟩) r1; exact ⟨.int_list _ _ p hu', .int_list _ _ p hu', .int_list _ _ p hu'⟩
 | str d=>
  obtain ⟨t0,rfl⟩:=ru
  cases rq with
  | non=>obtain rfl:w=Value.none:=rw'; unfold eqF at h; cases h; exact ⟨.str_none _ _, .str_none _ _, .str_none _ _⟩
  | bl c=>obtain rfl:w=Value.bool c:=rw'; unfold eqF at h; cases h; exact ⟨.str_bool _ _ _, .str_bool _ _ _, .str_bool _ _ _⟩
  | int c=>obtain ⟨t,rfl⟩:=rw'; unfold eqF at h; cases h; exact ⟨.str_int _ _ _ _, .str_int _ _ _ _, .str_int _ _ _ _⟩
  | str c=>obtain ⟨t,rfl⟩:=rw'; unfold eqF at h; cases h; exact ⟨.str_str _ _ _ _, .str_str _ _ _ _, .str_str _ _ _ _⟩
  | tup h1 r1=>obtain rfl:w=Value.ref _:=rw'; unfold eqF at h; cases h; obtain ⟨i,_,p,_⟩:=Zh I h1 r1; exact ⟨.str_tuple _ _ p hu', .str_tuple _ _ p hu', .str_tuple _ _ p hu'⟩
  | lst h1 r1=>obtain rfl:w=Value.ref _:=rw'; unfold eqF at h; cases h; obtain ⟨i,_,p,_⟩:=zA I (.inl h1) r1; exact ⟨.str_list _ _ p hu', .str_list _ _ p hu', .str_list _ _ p hu'⟩
  | fz h1 r1=>obtain rfl:w=Value.ref _:=rw'; unfold eqF at h; cases h; obtain ⟨i,_,p,_⟩:=zA I (.inr ⟨_,h1⟩) r1; exact ⟨.str_list _ _ p hu', .str_list _ _ p hu', .str_list _ _ p hu'⟩
 | tup h0 r0=>
  obtain rfl:u=Value.ref _:=ru
  obtain ⟨i0,_,p0,_⟩:=Zh I h0 r0
  cases rq with
  | non=>obtain rfl:w=Value.none:=rw'; unfold eqF at h; cases h; exact ⟨.tuple_none p0 hu', .tuple_none p0 hu', .tuple_none p0 hu'⟩
  | bl c=>obtain rfl:w=Value.bool c:=rw'; unfold eqF at h; cases h; exact ⟨.tuple_bool _ p0 hu', .tuple_bool _ p0 hu', .tuple_bool _ p0 hu'⟩
  | int c=>obtain ⟨t,rfl⟩:=rw'; unfold eqF at h; cases h; exact ⟨.tuple_int _ _ p0 hu', .tuple_int _ _ p0 hu', .tuple_int _ _ p0 hu'⟩
  | str c=>obtain ⟨t,rfl⟩:=rw'; unfold eqF at h; cases h; exact ⟨.tuple_str _ _ p0 hu', .tuple_str _ _ p0 hu', .tuple_str _ _ p0 hu'⟩
  | tup h1 r1=>unfold eqF at h; cases h
  | lst h1 r1=>obtain rfl:w=Value.ref _:=rw'; unfold eqF at h; cases h; obtain ⟨i,_,p,_⟩:=zA I (.inl h1) r1; exact ⟨.tuple_list p0 p hu', .tuple_list p0 p hu', .tuple_list p0 p hu'⟩
  | fz h1 r1=>obtain rfl:w=Value.ref _:=rw'; unfold eqF at h; cases h; obtain ⟨i,_,p,_⟩:=zA I (.inr ⟨_,h1⟩) r1; exact ⟨.tuple_list p0 p hu', .tuple_list p0 p hu', .tuple_list p0 p hu'⟩
 | lst h0 r0=>
  obtain rfl:u=Value.ref _:=ru
  obtain ⟨i0,_,p0,_⟩:=zA I (.inl h0) r0
  cases rq with
  | non=>obtain rfl:w=Value.none:=rw'; unfold eqF at h; cases h; exact ⟨.list_none p0 hu', .list_none p0 hu', .list_none p0 hu'⟩
  | bl c=>obtain rfl:w=Value.bool c:=rw'; unfold eqF at h; cases h; exact ⟨.list_bool _ p0 hu', .list_bool _ p0 hu', .list_bool _ p0 hu'⟩
  | int c=>obtain ⟨t,rfl⟩:=rw'; unfold eqF at h; cases h; exact ⟨.list_int _ _ p0 hu', .list_int _ _ p0 hu', .list_int _ _ p0 hu'⟩
  | str c=>obtain ⟨t,rfl⟩:=rw'; unfold eqF at h; cases h; exact ⟨.list_str _ _ p0 hu', .list_str _ _ p0 hu', .list_str _ _ p0 hu'⟩
  | tup h1 r1=>obtain rfl:w=Value.ref _:=rw'; unfold eqF at h; cases h; obtain ⟨i,_,p,_⟩:=Zh I h1 r1; exact ⟨.list_tuple p0 p hu', .list_tuple p0 p hu', .list_tuple p0 p hu'⟩
  | lst h1 r1=>unfold eqF at h; cases h
  | fz h1 r1=>unfold eqF at h; cases h
 | fz h0 r0=>
  obtain rfl:u=Value.ref _:=ru
  obtain ⟨i0,_,p0,_⟩:=zA I (.inr ⟨_,h0⟩) r0
  cases rq with
  | non=>obtain rfl:w=Value.none:=rw'; unfold eqF at h; cases h; exact ⟨.list_none p0 hu', .list_none p0 hu', .list_none p0 hu'⟩
  | bl c=>obtain rfl:w=Value.bool c:=rw'; unfold eqF at h; cases h; exact ⟨.list_bool _ p0 hu', .list_bool _ p0 hu', .list_bool _ p0 hu'⟩
  | int c=>obtain ⟨t,rfl⟩:=rw'; unfold eqF at h; cases h; exact ⟨.list_int _ _ p0 hu', .list_int _ _ p0 hu', .list_int _ _ p0 hu'⟩
  | str c=>obtain ⟨t,rfl⟩:=rw'; unfold eqF at h; cases h; exact ⟨.list_str _ _ p0 hu', .list_str _ _ p0 hu', .list_str _ _ p0 hu'⟩
  | tup h1 r1=>obtain rfl:w=Value.ref _:=rw'; unfold eqF at h; cases h; obtain ⟨i,_,p,_⟩:=Zh I h1 r1; exact ⟨.list_tuple p0 p hu', .list_tuple p0 p hu', .list_tuple p0 p hu'⟩
  | lst h1 r1=>unfold eqF at h; cases h
  | fz h1 r1=>unfold eqF at h; cases h
set_option maxHeartbeats 2000000 in
theorem uZ (I:L2.Inv X pins σ H s):∀ (n:Nat) (A:Around),A.units+n < cLine->∀ (x y:T) (b:Bool) (p q:V) (u w:Value),eqF n x y=some b->Rep H p x->Rep H q y->zP p u->zP q w->EqN A s u w b:=by
 intro n
 induction n with
 | zero=>exact fun A hu x y b p q u w h=>uY I A (by omega) x y b p q u w h
 | succ n ih=>
  intro A hu x y b p q u w h rp rq ru rw'
  have low:eqF 0 x y=some b->EqN A s u w b:=fun h=>uY I A (by omega) x y b p q u w h rp rq ru rw'
  have hu' :A.units < cLine:=by omega
  have ih' :=ih A.in1 (by rw [j3]; omega)
  cases rp with
  | tup h0 r0=>
   cases rq with
   | tup h1 r1=>
    obtain rfl:u=Value.ref _:=ru
    obtain rfl:w=Value.ref _:=rw'
    unfold eqF at h
    exact qB I hu' h0 h1 r0 r1 h (zK n) ih'
   | _=>exact low (by unfold eqF at h ⊢; exact h)
  | lst h0 r0=>
   cases rq with
   | lst h1 r1=>
    obtain rfl:u=Value.ref _:=ru
    obtain rfl:w=Value.ref _:=rw'
    unfold eqF at h
    exact Ji I hu' (.inl h0) (.inl h1) r0 r1 h (zK n) ih'
   | fz h1 r1=>
    obtain rfl:u=Value.ref _:=ru
    obtain rfl:w=Value.ref _:=rw'
    unfold eqF at h
    exact Ji I hu' (.inl h0) (.inr ⟨_,h1⟩) r0 r1 h (zK n) ih'
   | _=>exact low (by unfold eqF at h ⊢; exact h)
  | fz h0 r0=>
   cases rq with
   | lst h1 r1=>
    obtain rfl:u=Value.ref _:=ru
    obtain rfl:w=Value.ref _:=rw'
    unfold eqF at h
    exact Ji I hu' (.inr ⟨_,h0⟩) (.inl h1) r0 r1 h (zK n) ih'
   | fz h1 r1=>
    obtain rfl:u=Value.ref _:=ru
    obtain rfl:w=Value.ref _:=rw'
    unfold eqF at h
    exact Ji I hu' (.inr ⟨_,h0⟩) (.inr ⟨_,h1⟩) r0 r1 h (zK n) ih'
   | _=>exact low (by unfold eqF at h ⊢; exact h)
  | _=>exact low (by cases rq <;> (unfold eqF at h ⊢; exact h))
end
section
variable {X:Cx} {Y:Fx} {a b c d:Expr} {fa fb fc fd:En->R T} {pos:Pos}
def rG (Y:Fx) (g:T->T->R T):R2:=fun x y H Q=>∃ B t t',zm B H/\Rep B x t/\Rep B y t' /\Po Y rC B H (g t t') Q
def zf (g:T->T->R T) (fa fb:En->R T):En->R T:=fun ρ=>(fa ρ).bind fun x=>(fb ρ).bind fun y=>g x y
theorem U0 {op:Operator} {g:T->T->R T} (ho:OpR X (binaryOp op) (rG Y g)) (ha:Snd X Y a fa) (hb:Snd X Y b fb):Snd X Y (.BinOp a op b pos) (zf g fa fb):= .mk fun ρ=>
 PE.imp (X4 ho (ha ρ) (hb ρ)) fun σ H Q ⟨B,I,q⟩=>step I q fun t v H1 _ s1 r1 I1 q1=>step I1 q1 fun t' v' H2 _ s2 r2 I2 q2=>
  ⟨_,t,t',I2.sB,r1.mono (zr.ge I1.sB s2),r2,q2⟩
theorem po0 {g:R T} {B H:Hp} {Q:VK} {t:T} {v:V} (sB:zm B H) (q:Po Y rC B H g Q) (e:g= .ok t) (r:Rep B v t):Q v H:=by
 subst e
 exact q v H (zm.refl H) (by show Rep (zr B H H) v t; rw [zr.self B H sB]; exact r)
theorem QN {g:R T} {B H:Hp} {Q:VK} {ts:List T} {xs:List V} {p:Addr} (sB:zm B H) (q:Po Y rC B H g Q) (e:g= .ok (.tup ts)) (r:zq B xs ts) (h:H p=none):Q (.ref p) (upd H p (.tup xs)):=by
 subst e
 exact q _ _ (zm.new h _) (.tup (ZR h _) (r.mono (zr.ge sB (zm.new h _))))
theorem Xl {g:R T} {B H:Hp} {Q:VK} {ts:List T} {xs:List V} {p:Addr} (sB:zm B H) (q:Po Y rC B H g Q) (e:g= .ok (.lst ts)) (r:zq B xs ts) (h:H p=none):Q (.ref p) (upd H p (.lst xs)):=by
 subst e
 exact q _ _ (zm.new h _) (.lst (ZR h _) (r.mono (zr.ge sB (zm.new h _))))
def zQ:T->T->R T
 | .int i, .int j=> .ok (.int (i+j))
 | .bl x, .int j=> .ok (.int (b2 x+j))
 | .int i, .bl y=> .ok (.int (i+b2 y))
 | .str x, .str y=>if x.length+y.length<=bnd then .ok (.str (x++y)) else .bad
 | .tup xs, .tup ys=>if xs.length+ys.length<=bnd then .ok (.tup (xs++ys)) else .bad
 | .lst xs, .lst ys=>if xs.length+ys.length<=bnd then .ok (.lst (xs++ys)) else .bad
 | _,_=> .bad
theorem yJ {prog:Program} {w:World} {A:Around} {E:Value->Shared->Prop} {s:Shared} {t b:Addr} {vs ws:List Value} {Q:Value->Shared->Prop} (ht:IsTup s.heap t vs.toArray) (hb:IsTup s.heap b ws.toArray) (hv:vs=[])
  (h1:Q (.ref b) s):wpAny (model prog w) A (binaryOp .Add (.ref t) (.ref b)) Q E s:=by
 obtain ⟨⟨cls,dd,data,sl⟩,ho,hc,n,hd⟩:=id ht
 obtain ⟨⟨cls2,dd2,data2,sl2⟩,ho2,hc2,n2,hd2⟩:=id hb
 simp only at hc hd hc2 hd2
 subst hc hd hc2 hd2
 exact concat_meets ⟨_,ho,rfl⟩ ⟨_,ho2,rfl⟩ noFill_tuple_add seq_tuple_add da cS (cK _ _)
   (tuple_addW0 t b vs.toArray ws.toArray n n2 dd dd2 sl sl2 (by simp [hv])) ⟨ho,ho2,h1⟩
theorem qC:OpR X (binaryOp .Add) (rG Y zQ):=by
 intro pins s σ H x y v u Q I rx ry h
 obtain ⟨B,t,t',sB,r,r',q⟩:=h
 cases r with
 | int i=>
  cases r' with
  | int j=>exact vi pins s σ H _ _ v u Q I rx ry ⟨i,j,rfl,rfl,po0 sB q rfl (.int _)⟩
  | bl y=>exact uN pins s σ H _ _ v u Q I rx ry ⟨i,y,rfl,rfl,po0 sB q rfl (.int _)⟩
  | _=>exact q.elim
 | bl x=>
  cases r' with
  | int j=>
   obtain rfl:v=Value.bool x:=rx
   obtain ⟨tk,rfl⟩:=ry
   exact IntBool.add_bool_int (⟨.int _,H,I.tok _,⟨_,rfl⟩,po0 sB q rfl (.int _)⟩)
  | _=>exact q.elim
 | str x=>
  cases r' with
  | str y=>
   by_cases hb:x.length+y.length<=bnd
   ·exact WS pins s σ H _ _ v u Q I rx ry ⟨x,y,rfl,rfl,zS hb,po0 sB q (if_pos hb) (.str _)⟩
   ·rw [show zQ (.str x) (.str y)= .bad from if_neg hb] at q; exact q.elim
  | _=>exact q.elim
 | @tup a xs ts h1 r1=>
  cases r' with
  | @tup a' ys us h2 r2=>
   by_cases hb:ts.length+us.length<=bnd
   ·have eg:zQ (.tup ts) (.tup us)= .ok (.tup (ts++us)):=if_pos hb
    have hz:xs.length+ys.length<=sizeLine:=by rw [r1.length,r2.length]; exact zS hb
    by_cases hx:xs=[]
    ·obtain rfl:v=Value.ref a:=rx
     obtain rfl:u=Value.ref a' :=ry
     obtain ⟨its,rv,p,_⟩:=I.tuple (SqT.of (sB _ _ h1))
     obtain ⟨its',rv',p',_⟩:=I.tuple (SqT.of (sB _ _ h2))
     have et:ts=[]:=r1.nil_iff.mp hx
     refine yJ p p' (rv.nil_iff.mpr hx) ⟨.ref a',H,I,rfl,po0 sB q eg ?_⟩
     rw [et]; exact .tup h2 r2
    ·refine qr pins s σ H _ _ v u Q I rx ry ⟨a,a',xs,ys,rfl,rfl,SqT.of (sB _ _ h1),SqT.of (sB _ _ h2),hx,hz,fun hy=> ?_,fun hy p hp=> ?_⟩
     ·refine po0 sB q eg ?_
      rw [r2.nil_iff.mp hy,bz]
      exact .tup h1 r1
     ·exact QN sB q eg (r1.append r2) hp
   ·rw [show zQ (.tup ts) (.tup us)= .bad from if_neg hb] at q; exact q.elim
  | _=>exact q.elim
 | @lst a xs ts h1 r1=>
  cases r' with
  | @lst a' ys us h2 r2=>
   by_cases hb:ts.length+us.length<=bnd
   ·have eg:zQ (.lst ts) (.lst us)= .ok (.lst (ts++us)):=if_pos hb
    have hz:xs.length+ys.length<=sizeLine:=by rw [r1.length,r2.length]; exact zS hb
    exact vz pins s σ H _ _ v u Q I rx ry ⟨a,a',xs,ys,rfl,rfl,sB _ _ h1,sB _ _ h2,hz,fun p hp=>Xl sB q eg (r1.append r2) hp⟩
   ·rw [show zQ (.lst ts) (.lst us)= .bad from if_neg hb] at q; exact q.elim
  | _=>exact q.elim
 | _=>cases r' <;> exact q.elim
theorem Xm (ha:Snd X Y a fa) (hb:Snd X Y b fb):Snd X Y (.BinOp a .Add b pos) (zf zQ fa fb):=U0 qC ha hb
def ju:T->T->R T
 | .int i, .int j=> .ok (.int (i - j))
 | _,_=> .bad
def jc:T->T->R T
 | .int i, .int j=>if 0 < j then .ok (.int (i % j)) else .bad
 | _,_=> .bad
def Zy:T->T->R T
 | .int i, .int j=>if 0 < j/\j < 1073741824 then .ok (.int (i / j)) else .bad
 | _,_=> .bad
instance (i j:Int):Decidable (JL i j):=by unfold JL; infer_instance
def Zn:T->T->R T
 | .int i, .int j=>if JL i j then .ok (.int (i*j)) else .bad
 | .lst xs, .int k=>if 0<=k/\k < 1000000/\xs.length*k.toNat<=bnd then .ok (.lst (ad k.toNat xs).flatten) else .bad
 | .tup xs, .int k=>if 2<=k/\k < 1000000/\xs ≠ []/\xs.length*k.toNat<=bnd then .ok (.tup (ad k.toNat xs).flatten) else .bad
 | _,_=> .bad
theorem qD:OpR X (binaryOp .Sub) (rG Y ju):=by
 intro pins s σ H x y v u Q I rx ry h
 obtain ⟨B,t,t',sB,r,r',q⟩:=h
 cases r with
 | int i=>
  cases r' with
  | int j=>exact vj pins s σ H _ _ v u Q I rx ry ⟨i,j,rfl,rfl,po0 sB q rfl (.int _)⟩
  | _=>exact q.elim
 | _=>cases r' <;> exact q.elim
theorem qE:OpR X (binaryOp .Mod) (rG Y jc):=by
 intro pins s σ H x y v u Q I rx ry h
 obtain ⟨B,t,t',sB,r,r',q⟩:=h
 cases r with
 | int i=>
  cases r' with
  | int j=>
   by_cases hj:0 < j
   ·exact vm pins s σ H _ _ v u Q I rx ry ⟨i,j,rfl,rfl,hj,po0 sB q (if_pos hj) (.int _)⟩
   ·rw [show jc (.int i) (.int j)= .bad from if_neg hj] at q; exact q.elim
  | _=>exact q.elim
 | _=>cases r' <;> exact q.elim
theorem yK:OpR X (binaryOp .FloorDiv) (rG Y Zy):=by
 intro pins s σ H x y v u Q I rx ry h
 obtain ⟨B,t,t',sB,r,r',q⟩:=h
 cases r with
 | int i=>
  cases r' with
  | int j=>
   by_cases hj:0 < j/\j < 1073741824
   ·exact qg pins s σ H _ _ v u Q I rx ry ⟨i,j,rfl,rfl,hj,po0 sB q (if_pos hj) (.int _)⟩
   ·rw [show Zy (.int i) (.int j)= .bad from if_neg hj] at q; exact q.elim
  | _=>exact q.elim
 | _=>cases r' <;> exact q.elim
theorem WV (l:Addr) (items:Array Value) (n:Nat) (dd:Option Addr) (sl:Array (Option Value)) (x:Int) (u:Tok) (h1:2<=x) (h2:x < 1000000) (hne:items.isEmpty=false) (hsz:items.size*x.toNat<=sizeLine):
  Meets (Builtin.«tuple.__mul__» ⟨[.ref l, .int x u],[]⟩) (fun _ R s=>s.heap.get? l=some { cls:= .type "tuple",dict:=dd,data:= .seq items n,slots:=sl }/\
   R (.ok (.ret (Value.ref s.heap.objs.size))) { s with heap:=s.heap.push { cls:=Value.type "tuple",data:=Data.seq (dn (fun x1 x2=>x1++x2) #[] (ad x.toNat items)) },toks:=s.toks }):=
 .of_wp fun prog w A R s h=>by
  obtain ⟨hp,g,d,tk,os⟩:=s; obtain ⟨hl,h⟩:=h
  have f1:=AutoSeq1.idx_int
  have e0:(items.size:Int)*x=((items.size*x.toNat:Nat):Int):=by
   have:x=((x.toNat:Nat):Int):=by omega
   rw [fY,← this]
  have sl1:(sizeLine:Nat)=16777216:=bh
  have c1:¬ (decide (x < -(2 ^ 63)) || decide (x ≥ 2 ^ 63))=true:=by simp; omega
  have c2:¬ (items.isEmpty || x == 1)=true:=by simp [hne]; omega
  have c3:¬ (decide (x<=0) || items.isEmpty)=true:=by simp [hne]; omega
  have c4:¬ ((items.size:Int)*x > (2 ^ 63 - 1) / 8):=by rw [e0]; omega
  have c5:¬ dM ((items.size:Int)*x)=true:=by
   unfold dM
   rw [e0]
   intro z
   have:=of_decide_eq_true z
   omega
  unfold Builtin.«tuple.__mul__»
  wp_walk using wpAny_loadPart' hl
  rw [if_neg c1]
  wp_walk using wpAny_loadPart' hl
  rw [if_neg c2]
  try dsimp only
  rw [if_neg c3]
  try dsimp only
  rw [if_neg c4]
  try dsimp only
  rw [if_neg c5]
  try dsimp only
  have hsz' :sizeOk (.seq (dn (fun x1 x2=>x1++x2) #[] (ad x.toNat items))):=by
   show (dn (fun x1 x2=>x1++x2) #[] (ad x.toNat items)).size<=sizeLine
   have:=j2 items.toList x.toNat []
   rw [bA] at this
   have q:dn (fun x1 x2=>x1++x2) #[] (ad x.toNat items)=(ad x.toNat items.toList).flatten.toArray:=by
    simpa using this
   rw [q,ar,jb,cH,bG]
   exact hsz
  exact aa (m:=cM _) (bu (aq ⟨_,rfl,h⟩) hsz')
theorem JX:seqRepeat? (.type "tuple")=pure (some (.builtin "tuple.__mul__")):=by
 unfold seqRepeat?
 rw [fN (T:="tuple") (name:="__mul__") (id:="tuple.__mul__") eA.lookup (by decide+kernel),fN (T:="tuple") (name:="__rmul__") (id:="tuple.__rmul__") fB.lookup (by decide+kernel)]
 rfl
theorem jp:fillsNumberSlot (.type "tuple") "mul"=pure false:=
 PySem.fillsNumberSlot_seq (id:="tuple.__mul__") (r:=some (.builtin "tuple.__rmul__")) eA.lookup (by decide+kernel) fB.lookup (by decide+kernel)
theorem jQ (a:Int) (t:Tok) (l:Addr) (items:Array Value) (n:Nat) (dd:Option Addr) (sl:Array (Option Value)):
  Meets (Builtin.«int.__rmul__» ⟨[.int a t, .ref l],[]⟩) (fun _ R s=>s.heap.get? l=some { cls:= .type "tuple",dict:=dd,data:= .seq items n,slots:=sl }/\R (.ok (.ret Value.notImplemented)) s):=
 .of_wp fun prog w A R s h=>by obtain ⟨hp,g,d,tk,os⟩:=s; obtain ⟨hl,h⟩:=h; wp_walk; exact ⟨_,rfl,h⟩
theorem qF {prog:Program} {w:World} {A:Around} {E:Value->Shared->Prop} {s:Shared} {l:Addr} {its:List Value} {k:Int} {t:Tok} {Q:Value->Shared->Prop} (p:IsTup s.heap l its.toArray) (hne:its ≠ []) (h1:2<=k) (h2:k < 1000000)
  (hsz:its.length*k.toNat<=sizeLine) (q:Q (.ref s.heap.objs.size) { s with heap:=s.heap.push { cls:= .type "tuple",data:= .seq (ad k.toNat its).flatten.toArray } }):
  wpAny (model prog w) A (binaryOp .Mult (.ref l) (.int k t)) Q E s:=by
 obtain ⟨⟨cls,dd,data,sl⟩,ho,hc,n,hd⟩:=id p
 simp only at hc hd
 subst hc hd
 refine wpAny_binaryOp_repeat_ref (T:="tuple") (U:="int") (by decide) ⟨_,ho,rfl⟩ (fun s' =>typeIs_int s' k t) jp fW dA JX fL.lookup
  (bO dA (typeIs_int s k t) fM (fy _ _) (jQ k t l its.toArray n dd sl)
   ⟨ho,rfl,⟨_,ho,rfl⟩,bO eA ⟨_,ho,rfl⟩ F.entry_tuple_mul (F.args_tuple_mul_2 _ _) (WV l its.toArray n dd sl k t h1 h2 (by simpa using hne) (by simpa using hsz)) ⟨ho, ?_⟩⟩)
 have:=j2 its k.toNat []
 rw [bA] at this
 rw [this]
 exact q
theorem qG:OpR X (binaryOp .Mult) (rG Y Zn):=by
 intro pins s σ H x y v u Q I rx ry h
 obtain ⟨B,t,t',sB,r,r',q⟩:=h
 cases r with
 | int i=>
  cases r' with
  | int j=>
   by_cases hj:JL i j
   ·exact vk pins s σ H _ _ v u Q I rx ry ⟨i,j,rfl,rfl,hj,po0 sB q (if_pos hj) (.int _)⟩
   ·rw [show Zn (.int i) (.int j)= .bad from if_neg hj] at q; exact q.elim
  | _=>exact q.elim
 | @lst l xs ts h1 r1=>
  cases r' with
  | int k=>
   by_cases hk:0<=k/\k < 1000000/\ts.length*k.toNat<=bnd
   ·have eg:Zn (.lst ts) (.int k)= .ok (.lst (ad k.toNat ts).flatten):=if_pos hk
    exact vA pins s σ H _ _ v u Q I rx ry ⟨l,k,xs,rfl,rfl,sB _ _ h1,by omega,by omega,by rw [r1.length]; exact zS hk.2.2,fun p hp=>Xl sB q eg (r1.rep _) hp⟩
   ·rw [show Zn (.lst ts) (.int k)= .bad from if_neg hk] at q; exact q.elim
  | _=>exact q.elim
 | @tup l xs ts h1 r1=>
  cases r' with
  | int k=>
   by_cases hk:2<=k/\k < 1000000/\ts ≠ []/\ts.length*k.toNat<=bnd
   ·have eg:Zn (.tup ts) (.int k)= .ok (.tup (ad k.toNat ts).flatten):=if_pos hk
    obtain rfl:v=Value.ref l:=rx
    obtain ⟨tk,rfl⟩:=ry
    obtain ⟨its,rv,p,_⟩:=I.tuple (SqT.of (sB _ _ h1))
    have ln:ts.length=its.length:=r1.length.symm.trans rv.length
    have hne:its ≠ []:=fun z=>hk.2.2.1 (by rw [z] at ln; exact List.length_eq_zero_iff.mp ln)
    refine qF p hne hk.1 hk.2.1 (by rw [← ln]; exact zS hk.2.2.2) ⟨.ref s.heap.objs.size,upd H s.heap.objs.size (.tup (ad k.toNat xs).flatten),I.laid (t' :=s.toks) (fun b u e=>ae _ e) (ag _) ?_,rfl, ?_⟩
    ·exact ⟨by rw [jb,r1.length,bG]; exact zS hk.2.2.2,(ad k.toNat its).flatten,rv.rep _,⟨_,af _ rfl,rfl,_,rfl⟩, .inr ⟨_,af _ rfl,rfl⟩⟩
    ·exact QN sB q eg (r1.rep _) (I.hok.fresh (ag _))
   ·rw [show Zn (.tup ts) (.int k)= .bad from if_neg hk] at q; exact q.elim
  | _=>exact q.elim
 | _=>cases r' <;> exact q.elim
theorem Xn (ha:Snd X Y a fa) (hb:Snd X Y b fb):Snd X Y (.BinOp a .Sub b pos) (zf ju fa fb):=U0 qD ha hb
theorem Xo (ha:Snd X Y a fa) (hb:Snd X Y b fb):Snd X Y (.BinOp a .Mod b pos) (zf jc fa fb):=U0 qE ha hb
theorem vI (ha:Snd X Y a fa) (hb:Snd X Y b fb):Snd X Y (.BinOp a .FloorDiv b pos) (zf Zy fa fb):=U0 yK ha hb
theorem Xp (ha:Snd X Y a fa) (hb:Snd X Y b fb):Snd X Y (.BinOp a .Mult b pos) (zf Zn fa fb):=U0 qG ha hb
def WW (fa:En->R T):En->R T:=fun ρ=>(fa ρ).bind fun x=>match x with
 | .int i=> .ok (.int (-i))
 | _=> .bad
theorem Xq (ha:Snd X Y a fa):Snd X Y (.UnaryOp .USub a pos) (WW fa):= .mk fun ρ=>PE.imp (vh Yt (ha ρ)) fun σ H Q ⟨B,I,q⟩=>step I q fun t v H1 _ s1 r1 I1 q1=>by
 cases r1 with
 | int i=>exact ⟨i,rfl,po0 I1.sB q1 rfl (.int _)⟩
 | _=>exact q1.elim
def Jj (g:T->T->R Bool):R2:=fun x y H Q=>∃ t t' b,Rep H x t/\Rep H y t' /\g t t' = .ok b/\Q (.bl b) H
def U1 (g:T->T->R Bool) (fa fb:En->R T):En->R T:=fun ρ=>(fa ρ).bind fun x=>(fb ρ).bind fun y=>(g x y).bind fun b=> .ok (.bl b)
def zJ (g:T->T->R Bool) (fa fb:En->R T):En->R Bool:=fun ρ=>(fa ρ).bind fun x=>(fb ρ).bind fun y=>g x y
def Nx (g:T->T->R Bool):Prop:=∀ t t' c,g t t' ≠ .ex c
theorem qH {op:CmpOp} {g:T->T->R Bool} (nx:Nx g) (ho:OpR X (compareOp op) (Jj g)) (ha:ZQ X Y a fa) (hb:ZQ X Y b fb) (hm:behindInMarks op b=false):Snd X Y (.Compare a [op] [b] pos) (U1 g fa fb):= .mk fun ρ=>
 PE.imp (qh ho (ha ρ) (hb ρ) hm) fun σ H Q ⟨B,I,q⟩=>step I q fun t v H1 _ s1 r1 I1 q1=>step I1 q1 fun t' v' H2 _ s2 r2 I2 q2=>by
  cases e:g t t' with
  | bad=>rw [e] at q2; exact q2.elim
  | ex c=>exact absurd e (nx _ _ _)
  | ok b=>rw [e] at q2; exact ⟨t,t',b,r1.mono s2,r2,e,Za I2 q2 (.bl b)⟩
theorem WX {op:CmpOp} {g:T->T->R Bool} (nx:Nx g) (ho:OpR X (compareOp op) (Jj g)) (ha:ZQ X Y a fa) (hb:ZQ X Y b fb) (hm:behindInMarks op b=false):wx X Y (.Compare a [op] [b] pos) (zJ g fa fb):= .mk fun ρ=>
 PT.imp (qi ho (ha ρ) (hb ρ) hm) fun σ H Q ⟨B,I,q⟩=>step I q fun t v H1 _ s1 r1 I1 q1=>step I1 q1 fun t' v' H2 _ s2 r2 I2 q2=>by
  cases e:g t t' with
  | bad=>rw [e] at q2; exact q2.elim
  | ex c=>exact absurd e (nx _ _ _)
  | ok b=>rw [e] at q2; exact ⟨t,t',b,r1.mono s2,r2,e,b,rfl,Za I2 q2 rfl⟩
def eqC (t t' :T):R Bool:=match eqF 30 t t' with
 | some b=> .ok b
 | none=> .bad
def neC (t t' :T):R Bool:=match eqF 30 t t' with
 | some b=> .ok (!b)
 | none=> .bad
theorem vJ:Nx eqC:=fun t t' c h=>by unfold eqC at h; split at h <;> cases h
theorem Xr:Nx neC:=fun t t' c h=>by unfold neC at h; split at h <;> cases h
theorem Yx (hu:X.A.units+64 < cLine):OpR X (compareOp .Eq) (Jj eqC):=by
 intro pins s σ H x y v u Q I rx ry h
 obtain ⟨t,t',b,r,r',e,q⟩:=h
 unfold eqC at e
 split at e
 ·rename_i k ek
  have e' :k=b:=by injection e
  subst e'
  exact (uZ I 30 X.A (by omega) t t' k x y v u ek r r' rx ry).2.1 _ _ _ _ ⟨.bl k,H,I,rfl,q⟩
 ·cases e
theorem vK (hu:X.A.units+64 < cLine):OpR X (compareOp .NotEq) (Jj neC):=by
 intro pins s σ H x y v u Q I rx ry h
 obtain ⟨t,t',b,r,r',e,q⟩:=h
 unfold neC at e
 split at e
 ·rename_i k ek
  cases e
  exact (uZ I 30 X.A (by omega) t t' k x y v u ek r r' rx ry).2.2 _ _ _ _ ⟨.bl (!k),H,I,rfl,q⟩
 ·cases e
def ltC:T->T->R Bool
 | .int i, .int j=> .ok (decide (i < j))
 | _,_=> .bad
def leC:T->T->R Bool
 | .int i, .int j=> .ok (decide (i<=j))
 | .str x, .str y=> .ok (!decide (y.cps.toList < x.cps.toList))
 | _,_=> .bad
def gtC:T->T->R Bool
 | .int i, .int j=> .ok (decide (j < i))
 | _,_=> .bad
theorem vL:Nx ltC:=fun t t' c h=>by unfold ltC at h; split at h <;> cases h
theorem Jk:Nx leC:=fun t t' c h=>by unfold leC at h; split at h <;> cases h
theorem Xs:Nx gtC:=fun t t' c h=>by unfold gtC at h; split at h <;> cases h
theorem Yy:OpR X (compareOp .Lt) (Jj ltC):=by
 intro pins s σ H x y v u Q I rx ry h
 obtain ⟨t,t',b,r,r',e,q⟩:=h
 unfold ltC at e
 split at e
 ·rename_i i j; cases e; cases r; cases r'; exact X6 pins s σ H _ _ v u Q I rx ry ⟨i,j,rfl,rfl,q⟩
 ·cases e
theorem vM:OpR X (compareOp .Gt) (Jj gtC):=by
 intro pins s σ H x y v u Q I rx ry h
 obtain ⟨t,t',b,r,r',e,q⟩:=h
 unfold gtC at e
 split at e
 ·rename_i i j; cases e; cases r; cases r'; exact X8 pins s σ H _ _ v u Q I rx ry ⟨i,j,rfl,rfl,q⟩
 ·cases e
theorem j4:OpR X (compareOp .LtE) (Jj leC):=by
 intro pins s σ H x y v u Q I rx ry h
 obtain ⟨t,t',b,r,r',e,q⟩:=h
 unfold leC at e
 split at e
 ·rename_i i j; cases e; cases r; cases r'; exact X7 pins s σ H _ _ v u Q I rx ry ⟨i,j,rfl,rfl,q⟩
 ·rename_i i j; cases e; cases r; cases r'
  obtain ⟨t1,rfl⟩:=rx
  obtain ⟨t2,rfl⟩:=ry
  exact PySem.P.le_str ⟨.bl _,H,I,rfl,q⟩
 ·cases e
end
section
variable {X:Cx} {Y:Fx} {a b c d:Expr} {fa fb fc fd:En->R T} {pos:Pos}
def yt (f:T->Option Bool):List T->Option Bool
 | []=>some false
 | t :: r=>match f t with
  | none=>none
  | some b=>match yt f r with
   | none=>none
   | some c=>some (b || c)
def inC (t t' :T):R Bool:=match t' with
 | .tup ys=>match yt (fun y=>eqF 30 y t) ys with | some b=> .ok b | none=> .bad
 | .lst ys=>match yt (fun y=>eqF 30 y t) ys with | some b=> .ok b | none=> .bad
 | _=> .bad
def Xt (t t' :T):R Bool:=(inC t t').bind fun b=> .ok (!b)
theorem vN:Nx inC:=fun t t' c h=>by
 unfold inC at h
 split at h
 ·split at h <;> cases h
 ·split at h <;> cases h
 ·cases h
open Classical in
theorem wJ {H:Hp} (f:T->Option Bool):∃ e:Value->Bool,∀ (v:V) (t:T) (u:Value) (b:Bool),zP v u->Rep H v t->f t=some b->e u=b:=by
 refine ⟨fun u=>decide (∃ v t,zP v u/\Rep H v t/\f t=some true),fun v t u b rv r e=> ?_⟩
 cases b with
 | true=>exact decide_eq_true ⟨v,t,rv,r,e⟩
 | false=>
  refine decide_eq_false ?_
  rintro ⟨v',t',rv',r',e'⟩
  have:=rv.inj rv'; subst this
  have:=r.fn r'; subst this
  rw [e] at e'; cases e'
theorem U2 {H:Hp} {f:T->Option Bool} {e:Value->Bool} (he:∀ (v:V) (t:T) (u:Value) (b:Bool),zP v u->Rep H v t->f t=some b->e u=b):∀ {xs:List V} {ts:List T} {its:List Value} {b:Bool},
  zB xs its->zq H xs ts->yt f ts=some b->its.any e=b/\∀ u∈its,∃ v t k,zP v u/\Rep H v t/\f t=some k
 | _,_,_,b, .nil, .nil,h=>by
  have h' :some false=some b:=h
  cases h'
  exact ⟨rfl,fun u hu=>by simp at hu⟩
 | _,_,_,b, .cons rv vs, .cons r rs,h=>by
  rename_i v u vals us t ts
  unfold yt at h
  cases q:f t with
  | none=>rw [q] at h; cases h
  | some k=>
   rw [q] at h
   cases q' :yt f ts with
   | none=>rw [q'] at h; cases h
   | some k' =>
    rw [q'] at h
    cases h
    obtain ⟨h1,h2⟩:=U2 he vs rs q'
    refine ⟨by rw [List.any_cons,h1,he v t u k rv r q],fun w hw=> ?_⟩
    rcases ax.mp hw with rfl | hw
    ·exact ⟨v,t,k,rv,r,q⟩
    ·exact h2 w hw
theorem qI (hu:X.A.units+64 < cLine) (neg:Bool):OpR X (compareOp (if neg then .NotIn else .In)) (Jj (if neg then Xt else inC)):=by
 intro pins s σ H x y v u Q I rx ry h
 obtain ⟨t,t',b,r,r',e,q⟩:=h
 have hs:∃ k,inC t t' = .ok k/\b=(if neg then !k else k):=by
  cases neg with
  | false=>exact ⟨b,e,rfl⟩
  | true=>
   have e' :Xt t t' = .ok b:=e
   unfold Xt at e'
   cases z:inC t t' with
   | bad=>rw [z] at e'; cases e'
   | ex k=>exact absurd z (vN _ _ _)
   | ok k=>rw [z] at e'; cases e'; exact ⟨k,rfl,rfl⟩
 obtain ⟨k,ek,rfl⟩:=hs
 unfold inC at ek
 obtain ⟨f,hf⟩:=wJ (H:=H) fun y=>eqF 30 y t
 have eqa:∀ w,(∃ v t' k,zP v w/\Rep H v t' /\eqF 30 t' t=some k)->cC X.A.in1 s w v (f w):=fun w ⟨v',t',k,rv,rr,ee⟩=>by
  rw [hf v' t' w k rv rr ee]
  exact (uZ I 30 X.A.in1 (by rw [j3]; omega) t' t k v' x w v ee rr r rv rx).1
 split at ek
 ·rename_i ys
  split at ek
  ·rename_i k' hk
   cases ek
   cases r' with
   | @tup l xs _ h1 r1=>
    obtain rfl:u=Value.ref l:=ry
    obtain ⟨its,rv,p,_⟩:=Zh I h1 r1
    obtain ⟨h2,h3⟩:=U2 hf rv r1 hk
    have h4:its.toArray.any f=k:=by simpa using h2
    cases neg with
    | false=>exact SeqAt.in_tupleAt f p (fun w hw=>eqa w (h3 w (by simpa using hw))) (by rw [h4]; exact ⟨.bl k,H,I,rfl,q⟩)
    | true=>exact SeqAt.notIn_tupleAt f p (fun w hw=>eqa w (h3 w (by simpa using hw))) (by rw [h4]; exact ⟨.bl (!k),H,I,rfl,q⟩)
  ·cases ek
 ·rename_i ys
  split at ek
  ·rename_i k' hk
   cases ek
   cases r' with
   | @lst l xs _ h1 r1=>
    obtain rfl:u=Value.ref l:=ry
    obtain ⟨its,rv,p,_⟩:=zA I (.inl h1) r1
    obtain ⟨h2,h3⟩:=U2 hf rv r1 hk
    have h4:its.toArray.any f=k:=by simpa using h2
    cases neg with
    | false=>exact SeqAt.in_listAt f p (fun w hw=>eqa w (h3 w (by simpa using hw))) (by rw [h4]; exact ⟨.bl k,H,I,rfl,q⟩)
    | true=>exact SeqAt.notIn_listAt f p (fun w hw=>eqa w (h3 w (by simpa using hw))) (by rw [h4]; exact ⟨.bl (!k),H,I,rfl,q⟩)
  ·cases ek
 ·cases ek
theorem vO (hu:X.A.units+64 < cLine):OpR X (compareOp .In) (Jj inC):=qI hu false
def yu (t t' :T):R Bool:=match t' with
 | .non=>match t with | .non=> .ok true | _=> .ok false
 | .bl k=>match t with | .bl j=> .ok (j == k) | _=> .ok false
 | _=> .bad
def qJ (t t' :T):R Bool:=(yu t t').bind fun b=> .ok (!b)
theorem vP:Nx yu:=fun t t' c h=>by
 unfold yu at h
 split at h
 ·split at h <;> cases h
 ·split at h <;> cases h
 ·cases h
theorem qK (neg:Bool):OpR X (compareOp (if neg then .IsNot else .Is)) (Jj (if neg then qJ else yu)):=by
 intro pins s σ H x y v u Q I rx ry h
 obtain ⟨t,t',b,r,r',e,q⟩:=h
 have hs:∃ k,yu t t' = .ok k/\b=(if neg then !k else k):=by
  cases neg with
  | false=>exact ⟨b,e,rfl⟩
  | true=>
   have e' :qJ t t' = .ok b:=e
   unfold qJ at e'
   cases z:yu t t' with
   | bad=>rw [z] at e'; cases e'
   | ex k=>exact absurd z (vP _ _ _)
   | ok k=>rw [z] at e'; cases e'; exact ⟨k,rfl,rfl⟩
 obtain ⟨k,ek,rfl⟩:=hs
 have go:plainIs v u=true/\(v == u)=k:=by
  cases r' with
  | non=>
   obtain rfl:u=Value.none:=ry
   cases r with
   | non=>obtain rfl:v=Value.none:=rx; cases ek; exact ⟨rfl,rfl⟩
   | bl j=>obtain rfl:v=Value.bool j:=rx; cases ek; exact ⟨rfl,rfl⟩
   | int j=>obtain ⟨t,rfl⟩:=rx; cases ek; exact ⟨rfl,rfl⟩
   | str j=>obtain ⟨t,rfl⟩:=rx; cases ek; exact ⟨rfl,rfl⟩
   | tup _ _=>obtain rfl:v=Value.ref _:=rx; cases ek; exact ⟨rfl,rfl⟩
   | lst _ _=>obtain rfl:v=Value.ref _:=rx; cases ek; exact ⟨rfl,rfl⟩
   | fz _ _=>obtain rfl:v=Value.ref _:=rx; cases ek; exact ⟨rfl,rfl⟩
  | bl k' =>
   obtain rfl:u=Value.bool k' :=ry
   cases r with
   | non=>obtain rfl:v=Value.none:=rx; cases ek; exact ⟨rfl,rfl⟩
   | bl j=>obtain rfl:v=Value.bool j:=rx; cases ek; exact ⟨rfl,by cases j <;> cases k' <;> rfl⟩
   | int j=>obtain ⟨t,rfl⟩:=rx; cases ek; exact ⟨rfl,rfl⟩
   | str j=>obtain ⟨t,rfl⟩:=rx; cases ek; exact ⟨rfl,rfl⟩
   | tup _ _=>obtain rfl:v=Value.ref _:=rx; cases ek; exact ⟨rfl,rfl⟩
   | lst _ _=>obtain rfl:v=Value.ref _:=rx; cases ek; exact ⟨rfl,rfl⟩
   | fz _ _=>obtain rfl:v=Value.ref _:=rx; cases ek; exact ⟨rfl,rfl⟩
  | _=>cases ek
 cases neg with
 | false=>exact wpAny_is_plain go.1 (by rw [go.2]; exact ⟨.bl k,H,I,rfl,q⟩)
 | true=>exact wpAny_isNot_plain go.1 (by rw [go.2]; exact ⟨.bl (!k),H,I,rfl,q⟩)
theorem vQ:OpR X (compareOp .Is) (Jj yu):=qK false
def chE (g g' :T->T->R Bool) (fa fb fc:En->R T):En->R T:=fun ρ=>(fa ρ).bind fun x=>(fb ρ).bind fun y=>(g x y).bind fun k=>if k=true then (fc ρ).bind fun z=>(g' y z).bind fun k' => .ok (.bl k') else .ok (.bl false)
def chT (g g' :T->T->R Bool) (fa fb fc:En->R T):En->R Bool:=fun ρ=>(fa ρ).bind fun x=>(fb ρ).bind fun y=>(g x y).bind fun k=>if k=true then (fc ρ).bind fun z=>g' y z else .ok false
theorem qM {op op' :CmpOp} {g g' :T->T->R Bool} (nx:Nx g) (nx' :Nx g') (ho:OpR X (compareOp op) (Jj g)) (ho' :OpR X (compareOp op') (Jj g')) (ha:ZQ X Y a fa) (hb:ZQ X Y b fb) (hc:ZQ X Y c fc)
  (hm:lastMarks [op,op'] [b,c]=false:=by with_unfolding_all rfl):Snd X Y (.Compare a [op,op'] [b,c] pos) (chE g g' fa fb fc):= .mk fun ρ=>
 PE.imp (yF ho ho' (ha ρ) (hb ρ) (hc ρ) hm) fun σ H Q ⟨B,I,q⟩=>step I q fun t v H1 _ s1 r1 I1 q1=>step I1 q1 fun t' v' H2 _ s2 r2 I2 q2=>by
  cases e:g t t' with
  | bad=>rw [e] at q2; exact q2.elim
  | ex c=>exact absurd e (nx _ _ _)
  | ok k=>
   rw [e] at q2
   refine ⟨t,t',k,r1.mono s2,r2,e,k,rfl, ?_⟩
   cases k with
   | false=>exact Za I2 q2 (.bl false)
   | true=>
    refine step I2 q2 fun t3 v3 H3 _ s3 r3 I3 q3=> ?_
    ·cases e:g' t' t3 with
     | bad=>rw [e] at q3; exact q3.elim
     | ex c=>exact absurd e (nx' _ _ _)
     | ok k=>rw [e] at q3; exact ⟨t',t3,k,r2.mono s3,r3,e,Za I3 q3 (.bl k)⟩
theorem U3 {op op' :CmpOp} {g g' :T->T->R Bool} (nx:Nx g) (nx' :Nx g') (ho:OpR X (compareOp op) (Jj g)) (ho' :OpR X (compareOp op') (Jj g')) (ha:ZQ X Y a fa) (hb:ZQ X Y b fb) (hc:ZQ X Y c fc)
  (hm:lastMarks [op,op'] [b,c]=false:=by with_unfolding_all rfl):wx X Y (.Compare a [op,op'] [b,c] pos) (chT g g' fa fb fc):= .mk fun ρ=>
 PT.imp (yG ho ho' (ha ρ) (hb ρ) (hc ρ) hm) fun σ H Q ⟨B,I,q⟩=>step I q fun t v H1 _ s1 r1 I1 q1=>step I1 q1 fun t' v' H2 _ s2 r2 I2 q2=>by
  cases e:g t t' with
  | bad=>rw [e] at q2; exact q2.elim
  | ex c=>exact absurd e (nx _ _ _)
  | ok k=>
   rw [e] at q2
   refine ⟨t,t',k,r1.mono s2,r2,e,k,rfl, ?_⟩
   cases k with
   | false=>exact ⟨false,rfl,Za I2 q2 rfl⟩
   | true=>
    refine step I2 q2 fun t3 v3 H3 _ s3 r3 I3 q3=> ?_
    ·cases e:g' t' t3 with
     | bad=>rw [e] at q3; exact q3.elim
     | ex c=>exact absurd e (nx' _ _ _)
     | ok k=>rw [e] at q3; exact ⟨t',t3,k,r2.mono s3,r3,e,k,rfl,Za I3 q3 rfl⟩
def qN (r r' r'' :R2) (ta tb tc td:TE):TE:=fun σ H Q=>ta σ H fun x H1=>tb σ H1 fun y H2=>r x y H2 fun z H3=>∃ k,z= .bl k/\
 (if k=true then tc σ H3 fun w' H4=>r' y w' H4 fun z' H5=>∃ k',z' = .bl k' /\(if k' =true then td σ H5 fun w2 H6=>r'' w' w2 H6 Q else Q (.bl false) H5) else Q (.bl false) H3)
theorem U4 {op op' op'' :CmpOp} {r r' r'' :R2} {ta tb tc td:TE} (ho:OpR X (compareOp op) r) (ho' :OpR X (compareOp op') r') (ho'' :OpR X (compareOp op'') r'') (ha:PE X a ta) (hb:PE X b tb) (hc:PE X c tc) (hd:PE X d td)
  (hm:lastMarks [op,op',op''] [b,c,d]=false:=by with_unfolding_all rfl):PE X (.Compare a [op,op',op''] [b,c,d] pos) (qN r r' r'' ta tb tc td):=by
 intro pins s σ H Q I h
 refine Compare_chain (thn (ha pins s σ H _ I h) fun v s1 ⟨x,H1,I1,r1,q1⟩=>chain_link (thn (hb pins s1 σ H1 _ I1 q1) fun u s2 ⟨y,H2,I2,r2,q2⟩=>
  thn (ho pins s2 σ H2 x y v u _ I2 r1 r2 q2) fun d' s3 ⟨z,H3,I3,r3,k,e,q3⟩=> ?_)) hm
 subst e
 cases r3
 refine bf ?_
 cases k with
 | false=>exact ite_ff ⟨.bl false,H3,I3,rfl,q3⟩
 | true=>
  refine ite_tt (chain_link (thn (hc pins s3 σ H3 _ I3 q3) fun w' s4 ⟨z',H4,I4,r4,q4⟩=>thn (ho' pins s4 σ H4 y z' u w' _ I4 r2 r4 q4) fun d2 s5 ⟨z5,H5,I5,r5,k5,e5,q5⟩=> ?_))
  subst e5
  cases r5
  refine bf ?_
  cases k5 with
  | false=>exact ite_ff ⟨.bl false,H5,I5,rfl,q5⟩
  | true=>exact ite_tt (chain_last (thn (hd pins s5 σ H5 _ I5 q5) fun w6 s6 ⟨z6,H6,I6,r6,q6⟩=>ho'' pins s6 σ H6 z' z6 w' w6 Q I6 r4 r6 q6))
def kZ (g g' g'' :T->T->R Bool) (fa fb fc fd:En->R T):En->R T:=fun ρ=>(fa ρ).bind fun x=>(fb ρ).bind fun y=>(g x y).bind fun k=>if k=true then (fc ρ).bind fun z=>(g' y z).bind fun k' =>
 if k' =true then (fd ρ).bind fun w=>(g'' z w).bind fun k'' => .ok (.bl k'') else .ok (.bl false) else .ok (.bl false)
theorem yL {op op' op'' :CmpOp} {g g' g'' :T->T->R Bool} (nx:Nx g) (nx' :Nx g') (nx'' :Nx g'') (ho:OpR X (compareOp op) (Jj g)) (ho' :OpR X (compareOp op') (Jj g')) (ho'' :OpR X (compareOp op'') (Jj g''))
  (ha:ZQ X Y a fa) (hb:ZQ X Y b fb) (hc:ZQ X Y c fc) (hd:ZQ X Y d fd)
  (hm:lastMarks [op,op',op''] [b,c,d]=false:=by with_unfolding_all rfl):Snd X Y (.Compare a [op,op',op''] [b,c,d] pos) (kZ g g' g'' fa fb fc fd):= .mk fun ρ=>
 PE.imp (U4 ho ho' ho'' (ha ρ) (hb ρ) (hc ρ) (hd ρ) hm) fun σ H Q ⟨B,I,q⟩=>step I q fun t v H1 _ s1 r1 I1 q1=>step I1 q1 fun t' v' H2 _ s2 r2 I2 q2=>by
  cases e:g t t' with
  | bad=>rw [e] at q2; exact q2.elim
  | ex c=>exact absurd e (nx _ _ _)
  | ok k=>
   rw [e] at q2
   refine ⟨t,t',k,r1.mono s2,r2,e,k,rfl, ?_⟩
   cases k with
   | false=>exact Za I2 q2 (.bl false)
   | true=>
    refine step I2 q2 fun t3 v3 H3 _ s3 r3 I3 q3=> ?_
    ·cases e:g' t' t3 with
     | bad=>rw [e] at q3; exact q3.elim
     | ex c=>exact absurd e (nx' _ _ _)
     | ok k=>
      rw [e] at q3
      refine ⟨t',t3,k,r2.mono s3,r3,e,k,rfl, ?_⟩
      cases k with
      | false=>exact Za I3 q3 (.bl false)
      | true=>
       refine step I3 q3 fun t4 v4 H4 _ s4 r4 I4 q4=> ?_
       ·cases e:g'' t3 t4 with
        | bad=>rw [e] at q4; exact q4.elim
        | ex c=>exact absurd e (nx'' _ _ _)
        | ok k=>rw [e] at q4; exact ⟨t3,t4,k,r3.mono s4,r4,e,Za I4 q4 (.bl k)⟩
variable {rest:List Expr} {ga gb:En->R Bool}
def jO (fa fb:En->R T):En->R T:=fun ρ=>(fa ρ).bind fun x=>match x with
 | .bl true=>fb ρ
 | .bl false=> .ok (.bl false)
 | _=> .bad
def K0 (fa:En->R T):En->R T:=fun ρ=>(fa ρ).bind fun x=>match x with
 | .bl k=> .ok (.bl (!k))
 | _=> .bad
theorem Xu {op} (h:Snd X Y a fa):Snd X Y (.BoolOp op [a] pos) fa:= .mk fun ρ=>vb (h ρ)
theorem Xv (ha:Snd X Y a fa) (hb:Snd X Y (.BoolOp .And (b :: rest) pos) fb):Snd X Y (.BoolOp .And (a :: b :: rest) pos) (jO fa fb):= .mk fun ρ=>
 PE.imp (vc (ha ρ) (hb ρ)) fun σ H Q ⟨B,I,q⟩=>step I q fun t v H1 _ s1 r1 I1 q1=>by
  cases r1 with
  | bl k=>
   refine ⟨k,rfl, ?_⟩
   cases k with
   | true=>exact ⟨_,I1,q1⟩
   | false=>exact Za I1 q1 (.bl false)
  | _=>exact q1.elim
theorem Xw (ha:Snd X Y a fa):Snd X Y (.UnaryOp .Not a pos) (K0 fa):= .mk fun ρ=>
 PE.imp (vd (ha ρ)) fun σ H Q ⟨B,I,q⟩=>step I q fun t v H1 _ s1 r1 I1 q1=>by
  cases r1 with
  | bl k=>exact ⟨k,rfl,Za I1 q1 (.bl (!k))⟩
  | _=>exact q1.elim
structure uu (X:Cx) (Y:Fx) (e:Expr) (f:En->R Bool):Prop where
 mk ::
 go:∀ ρ,PW X e (tS Y rE f ρ)
instance {X:Cx} {Y:Fx} {e:Expr} {f:En->R Bool}:CoeFun (uu X Y e f) fun _=>∀ ρ,PW X e (tS Y rE f ρ):=⟨uu.go⟩
theorem uu.t {e:Expr} {f:En->R Bool} (h:uu X Y e f):wx X Y e f:= .mk fun ρ=>(h ρ).pt
theorem PW.imp {e:Expr} {t t' :TT} (h:PW X e t) (i:∀ σ H Q,t' σ H Q->t σ H Q):PW X e t' :=fun wh pins s σ H Q I q=>h wh pins s σ H Q I (i σ H Q q)
def vR (fa fb:En->R Bool):En->R Bool:=fun ρ=>(fa ρ).bind fun x=>if x=true then fb ρ else .ok false
def orT (fa fb:En->R Bool):En->R Bool:=fun ρ=>(fa ρ).bind fun x=>if x=true then .ok true else fb ρ
def JY (fa:En->R Bool):En->R Bool:=fun ρ=>(fa ρ).bind fun x=> .ok (!x)
theorem vS (h:wx X Y a ga):uu X Y (.BoolOp .And [a] pos) ga:= .mk fun ρ=>qe (h ρ)
theorem Xx (h:wx X Y a ga):uu X Y (.BoolOp .Or [a] pos) ga:= .mk fun ρ=>v8 (h ρ)
theorem Xy (ha:wx X Y a ga) (hb:uu X Y (.BoolOp .And (b :: rest) pos) gb):uu X Y (.BoolOp .And (a :: b :: rest) pos) (vR ga gb):= .mk fun ρ=>
 PW.imp (v9 (ha ρ) (hb ρ)) fun σ H Q ⟨B,I,q⟩=>step I q fun t v H1 _ s1 r1 I1 q1=>by
  have r1' :v=t:=r1
  subst r1'
  cases v with
  | true=>exact ⟨_,I1,q1⟩
  | false=>exact Za I1 q1 rfl
theorem gO (ha:wx X Y a ga) (hb:uu X Y (.BoolOp .Or (b :: rest) pos) gb):uu X Y (.BoolOp .Or (a :: b :: rest) pos) (orT ga gb):= .mk fun ρ=>
 PW.imp (xT (ha ρ) (hb ρ)) fun σ H Q ⟨B,I,q⟩=>step I q fun t v H1 _ s1 r1 I1 q1=>by
  have r1' :v=t:=r1
  subst r1'
  cases v with
  | false=>exact ⟨_,I1,q1⟩
  | true=>exact Za I1 q1 rfl
theorem Xz (ha:wx X Y a ga):wx X Y (.UnaryOp .Not a pos) (JY ga):= .mk fun ρ=>
 PT.imp (va (ha ρ)) fun σ H Q ⟨B,I,q⟩=>step I q fun t v H1 _ s1 r1 I1 q1=>by
  have r1' :v=t:=r1
  subst r1'
  exact Za I1 q1 rfl
def tru:T->R Bool
 | .bl k=> .ok k
 | .non=> .ok false
 | .int i=> .ok (i != 0)
 | .tup xs=> .ok (!xs.isEmpty)
 | .lst xs=> .ok (!xs.isEmpty)
 | _=> .bad
def Jl (fa:En->R T):En->R Bool:=fun ρ=>(fa ρ).bind tru
theorem isE {H:Hp} {xs:List V} {ts:List T} (r:zq H xs ts):(!xs.isEmpty)= !ts.isEmpty:=by cases r <;> rfl
theorem XA (ha:ZQ X Y a fa) (he:∀ whole,isTrue a X.env whole=(do let v ← whole; standAt a.pos; holding [v] (truthy v)):=by intro _; rfl):wx X Y a (Jl fa):= .mk fun ρ=>
 PT.imp (yH (ha ρ) he) fun σ H Q ⟨B,I,q⟩=>step I q fun t v H1 _ s1 r1 I1 q1=>by
  cases r1 with
  | bl k=>exact ⟨k,rfl,Za I1 q1 rfl⟩
  | non=>exact ⟨false,rfl,Za I1 q1 rfl⟩
  | int i=>exact ⟨_,rfl,Za I1 q1 rfl⟩
  | tup h r=>exact ⟨_, .inr (.inl ⟨_,SqT.of h,rfl⟩),Za I1 q1 (isE r)⟩
  | lst h r=>exact ⟨_, .inl ⟨_,SqL.of h,rfl⟩,Za I1 q1 (isE r)⟩
  | _=>exact q1.elim
def ifE (g:En->R Bool) (fa fb:En->R T):En->R T:=fun ρ=>(g ρ).bind fun k=>if k=true then fa ρ else fb ρ
theorem gP (hc:wx X Y c ga) (ha:Snd X Y a fa) (hb:Snd X Y b fb):Snd X Y (.IfExp c a b pos) (ifE ga fa fb):= .mk fun ρ=>
 PE.imp (yC (hc ρ) (ha ρ) (hb ρ)) fun σ H Q ⟨B,I,q⟩=>step I q fun t v H1 _ s1 r1 I1 q1=>by
  have r1' :v=t:=r1
  subst r1'
  cases v with
  | true=>exact ⟨_,I1,q1⟩
  | false=>exact ⟨_,I1,q1⟩
end
end PV
namespace PV
open PySem PySem.Spec PyProof.Rows L2
section
variable {X:Cx} {Y:Fx} {a b c d:Expr} {fa fb fc fd:En->R T} {pos p:Pos}
def ap1 (g:T->R T) (fa:En->R T):En->R T:=fun ρ=>(fa ρ).bind g
abbrev St1 (X:Cx) (a:Expr):Prop:=starEach [a] X.env=[(false,eval a X.env)]
theorem U5 {id:String} {x:Str} {r:List V->Hp->VK->Prop} {g:T->R T} (hc:Zf X (.builtin id) r) (hr:∀ v t B H Q,Rep H v t->zm B H->Po Y rC B H (g t) Q->r [v] H Q)
  (gl:Gl X x) (mg:X.mg x=none) (bt:bootBuiltins x=some (.builtin id)) (ha:ZQ X Y a fa) (hs:St1 X a:=by exact st1 rfl) (hn:x ≠ "__name__":=by decide) (hd:(x == ("__debug__":Str))=false:=by decide):Snd X Y (.Call (.Name x p) [a] [] pos) (ap1 g fa):= .mk fun ρ=>
 PE.imp (j0 hc gl mg bt (zj (ha ρ) zt hs) hn hd hs rfl) fun σ H Q ⟨B,I,q⟩=>step I q fun t v H1 _ s1 r1 I1 q1=>hr v t _ H1 Q r1 I1.sB q1
theorem U6 {id:String} {x:Str} {r:List V->Hp->VK->Prop} {g:T->R T} (hc:Zf X (.type id) r) (hr:∀ v t B H Q,Rep B v t->zm B H->Po Y rC B H (g t) Q->r [v] H Q)
  (gl:Gl X x) (mg:X.mg x=none) (bt:bootBuiltins x=some (.type id)) (ha:Snd X Y a fa) (hs:St1 X a:=by exact st1 rfl) (hn:x ≠ "__name__":=by decide) (hd:(x == ("__debug__":Str))=false:=by decide):Snd X Y (.Call (.Name x p) [a] [] pos) (ap1 g fa):= .mk fun ρ=>
 PE.imp (j1 hc gl mg bt (zj (ha ρ) zt hs) hn hd hs rfl) fun σ H Q ⟨B,I,q⟩=>step I q fun t v H1 _ s1 r1 I1 q1=>hr v t _ H1 Q r1 I1.sB q1
def Zc:T->R T
 | .tup xs=> .ok (.int xs.length)
 | .lst xs=> .ok (.int xs.length)
 | .fz xs=> .ok (.int xs.length)
 | .str x=>if x.length<=bnd then .ok (.int x.length) else .bad
 | _=> .bad
theorem XB (v:V) (t:T) (B H:Hp) (Q:VK) (r:Rep H v t) (sB:zm B H) (q:Po Y rC B H (Zc t) Q):
  (∃ p ys,[v]=[V.ref p]/\(SqL X.K H p ys\/SqT X.K H p ys)/\Q (V.int ys.length) H)\/(∃ z,[v]=[V.str z]/\z.length<=sizeLine/\Q (V.int z.length) H):=by
 cases r with
 | tup h r=>exact .inl ⟨_,_,rfl, .inr (SqT.of h),po0 sB q rfl (by rw [r.length]; exact .int _)⟩
 | lst h r=>exact .inl ⟨_,_,rfl, .inl (SqL.of h),po0 sB q rfl (by rw [r.length]; exact .int _)⟩
 | fz h r=>exact .inl ⟨_,_,rfl, .inl (.inl (.inr ⟨_,h⟩)),po0 sB q rfl (by rw [r.length]; exact .int _)⟩
 | str x=>
  by_cases hb:x.length<=bnd
  ·exact .inr ⟨x,rfl,zS hb,po0 sB q (if_pos hb) (.int _)⟩
  ·rw [show Zc (.str x)= .bad from if_neg hb] at q; exact q.elim
 | _=>exact q.elim
theorem XD (gl:Gl X "len") (mg:X.mg "len"=none) (ha:ZQ X Y a fa) (hs:St1 X a:=by exact st1 rfl):Snd X Y (.Call (.Name "len" p) [a] [] pos) (ap1 Zc fa):=
 U5 (JS.or JT) XB gl mg PySem.boot_len ha hs
def qO:T->R T
 | .tup xs=> .ok (.tup xs)
 | .lst xs=> .ok (.tup xs)
 | _=> .bad
theorem XF (v:V) (t:T) (B H:Hp) (Q:VK) (r:Rep B v t) (sB:zm B H) (q:Po Y rC B H (qO t) Q):
  ∃ p ys,[v]=[V.ref p]/\((SqL X.K H p ys/\∀ l,H l=none->Q (.ref l) (upd H l (.tup ys)))\/(SqT X.K H p ys/\Q (.ref p) H)):=by
 cases r with
 | tup h r=>exact ⟨_,_,rfl, .inr ⟨SqT.of (sB _ _ h),po0 sB q rfl (.tup h r)⟩⟩
 | lst h r=>exact ⟨_,_,rfl, .inl ⟨SqL.of (sB _ _ h),fun l hl=>QN sB q rfl r hl⟩⟩
 | _=>exact q.elim
theorem qP (gl:Gl X "tuple") (mg:X.mg "tuple"=none) (ha:Snd X Y a fa) (hs:St1 X a:=by exact st1 rfl):Snd X Y (.Call (.Name "tuple" p) [a] [] pos) (ap1 qO fa):=
 U6 Jh XF gl mg (PyProof.Rows.Boot.«tuple») ha hs
def tyN:T->String
 | .non=>"NoneType"
 | .bl _=>"bool"
 | .int _=>"int"
 | .str _=>"str"
 | .tup _=>"tuple"
 | .lst _=>"list"
 | .fz _=>"list"
def isT (n:String) (t:T):Bool:=tyN t == n || (n == "int" && tyN t == "bool")
theorem XG {H:Hp} {v:V} {t:T} (K:ac) (r:Rep H v t):WT K H v (.type (tyN t)):=by
 cases r with
 | non=>exact .non
 | bl b=>exact .bl b
 | int b=>exact .int b
 | str b=>exact .str b
 | tup h _=>exact .tup h
 | lst h _=>exact .lst h
 | fz h _=>exact .frz h
theorem yM:Zf X (.builtin "isinstance") (fun xs H Q=>∃ v n t,xs=[v, .ty n]/\Rep H v t/\aA X.K (.type (tyN t)) (.type n)=some (isT n t)/\Q (.bl (isT n t)) H):=by
 intro pins s σ H xs us Q I rv h
 obtain ⟨v,n,t,rfl,r,hk,q⟩:=h
 obtain ⟨u,w,rfl,ru,rw'⟩:=uO rv
 obtain rfl:w=Value.type n:=rw'
 exact uQ I ru (XG X.K r) hk fun tk=>⟨.bl _,H,I.tok tk,rfl,q⟩
def Yz (n:String) (t:T):R T:= .ok (.bl (isT n t))
theorem qQ (K:ac) (t:T):aA K (.type (tyN t)) (.type "int")=some (isT "int" t):=by cases t <;> rfl
theorem yN (K:ac) (t:T):aA K (.type (tyN t)) (.type "bool")=some (isT "bool" t):=by cases t <;> rfl
theorem qR (K:ac) (t:T):aA K (.type (tyN t)) (.type "str")=some (isT "str" t):=by cases t <;> rfl
theorem U7 (K:ac) (t:T):aA K (.type (tyN t)) (.type "tuple")=some (isT "tuple" t):=by cases t <;> rfl
theorem yO {n:String} {p' :Pos} (hk:∀ t,aA X.K (.type (tyN t)) (.type n)=some (isT n t)) (gl:Gl X "isinstance") (mg:X.mg "isinstance"=none) (gl' :Gl X (aG n)) (mg' :X.mg (aG n)=none) (bt:bootBuiltins (aG n)=some (.type n)) (ha:ZQ X Y a fa)
  (hs:starEach [a, .Name (aG n) p'] X.env=[(false,eval a X.env),(false,eval (.Name (aG n) p') X.env)]:=by exact st2 rfl rfl) (hs2:starEach [.Name (aG n) p'] X.env=[(false,eval (.Name (aG n) p') X.env)]:=by exact st1 rfl)
  (hn:aG n ≠ "__name__":=by decide) (hd:(aG n == ("__debug__":Str))=false:=by decide) (hz:((backTo pos (starEach [.Name (aG n) p'] X.env)).any fun x=>x.fst)=false:=by exact Z2 rfl):
  Snd X Y (.Call (.Name "isinstance" p) [a, .Name (aG n) p'] [] pos) (ap1 (Yz n) fa):= .mk fun ρ=>
 PE.imp (j0 yM gl mg PyProof.Rows.Boot.«isinstance» (zj (ha ρ) (zj (uD (v:= .ty n) gl' mg' bt rfl hn hd) zt hs2) (by rw [hs,hs2])) (by decide) (by decide) (by rw [hs,hs2]) hz) fun σ H Q ⟨B,I,q⟩=>
  step I q fun t v H1 _ s1 r1 I1 q1=>⟨v,n,t,rfl,r1,hk t,po0 I1.sB q1 rfl (.bl _)⟩
def atT (xs:List T) (i:Int):R T:=match atI xs i with
 | some t=> .ok t
 | none=> .bad
def ixT:T->T->R T
 | .tup xs, .int i=>atT xs i
 | .lst xs, .int i=>atT xs i
 | .fz xs, .int i=>atT xs i
 | .str z, .int i=>if z.length<=bnd then match atI z.cps.toList i with | some c=> .ok (.str ⟨#[c]⟩) | none=> .bad else .bad
 | _,_=> .bad
theorem U8 {H:Hp} {xs:List V} {ts:List T} {i:Int} {t:T} (r:zq H xs ts) (h:atI ts i=some t):∃ v,atI xs i=some v/\Rep H v t:=by
 unfold atI at h ⊢
 rw [r.length]
 cases e:ixN ts.length i with
 | none=>rw [e] at h; cases h
 | some j=>
  rw [e] at h
  obtain ⟨v,h1,h2⟩:=r.get (show ts[j]? =some t from h)
  exact ⟨v,h1,h2⟩
theorem gQ (ha:Snd X Y a fa) (hb:Snd X Y b fb) (hs:uS b:=by exact fun _ _=>rfl):Snd X Y (.Subscript a b pos) (zf ixT fa fb):= .mk fun ρ=>
 PE.imp (Xe vw (ha ρ) (hb ρ) hs) fun σ H Q ⟨B,I,q⟩=>step I q fun t v H1 _ s1 r1 I1 q1=>step I1 q1 fun t' v' H2 _ s2 r2 I2 q2=>by
  have r1:=r1.mono (zr.ge I1.sB s2)
  cases r2 with
  | int i=>
   cases r1 with
   | @tup _ xs ts h r=>
    have q2:Po Y rC _ H2 (atT ts i) Q:=q2
    unfold atT at q2
    split at q2
    ·rename_i t' e
     obtain ⟨w,e1,e2⟩:=U8 r e
     exact .inr (.inl ⟨_,xs,i,w,rfl,rfl,SqT.of (I2.sB _ _ h),e1,po0 I2.sB q2 rfl e2⟩)
    ·exact q2.elim
   | @lst _ xs ts h r=>
    have q2:Po Y rC _ H2 (atT ts i) Q:=q2
    unfold atT at q2
    split at q2
    ·rename_i t' e
     obtain ⟨w,e1,e2⟩:=U8 r e
     exact .inl ⟨_,xs,i,w,rfl,rfl,SqL.of (I2.sB _ _ h),e1,po0 I2.sB q2 rfl e2⟩
    ·exact q2.elim
   | @fz _ _ xs ts h r=>
    have q2:Po Y rC _ H2 (atT ts i) Q:=q2
    unfold atT at q2
    split at q2
    ·rename_i t' e
     obtain ⟨w,e1,e2⟩:=U8 r e
     exact .inl ⟨_,xs,i,w,rfl,rfl, .inl (.inr ⟨_,I2.sB _ _ h⟩),e1,po0 I2.sB q2 rfl e2⟩
    ·exact q2.elim
   | str z=>
    have q2:Po Y rC _ H2 (if z.length<=bnd then match atI z.cps.toList i with | some c=> .ok (.str ⟨#[c]⟩) | none=> .bad else .bad) Q:=q2
    split at q2
    ·rename_i hb
     split at q2
     ·rename_i c e
      exact .inr (.inr ⟨z,i,c,rfl,rfl,zS hb,e,po0 I2.sB q2 rfl (.str _)⟩)
     ·exact q2.elim
    ·exact q2.elim
   | _=>exact q2.elim
  | _=>cases r1 <;> exact q2.elim
structure qS (X:Cx) (Y:Fx) (e:Option Expr) (f:En->R (Option Int)):Prop where
 mk ::
 go:∀ ρ,PO X e (tS Y rE f ρ)
instance {X:Cx} {Y:Fx} {e:Option Expr} {f:En->R (Option Int)}:CoeFun (qS X Y e f) fun _=>∀ ρ,PO X e (tS Y rE f ρ):=⟨qS.go⟩
def noO:En->R (Option Int):=fun _=> .ok none
def wK (fa:En->R T):En->R (Option Int):=fun ρ=>(fa ρ).bind fun t=>match t with
 | .int i=> .ok (some i)
 | _=> .bad
theorem PO.imp {e:Option Expr} {t t' :TO} (h:PO X e t) (i:∀ σ H Q,t' σ H Q->t σ H Q):PO X e t' :=fun pins s σ H Q I q=>h pins s σ H Q I (i σ H Q q)
theorem vT:qS X Y none noO:= .mk fun ρ=>PO.imp qp fun σ H Q ⟨B,I,q⟩=>Za I q rfl
theorem vU (ha:Snd X Y a fa):qS X Y (some a) (wK fa):= .mk fun ρ=>PO.imp (qq (ha ρ)) fun σ H Q ⟨B,I,q⟩=>step I q fun t v H1 _ s1 r1 I1 q1=>by
 cases r1 with
 | int i=>exact ⟨i,rfl,Za I1 q1 rfl⟩
 | _=>exact q1.elim
def wy:List T->Option Bool
 | []=>some true
 | .bl k :: r=>match wy r with | some j=>some (k && j) | none=>none
 | _ :: _=>none
def YA:T->R T
 | .lst ts=>match wy ts with | some k=> .ok (.bl k) | none=> .bad
 | _=> .bad
theorem U9:∀ {H:Hp} {xs:List V} {ts:List T} {its:List Value} {k:Bool},zq H xs ts->zB xs its->wy ts=some k->∃ tr:Nat->Bool,(∀ i v,its[i]? =some v->v=Value.bool (tr i))/\(aY its.length).all tr=k
 | _,_,_,_,k, .nil, .nil,h=>by
  have h' :some true=some k:=h
  cases h'
  exact ⟨fun _=>true,fun i v e=>by simp at e,rfl⟩
 | H,_,_,_,k, .cons (v:=x) (t:=t) r rs, .cons (b:=u) rv vs,h=>by
  cases r with
  | bl b=>
   unfold wy at h
   split at h
   ·rename_i j e
    cases h
    obtain ⟨tr,h1,h2⟩:=U9 rs vs e
    obtain rfl:u=Value.bool b:=rv
    refine ⟨fun i=>match i with | 0=>b | i+1=>tr i,fun i v e=> ?_, ?_⟩
    ·cases i with
     | zero=>simp at e; exact e.symm
     | succ i=>exact h1 i v (by simpa using e)
    ·rw [aD,df,cL,fA,← h2]
     rfl
   ·cases h
  | _=>cases h
theorem Ua (hh:X.A.handled=none):Zf X (.builtin "all") (fun vs H Q=>∃ l xs ts k,vs=[.ref l]/\H l=some (.lst xs)/\zq H xs ts/\wy ts=some k/\Q (.bl k) H):=by
 intro pins s σ H vs us Q I rv h
 obtain ⟨l,xs,ts,k,rfl,hl,r,hk,q⟩:=h
 obtain ⟨u,rfl,ru⟩:=Zg rv
 obtain rfl:u=Value.ref l:=ru
 obtain ⟨its,rv,p,_⟩:=zA I (.inl hl) r
 obtain ⟨tr,h1,h2⟩:=U9 r rv hk
 refine call_all_walk (wpAny_pyIter_list p ?_)
 have hlt:l < s.heap.objs.size:=I.hok.lt hl
 have old:∀ b o,s.heap.get? b=some o->(s.heap.push { cls:= .type "list_iterator",data:= .fields #[.ref l, .int 0 0] }).get? b=some o:=fun b o e=>ae _ e
 refine ⟨s.heap.objs.size,_,_,_,_,_,tr,rfl,Walks.list (A:=X.A.in1) hh s.heap.objs.size l (az hlt) its.toArray, ?_, ?_,fun h' tk hk' => ?_⟩
 ·refine ⟨?_,p.at fun o e=>old _ o e⟩
  exact ⟨_,af _ rfl,rfl,rfl⟩
 ·intro i v s' Q' E' hi hq
  rw [h1 i v (by simpa using hi)]
  exact bf hq
 ·rw [ar,h2]
  refine ⟨.bl k,H,I.kept (t' :=tk) (fun b o e=>hk' b o ?_ (old b o e)),rfl,q⟩
  simp
  exact az (ai e)
theorem XH (hh:X.A.handled=none) (gl:Gl X "all") (mg:X.mg "all"=none) (ha:ZQ X Y a fa) (hs:St1 X a:=by exact st1 rfl):Snd X Y (.Call (.Name "all" p) [a] [] pos) (ap1 YA fa):=
 U5 (Ua hh) (fun v t B H Q r sB q=>by
  cases r with
  | @lst l xs ts h r=>
   have q:Po Y rC B H (match wy ts with | some k=> .ok (.bl k) | none=> .bad) Q:=q
   split at q
   ·rename_i k e
    exact ⟨l,xs,ts,k,rfl,h,r,e,po0 sB q rfl (.bl k)⟩
   ·exact q.elim
  | _=>exact q.elim) gl mg PyProof.Rows.Boot.«all» ha hs
end
inductive RS where
 | nx (ρ:En) | rt (t:T) | bk (ρ:En) | ct (ρ:En) | ex (c:Nat) | bad | rf (ts:List T)
def R.s {α:Type} (r:R α) (k:α->RS):RS:=match r with
 | .ok a=>k a
 | .ex c=> .ex c
 | .bad=> .bad
def PoS (Y:Fx) (B:Hp) (r:RS) (D:yB):Prop:=match r with
 | .nx ρ' =>∀ σ' H' B',zm B B' ->SI Y B' ρ' σ' H' ->D.nx σ' H'
 | .rt t=>∀ v H',zm Y.H0 H' ->Rep (zr Y.B0 Y.H0 H') v t->D.rt v H'
 | .bk ρ' =>∀ σ' H' B',zm B B' ->SI Y B' ρ' σ' H' ->D.bk σ' H'
 | .ct ρ' =>∀ σ' H' B',zm B B' ->SI Y B' ρ' σ' H' ->D.ct σ' H'
 | .ex c=>XP Y B c
 | .bad=>False
 | .rf ts=>∀ a xs H' B',zm Y.H0 H' ->Y.H0 a=none->H' a=some (.lst xs)->zq B' xs ts->B' a=none->zm B' (zr Y.B0 Y.H0 H')->D.rt (.ref a) H'
theorem PoS.up {Y:Fx} {B B' :Hp} {r:RS} {D:yB} (s:zm B B') (h:PoS Y B r D):PoS Y B' r D:=by
 cases r with
 | nx ρ=>exact fun σ' H' B2 s2 I=>h σ' H' B2 (s.trans s2) I
 | bk ρ=>exact fun σ' H' B2 s2 I=>h σ' H' B2 (s.trans s2) I
 | ct ρ=>exact fun σ' H' B2 s2 I=>h σ' H' B2 (s.trans s2) I
 | rt t=>exact h
 | rf t=>exact h
 | ex c=>exact fun d H' s0 sB=>h d H' s0 (s.trans sB)
 | bad=>exact h
def tSS (Y:Fx) (f:En->RS) (ρ:En):TS:=fun D σ H=>∃ B,SI Y B ρ σ H/\PoS Y B (f ρ) D
structure JZ (X:Cx) (Y:Fx) (e:Stmt) (f:En->RS):Prop where
 mk ::
 go:∀ ρ,PS X e (tSS Y f ρ)
instance {X:Cx} {Y:Fx} {e:Stmt} {f:En->RS}:CoeFun (JZ X Y e f) fun _=>∀ ρ,PS X e (tSS Y f ρ):=⟨JZ.go⟩
structure wz (X:Cx) (Y:Fx) (e:List Stmt) (f:En->RS):Prop where
 mk ::
 go:∀ ρ,PSs X e (tSS Y f ρ)
instance {X:Cx} {Y:Fx} {e:List Stmt} {f:En->RS}:CoeFun (wz X Y e f) fun _=>∀ ρ,PSs X e (tSS Y f ρ):=⟨wz.go⟩
theorem Jm {α β:Type} {Y:Fx} {rel:Hp->Hp->β->α->Prop} {f:En->R α} {k:α->RS} {ρ:En} {B:Hp} {σ:Sg} {H:Hp} {D:yB} {K:β->Hp->Prop}
  (I:SI Y B ρ σ H) (h:PoS Y B ((f ρ).s k) D)
  (n:∀ a b H1,f ρ= .ok a->zm H H1->rel (zr B H H1) H1 b a->SI Y (zr B H H1) ρ σ H1->PoS Y (zr B H H1) (k a) D->K b H1):tS Y rel f ρ σ H K:=by
 refine ⟨B,I, ?_⟩
 cases e:f ρ with
 | bad=>rw [e] at h; exact h
 | ex c=>rw [e] at h; exact h
 | ok a=>
  rw [e] at h
  exact fun b H1 s r=>n a b H1 e s r (I.grow s) (PoS.up (zr.ge I.sB s) h)
theorem zN {α:Type} {xs:List α} {i j:Nat} {x y:α} (h:(xs.set i x)[j]? =some y):(j=i/\y=x)\/(j ≠ i/\xs[j]? =some y):=by
 by_cases e:j=i
 ·subst e
  by_cases hl:j < xs.length
  ·rw [aZ hl] at h; exact .inl ⟨rfl,(aI h).symm⟩
  ·rw [aV (by rw [bT]; omega)] at h; cases h
 ·rw [aH (c6 e)] at h; exact .inr ⟨e,h⟩
theorem Ub {α:Type} {xs:List α} {i:Nat} {x y:α} (h:(xs.set i x)[i]? =some y):i < xs.length:=by
 by_cases hl:i < xs.length
 ·exact hl
 ·rw [aV (by rw [bT]; omega)] at h; cases h
theorem SI.setV {Y:Fx} {B:Hp} {ρ:En} {σ:Sg} {H:Hp} (I:SI Y B ρ σ H) (i:Nat) {v:V} {t:T} (r:Rep B v t):SI Y B (ρ.set i (.vl t)) (σ.set i (some v)) H where
 s0:=I.s0
 sH:=I.sH
 sB:=I.sB
 old:=I.old
 len:=by rw [bT,bT]; exact I.len
 vl:=fun j u h=>by
  rcases zN h with ⟨rfl,e⟩ | ⟨hj,h'⟩
  ·cases e
   exact ⟨v,aZ (by rw [← I.len]; exact Ub h),r⟩
  ·obtain ⟨w,e,rr⟩:=I.vl j u h'
   exact ⟨w,by rw [aH (c6 hj)]; exact e,rr⟩
 ow:=fun j us h=>by
  rcases zN h with ⟨rfl,e⟩ | ⟨hj,h'⟩
  ·cases e
  ·obtain ⟨a,xs,e,b0,h0,hh,rr,d⟩:=I.ow j us h'
   refine ⟨a,xs,by rw [aH (c6 hj)]; exact e,b0,h0,hh,rr,fun k ws hk hw=> ?_⟩
   rcases zN hw with ⟨rfl,e'⟩ | ⟨hk',hw'⟩
   ·cases e'
   ·rw [aH (c6 hk')]; exact d k ws hk hw'
 xc:=fun j c h=>by
  rcases zN h with ⟨rfl,e⟩ | ⟨hj,h'⟩
  ·cases e
  ·obtain ⟨a,e,r⟩:=I.xc j c h'
   exact ⟨a,by rw [aH (c6 hj)]; exact e,r⟩
theorem SI.newO {Y:Fx} {B:Hp} {ρ:En} {σ:Sg} {H:Hp} (I:SI Y B ρ σ H) (i:Nat) {p:Addr} {xs:List V} {ts:List T} (hp:H p=none) (r:zq B xs ts):SI Y B (ρ.set i (.ow ts)) (σ.set i (some (.ref p))) (upd H p (.lst xs)) where
 s0:=I.s0
 sH:=I.sH.trans (zm.new hp _)
 sB:=I.sB.trans (zm.new hp _)
 old:=I.old
 len:=by rw [bT,bT]; exact I.len
 vl:=fun j u h=>by
  rcases zN h with ⟨rfl,e⟩ | ⟨hj,h'⟩
  ·cases e
  ·obtain ⟨w,e,rr⟩:=I.vl j u h'
   exact ⟨w,by rw [aH (c6 hj)]; exact e,rr⟩
 ow:=fun j us h=>by
  have op:∀ k ws a,ρ[k]? =some (Sl.ow ws)->σ[k]? =some (some (V.ref a))->a ≠ p:=fun k ws a h1 h2=>by
   obtain ⟨a',xs',e,_,_,hh,_⟩:=I.ow k ws h1
   rw [e] at h2; cases h2
   exact zn hh hp
  rcases zN h with ⟨rfl,e⟩ | ⟨hj,h'⟩
  ·cases e
   refine ⟨p,xs,aZ (by rw [← I.len]; exact Ub h),I.sB.free hp,I.sH.free hp,zl,r,fun k ws hk hw=> ?_⟩
   rcases zN hw with ⟨rfl,e'⟩ | ⟨hk',hw'⟩
   ·exact absurd rfl hk
   ·rw [aH (c6 hk')]
    exact fun z=>op k ws p hw' z rfl
  ·obtain ⟨a,xs',e,b0,h0,hh,rr,d⟩:=I.ow j us h'
   refine ⟨a,xs',by rw [aH (c6 hj)]; exact e,b0,h0,by rw [zi (op j us a h' e)]; exact hh,rr,fun k ws hk hw=> ?_⟩
   rcases zN hw with ⟨rfl,e'⟩ | ⟨hk',hw'⟩
   ·rw [aZ (by rw [← I.len]; exact Ub hw)]
    intro z
    exact op j us a h' e (by injection z with z; injection z with z; injection z with z; exact z.symm)
   ·rw [aH (c6 hk')]; exact d k ws hk hw'
 xc:=fun j c h=>by
  rcases zN h with ⟨rfl,e⟩ | ⟨hj,h'⟩
  ·cases e
  ·obtain ⟨a,e,r⟩:=I.xc j c h'
   exact ⟨a,by rw [aH (c6 hj)]; exact e,r⟩
theorem SI.chg {Y:Fx} {B:Hp} {ρ:En} {σ:Sg} {H:Hp} (I:SI Y B ρ σ H) (i:Nat) {p:Addr} {ts us:List T} {ys:List V} (hi:ρ[i]? =some (.ow ts)) (he:σ[i]? =some (some (.ref p))) (r:zq B ys us):SI Y B (ρ.set i (.ow us)) σ (upd H p (.lst ys)):=by
 obtain ⟨p',xs,e,b0,h0,hh,rr,d⟩:=I.ow i ts hi
 rw [he] at e
 cases e
 have nb:∀ b o,B b=some o->b ≠ p:=fun b o h z=>by subst z; rw [b0] at h; cases h
 have n0:∀ b o,Y.H0 b=some o->b ≠ p:=fun b o h z=>by subst z; rw [h0] at h; cases h
 refine ⟨I.s0,fun b o h=>by rw [zi (n0 b o h)]; exact I.sH b o h,fun b o h=>by rw [zi (nb b o h)]; exact I.sB b o h,I.old,by rw [bT]; exact I.len,fun j u h=> ?_,fun j ws h=> ?_,fun j c h=> ?_⟩
 rotate_right
 ·rcases zN h with ⟨rfl,z⟩ | ⟨hj,h'⟩
  ·cases z
  ·exact I.xc j c h'
 ·rcases zN h with ⟨rfl,z⟩ | ⟨hj,h'⟩
  ·cases z
  ·exact I.vl j u h'
 ·rcases zN h with ⟨rfl,z⟩ | ⟨hj,h'⟩
  ·cases z
   refine ⟨p,ys,he,b0,h0,zl,r,fun k vs hk hw=> ?_⟩
   rcases zN hw with ⟨rfl,e'⟩ | ⟨hk',hw'⟩
   ·exact absurd rfl hk
   ·exact d k vs hk hw'
  ·obtain ⟨a,xs',e,c0,g0,gg,ss,d'⟩:=I.ow j ws h'
   have hne:a ≠ p:=fun z=>by subst z; exact d j ws hj h' e
   refine ⟨a,xs',e,c0,g0,by rw [zi hne]; exact gg,ss,fun k vs hk hw=> ?_⟩
   rcases zN hw with ⟨rfl,e'⟩ | ⟨hk',hw'⟩
   ·rw [he]; intro z; injection z with z; injection z with z; injection z with z; exact hne z.symm
   ·exact d' k vs hk hw'
def gR:Sl->Sl
 | .ow ts=> .vl (.lst ts)
 | x=>x
def frz (ρ:En):En:=ρ.map gR
theorem SI.up {Y:Fx} {B:Hp} {ρ:En} {σ:Sg} {H:Hp} (I:SI Y B ρ σ H):zm B (zr B Y.H0 H):=fun b o h=>by
 cases q:Y.H0 b with
 | none=>rw [zC q]; exact I.sB b o h
 | some u=>rw [zI q]; exact h
theorem SI.frz {Y:Fx} {B:Hp} {ρ:En} {σ:Sg} {H:Hp} (I:SI Y B ρ σ H):SI Y (zr B Y.H0 H) (PV.frz ρ) σ H:=by
 have up:zm B (zr B Y.H0 H):=fun b o h=>by
  cases q:Y.H0 b with
  | none=>rw [zC q]; exact I.sB b o h
  | some u=>rw [zI q]; exact h
 refine ⟨I.s0,I.sH,fun b o h=> ?_,fun b o h=>by rw [zI h]; exact I.old b o h,by unfold PV.frz; rw [ao]; exact I.len,fun j t h=> ?_,fun j ts h=> ?_,fun j c h=> ?_⟩
 rotate_right
 ·unfold PV.frz at h
  rw [aj] at h
  cases e:ρ[j]? with
  | none=>rw [e] at h; cases h
  | some x=>
   rw [e] at h
   cases x with
   | xc d=>
    cases h
    obtain ⟨a,e1,r⟩:=I.xc j _ e
    exact ⟨a,e1,up a _ r⟩
   | un=>cases h
   | vl _=>cases h
   | ow _=>cases h
 ·cases q:Y.H0 b with
  | none=>rw [zC q] at h; exact h
  | some u=>rw [zI q] at h; exact I.sB b o h
 ·unfold PV.frz at h
  rw [aj] at h
  cases e:ρ[j]? with
  | none=>rw [e] at h; cases h
  | some x=>
   rw [e] at h
   cases x with
   | un=>cases h
   | vl u=>
    cases h
    obtain ⟨v,e1,r⟩:=I.vl j _ e
    exact ⟨v,e1,r.mono up⟩
   | ow us=>
    cases h
    obtain ⟨a,xs,e1,b0,h0,hh,rr,_⟩:=I.ow j us e
    exact ⟨.ref a,e1, .lst (by rw [zC h0]; exact hh) (rr.mono up)⟩
   | xc _=>cases h
 ·unfold PV.frz at h
  rw [aj] at h
  cases e:ρ[j]? with
  | none=>rw [e] at h; cases h
  | some x=>
   rw [e] at h
   cases x with
   | un=>cases h
   | vl u=>cases h
   | ow us=>cases h
   | xc _=>cases h
theorem vV {Y:Fx} {B H H' :Hp} (s0:zm Y.H0 H) (old:∀ b o,Y.H0 b=some o->B b=Y.B0 b) (s:zm H H') (sB:zm B H):zm (zr B H H') (zr Y.B0 Y.H0 H'):=fun b o h=>by
 cases q:H b with
 | none=>
  rw [zC q] at h
  rw [zC (s0.free q)]; exact h
 | some u=>
  rw [zI q] at h
  cases z:Y.H0 b with
  | none=>rw [zC z]; exact s b o (sB b o h)
  | some w=>rw [zI z,← old b w z]; exact h
section
variable {X:Cx} {Y:Fx} {a b c d:Expr} {fa fb fc fd:En->R T} {pos p:Pos} {st:Stmt} {sts sts' :List Stmt} {f g:En->RS}
def nxS:En->RS:=fun ρ=> .nx ρ
def zo (f g:En->RS):En->RS:=fun ρ=>match f ρ with
 | .nx ρ' =>g ρ'
 | r=>r
theorem XI:wz X Y [] nxS:= .mk fun ρ=>PSs.imp qf fun D σ H ⟨B,I,q⟩=>q σ H B (zm.refl B) I
theorem XJ (h:JZ X Y st f):wz X Y [st] f:= .mk fun ρ=>Jf (h ρ)
theorem vW (h1:JZ X Y st f) (h2:wz X Y sts g):wz X Y (st :: sts) (zo f g):= .mk fun ρ=>by
 refine PSs.imp (yD (u:=fun D σ H=>∃ ρ',tSS Y g ρ' D σ H) (h1 ρ) ?_) ?_
 ·intro pins s σ H D I ⟨ρ',q⟩
  exact h2 ρ' pins s σ H D I q
 ·intro D σ H ⟨B,I,q⟩
  refine ⟨B,I, ?_⟩
  unfold zo at q
  cases e:f ρ with
  | nx ρ' =>
   rw [e] at q
   intro σ' H' B' s' I'
   exact ⟨ρ',B',I',PoS.up s' q⟩
  | rt t=>rw [e] at q; exact q
  | rf t=>rw [e] at q; exact q
  | bk ρ' =>rw [e] at q; exact q
  | ct ρ' =>rw [e] at q; exact q
  | ex c=>rw [e] at q; exact q
  | bad=>rw [e] at q; exact q
def zF (i:Nat) (fa:En->R T):En->RS:=fun ρ=>(fa ρ).s fun t=> .nx (ρ.set i (.vl t))
theorem vX {i:Nat} {x:Str} {p' :Pos} (hN:X.N.Nodup) (hi:X.N[i]? =some x) (hx:L2.Loc X.env.scope x) (ha:Snd X Y a fa) (hs:swapsWith a (some (.Name x p')) pos.line X.env=pure false:=by rfl)
  (hf:X.fn x=true\/X.env.scope.names.lookup x=some .local:=by first | exact .inl rfl | exact .inr rfl | assumption):JZ X Y (.Assign [.Name x p'] a pos) (zF i fa):= .mk fun ρ=>
 PS.imp (Ys hN hi hx (ha ρ) hs hf) fun D σ H ⟨B,I,q⟩=>Jm I q fun t v H1 _ s1 r1 I1 q1=>q1 _ _ _ (zm.refl _) (I1.setV i r1)
def QO (i:Nat) (ga:En->R (List T)):En->RS:=fun ρ=>(ga ρ).s fun ts=>if ts.length<=bnd then .nx (ρ.set i (.ow ts)) else .bad
theorem vY {i:Nat} {x:Str} {p' :Pos} {es:List Expr} {ga:En->R (List T)} (hN:X.N.Nodup) (hi:X.N[i]? =some x) (hx:L2.Loc X.env.scope x) (ha:wI X Y es ga) (hs:swapsWith (.List es p) (some (.Name x p')) pos.line X.env=pure false:=by rfl)
  (hf:X.fn x=true\/X.env.scope.names.lookup x=some .local:=by first | exact .inl rfl | exact .inr rfl | assumption):JZ X Y (.Assign [.Name x p'] (.List es p) pos) (QO i ga):= .mk fun ρ=>
 PS.imp (Ys hN hi hx (Yv (ha ρ)) hs hf) fun D σ H ⟨B,I,q⟩=>Jm I q fun ts vs H1 _ s1 r1 I1 q1=>by
  split at q1
  ·rename_i hb
   exact ⟨by rw [r1.length]; exact zS hb,fun p hp=>q1 _ _ _ (zm.refl _) (I1.newO i hp r1)⟩
  ·exact q1.elim
def zv (fa:En->R T):En->RS:=fun ρ=>(fa (frz ρ)).s fun t=> .rt t
theorem XL (ha:Snd X Y a fa):JZ X Y (.Return (some a) pos) (zv fa):= .mk fun ρ=>
 PS.imp (uF (ha (frz ρ))) fun D σ H ⟨B,I,q⟩=>by
  refine ⟨_,I.frz, ?_⟩
  unfold zv at q
  cases e:fa (frz ρ) with
  | bad=>rw [e] at q; exact q
  | ex c=>
   rw [e] at q
   exact fun d H' s0 sG=>q d H' s0 (I.up.trans sG)
  | ok t=>
   rw [e] at q
   intro v H' s r
   have J:=I.frz
   exact q v H' (I.sH.trans s) (r.mono (vV J.sH J.old s J.sB))
def ifS (g:En->R Bool) (f1 f2:En->RS):En->RS:=fun ρ=>(g ρ).s fun k=>if k=true then f1 ρ else f2 ρ
theorem XM {ga:En->R Bool} (hc:wx X Y c ga) (h1:wz X Y sts f) (h2:wz X Y sts' g):JZ X Y (.If c sts sts' pos) (ifS ga f g):= .mk fun ρ=>
 PS.imp (xY (hc ρ) (h1 ρ) (h2 ρ)) fun D σ H ⟨B,I,q⟩=>Jm I q fun t v H1 _ s1 r1 I1 q1=>by
  have r1' :v=t:=r1
  subst r1'
  cases v with
  | true=>exact ⟨_,I1,q1⟩
  | false=>exact ⟨_,I1,q1⟩
def jd (fa:En->R T):En->RS:=fun ρ=>(fa ρ).s fun _=> .nx ρ
theorem vZ (ha:Snd X Y a fa) (hs:swapsWith a none pos.line X.env=pure false:=by rfl):JZ X Y (.Expr a pos) (jd fa):= .mk fun ρ=>
 PS.imp (uE (ha ρ) hs) fun D σ H ⟨B,I,q⟩=>Jm I q fun t v H1 _ s1 r1 I1 q1=>q1 _ _ _ (zm.refl _) I1
def uv (i:Nat) (fa:En->R T):En->RS:=fun ρ=>match ρ[i]? with
 | some (.ow ts)=>(fa ρ).s fun t=>if ts.length < bnd then .nx (ρ.set i (.ow (ts++[t]))) else .bad
 | _=> .bad
theorem V0 {n:Nat} (h:n < bnd):n < sizeLine:=by rw [bh]; exact h
theorem XN {i:Nat} {x:Str} {px pa:Pos} (hv:PE X (.Name x px) (Yq i)) (ha:Snd X Y a fa) (hb:attributeBase (.Name x px) "append" X.env (eval (.Name x px) X.env)=eval (.Name x px) X.env:=by rfl) (hs:St1 X a:=by exact st1 rfl)
  (hz:(pa.endLine == p.line)=true:=by rfl) (hw:swapsWith (.Call (.Attribute (.Name x px) "append" pa) [a] [] p) none pos.line X.env=pure false:=by rfl):JZ X Y (.Expr (.Call (.Attribute (.Name x px) "append" pa) [a] [] p) pos) (uv i fa):= .mk fun ρ=>by
 have e1:(((((backTo p (starEach [a] X.env)).all fun x=> !x.fst) && (backToKw p (keywordEach [] X.env)).all fun x=>x.fst.isSome) && decide (([a].length+([]:List Keyword).length+if ([]:List Keyword).isEmpty=true then 0 else 1) < 30))=true):=by rw [hs]; rfl
 refine PS.imp (uE (jP cT PySem.F.slot_list_append PySem.F.type_list_append JU hv (zj (ha ρ) zt hs) hb e1 hz hs rfl) hw) fun D σ H ⟨B,I,q⟩=> ?_
 unfold uv at q
 split at q
 ·rename_i ts e
  obtain ⟨l,xs,e1,b0,h0,hh,rr,d⟩:=I.ow i ts e
  refine ⟨.ref l,e1, .inl ⟨rfl,_,SqL.of hh⟩, ?_⟩
  refine Jm I q fun t v H1 _ s1 r1 I1 q1=> ?_
  split at q1
  ·rename_i hb
   refine ⟨l,xs,v,rfl,rfl,s1 _ _ hh,by rw [rr.length]; exact V0 hb, ?_⟩
   exact q1 _ _ _ (zm.refl _) (I1.chg i e e1 ((rr.mono (zr.ge I.sB s1)).append (.cons r1 .nil)))
  ·exact q1.elim
 ·exact q.elim
end
def spP (cl:Nat->Value) (n:Nat) (g:List T->R T):Sp:=fun vs H Q E=>∃ B ts,ts.length=n/\zm B H/\zq B vs ts/\Po ⟨B,H,E,cl⟩ rC B H (g ts) Q
theorem spP.len {cl:Nat->Value} {n:Nat} {g:List T->R T} (vs:List V) (H:Hp) (Q:VK) (E:XK) (h:spP cl n g vs H Q E):vs.length=n:=by
 obtain ⟨B,ts,hl,_,r,_⟩:=h
 rw [r.length,hl]
def zb (n:Nat) (g:List T->R T) (ga:En->R (List T)):En->R T:=fun ρ=>(ga ρ).bind fun ts=>if ts.length=n then g ts else .bad
section
variable {X:Cx} {Y:Fx} {a b c d:Expr} {fa fb fc fd:En->R T} {pos p:Pos}
theorem YB {CX:CXT} {k n:Nat} {f:Addr} {fd:FuncData} {ps:List Str} {g:List T->R T} {x:Str} {es:List Expr} {ga:En->R (List T)} (F:zG X.prog X.w X.K X.mg X.base CX k f fd ps (spP Y.cl n g)) (hr:ZJ k X.A) (gl:Gl X x) (mg:X.mg x=some (.ref f))
  (kp:c8 X.K (.ref f)=true) (bd:L2.Binds X.K fd ps []) (hx:Zb CX X Y.E) (ha:wI X Y (a :: es) ga) (hd:(x == ("__debug__":Str))=false:=by decide)
  (hs:starEach (a :: es) X.env=(false,eval a X.env) :: starEach es X.env:=by exact zD rfl) (hz:((backTo pos (starEach es X.env)).any fun x=>x.fst)=false:=by exact Z2 rfl):Snd X Y (.Call (.Name x p) (a :: es) [] pos) (zb n g ga):= .mk fun ρ=>
 PE.imp (qk F hr gl mg kp bd .nil hx (ha ρ) hd hs hz) fun σ H Q ⟨B,I,q⟩=>step I q fun ts vs H1 _ s1 r1 I1 q1=>by
  split at q1
  ·rename_i hn
   rw [bz]
   refine ⟨_,ts,hn,I1.sB,r1, ?_⟩
   revert q1
   cases g ts with
   | bad=>exact fun q1=>q1
   | ex c=>exact fun q1 d H' s sB=>q1 d H' (I1.sH.trans s) sB
   | ok t=>exact fun q1=>q1
  ·exact q1.elim
end
def zh:RS->R T
 | .rt t=> .ok t
 | .rf ts=> .ok (.lst ts)
 | .nx _=> .ok .non
 | .ex c=> .ex c
 | _=> .bad
def en0 (n:Nat) (ts:List T):En:=ts.map Sl.vl++ad (n - ts.length) Sl.un
theorem zq.vl {H:Hp}:∀ {vs:List V} {ts:List T} {i:Nat} {t:T} {n m:Nat},zq H vs ts->(ts.map Sl.vl++ad n Sl.un)[i]? =some (Sl.vl t)->∃ v:V,(vs.map some++ad m none)[i]? =some (some v)/\Rep H v t
 | _,_,i,t,n,m, .nil,h=>by
  exfalso
  simp only [aT,bA] at h
  rw [aC] at h
  split at h
  ·cases h
  ·cases h
 | _,_,0,t,n,m, .cons r _,h=>by
  simp at h; subst h; exact ⟨_,rfl,r⟩
 | _,_,i+1,t,n,m, .cons _ q,h=>by
  obtain ⟨v,h1,h2⟩:=zq.vl (i:=i) (t:=t) (n:=n) (m:=m) q (by simpa using h)
  exact ⟨v,by simpa using h1,h2⟩
theorem YC {n:Nat}:∀ {ts:List T} {i:Nat} {us:List T},(ts.map Sl.vl++ad n Sl.un)[i]? =some (Sl.ow us)->False
 | [],i,us,h=>by
  simp only [aT,bA] at h
  rw [aC] at h
  split at h
  ·cases h
  ·cases h
 | t :: ts,0,us,h=>by simp at h
 | t :: ts,i+1,us,h=>YC (ts:=ts) (i:=i) (us:=us) (n:=n) (by simpa using h)
theorem YD {n:Nat}:∀ {ts:List T} {i:Nat} {c:Nat},(ts.map Sl.vl++ad n Sl.un)[i]? =some (Sl.xc c)->False
 | [],i,us,h=>by
  simp only [aT,bA] at h
  rw [aC] at h
  split at h
  ·cases h
  ·cases h
 | t :: ts,0,us,h=>by simp at h
 | t :: ts,i+1,us,h=>YD (ts:=ts) (i:=i) (c:=us) (n:=n) (by simpa using h)
theorem SI.start {Y:Fx} {N:List Str} {vs:List V} {ts:List T} (s:zm Y.B0 Y.H0) (r:zq Y.B0 vs ts):SI Y Y.B0 (en0 N.length ts) (L2.start N vs) Y.H0 where
 s0:=s
 sH:=zm.refl _
 sB:=s
 old:=fun _ _ _=>rfl
 len:=by unfold en0 L2.start; simp [r.length]
 vl:=fun i t h=>r.vl h
 ow:=fun i ts h=>(YC h).elim
 xc:=fun i c h=>(YD h).elim
section
variable {P:Program} {w:World} {K:ac} {mg:Str->Option Value} {base:Heap}
theorem zU {cl:Nat->Value} {x qual:Str} {st:Stmt} {f:Addr} {fd:FuncData} {N ps:List Str} {k n:Nat} {fb:En->RS} {g:List T->R T} (F:Fun K x qual st f fd) (S:zd N ps (za st)) (hn:n=ps.length)
  (hb:∀ (cdv:Value) (A:Around) (outer:List Env) (s:Shared) (H:Hp) (E:XK) (Y:Fx),Y.cl=cl->ZJ k (A.deeper (envOfC qual (za st) s.heap.objs.size f cdv))->
   wz (ja CX0 P w K mg base N qual (za st) f cdv A outer s H E).nox Y (zE st) fb)
  (hg:∀ ts,ts.length=n->g ts=zh (fb (en0 N.length ts))):zG P w K mg base CX0 (k+1) f fd ps (spP cl n g):=by
 subst hn
 refine F.ok S spP.len fun cdv A outer s H vs Q E hr ⟨B,ts,hl,sB,r,q⟩=> ?_
 refine ⟨_,hb cdv A outer s H E ⟨B,H,E,cl⟩ rfl hr (en0 N.length ts),B,SI.start (Y:=⟨B,H,E,cl⟩) sB r, ?_⟩
 rw [hg ts hl] at q
 revert q
 cases fb (en0 N.length ts) with
 | rt t=>exact fun q v H' s r=>q v H' s r
 | rf t=>exact fun q a xs H' B' s0 n e r _ l=>q (.ref a) H' s0 (.lst (by rw [zC n]; exact e) (r.mono l))
 | nx ρ=>exact fun q σ' H' B' _ I=>q .non H' I.sH .non
 | ex c=>exact fun q=>q
 | bk ρ=>exact fun q=>q.elim
 | ct ρ=>exact fun q=>q.elim
 | bad=>exact fun q=>q
end
abbrev rI:Hp->Hp->It->List T->Prop:=fun B1 _ J ts=>∀ B2 H2,zm B1 B2->zm B2 H2->(∀ i,i < ts.length->J.go i H2)/\(∀ (i:Nat) t x H3,ts[i]? =some t->J.yld i H2 x H3->zm H2 H3/\Rep (zr B2 H2 H3) x t)/\(∀ i,ts.length<=i->J.stop i H2)
structure uw (X:Cx) (Y:Fx) (tg iter:Expr) (f:En->R (List T)):Prop where
 mk ::
 go:∀ ρ,PI X tg iter (tS Y rI f ρ)
instance {X:Cx} {Y:Fx} {tg iter:Expr} {f:En->R (List T)}:CoeFun (uw X Y tg iter f) fun _=>∀ ρ,PI X tg iter (tS Y rI f ρ):=⟨uw.go⟩
section
variable {X:Cx} {Y:Fx} {a b c d tg:Expr} {fa fb fc fd:En->R T} {pos p:Pos}
theorem PI.imp {e:Expr} {t t' :TI} (h:PI X tg e t) (i:∀ σ H Q,t' σ H Q->t σ H Q):PI X tg e t' :=fun pins s σ H Q I q=>h pins s σ H Q I (i σ H Q q)
theorem V1 {K:ac} {B1 H1:Hp} {a:Addr} {xs:List V} {ts:List T} (h:B1 a=some (.tup xs)) (r:zq B1 xs ts):rI B1 H1 (Itt K a) ts:=fun B2 H2 s1 s2=>by
 have h2:=s2 _ _ (s1 _ _ h)
 refine ⟨fun i hi=> ?_,fun i t x H3 e y=> ?_,fun i hi=>⟨xs,SqT.of h2,by rw [r.length]; exact hi⟩⟩
 ·obtain ⟨v,e,_⟩:=r.get (aw hi)
  exact ⟨xs,v,SqT.of h2,e⟩
 ·obtain ⟨rfl,y⟩:=y
  obtain ⟨v,e1,r1⟩:=r.get e
  have:=y xs (SqT.of h2)
  rw [e1] at this; cases this
  refine ⟨zm.refl _, ?_⟩
  rw [zr.self B2 _ s2]
  exact r1.mono s1
theorem V2 {K:ac} {B1 H1:Hp} {a:Addr} {xs:List V} {ts:List T} (h:B1 a=some (.lst xs)) (r:zq B1 xs ts):rI B1 H1 (Itl K a) ts:=fun B2 H2 s1 s2=>by
 have h2:=s2 _ _ (s1 _ _ h)
 refine ⟨fun i hi=> ?_,fun i t x H3 e y=> ?_,fun i hi=>⟨xs,SqL.of h2,by rw [r.length]; exact hi⟩⟩
 ·obtain ⟨v,e,_⟩:=r.get (aw hi)
  exact ⟨xs,v,SqL.of h2,e⟩
 ·obtain ⟨rfl,y⟩:=y
  obtain ⟨v,e1,r1⟩:=r.get e
  have:=y xs (SqL.of h2)
  rw [e1] at this; cases this
  refine ⟨zm.refl _, ?_⟩
  rw [zr.self B2 _ s2]
  exact r1.mono s1
def rng (lo:Int) (n:Nat):List T:=(aY n).map fun (i:Nat)=>T.int (lo+(i:Int))
theorem YE {B1 H1:Hp} {lo:Int} {n:Nat}:rI B1 H1 (Itr lo n) (rng lo n):=fun B2 H2 s1 s2=>by
 have hl:(rng lo n).length=n:=by unfold rng; simp
 refine ⟨fun i hi=>by rw [hl] at hi; exact hi,fun i t x H3 e y=> ?_,fun i hi=>by rw [hl] at hi; exact hi⟩
 obtain ⟨rfl,rfl⟩:=y
 refine ⟨zm.refl _, ?_⟩
 unfold rng at e
 rw [aj] at e
 by_cases hi:i < n
 ·rw [c7 hi] at e
  cases e
  exact .int _
 ·rw [aV (by simp; omega)] at e; cases e
def yP (fa:En->R T):En->R (List T):=fun ρ=>(fa ρ).bind fun t=>match t with
 | .int j=>if -1000000 < j/\j < 1000000 then .ok (rng 0 j.toNat) else .bad
 | _=> .bad
def jq (fa fb:En->R T):En->R (List T):=fun ρ=>(fa ρ).bind fun t=>(fb ρ).bind fun t' =>match t,t' with
 | .int i, .int j=>if -1000000 < i/\i < 1000000/\ -1000000 < j/\j < 1000000 then .ok (rng i (j - i).toNat) else .bad
 | _,_=> .bad
theorem V3 (gl:Gl X "range") (mg:X.mg "range"=none) (ha:Snd X Y a fa) (hs:St1 X a:=by exact st1 rfl):uw X Y tg (.Call (.Name "range" p) [a] [] pos) (yP fa):= .mk fun ρ=>PI.imp (uK gl mg (zj (ha ρ) zt hs) hs) fun σ H R ⟨B,I,q⟩=>step I q fun t v H1 _ s1 r1 I1 q1=>by
 cases r1 with
 | int j=>
  have q1:Po Y rI _ H1 (if -1000000 < j/\j < 1000000 then .ok (rng 0 j.toNat) else .bad) R:=q1
  split at q1
  ·rename_i hj
   exact ⟨j,rfl,by omega,by omega,Za I1 q1 YE⟩
  ·exact q1.elim
 | _=>exact q1.elim
theorem V4 (gl:Gl X "range") (mg:X.mg "range"=none) (ha:Snd X Y a fa) (hb:Snd X Y b fb) (hs:starEach [a,b] X.env=[(false,eval a X.env),(false,eval b X.env)]:=by exact st2 rfl rfl) (hs2:St1 X b:=by exact st1 rfl):uw X Y tg (.Call (.Name "range" p) [a,b] [] pos) (jq fa fb):= .mk fun ρ=>
 PI.imp (uL gl mg (zj (ha ρ) (zj (hb ρ) zt hs2) (by rw [hs,hs2])) hs hs2) fun σ H R ⟨B,I,q⟩=>step I q fun t v H1 _ s1 r1 I1 q1=>step I1 q1 fun t' v' H2 _ s2 r2 I2 q2=>by
  cases r1 with
  | int i=>
   cases r2 with
   | int j=>
    have q2:Po Y rI _ H2 (if -1000000 < i/\i < 1000000/\ -1000000 < j/\j < 1000000 then .ok (rng i (j - i).toNat) else .bad) R:=q2
    split at q2
    ·rename_i hj
     exact ⟨i,j,rfl,⟨by omega,by omega,by omega,by omega⟩,Za I2 q2 YE⟩
    ·exact q2.elim
   | _=>exact q2.elim
  | _=>cases r2 <;> exact q2.elim
def V5 (X:Cx) (Y:Fx) (tg:Expr) (g:T->En->R En):Prop:=∃ t:TG,PG X tg t/\∀ B ρ σ H v x Q,SI Y B ρ σ H->Rep B v x->(match g x ρ with | .ok ρ' =>∀ σ',SI Y B ρ' σ' H->Q σ' H | _=>False)->t v σ H Q
def zY (i:Nat):T->En->R En:=fun t ρ=> .ok (ρ.set i (.vl t))
theorem V6 {i:Nat} {x:Str} (hN:X.N.Nodup) (hi:X.N[i]? =some x) (hx:L2.Loc X.env.scope x) (hf:X.fn x=true\/X.env.scope.names.lookup x=some .local:=by first | exact .inl rfl | exact .inr rfl | assumption):V5 X Y (.Name x pos) (zY i):=
 ⟨JJ i,zz hN hi hx hf,fun B ρ σ H v x Q I r q=>q _ (I.setV i r)⟩
def Z6 (i j:Nat):T->En->R En:=fun t ρ=>match t with
 | .tup [x,y]=> .ok ((ρ.set i (.vl x)).set j (.vl y))
 | _=> .bad
theorem W6 {i j:Nat} {x y:Str} {p' p2:Pos} {k:Nat} (hc:X.calm=true) (hN:X.N.Nodup) (hi:X.N[i]? =some x) (hj:X.N[j]? =some y) (hx:L2.Loc X.env.scope x) (hy:L2.Loc X.env.scope y)
  (hf:X.fn x=true\/X.env.scope.names.lookup x=some .local:=by first | exact .inl rfl | exact .inr rfl | assumption) (hf' :X.fn y=true\/X.env.scope.names.lookup y=some .local:=by first | exact .inl rfl | exact .inr rfl | assumption):
  V5 X Y (.Tuple [.Name x pos, .Name y p'] k p2) (Z6 i j):=by
 refine ⟨X0 X.K 2 (uG (JJ i) (uG (JJ j) xZ)),uH hc (ZE (zz hN hi hx hf) (ZE (zz hN hj hy hf') wD)),fun B ρ σ H v t Q I r q=> ?_⟩
 cases r with
 | @tup l xs ts h r=>
  cases r with
  | nil=>exact q.elim
  | cons r1 rr=>
   cases rr with
   | nil=>exact q.elim
   | cons r2 rr=>
    cases rr with
    | cons _ _=>exact q.elim
    | nil=>
     exact ⟨l,_,rfl,SqT.of (I.sB _ _ h),rfl,_,_,rfl,_,_,rfl,rfl,q _ ((I.setV i r1).setV j r2)⟩
 | _=>exact q.elim
def ZZ (g:T->En->R En) (fb:En->RS):List T->En->RS
 | [],ρ=> .nx ρ
 | t :: ts,ρ=>match g t ρ with
  | .ok ρ1=>match fb ρ1 with
   | .nx ρ2=>ZZ g fb ts ρ2
   | .ct ρ2=>ZZ g fb ts ρ2
   | .bk ρ2=> .nx ρ2
   | r=>r
  | .ex c=> .bad
  | .bad=> .bad
def W7 (fi:En->R (List T)) (g:T->En->R En) (fb:En->RS):En->RS:=fun ρ=>(fi ρ).s fun ts=>ZZ g fb ts ρ
theorem V7 {iter:Expr} {sts:List Stmt} {fi:En->R (List T)} {g:T->En->R En} {fb:En->RS} (hp:PassesOwn (model X.prog X.w) X.A X.env X.xe) (hc:X.calm=true) (hi:uw X Y tg iter fi) (hg:V5 X Y tg g) (hb:wz X Y sts fb)
  (hs:∀ x,foldedSetIterable iter X.env x=pure x:=by intro _; rfl):JZ X Y (.For tg iter sts [] pos) (W7 fi g fb):= .mk fun ρ=>by
 obtain ⟨tG,hG,hG'⟩:=hg
 refine PS.imp (vg (tb:=fun D σ H=>∃ ρ',tSS Y fb ρ' D σ H) hp hc (hi ρ) hG (fun pins s σ H D I ⟨ρ',q⟩=>hb ρ' pins s σ H D I q) hs) fun D σ H ⟨B,I,q⟩=> ?_
 refine Jm I q fun ts J H1 _ s1 r1 I1 q1=> ?_
 refine ⟨fun i m σ' H' =>m=ts.length - i/\i<=ts.length/\∃ ρ' B',SI Y B' ρ' σ' H' /\zm (zr B H H1) B' /\PoS Y B' (ZZ g fb (ts.drop i) ρ') D,⟨ts.length,by simp,bI _,ρ,_,I1,zm.refl _,q1⟩, ?_⟩
 rintro i m σ' H' ⟨rfl,hi,ρ',B',I',sB',q'⟩
 obtain ⟨hgo,hyld,hstop⟩:=r1 B' H' sB' I'.sB
 by_cases hlt:i < ts.length
 ·refine .inr ⟨hgo i hlt,fun σ2 H2=>∃ ρ2 B2,SI Y B2 ρ2 σ2 H2/\zm (zr B H H1) B2/\PoS Y B2 (ZZ g fb (ts.drop (i+1)) ρ2) D,fun σ2 H2 ⟨ρ2,B2,I2,s2,q2⟩=>⟨ts.length - (i+1),by omega,rfl,hlt,ρ2,B2,I2,s2,q2⟩,fun x H2 y=> ?_⟩
  obtain ⟨s2,r2⟩:=hyld i _ x H2 (aw hlt) y
  rw [dQ hlt] at q'
  unfold ZZ at q'
  refine hG' _ ρ' σ' H2 x _ _ (I'.grow s2) r2 ?_
  cases eg:g ts[i] ρ' with
  | bad=>rw [eg] at q'; exact q'
  | ex c=>rw [eg] at q'; exact q'
  | ok ρ1=>
   rw [eg] at q'
   intro σ1 J1
   refine ⟨ρ1,_,J1, ?_⟩
   have q2:=PoS.up (zr.ge I'.sB s2) q'
   dsimp only at q2
   have s3:zm (zr B H H1) (zr B' H' H2):=sB'.trans (zr.ge I'.sB s2)
   revert q2
   cases fb ρ1 with
   | nx ρ2=>exact fun q2 σ3 H3 B3 s4 I3=>⟨ρ2,B3,I3,s3.trans s4,PoS.up s4 q2⟩
   | ct ρ2=>exact fun q2 σ3 H3 B3 s4 I3=>⟨ρ2,B3,I3,s3.trans s4,PoS.up s4 q2⟩
   | bk ρ2=>exact fun q2=>q2
   | rt t=>exact fun q2=>q2
   | rf t=>exact fun q2=>q2
   | ex c=>exact fun q2=>q2
   | bad=>exact fun q2=>q2
 ·have e:i=ts.length:=by omega
  subst e
  rw [fO] at q'
  exact .inl ⟨hstop _ (ag _),q' σ' H' B' (zm.refl _) I'⟩
def Zo (g:En->R Bool) (fb:En->RS):Nat->En->RS
 | 0,_=> .bad
 | n+1,ρ=>(g ρ).s fun k=>if k=true then match fb ρ with
   | .nx ρ2=>Zo g fb n ρ2
   | .ct ρ2=>Zo g fb n ρ2
   | .bk ρ2=> .nx ρ2
   | r=>r
  else .nx ρ
theorem qT {n:Nat} {sts:List Stmt} {ga:En->R Bool} {fb:En->RS} (hp:PassesOwn (model X.prog X.w) X.A X.env X.xe) (hc:wx X Y c ga) (hb:wz X Y sts fb):JZ X Y (.While c sts [] pos) (Zo ga fb n):= .mk fun ρ=>by
 refine PS.imp (yE (tc:=fun σ H Q=>∃ ρ',tS Y rE ga ρ' σ H Q) (tb:=fun D σ H=>∃ ρ',tSS Y fb ρ' D σ H) hp (fun pins s σ H D I ⟨ρ',q⟩=>hc ρ' pins s σ H D I q) (fun pins s σ H D I ⟨ρ',q⟩=>hb ρ' pins s σ H D I q)) fun D σ H ⟨B,I,q⟩=> ?_
 refine ⟨fun m σ' H' =>∃ ρ' B',SI Y B' ρ' σ' H' /\PoS Y B' (Zo ga fb m ρ') D,⟨n,ρ,B,I,q⟩, ?_⟩
 rintro m σ' H' ⟨ρ',B',I',q'⟩
 cases m with
 | zero=>exact q'.elim
 | succ m=>
  unfold Zo at q'
  refine ⟨ρ',Jm I' q' fun t v H1 _ s1 r1 I1 q1=> ?_⟩
  have r1' :v=t:=r1
  subst r1'
  cases v with
  | false=>exact q1 _ _ _ (zm.refl _) I1
  | true=>
   refine ⟨fun σ2 H2=>∃ ρ2 B2,SI Y B2 ρ2 σ2 H2/\PoS Y B2 (Zo ga fb m ρ2) D,fun σ2 H2 h=>⟨m,eB m,h⟩,ρ',_,I1, ?_⟩
   have q1:PoS Y _ (match fb ρ' with
    | .nx ρ2=>Zo ga fb m ρ2
    | .ct ρ2=>Zo ga fb m ρ2
    | .bk ρ2=> .nx ρ2
    | r=>r) D:=q1
   revert q1
   cases fb ρ' with
   | nx ρ2=>exact fun q2 σ3 H3 B3 s4 I3=>⟨ρ2,B3,I3,PoS.up s4 q2⟩
   | ct ρ2=>exact fun q2 σ3 H3 B3 s4 I3=>⟨ρ2,B3,I3,PoS.up s4 q2⟩
   | bk ρ2=>exact fun q2=>q2
   | rt t=>exact fun q2=>q2
   | rf t=>exact fun q2=>q2
   | ex c=>exact fun q2=>q2
   | bad=>exact fun q2=>q2
end
theorem jz {env:Env}:∀ (ns:List (Str×NameKind)) (acc:List (Str×Addr)),(∀ x∈ns,x.2=NameKind.free->∃ c,env.cells.lookup x.1=some c)->(∀ x c,acc.lookup x=some c->env.cells.lookup x=some c)->
  ∃ cl,(forIn ns acc (fun (x:Str×NameKind) (r:List (Str×Addr))=>if (x.2 == NameKind.free)=true then (do let c ← cellOf env x.1; pure (ForInStep.yield ((x.1,c) :: r))) else pure (ForInStep.yield r)):Sem _)=pure cl/\
   (∀ x c,cl.lookup x=some c->env.cells.lookup x=some c)/\(∀ x c,acc.lookup x=some c->∃ c',cl.lookup x=some c')/\(∀ x∈ns,x.2=NameKind.free->∃ c,cl.lookup x.1=some c)
 | [],acc,_,h=>⟨acc,rfl,h,fun x c e=>⟨c,e⟩,fun x hx=>by simp at hx⟩
 | (n,k) :: ns,acc,hf,h=>by
  by_cases hk:k=NameKind.free
  ·obtain ⟨c,hc⟩:=hf (n,k) av hk
   have h' :∀ x d,((n,c) :: acc).lookup x=some d->env.cells.lookup x=some d:=fun x d e=>by
    by_cases hx:x=n
    ·subst hx
     have e' :some c=some d:=by simpa [aK] using e
     cases e'; exact hc
    ·have e' :acc.lookup x=some d:=by
      rw [aK,(beq_eq_false_iff_ne.mpr hx)] at e; exact e
     exact h x d e'
   obtain ⟨cl,e,h1,h2,h3⟩:=jz ns ((n,c) :: acc) (fun x hx=>hf x (ah _ hx)) h'
   refine ⟨cl, ?_,h1,fun x d ed=> ?_,fun x hx hxf=> ?_⟩
   ·rw [dB]
    subst hk
    have q:cellOf env n=pure c:=by unfold cellOf; rw [hc]
    simp only [beq_self_eq_true,if_true,q]
    exact e
   ·by_cases hx:x=n
    ·subst hx; exact h2 x c (by simp [aK])
    ·exact h2 x d (by rw [aK,(beq_eq_false_iff_ne.mpr hx)]; exact ed)
   ·rcases ax.mp hx with rfl | hx
    ·exact h2 n c (by simp [aK])
    ·exact h3 x hx hxf
  ·obtain ⟨cl,e,h1,h2,h3⟩:=jz ns acc (fun x hx=>hf x (ah _ hx)) h
   refine ⟨cl, ?_,h1,h2,fun x hx hxf=> ?_⟩
   ·rw [dB]
    have q:(k == NameKind.free)=false:=by simpa using hk
    simp only [q,bi,if_false]
    exact e
   ·rcases ax.mp hx with rfl | hx
    ·exact absurd hxf hk
    ·exact h3 x hx hxf
theorem Uc {scope:Scope} {env:Env} (hf:∀ x∈scope.names,x.2=NameKind.free->∃ c,env.cells.lookup x.1=some c):
  ∃ cl,closureFor scope env=pure cl/\(∀ x c,cl.lookup x=some c->env.cells.lookup x=some c)/\(∀ x∈scope.names,x.2=NameKind.free->∃ c,cl.lookup x.1=some c):=by
 obtain ⟨cl,e,h1,_,h3⟩:=jz scope.names [] hf (fun x c e=>by simp at e)
 refine ⟨cl, ?_,h1,h3⟩
 unfold closureFor
 show (do let cs ← _; pure cs)=_
 exact (by simpa using e)
def cxC (X:Cx) (scope:Scope) (N' :List Str) (cl:List (Str×Addr)) (C:Addr) (s3:Shared) (H3:Hp) (fp:List Addr) (pins:List (Addr×Obj)):Cx:=
 { X with N:=N',s₀:=s3,H₀:=H3,env:=compEnvC scope cl C X.env,outer:=X.stack,stack:=X.stack,ex:=fp,fn:=fun _=>false,pn:=X.pn++pins,xe:=fun _ _=>False }
structure CSc (X:Cx) (scope:Scope):Prop where
 kind:scope.kind= .function
 nocell:∀ x∈scope.names,x.2 ≠ .cell
 loc:∀ x∈scope.names,x.2= .local->scope.names.lookup x.1=some .local
 fre:∀ x∈scope.names,x.2= .free->X.env.kindOf x.1=some .cell\/X.env.kindOf x.1=some .free
theorem j5 {scope:Scope} {env:Env} {x:Str} {k:NameKind} (h:(relabel scope env).names.lookup x=some k) (hk:k= .cell\/k= .free) (hn:∀ x∈scope.names,x.2 ≠ NameKind.cell):∃ y∈scope.names,y.1=x/\y.2= .free:=by
 have go:∀ ns:List (Str×NameKind),(∀ x∈ns,x.2 ≠ NameKind.cell)->(ns.map fun (n,k)=>if (k == NameKind.free && env.scope.kind == .function && env.kindOf n == some .cell) then (n,NameKind.cell) else (n,k)).lookup x=some k->∃ y∈ns,y.1=x/\y.2= .free:=by
  intro ns
  induction ns with
  | nil=>intro _ h; simp at h
  | cons y ns ih=>
   intro hn h
   obtain ⟨n,k'⟩:=y
   by_cases hx:x=n
   ·subst hx
    refine ⟨(x,k'),av,rfl, ?_⟩
    rw [au] at h
    by_cases hc:(k' == NameKind.free && env.scope.kind == .function && env.kindOf x == some .cell)=true
    ·rw [am,am] at hc
     exact eq_of_beq hc.1.1
    ·simp only [if_neg hc,aK,beq_self_eq_true] at h
     cases h
     rcases hk with rfl | rfl
     ·exact absurd rfl (hn _ av)
     ·rfl
   ·obtain ⟨z,hz,h1,h2⟩:=ih (fun z hz=>hn z (ah _ hz)) (by
     rw [au] at h
     by_cases hc:(k' == NameKind.free && env.scope.kind == .function && env.kindOf n == some .cell)=true
     ·simp only [if_pos hc,aK,(beq_eq_false_iff_ne.mpr hx)] at h; exact h
     ·simp only [if_neg hc,aK,(beq_eq_false_iff_ne.mpr hx)] at h; exact h)
    exact ⟨z,ah _ hz,h1,h2⟩
 exact go scope.names hn h
section
variable {X:Cx} {pins:List (Addr×Obj)} {σ:Sg} {H:Hp} {s:Shared}
theorem Ud {scope:Scope} {N' :List Str} {cl:List (Str×Addr)} {fp:List Addr} {h' :Heap} {tk:Nat} {σ' :Sg} (I:L2.Inv X pins σ H s) (S:CSc X scope) (hc:X.calm=true)
  (hcl:∀ x c,cl.lookup x=some c->X.env.cells.lookup x=some c) (hcf:∀ x∈scope.names,x.2=NameKind.free->∃ c,cl.lookup x.1=some c)
  (hfp:∀ b∈fp,ww X pins H b) (hfo:∀ b∈fp,∃ o,s.heap.get? b=some o)
  (hns:h'.Ns s.heap.objs.size (fun _=>none)) (hk:∀ b o,s.heap.get? b=some o->h'.get? b=some o)
  (hl:σ'.length=N'.length) (hσ:∀ (i:Nat) (x:Str) (v:V),N'[i]? =some x->σ'[i]? =some (some v)->∃ j:Nat,X.N[j]? =some x/\σ[j]? =some (some v)/\Vis X.env.scope x/\(scope.names.lookup x=some .free)/\(X.env.kindOf x=some .cell\/X.env.kindOf x=some .free)):
  L2.Inv (cxC X scope N' cl s.heap.objs.size s H fp pins) [] σ' H { s with heap:=h',toks:=tk }:=by
 have stk:=I.stkSub
 have hlt:∀ b∈fp,b < s.heap.objs.size:=fun b hb=>let ⟨o,e⟩:=hfo b hb; ai e
 have fresh:H s.heap.objs.size=none:=I.hok.fresh (ag _)
 refine ⟨⟨I.ok.mod,S.kind,I.ok.glob,I.ok.blt,ag _,fun x y c h1 h2=>I.ok.inj x y c (hcl _ _ h1) (hcl _ _ h2),fun x hx=> ?_,fun x c h _=>(aB h).elim,fun _=>I.ok.hd hc,I.ok.frames, .inl rfl,fun b hb=> ?_,I.bs,
   aE I.ok.bsz I.sz,fun b o e hb=> ?_,fun b hb hb' => ?_,I.stack,I.stkFree⟩,rfl,I.bare,Un.kept hk,⟨_,hns,fun i x v h1 h2 h3=> ?_⟩,fun x c e=> ?_,fresh,fun x c e=>I.freeC x c (hcl _ _ e),fun p hp=> ?_,I.hok.kept hk,hl⟩
 ·have hx' :(relabel scope X.env).names.lookup x=some .cell\/(relabel scope X.env).names.lookup x=some .free:=hx
  obtain ⟨y,hy,rfl,hyf⟩:∃ y∈scope.names,y.1=x/\y.2= .free:=by
   rcases hx' with h | h
   ·exact j5 h (.inl rfl) S.nocell
   ·exact j5 h (.inr rfl) S.nocell
  exact hcf y hy hyf
 ·refine ⟨az (hlt b hb),fun x c e=>(hfp b hb).2.2.2.2.1 x c (hcl _ _ e)⟩
 ·rcases (hfp b hb).2.2.2.1 with h | h
  ·exact I.ok.noex b o e h
  ·exact absurd (ay (ai e) (aE I.ok.bsz h)) (bx _)
 ·have q:=hfp b hb
  rcases ax.mp (stk b hb') with z | z
  ·exact q.2.1 z
  ·exact q.2.2.1 z
 ·obtain ⟨j,e1,e2,e3,e4,e5⟩:=hσ i x v h1 h2
  obtain ⟨m,hn,hloc⟩:=I.loc
  obtain ⟨u,ru,lk⟩:=hloc j x v e1 e2 e3
  refine ⟨u,ru, .inr ⟨?_, ?_⟩⟩
  ·have h3:Vis (relabel scope X.env) x:=h3
   rcases h3 with h | h | h
   ·exfalso
    have:∀ ns:List (Str×NameKind),ns.lookup x=some .free->(ns.map fun (n,k)=>if (k == NameKind.free && X.env.scope.kind == .function && X.env.kindOf n == some .cell) then (n,NameKind.cell) else (n,k)).lookup x ≠ some .local:=by
     intro ns
     induction ns with
     | nil=>intro z; simp at z
     | cons y ns ih=>
      obtain ⟨n,k⟩:=y
      intro z w
      rw [au] at w
      by_cases hx:x=n
      ·subst hx
       have hkf:some k=some NameKind.free:=by simpa [aK] using z
       by_cases hcn:(k == NameKind.free && X.env.scope.kind == .function && X.env.kindOf x == some .cell)=true
       ·simp only [if_pos hcn,aK,beq_self_eq_true] at w; cases w
       ·simp only [if_neg hcn,aK,beq_self_eq_true] at w
        rw [hkf] at w; cases w
      ·have z' :ns.lookup x=some .free:=by rw [aK,(beq_eq_false_iff_ne.mpr hx)] at z; exact z
       refine ih z' ?_
       by_cases hcn:(k == NameKind.free && X.env.scope.kind == .function && X.env.kindOf n == some .cell)=true
       ·simp only [if_pos hcn,aK,(beq_eq_false_iff_ne.mpr hx)] at w; exact w
       ·simp only [if_neg hcn,aK,(beq_eq_false_iff_ne.mpr hx)] at w; exact w
    exact this _ e4 h
   ·exact .inl h
   ·exact .inr h
  ·rcases lk with ⟨hk',_⟩ | ⟨_,c,hc',hcell⟩
   ·rcases e5 with z | z <;> (rw [z] at hk'; cases hk')
   ·obtain ⟨c',hc2⟩:=hcf (x, .free) (ba e4) rfl
    have:=hcl x c' hc2
    rw [hc'] at this; cases this
    obtain ⟨o,eo,ed⟩:=hcell
    exact ⟨c,hc2,o,hk _ _ eo,ed⟩
 ·obtain ⟨v,o,eo,ed⟩:=I.cell x c (hcl _ _ e)
  exact ⟨v,o,hk _ _ eo,ed⟩
 ·have hp' :p∈X.pn++pins:=by
   have:p∈(X.pn++pins)++[]:=hp
   rwa [bz] at this
  obtain ⟨e,n,ne,nf,dc⟩:=I.pin p hp'
  refine ⟨hk _ _ e,n,az (ai e),fun hb=> ?_,dc⟩
  rcases ax.mp (stk _ hb) with z | z
  ·exact ne z
  ·exact nf z
end
def PIf (X:Cx) (ifs:List Expr) (t:TT):Prop:=
 ∀ (pins:List (Addr×Obj)) (s:Shared) (σ:Sg) (H:Hp) (Q:Bool->Hp->Prop),L2.Inv X pins σ H s->t σ H Q->
  wpAny (model X.prog X.w) X.A (forIn ifs true fun c r=>if r=true then do let ok ← isTrue c X.env (eval c X.env); pure (ForInStep.yield ok) else pure (ForInStep.yield r)) (TP X pins σ Q) X.xe s
theorem qU {X:Cx}:PIf X [] (fun _ H Q=>Q true H):=fun _ _ σ H _ I h=>wpAny_tests_nil ⟨H,I,h⟩
abbrev XE (X:Cx) (xe:Value->Shared->Prop):Cx:={ X with xe:=xe }
theorem W8 {X:Cx} {pins:List (Addr×Obj)} {σ:Sg} {H:Hp} {s:Shared} {xe:Value->Shared->Prop} (I:L2.Inv X pins σ H s):L2.Inv (XE X xe) pins σ H s:=
 ⟨⟨I.ok.mod,I.ok.kind,I.ok.glob,I.ok.blt,I.ok.above,I.ok.inj,I.ok.has,I.ok.cab,I.ok.hd,I.ok.frames,I.ok.stk,I.ok.exf,I.ok.bs,I.ok.bsz,I.ok.noex,I.ok.exfs,I.ok.funs,I.ok.frf⟩,I.os,I.bare,I.base,I.loc,I.cell,I.free,I.freeC,I.pin,I.hok,I.len⟩
theorem Ue {X:Cx} {pins:List (Addr×Obj)} {σ:Sg} {H:Hp} {s:Shared} {xe:Value->Shared->Prop} (I:L2.Inv (XE X xe) pins σ H s):L2.Inv X pins σ H s:=(W8 I:L2.Inv (XE (XE X xe) X.xe) pins σ H s)
theorem XO {X:Cx} {e:Expr} {t:TG} {xe:Value->Shared->Prop} (hx:X.xe=fun _ _=>False) (h:PG X e t):PG (XE X xe) e t:=fun pins s σ H v u Q I r q=>bB (h pins s σ H v u Q (Ue I) r q) (fun _ s' ⟨σ',H',I',q'⟩=>⟨σ',H',W8 I',q'⟩) fun e s' z=>by rw [hx] at z; exact z.elim
theorem V8 {X:Cx} {e:List Expr} {t:TT} {xe:Value->Shared->Prop} (hx:X.xe=fun _ _=>False) (h:PIf X e t):PIf (XE X xe) e t:=fun pins s σ H Q I q=>bB (h pins s σ H Q (Ue I) q) (fun _ s' ⟨H',I',q'⟩=>⟨H',W8 I',q'⟩) fun e s' z=>by rw [hx] at z; exact z.elim
theorem Wa {α:Type} {M:Model} {A:Around} {m:Sem α} {Q:α->Shared->Prop} {E E' :Value->Shared->Prop} {s:Shared} (hE:∀ e s',E' e s' ->E e s') (h:wpAny M A m Q E' s):wpAny M A m Q E s:=bB h (fun _ _ q=>q) hE
def yQ (J:It) (D:Addr) (g:TG) (tt:TT) (te:TE) (fin:Sg->Hp->Prop) (W:Nat->Nat->List V->Sg->Hp->Prop):Prop:=
 ∀ i m ys σ H,W i m ys σ H->H D=some (.lst ys)/\((J.stop i H/\fin σ H)\/(J.go i H/\∀ x H2,J.yld i H x H2->g x σ H2 fun σ3 H3=>tt σ3 H3 fun k H4=>
  if k=true then te σ3 H4 fun v H5=>H5 D=some (.lst ys)/\ys.length < sizeLine/\∃ m',m' < m/\W (i+1) m' (ys++[v]) σ3 (upd H5 D (.lst (ys++[v]))) else ∃ m',m' < m/\W (i+1) m' ys σ3 H4))
theorem Uf {X:Cx} {R:Result->Shared->Prop} (hx:∀ e s',X.xe e s' ->notedBy (model X.prog X.w) X.A X.env (fun e s' =>R (.error e) s') e s') (hc:X.calm=true) {tg iter elt:Expr} {ifs:List Expr} {scope:Scope} {pos:Pos} {J:It} {fp:List Addr} {it:Addr} {tn:Nat->Heap->Prop} (TJ:uI X.prog X.w X.K tg J fp it tn)
  {g:TG} {tt:TT} {te:TE} (hg:PG X tg g) (ht:PIf X ifs tt) (he:PE X elt te) {D:Addr} {fin:Sg->Hp->Prop} (W:Nat->Nat->List V->Sg->Hp->Prop) (turn:yQ J D g tt te fin W)
  (hR:∀ s σ H,L2.Inv X [] σ H s->fin σ H->R (.ok .next) s) {m0:Nat} {σ0:Sg} {H0:Hp} {s0:Shared} (w0:W 0 m0 [] σ0 H0) (I0:L2.Inv X [] σ0 H0 s0) (t0:tn 0 s0.heap) (f0:∀ b∈fp,ww X [] H0 b):
  codeAny (model X.prog X.w) X.A (.compLoop (.ListComp elt [⟨tg,iter,ifs,0⟩] scope pos) 0 (.ref it) (.ref D) X.env) R s0:=by
 have stat:∀ {H' :Hp},(∀ b∈fp,H' b=none)->∀ b∈fp,ww X [] H' b:=fun hn b hb=>⟨hn b hb,(f0 b hb).2⟩
 refine codeAny_loop rfl (fun n s' =>∃ i ys σ' H',L2.Inv X [] σ' H' s' /\tn i s'.heap/\(∀ b∈fp,H' b=none)/\W i n ys σ' H') (fun n s3 h3=> ?_) m0 ⟨0,[],σ0,H0,I0,t0,fun b hb=>(f0 b hb).1,w0⟩
 obtain ⟨i,ys,σ3,H3,I3,st3,fr3,w3⟩:=h3
 show wpAny _ X.A ((compTurn (.ListComp elt [⟨tg,iter,ifs,0⟩] scope pos) 0 (.ref it) (.ref D) X.env).onRaise (fun x=>do noteFrame x X.env; theTreesLotGoes x)) _ _ s3
 refine wpAny_noted ?_
 rw [compTurn_list]
 obtain ⟨hD,h⟩:=turn i n ys σ3 H3 w3
 rcases h with ⟨stop,qn⟩ | ⟨go,next⟩
 ·refine aa (wpAny_standAt (aa (thn (TJ.done X rfl rfl rfl hc i [] s3 σ3 H3 _ I3 (stat fr3) st3 stop) fun r s4 ⟨hr,I4⟩=> ?_)))
  subst hr
  exact aq (hR s4 σ3 H3 I4 qn)
 ·refine aa (wpAny_standAt (aa (thn (TJ.item X rfl rfl rfl hc i [] s3 σ3 H3 _ I3 (stat fr3) st3 go) fun r s4 ⟨u,hr,h4⟩=> ?_)))
  subst hr
  refine aa (thn h4 fun _ s5 ⟨x,H5,I5,r5,y5,st5,fr5⟩=> ?_)
  have I5' :=I5.pinned (stat fr5) (TJ.obj _ _ st5)
  refine aa (Wa hx (thn (hg _ s5 σ3 H5 x u _ I5' r5 (next x H5 y5)) fun _ s6 ⟨σ6,H6,I6,q6⟩=> ?_))
  have again:∀ {σ7:Sg} {H7:Hp} {s7:Shared} {ys' :List V},L2.Inv X ([]++JK fp s5.heap) σ7 H7 s7->(∃ m',m' < n/\W (i+1) m' ys' σ7 H7)->∃ m,m < n/\∃ i ys σ' H',L2.Inv X [] σ' H' s7/\tn i s7.heap/\(∀ b∈fp,H' b=none)/\W i m ys σ' H' :=fun {σ7 H7 s7 ys'} I7 ⟨m',hm,w7⟩=>by
   refine ⟨m',hm,i+1,ys',σ7,H7,I7.unpinned,TJ.keep _ _ _ st5 fun b hb o e=>(I7.pin (b,o) (aM _ (aM _ (ZF hb e)))).1,fun b hb=> ?_,w7⟩
   obtain ⟨o,e,d⟩:=TJ.obj _ _ st5 b hb
   exact (I7.pin (b,o) (aM _ (aM _ (ZF hb e)))).2.1
  refine aa (Wa hx (thn (ht _ s6 σ6 H6 _ I6 q6) fun k s7 ⟨H7,I7,q7⟩=> ?_))
  cases k with
  | false=>exact aq ⟨rfl,again I7 q7⟩
  | true=>
   refine aa (aa (Wa hx (thn (he _ s7 σ6 H7 _ I7 q7) fun v s8 ⟨y,H8,I8,r8,hD8,hlen,q8⟩=> ?_)))
   refine aa (Wa hx (thn (JU _ s8 σ6 H8 (.ref D) [y] (.ref D) [v] (fun _ H9=>∃ m',m' < n/\W (i+1) m' (ys++[y]) σ6 H9) I8 rfl (.cons r8 .nil) ⟨D,ys,y,rfl,rfl,hD8,hlen,q8⟩) fun w s9 ⟨_,H9,I9,_,q9⟩=> ?_))
   exact aq (aq ⟨rfl,again I9 q9⟩)
def Wb (k:Nat) (js:List Nat) (σ:Sg):Sg:=ad k none++js.map fun j=>(σ[j]?).getD none
section
variable {X:Cx}
abbrev QP (X:Cx) (scope:Scope) (N' :List Str) (P:Cx->Prop):Prop:=∀ cl C s3 H3 fp pins,P (cxC X scope N' cl C s3 H3 fp pins)
abbrev XQ (X:Cx) (scope:Scope) (N' :List Str) (E:XK) (P:Cx->Prop):Prop:=∀ cl C s3 H3 fp pins xe,Zb (CX1 X.prog X.w) (XE (cxC X scope N' cl C s3 H3 fp pins) xe) E->P (XE (cxC X scope N' cl C s3 H3 fp pins) xe)
structure V9 (X:Cx) (scope:Scope) (N' :List Str) (k:Nat) (js:List Nat):Prop where
 len:N'.length=k+js.length
 cap:∀ (i j:Nat),js[i]? =some j->∃ x,N'[k+i]? =some x/\X.N[j]? =some x/\Vis X.env.scope x/\scope.names.lookup x=some .free/\(X.env.kindOf x=some .cell\/X.env.kindOf x=some .free)
theorem Wc {E:XK} (hp:vD X E) {tg iter elt:Expr} {ifs:List Expr} {scope:Scope} {pos pos' :Pos} {N' :List Str} {k:Nat} {js:List Nat} {wi:TI} {g:TG} {tt:TT} {te:TE} {use:Option (Value->Sem Unit)} (S:CSc X scope) (CP:V9 X scope N' k js) (hc:X.calm=true)
  (hi:PI X tg iter wi) (hg:QP X scope N' fun XC=>PG XC tg g) (ht:QP X scope N' fun XC=>PIf XC ifs tt) (he:XQ X scope N' E fun XC=>PE XC elt te) {pins:List (Addr×Obj)} {σ:Sg} {H:Hp} {s:Shared} {Q:Value->Shared->Prop} {F:Addr->Hp->Prop} (I:L2.Inv X pins σ H s)
  (h:wi σ H fun J H1=>∀ D,H1 D=none->∃ W,(∃ m,W 0 m [] (Wb k js σ) (upd H1 D (.lst [])))/\yQ J D g tt te (fun _ H' =>F D H') W)
  (hQ:∀ D C H' s',L2.Inv X pins σ H' s' ->F D H' ->H' C=none->(X.s₀.heap.objs.size<=C)->C ≠ X.env.locals->(∀ x c,X.env.cells.lookup x=some c->c ≠ C)->(∀ p∈X.pn++pins,p.1 ≠ C)->(∃ m,s'.heap.Ns C m)->compPost (model X.prog X.w) X.A X.xe use Q (.ref D) C (.ok .next) s')
  (hs:∀ x,foldedSetIterable iter X.env x=pure x:=by intro _; rfl):
  wpAny (model X.prog X.w) X.A (comprehension (.ListComp elt [⟨tg,iter,ifs,0⟩] scope pos) scope X.env pos' (newList []) false (eval iter X.env) use) Q X.xe s:=by
 obtain ⟨cl,ecl,hcl,hcf⟩:=Uc (scope:=scope) (env:=X.env) fun x hx hf=>I.ok.has x.1 (S.fre x hx hf)
 refine wpAny_comprehension_free rfl hs ecl S.kind S.loc ?_
 refine thn (hi pins s σ H _ I h) fun v s1 h1=>thn h1 fun itv s2 h2=> ?_
 obtain ⟨it,fp,tn,J,H2,e,I2,TJ,st2,f2,q2⟩:=h2
 subst e
 refine bu ?_
 have hD:H2 s2.heap.objs.size=none:=I2.hok.fresh (ag _)
 have I3:L2.Inv X pins σ (upd H2 s2.heap.objs.size (.lst [])) { s2 with heap:=s2.heap.push { cls:= .type "list",data:= .seq ([]:List Value).toArray } }:=
  I2.laid (t' :=s2.toks) (fun b u e=>ae _ e) (ag _) ⟨bI _,[],_, .nil,af _ rfl⟩
 obtain ⟨W,⟨m0,w0⟩,turn⟩:=q2 s2.heap.objs.size hD
 have f3:∀ b∈fp,ww X pins (upd H2 s2.heap.objs.size (.lst [])) b:=fun b hb=>by
  obtain ⟨o,eo,_⟩:=TJ.obj _ _ st2 b hb
  exact ⟨by rw [zi (az (ai eo))]; exact (f2 b hb).1,(f2 b hb).2⟩
 have o3:∀ b∈fp,∃ o,(s2.heap.push { cls:= .type "list",data:= .seq ([]:List Value).toArray }).get? b=some o:=fun b hb=>by
  obtain ⟨o,eo,_⟩:=TJ.obj _ _ st2 b hb
  exact ⟨o,ae _ eo⟩
 refine wpAny_newFunctionEnv S.nocell (by intro y hy; simp at hy) (fun h4 hns4 hsb4=> ?_) S.kind
 generalize hG:s2.heap.push { cls:= .type "list",data:= .seq ([]:List Value).toArray }=G3 at I3 o3 hns4 hsb4 ⊢
 dsimp only at hns4 hsb4 ⊢
 have s3e:∃ s3:Shared,s3={ s2 with heap:=G3 }:=⟨_,rfl⟩
 obtain ⟨s3,es3⟩:=s3e
 have hh3:s3.heap=s2.heap.push { cls:= .type "list",data:= .seq ([]:List Value).toArray }:=by rw [es3,hG]
 have hg3:G3=s3.heap:=by rw [es3]
 rw [← es3] at I3
 have ht3:s2.toks=s3.toks:=by rw [es3]
 rw [hg3] at hns4 hsb4 o3
 have k4:∀ b o,s3.heap.get? b=some o->h4.get? b=some o:=fun b o e=>hsb4.extBut b o (az (ai e)) (ae _ e)
 have IC:=Ud (N' :=N') (cl:=cl) (fp:=fp) (σ' :=Wb k js σ) (tk:=s3.toks+([]:List (Str×Value)).length) I3 S hc hcl hcf f3 o3 hns4 k4 (by unfold Wb; simp [CP.len]) (fun i x v h1 h2=>by
  unfold Wb at h2
  by_cases hik:i < k
  ·rw [aS (by simpa using hik),aC,if_pos hik] at h2
   cases h2
  ·have hk' :k<=i:=by omega
   rw [aP (by simpa using hk'),aU,aj] at h2
   cases ej:js[i - k]? with
   | none=>rw [ej] at h2; cases h2
   | some j=>
    rw [ej] at h2
    obtain ⟨y,e1,e2,e3,e4,e5⟩:=CP.cap (i - k) j ej
    have:k+(i - k)=i:=by omega
    rw [this,h1] at e1
    cases e1
    refine ⟨j,e2, ?_,e3,e4,e5⟩
    have h2' :some ((σ[j]?).getD none)=some (some v):=h2
    cases ez:σ[j]? with
    | none=>rw [ez] at h2'; cases h2'
    | some z=>rw [ez] at h2'; exact congrArg some (aI h2'))
 have TC:uI (cxC X scope N' cl s3.heap.objs.size s3 (upd H2 s2.heap.objs.size (.lst [])) fp pins).prog (cxC X scope N' cl s3.heap.objs.size s3 (upd H2 s2.heap.objs.size (.lst [])) fp pins).w (cxC X scope N' cl s3.heap.objs.size s3 (upd H2 s2.heap.objs.size (.lst [])) fp pins).K tg J fp it tn:=TJ
 have t4:tn 0 h4:=TJ.keep _ _ _ st2 fun b hb o e=>k4 b o (by rw [hh3]; exact ae _ e)
 have fC:∀ b∈fp,ww (cxC X scope N' cl s3.heap.objs.size s3 (upd H2 s2.heap.objs.size (.lst [])) fp pins) [] (upd H2 s2.heap.objs.size (.lst [])) b:=fun b hb=>by
  obtain ⟨q0,q1,q2,q3,q4,q5⟩:=f3 b hb
  obtain ⟨o,eo⟩:=o3 b hb
  refine ⟨q0,az (ai eo),fun hb' => ?_, .inl hb,fun x c e=>q4 x c (hcl _ _ e),fun p hp=> ?_⟩
  ·rcases ax.mp (I3.stkSub b hb') with z | z
   ·exact q1 z
   ·exact q2 z
  ·exact q5 p (by
    have:p∈(X.pn++pins)++[]:=hp
    rwa [bz] at this)
 have fin:∀ (s5:Shared) (σ5:Sg) (H5:Hp),L2.Inv (cxC X scope N' cl s3.heap.objs.size s3 (upd H2 s2.heap.objs.size (.lst [])) fp pins) [] σ5 H5 s5->F s2.heap.objs.size H5->compPost (model X.prog X.w) X.A X.xe use Q (.ref s2.heap.objs.size) s3.heap.objs.size (.ok .next) s5:=fun s5 σ5 H5 I5 q5=>by
  have J5:L2.Inv X pins σ H5 s5:=I3.call' (ch:=fp) I5.os I5.base I5.hok I5.bare fun b hb=>by
   obtain ⟨q0,q1,q2,q3,q4,q5⟩:=f3 b hb
   exact ⟨q3,q1,q4,q5⟩
  refine hQ _ _ H5 s5 J5 q5 I5.free I3.sz (cW I3.lt) (fun x c e z=> ?_) (fun p hp z=> ?_) (let ⟨m,hm,_⟩:=I5.loc; ⟨m,hm⟩)
  ·obtain ⟨v',o,eo,_⟩:=I3.cell x c e
   exact absurd (ai eo) (by rw [z]; exact bx _)
  ·exact absurd (ai (I3.pin p hp).1) (by rw [z]; exact bx _)
 have pass:Zb (CX1 X.prog X.w) (XE (cxC X scope N' cl s3.heap.objs.size s3 (upd H2 s2.heap.objs.size (.lst [])) fp pins) (notedBy (model X.prog X.w) X.A (compEnvC scope cl s3.heap.objs.size X.env) fun e s' =>compPost (model X.prog X.w) X.A X.xe use Q (.ref s2.heap.objs.size) s3.heap.objs.size (.error e) s')) E:=by
  intro pins1 σ1 H1 s1 e s' I1 c1
  have J1:L2.Inv X pins σ H1 s1:=I3.call' (ch:=fp) I1.os I1.base I1.hok I1.bare fun b hb=>by
   obtain ⟨q0,q1,q2,q3,q4,q5⟩:=f3 b hb
   exact ⟨q3,q1,q4,q5⟩
  obtain ⟨m1,hm1,_⟩:=I1.loc
  refine thn (hp pins σ H1 s1 e s' s3.heap.objs.size m1 _ (compEnvC scope cl s3.heap.objs.size X.env) J1 hm1 I1.free I3.sz (fun z=> ?_) rfl c1) fun _ s'' q=> ?_
  ·obtain ⟨_,o,eo,_⟩:=I3.stack.mem z
   exact absurd (ai eo) (bx _)
  ·cases use <;> exact q
 have loop:=Uf (X:=XE (cxC X scope N' cl s3.heap.objs.size s3 (upd H2 s2.heap.objs.size (.lst [])) fp pins) (notedBy (model X.prog X.w) X.A (compEnvC scope cl s3.heap.objs.size X.env) fun e s' =>compPost (model X.prog X.w) X.A X.xe use Q (.ref s2.heap.objs.size) s3.heap.objs.size (.error e) s')) (iter:=iter) (scope:=scope) (pos:=pos) (R:=compPost (model X.prog X.w) X.A X.xe use Q (.ref s2.heap.objs.size) s3.heap.objs.size) (fun _ _ z=>z) hc TC (XO rfl (hg _ _ _ _ _ _)) (V8 rfl (ht _ _ _ _ _ _)) (he _ _ _ _ _ _ _ pass) W turn (fun s5 σ5 H5 I5=>fin s5 σ5 H5 (Ue I5)) w0 (W8 IC) t4 fC
 rw [es3] at loop
 exact codeAny_compStart_list loop (TJ.self _ _ _ _ _ t4 loop)
end
def zR (g:T->En->R En) (ft:En->R Bool) (fe:En->R T):List T->En->R (List T)
 | [],_=> .ok []
 | t :: ts,ρ=>(g t ρ).bind fun ρ1=>(ft ρ1).bind fun k=>if k=true then (fe ρ1).bind fun v=>(zR g ft fe ts ρ1).bind fun vs=> .ok (v :: vs) else zR g ft fe ts ρ1
def yR:Option Sl->Sl
 | some (.vl t)=> .vl t
 | _=> .un
def jW (k:Nat) (js:List Nat) (ρ:En):En:=ad k .un++js.map fun j=>yR ρ[j]?
def quiet {α:Type}:R α->R α
 | .ok a=> .ok a
 | _=> .bad
def Zi (g:T->En->R En) (ft:En->R Bool) (fe:En->R T) (k:Nat) (js:List Nat) (ρ:En) (ts:List T):R (List T):=if ts.length<=bnd then quiet (zR g ft fe ts (jW k js ρ)) else .bad
def zZ (fi:En->R (List T)) (g:T->En->R En) (ft:En->R Bool) (fe:En->R T) (k:Nat) (js:List Nat):En->R T:=fun ρ=>(fi ρ).bind fun ts=>(Zi g ft fe k js ρ ts).bind fun vs=> .ok (.lst vs)
def GOk (tG:TG) (g:T->En->R En):Prop:=∀ Y B ρ σ H v x Q,SI Y B ρ σ H->Rep B v x->(match g x ρ with | .ok ρ' =>∀ σ',SI Y B ρ' σ' H->Q σ' H | _=>False)->tG v σ H Q
theorem zL (i:Nat):GOk (JJ i) (zY i):=fun Y B ρ σ H v x Q I r q=>q _ (I.setV i r)
theorem Wd (K:ac) (i j:Nat):GOk (X0 K 2 (uG (JJ i) (uG (JJ j) xZ))) (Z6 i j):=fun Y B ρ σ H v t Q I r q=>by
 cases r with
 | @tup l xs ts h r=>
  cases r with
  | nil=>exact q.elim
  | cons r1 rr=>
   cases rr with
   | nil=>exact q.elim
   | cons r2 rr=>
    cases rr with
    | cons _ _=>exact q.elim
    | nil=>exact ⟨l,_,rfl,SqT.of (I.sB _ _ h),rfl,_,_,rfl,_,_,rfl,rfl,q _ ((I.setV i r1).setV j r2)⟩
 | _=>exact q.elim
theorem SI.blockS {Y:Fx} {B:Hp} {ρ:En} {σ:Sg} {H H' :Hp} (I:SI Y B ρ σ H) (k:Nat) (js:List Nat) (E:XK) (s:zm H H'):SI ⟨B,H,E,Y.cl⟩ B (jW k js ρ) (Wb k js σ) H' where
 s0:=I.sB
 sH:=s
 sB:=I.sB.trans s
 old:=fun _ _ _=>rfl
 len:=by unfold jW Wb; simp
 vl:=fun i t h=>by
  unfold jW at h
  unfold Wb
  by_cases hik:i < k
  ·rw [aS (by simpa using hik),aC,if_pos hik] at h; cases h
  ·have hk' :k<=i:=by omega
   rw [aP (by simpa using hk'),aU,aj] at h ⊢
   cases ej:js[i - k]? with
   | none=>rw [ej] at h; cases h
   | some j=>
    rw [ej] at h
    have h' :yR ρ[j]? = .vl t:=aI h
    unfold yR at h'
    split at h'
    ·rename_i u e
     cases h'
     obtain ⟨v,e1,r⟩:=I.vl j _ e
     exact ⟨v,by show some ((σ[j]?).getD none)=_; rw [e1]; rfl,r⟩
    ·cases h'
 ow:=fun i ts h=>by
  exfalso
  unfold jW at h
  by_cases hik:i < k
  ·rw [aS (by simpa using hik),aC,if_pos hik] at h; cases h
  ·have hk' :k<=i:=by omega
   rw [aP (by simpa using hk'),aU,aj] at h
   cases ej:js[i - k]? with
   | none=>rw [ej] at h; cases h
   | some j=>
    rw [ej] at h
    have h' :yR ρ[j]? = .ow ts:=aI h
    unfold yR at h'
    split at h' <;> cases h'
 xc:=fun i c h=>by
  exfalso
  unfold jW at h
  by_cases hik:i < k
  ·rw [aS (by simpa using hik),aC,if_pos hik] at h; cases h
  ·have hk' :k<=i:=by omega
   rw [aP (by simpa using hk'),aU,aj] at h
   cases ej:js[i - k]? with
   | none=>rw [ej] at h; cases h
   | some j=>
    rw [ej] at h
    have h' :yR ρ[j]? = .xc c:=aI h
    unfold yR at h'
    split at h' <;> cases h'
theorem SI.block {Y:Fx} {B:Hp} {ρ:En} {σ:Sg} {H H3:Hp} {D:Addr} (I:SI Y B ρ σ H) (k:Nat) (js:List Nat) (E:XK) (hD:H D=none) (o:HO):SI ⟨B,H,E,Y.cl⟩ B (jW k js ρ) (Wb k js σ) (upd H D o):=I.blockS k js E (zm.new hD _)
theorem SI.acc {Y:Fx} {B:Hp} {ρ:En} {σ:Sg} {H:Hp} {D:Addr} (I:SI Y B ρ σ H) (hb:B D=none) (h0:Y.H0 D=none) (ho:∀ (i:Nat) (ts:List T),ρ[i]? =some (Sl.ow ts)->σ[i]? ≠ some (some (V.ref D))) (o:HO):SI Y B ρ σ (upd H D o) where
 s0:=I.s0
 sH:=fun b u h=>by
  rw [zi (fun z=>by subst z; rw [h0] at h; cases h)]; exact I.sH b u h
 sB:=fun b u h=>by
  rw [zi (fun z=>by subst z; rw [hb] at h; cases h)]; exact I.sB b u h
 old:=I.old
 len:=I.len
 vl:=I.vl
 ow:=fun i ts h=>by
  obtain ⟨a,xs,e,b0,h0',hh,r,d⟩:=I.ow i ts h
  refine ⟨a,xs,e,b0,h0', ?_,r,d⟩
  rw [zi (fun z=>ho i ts h (by rw [e,z]))]; exact hh
 xc:=I.xc
def qV (ρ:En):Prop:=∀ (i:Nat) (ts:List T),ρ[i]? ≠ some (Sl.ow ts)
theorem yS (k:Nat) (js:List Nat) (ρ:En):qV (jW k js ρ):=fun i ts h=>by
 unfold jW at h
 by_cases hik:i < k
 ·rw [aS (by simpa using hik),aC,if_pos hik] at h; cases h
 ·have hk' :k<=i:=by omega
  rw [aP (by simpa using hk'),aU,aj] at h
  cases ej:js[i - k]? with
  | none=>rw [ej] at h; cases h
  | some j=>
   rw [ej] at h
   have h' :yR ρ[j]? = .ow ts:=aI h
   unfold yR at h'
   split at h' <;> cases h'
theorem Jn {ρ:En} {i:Nat} {t:T} (h:qV ρ):qV (ρ.set i (.vl t)):=fun j ts e=>by
 rcases zN e with ⟨_,z⟩ | ⟨_,z⟩
 ·cases z
 ·exact h j ts z
def GNo (g:T->En->R En):Prop:=(∀ t ρ ρ',qV ρ->g t ρ= .ok ρ' ->qV ρ')/\∀ t ρ c,g t ρ ≠ .ex c
theorem zM (i:Nat):GNo (zY i):=⟨fun t ρ ρ' h e=>by
 cases e; exact Jn h,fun t ρ c e=>by cases e⟩
theorem We (i j:Nat):GNo (Z6 i j):=⟨fun t ρ ρ' h e=>(by
 unfold Z6 at e
 split at e
 ·cases e; exact Jn (Jn h)
 ·cases e),fun t ρ c e=>by unfold Z6 at e; split at e <;> cases e⟩
section
variable {X:Cx} {Y:Fx} {tg iter elt:Expr} {ifs:List Expr} {scope:Scope} {pos pos' :Pos} {N' :List Str} {k:Nat} {js:List Nat} {fi:En->R (List T)} {tG:TG} {g:T->En->R En} {ft:En->R Bool} {fe:En->R T}
structure u0 (X:Cx) (Y:Fx) (ifs:List Expr) (f:En->R Bool):Prop where
 mk ::
 go:∀ ρ,PIf X ifs (tS Y rE f ρ)
instance {X:Cx} {Y:Fx} {ifs:List Expr} {f:En->R Bool}:CoeFun (u0 X Y ifs f) fun _=>∀ ρ,PIf X ifs (tS Y rE f ρ):=⟨u0.go⟩
theorem PIf.imp {X:Cx} {e:List Expr} {t t' :TT} (h:PIf X e t) (i:∀ σ H Q,t' σ H Q->t σ H Q):PIf X e t' :=fun pins s σ H Q I q=>h pins s σ H Q I (i σ H Q q)
def Zz:En->R Bool:=fun _=> .ok true
theorem Va {X:Cx}:u0 X Y [] Zz:= .mk fun ρ=>PIf.imp qU fun σ H Q ⟨B,I,q⟩=>Za I q rfl
def gS (r:R (List T)) (P:List T->Prop) (Z:Nat->Prop):Prop:=match r with
 | .ok vs=>P vs
 | .ex c=>Z c
 | .bad=>False
theorem ua {B1 H1:Hp} {σ:Sg} {ρ:En} {J:It} {ts:List T} {r:R (List T)} {D:Addr} {E0:XK} (hG:GOk tG g) (hN:GNo g) (I:SI Y B1 ρ σ H1) (rI' :rI B1 H1 J ts) (hl:ts.length<=bnd) (ev:zR g ft fe ts (jW k js ρ)=r) (hD:H1 D=none) {F:Hp->Prop}
  (hF:gS r (fun vs=>∀ H' xs B',zm H1 H' ->H' D=some (.lst xs)->zq B' xs vs->zm B' (zr B1 H1 H')->B' D=none->zm B1 B' ->F H') fun c=>∀ d H',zm H1 H' ->zm B1 H' ->E0 (Y.cl c) d H'):
  ∃ W,(∃ m,W 0 m [] (Wb k js σ) (upd H1 D (.lst [])))/\yQ J D tG (fun σ H Q=>∃ Y' ρ',Y'.cl=Y.cl/\tS Y' rE ft ρ' σ H Q) (fun σ H Q=>∃ Y' ρ',Y'.cl=Y.cl/\Y'.E=E0/\tS Y' rC fe ρ' σ H Q) (fun _ H' =>F H') W:=by
 refine ⟨fun i m ys σ' H' =>m=ts.length - i/\i<=ts.length/\ys.length<=i/\H' D=some (.lst ys)/\∃ ρ' B' us,SI ⟨B1,H1,E0,Y.cl⟩ B' ρ' σ' H' /\qV ρ' /\zm B1 B' /\B' D=none/\zq B' ys us/\((zR g ft fe (ts.drop i) ρ').bind fun ws=> .ok (us++ws))=r,
  ⟨ts.length,by simp,bI _,bI _,zl,_,B1,[],I.block (H3:=H1) k js _ hD _,yS k js ρ,zm.refl _,I.sB.free hD, .nil,by rw [List.drop_zero,ev]; cases r <;> rfl⟩, ?_⟩
 rintro i m ys σ' H' ⟨rfl,hi,hyl,hDl,ρ',B',us,I',no',s1',bD,r',ew⟩
 refine ⟨hDl, ?_⟩
 obtain ⟨hgo,hyld,hstop⟩:=rI' B' H' s1' I'.sB
 have tD:∀ H2,zm H' H2->zr B' H' H2 D=none:=fun H2 s=>by rw [zI hDl]; exact bD
 by_cases hlt:i < ts.length
 ·refine .inr ⟨hgo i hlt,fun x H2 y=> ?_⟩
  obtain ⟨s2,r2⟩:=hyld i _ x H2 (aw hlt) y
  rw [dQ hlt] at ew
  unfold zR at ew
  have I2:=I'.grow s2
  refine hG _ _ ρ' σ' H2 x _ _ I2 r2 ?_
  cases eg:g ts[i] ρ' with
  | bad=>rw [eg] at ew; subst ew; exact hF
  | ex c=>exact (hN.2 _ _ _ eg).elim
  | ok ρ1=>
   rw [eg] at ew
   have no1:qV ρ1:=hN.1 _ _ _ no' eg
   intro σ1 J1
   refine ⟨⟨B1,H1,E0,Y.cl⟩,ρ1,rfl,_,J1, ?_⟩
   have ew1:((ft ρ1).bind (fun k=>if k=true then (fe ρ1).bind fun v=>(zR g ft fe (ts.drop (i+1)) ρ1).bind fun vs=> .ok (v :: vs) else zR g ft fe (ts.drop (i+1)) ρ1)).bind (fun ws=> .ok (us++ws))=r:=ew
   cases ef:ft ρ1 with
   | bad=>rw [ef] at ew1; subst ew1; exact hF
   | ex c=>
    rw [ef] at ew1; subst ew1
    exact fun d H' a b=>hF d H' a ((s1'.trans (zr.ge I'.sB s2)).trans b)
   | ok kk=>
    rw [ef] at ew1
    intro b H3 s3 eb
    have eb' :b=kk:=eb
    subst eb'
    have ew2:(if b=true then (fe ρ1).bind fun v=>(zR g ft fe (ts.drop (i+1)) ρ1).bind fun vs=> .ok (v :: vs) else zR g ft fe (ts.drop (i+1)) ρ1).bind (fun ws=> .ok (us++ws))=r:=ew1
    have J2:=J1.grow s3
    have hD3:H3 D=some (.lst ys):=s3 _ _ (s2 _ _ hDl)
    have bD3:zr (zr B' H' H2) H2 H3 D=none:=by rw [zI (s2 _ _ hDl)]; exact tD H2 s2
    have sB3:zm B' (zr (zr B' H' H2) H2 H3):=(zr.ge I'.sB s2).trans (zr.ge I2.sB s3)
    cases b with
    | false=>exact ⟨ts.length - (i+1),by omega,rfl,hlt,by omega,hD3,ρ1,_,us,J2,no1,s1'.trans sB3,bD3,r'.mono sB3,ew2⟩
    | true=>
     refine ⟨⟨B1,H1,E0,Y.cl⟩,ρ1,rfl,rfl,_,J2, ?_⟩
     have ew3:((fe ρ1).bind (fun v=>(zR g ft fe (ts.drop (i+1)) ρ1).bind fun vs=> .ok (v :: vs))).bind (fun ws=> .ok (us++ws))=r:=ew2
     cases ee:fe ρ1 with
     | bad=>rw [ee] at ew3; subst ew3; exact hF
     | ex c=>
      rw [ee] at ew3; subst ew3
      exact fun d H' a b=>hF d H' a ((s1'.trans sB3).trans b)
     | ok v=>
      rw [ee] at ew3
      have ew4:((zR g ft fe (ts.drop (i+1)) ρ1).bind (fun vs=> .ok (v :: vs))).bind (fun ws=> .ok (us++ws))=r:=ew3
      have ew5:(zR g ft fe (ts.drop (i+1)) ρ1).bind (fun ws=> .ok ((us++[v])++ws))=r:=by
       rw [← ew4]
       cases zR g ft fe (ts.drop (i+1)) ρ1 with
       | ok ws=>show R.ok _=R.ok _; rw [db]; rfl
       | _=>rfl
      intro w H4 s4 rw4
      have hD4:H4 D=some (.lst ys):=s4 _ _ hD3
      have J3:=J2.grow s4
      have bD4:zr (zr (zr B' H' H2) H2 H3) H3 H4 D=none:=by rw [zI hD3]; exact bD3
      have sB4:=sB3.trans (zr.ge J2.sB s4)
      refine ⟨hD4,ay (dN hyl hlt) (zS hl),ts.length - (i+1),by omega,rfl,hlt,by rw [aF,aJ]; omega,zl,ρ1,_,us++[v], ?_,no1,s1'.trans sB4,bD4,(r'.mono sB4).append (.cons rw4 .nil),ew5⟩
      exact J3.acc bD4 hD (fun j ts' e=>(no1 j ts' e).elim) _
 ·have e:i=ts.length:=by omega
  subst e
  refine .inl ⟨hstop _ (ag _), ?_⟩
  rw [fO] at ew
  have ew' :R.ok (us++[])=r:=ew
  rw [bz] at ew'
  subst ew'
  refine hF H' ys B' I'.sH hDl r' (fun b o h=> ?_) bD s1'
  cases q:H1 b with
  | none=>rw [zC q]; exact I'.sB b o h
  | some u=>
   rw [zI q]
   have z:B' b=B1 b:=I'.old b u q
   rw [← z]; exact h
theorem w4 {B1 H1:Hp} {σ:Sg} {ρ:En} {J:It} {ts vs:List T} {D:Addr} (hG:GOk tG g) (hN:GNo g) (I:SI Y B1 ρ σ H1) (rI' :rI B1 H1 J ts) (hl:ts.length<=bnd) (ev:zR g ft fe ts (jW k js ρ)= .ok vs) (hD:H1 D=none) {F:Hp->Prop}
  (hF:∀ H' xs B',zm H1 H' ->H' D=some (.lst xs)->zq B' xs vs->zm B' (zr B1 H1 H')->B' D=none->zm B1 B' ->F H'):
  ∃ W,(∃ m,W 0 m [] (Wb k js σ) (upd H1 D (.lst [])))/\yQ J D tG (fun σ H Q=>∃ Y' ρ',Y'.cl=Y.cl/\tS Y' rE ft ρ' σ H Q) (fun σ H Q=>∃ Y' ρ',Y'.cl=Y.cl/\(Y'.E=fun _ _ _=>False)/\tS Y' rC fe ρ' σ H Q) (fun _ H' =>F H') W:=ua hG hN I rI' hl ev hD hF
structure Ug (X:Cx) (Y:Fx) (tg iter elt:Expr) (ifs:List Expr) (scope:Scope) (N' :List Str) (k:Nat) (js:List Nat) (fi:En->R (List T)) (tG:TG) (g:T->En->R En) (ft:En->R Bool) (fe:En->R T):Prop where
 sc:CSc X scope
 cp:V9 X scope N' k js
 cm:X.calm=true
 it:uw X Y tg iter fi
 gt:QP X scope N' fun XC=>PG XC tg tG
 gk:GOk tG g
 gn:GNo g
 tt:∀ Y',Y'.cl=Y.cl->QP X scope N' fun XC=>u0 XC Y' ifs ft
 el:∀ Y',Y'.cl=Y.cl->XQ X scope N' Y'.E fun XC=>Snd XC Y' elt fe
 hs:∀ x,foldedSetIterable iter X.env x=pure x
theorem Zp (C:Ug X Y tg iter elt ifs scope N' k js fi tG g ft fe):Snd X Y (.ListComp elt [⟨tg,iter,ifs,0⟩] scope pos) (zZ fi g ft fe k js):= .mk fun ρ=>by
 intro pins s σ H Q I ⟨B,J,q⟩
 rw [eval_ListComp]
 refine Wc (jV rfl) (use:=none) (Q:=EP X pins σ Q) (F:=fun D H' =>Q (.ref D) H') (te:=fun σ H Q=>∃ Y' ρ',Y'.cl=Y.cl/\(Y'.E=fun _ _ _=>False)/\tS Y' rC fe ρ' σ H Q) (tt:=fun σ H Q=>∃ Y' ρ',Y'.cl=Y.cl/\tS Y' rE ft ρ' σ H Q) C.sc C.cp C.cm (C.it ρ) C.gt
  (fun cl Cx' s3 H3 fp pins pins' s σ H Q I ⟨Y',ρ',ey,q⟩=>C.tt Y' ey cl Cx' s3 H3 fp pins ρ' pins' s σ H Q I q) (fun cl Cx' s3 H3 fp pins xe hp pins' s σ H Q I ⟨Y',ρ',ey,eE,q⟩=>C.el Y' ey cl Cx' s3 H3 fp pins xe (eE ▸ hp) ρ' pins' s σ H Q I q) I ?_ ?_ C.hs
 ·refine step J q fun ts it' H1 _ s1 r1 J1 q1=> ?_
  intro D hD
  unfold Zi at q1
  split at q1
  ·rename_i hl
   cases ev:zR g ft fe ts (jW k js ρ) with
   | bad=>rw [ev] at q1; exact q1.elim
   | ex c=>rw [ev] at q1; exact q1.elim
   | ok vs=>
    rw [ev] at q1
    refine w4 C.gk C.gn J1 r1 hl ev hD fun H' xs B' s' e' r' l' b' sb' => ?_
    refine (show Po Y rC _ H1 (.ok (.lst vs)) Q from q1) (.ref D) H' s' ?_
    exact .lst (by rw [zC hD]; exact e') (r'.mono l')
  ·exact q1.elim
 ·intro D Cc H' s' I' q' hC h0 hL hcell hpin hns
  obtain ⟨m,hm⟩:=hns
  refine ⟨m,hm,fun h' hsb=>⟨.ref D,H', ?_,rfl,q'⟩⟩
  exact I'.turned (t' :=s'.toks) (fun b o hb e=>hsb.extBut b o hb e) hC (c6 hL).symm (.inr h0) hcell hpin
end
section
variable {X:Cx} {Y:Fx} {tg iter elt:Expr} {ifs:List Expr} {scope:Scope} {pos pos' :Pos} {N' :List Str} {k:Nat} {js:List Nat} {fi:En->R (List T)} {tG:TG} {g:T->En->R En} {ft:En->R Bool} {fe:En->R T}
theorem Vb {i:Nat} {x:Str} {pc p' :Pos} (C:Ug X Y tg iter elt ifs scope N' k js fi tG g ft fe) (hN:X.N.Nodup) (hi:X.N[i]? =some x) (hx:L2.Loc X.env.scope x)
  (hsw:swapsWith (.ListComp elt [⟨tg,iter,ifs,0⟩] scope pc) (some (.Name x p')) pos.line X.env=pure true) (hf:X.fn x=true\/X.env.scope.names.lookup x=some .local:=by first | exact .inl rfl | exact .inr rfl | assumption):
  JZ X Y (.Assign [.Name x p'] (.ListComp elt [⟨tg,iter,ifs,0⟩] scope pc) pos) (zF i (zZ fi g ft fe k js)):= .mk fun ρ=>by
 intro pins s σ H D I ⟨B,J,q⟩
 rw [exec_Assign_Name_used _ _ _ _ hsw]
 refine aa (wpAny_standAt (aa ?_))
 show wpAny _ X.A (do let _ ← comprehension (.ListComp elt [⟨tg,iter,ifs,0⟩] scope pc) scope X.env _ (newList []) false (eval iter X.env) (some (assign (.Name x p') X.env))) _ _ s
 refine aa (thn (Wc (jV rfl) (use:=some (assign (.Name x p') X.env)) (Q:=fun _ s' =>SP X pins D .next s') (F:=fun D' H' =>D.nx (σ.set i (some (.ref D'))) H') (te:=fun σ H Q=>∃ Y' ρ',Y'.cl=Y.cl/\(Y'.E=fun _ _ _=>False)/\tS Y' rC fe ρ' σ H Q) (tt:=fun σ H Q=>∃ Y' ρ',Y'.cl=Y.cl/\tS Y' rE ft ρ' σ H Q) C.sc C.cp C.cm (C.it ρ) C.gt
  (fun cl Cx' s3 H3 fp pins pins' s σ H Q I ⟨Y',ρ',ey,q⟩=>C.tt Y' ey cl Cx' s3 H3 fp pins ρ' pins' s σ H Q I q) (fun cl Cx' s3 H3 fp pins xe hp pins' s σ H Q I ⟨Y',ρ',ey,eE,q⟩=>C.el Y' ey cl Cx' s3 H3 fp pins xe (eE ▸ hp) ρ' pins' s σ H Q I q) I ?_ ?_ C.hs) fun _ s' hq=>aq (aq hq))
 ·have q' :PoS Y B (((fi ρ).s fun ts=>(Zi g ft fe k js ρ ts).s fun vs=> .nx (ρ.set i (.vl (.lst vs))))) D:=by
   unfold zF zZ at q
   revert q
   cases fi ρ with
   | bad=>exact fun q=>q
   | ex c=>exact fun q=>q
   | ok ts=>
    intro q
    have q2:PoS Y B (((Zi g ft fe k js ρ ts).bind fun vs=>R.ok (T.lst vs)).s fun t=>RS.nx (List.set ρ i (Sl.vl t))) D:=q
    show PoS Y B ((Zi g ft fe k js ρ ts).s fun vs=>RS.nx (List.set ρ i (Sl.vl (T.lst vs)))) D
    revert q2
    cases Zi g ft fe k js ρ ts with
    | bad=>exact fun q=>q
    | ex c=>exact fun q=>q
    | ok vs=>exact fun q=>q
  refine Jm J q' fun ts it' H1 _ s1 r1 J1 q1=> ?_
  intro D' hD
  unfold Zi at q1
  split at q1
  ·rename_i hl
   cases ev:zR g ft fe ts (jW k js ρ) with
   | bad=>rw [ev] at q1; exact q1.elim
   | ex c=>rw [ev] at q1; exact q1.elim
   | ok vs=>
    rw [ev] at q1
    refine w4 C.gk C.gn J1 r1 hl ev hD fun H' xs B' s' e' r' l' b' sb' => ?_
    have rr:Rep (zr (zr B H H1) H1 H') (.ref D') (.lst vs):= .lst (by rw [zC hD]; exact e') (r'.mono l')
    exact q1 _ _ _ (zr.ge J1.sB s') ((J1.grow s').setV i rr)
  ·exact q1.elim
 ·intro D' Cc H' s' I' q' hC h0 hL hcell hpin hns
  obtain ⟨m,hm⟩:=hns
  show wpAny _ X.A (assign (.Name x p') X.env (.ref D')) _ _ s'
  refine wpAny_assign_Name (JI (v:= .ref D') I' hN hi hx rfl (fun s'' I'' ⟨a,hsb,ha⟩=> ?_) hf)
  have hne:Cc ≠ a:=by
   rcases ha with rfl | ha
   ·exact hL
   ·exact (hcell x a ha).symm
  refine ⟨m,hm.sameBut hsb hne,fun h' hsb' =>⟨_,H', ?_,q'⟩⟩
  exact I''.turned (t' :=s''.toks) (fun b o hb e=>hsb'.extBut b o hb e) hC hL (.inr h0) hcell hpin
end
def Itc (x:Str):It:=⟨fun i _=>i < x.cps.size,fun i H v H' =>H' =H/\∃ c,x.cps[i]? =some c/\v= .str ⟨#[c]⟩,fun i _=>x.cps.size<=i⟩
theorem jX {P:Program} {w:World} {K:ac} {tg:Expr} {x:Str} {t:Tok} {ty:String} (it:Addr) (hty:ty="str_ascii_iterator"\/ty="str_iterator"):uI P w K tg (Itc x) [it] it (fun i h=>h.IsStrIter it ty x t i):=by
 have W:∀ A:Around,A.handled=none->Walks P w A it [it] [it] x.cps.size (SignAt x) (fun i h=>h.IsStrIter it ty x t i):=fun A hA=>by
  rcases hty with rfl | rfl
  ·exact Walks.strAscii hA it x t
  ·exact Walks.strWide hA it x t
 have hn:["enumerate","zip","dict_itemiterator","dict_reverseitemiterator","odict_iterator","itertools.zip_longest","itertools.pairwise"].contains ty=false:=by rcases hty with rfl | rfl <;> decide
 refine ⟨by simp,fun i h st b hb=> ?_,fun i h h' st k=> ?_, ?_, ?_,fun A i s Q E st h=> ?_⟩
 ·have e:b=it:=by simpa using hb
  subst e
  obtain ⟨o,e,c,d⟩:=st
  exact ⟨o,e,fun v z=>by rw [d] at z; cases z⟩
 ·obtain ⟨o,e,r⟩:=st
  exact ⟨o,k it (by simp) o e,r⟩
 ·intro X hP hw hK hc i pins s σ H E I hf st hg
  subst hP hw hK
  obtain ⟨f0,f1,f2,f3,f4,f5⟩:=hf it (by simp)
  refine (W X.A (I.ok.hd hc)).item i s _ _ hg st fun v h' tk hv st' kk=> ?_
  obtain ⟨c,u,hc',rfl⟩:=hv
  have I1:L2.Inv X pins σ H { s with heap:=h',toks:=tk }:=I.turned (fun b o hb e=>kk b o (by simpa using hb) e) f0 f1 f3 f4 f5
  obtain ⟨o,e,cl,d⟩:=id st'
  exact ⟨_,rfl,WO (s:={ s with heap:=h',toks:=tk }) e cl d hn ⟨.str ⟨#[c]⟩,H,I1,⟨u,rfl⟩,⟨rfl,c,hc',rfl⟩,st',fun b hb=>(hf b hb).1⟩⟩
 ·intro X hP hw hK hc i pins s σ H E I hf st hg
  subst hP hw hK
  obtain ⟨f0,f1,f2,f3,f4,f5⟩:=hf it (by simp)
  have hx:x.cps[i]? =none:=dh hg
  rcases hty with rfl | rfl
  ·exact wpAny_pyNext_ascii_end (I.ok.hd hc) st hx fun h' eb=>⟨rfl,I.turned (t' :=s.toks) (fun b o hb e=>eb b o hb e) f0 f1 f3 f4 f5⟩
  ·exact wpAny_pyNext_wide_end (I.ok.hd hc) st hx fun h' eb=>⟨rfl,I.turned (t' :=s.toks) (fun b o hb e=>eb b o hb e) f0 f1 f3 f4 f5⟩
 ·rcases hty with rfl | rfl
  ·exact wpAny_pyIter_striter_ascii st h
  ·exact wpAny_pyIter_striter_wide st h
def Zj (x:Str):List T:=x.cps.toList.map fun c=>T.str ⟨#[c]⟩
theorem yT {B1 H1:Hp} {x:Str}:rI B1 H1 (Itc x) (Zj x):=fun B2 H2 s1 s2=>by
 have hl:(Zj x).length=x.cps.size:=by unfold Zj; simp
 refine ⟨fun i hi=>by rw [hl] at hi; exact hi,fun i t v H3 e y=> ?_,fun i hi=>by rw [hl] at hi; exact hi⟩
 obtain ⟨rfl,c,hc,rfl⟩:=y
 refine ⟨zm.refl _, ?_⟩
 unfold Zj at e
 rw [aj] at e
 have hc' :x.cps.toList[i]? =some c:=by simpa using hc
 rw [hc'] at e
 cases e
 exact .str _
section
variable {X:Cx} {Y:Fx} {a b c d tg:Expr} {fa fb fc fd:En->R T} {pos p:Pos}
theorem Vc {l:Expr} {tl:TE} (hl:PE X l tl):PI X tg l (fun σ H R=>tl σ H fun x H1=>(∃ a,x= .ref a/\(((∃ xs,SqL X.K H1 a xs)/\R (Itl X.K a) H1)\/((∃ xs,SqT X.K H1 a xs)/\R (Itt X.K a) H1)))\/(∃ z,x= .str z/\R (Itc z) H1)):=by
 intro pins s σ H R I h
 refine thn (hl pins s σ H _ I h) fun v s1 ⟨x,H1,I1,r1,q1⟩=> ?_
 have ok:∀ b∈[s1.heap.objs.size],ww X pins H1 b:=fun b hb=>by
  have e:b=s1.heap.objs.size:=by simpa using hb
  subst e
  exact I1.fpOk (ag _) (I1.hok.fresh (ag _))
 rcases q1 with ⟨a,e,q⟩ | ⟨z,e,q⟩
 ·subst e
  obtain rfl:v=Value.ref a:=r1
  rcases q with ⟨⟨xs,hq⟩,q⟩ | ⟨⟨xs,hq⟩,q⟩
  ·obtain ⟨its,rv,p,hz⟩:=I1.list hq
   exact wpAny_pyIter_list p.isList ⟨s1.heap.objs.size,[s1.heap.objs.size],_,_,H1,rfl,I1.kept (t' :=s1.toks) fun b o e=>ae _ e,uJ a _,⟨_,af _ rfl,rfl,rfl⟩,ok,q⟩
  ·obtain ⟨its,rv,p,hz⟩:=I1.tuple hq
   exact wpAny_pyIter_tuple (show s1.heap.IsTuple a its.toArray from p) ⟨s1.heap.objs.size,[s1.heap.objs.size],_,_,H1,rfl,I1.kept (t' :=s1.toks) fun b o e=>ae _ e,WP a _,⟨_,af _ rfl,rfl,rfl⟩,ok,q⟩
 ·subst e
  obtain ⟨t,rfl⟩:=r1
  cases ha:z.cps.all (· < 128)
  ·exact wpAny_pyIter_wide ha ⟨s1.heap.objs.size,[s1.heap.objs.size],_,_,H1,rfl,I1.kept (t' :=s1.toks) fun b o e=>ae _ e,jX _ (.inr rfl),⟨_,af _ rfl,rfl,rfl⟩,ok,q⟩
  ·exact wpAny_pyIter_ascii ha ⟨s1.heap.objs.size,[s1.heap.objs.size],_,_,H1,rfl,I1.kept (t' :=s1.toks) fun b o e=>ae _ e,jX _ (.inl rfl),⟨_,af _ rfl,rfl,rfl⟩,ok,q⟩
def jl:T->R (List T)
 | .lst xs=> .ok xs
 | .tup xs=> .ok xs
 | .str x=> .ok (Zj x)
 | _=> .bad
def jR (fa:En->R T):En->R (List T):=fun ρ=>(fa ρ).bind jl
theorem XR (ha:Snd X Y a fa):uw X Y tg a (jR fa):= .mk fun ρ=>PI.imp (Vc (ha ρ)) fun σ H R ⟨B,I,q⟩=>step I q fun t v H1 _ s1 r1 I1 q1=>by
 cases r1 with
 | @tup l xs ts h r=>
  exact .inl ⟨l,rfl, .inr ⟨⟨xs,SqT.of (I1.sB _ _ h)⟩,Za I1 (show Po Y rI _ H1 (.ok ts) R from q1) (V1 h r)⟩⟩
 | @lst l xs ts h r=>
  exact .inl ⟨l,rfl, .inl ⟨⟨xs,SqL.of (I1.sB _ _ h)⟩,Za I1 (show Po Y rI _ H1 (.ok ts) R from q1) (V2 h r)⟩⟩
 | str z=>exact .inr ⟨z,rfl,Za I1 (show Po Y rI _ H1 (.ok (Zj z)) R from q1) yT⟩
 | _=>exact q1.elim
end
theorem Inv.laidT {X:Cx} {pins:List (Addr×Obj)} {σ:Sg} {H:Hp} {s:Shared} {h' :Heap} {tk:Nat} {ch:List Addr} {a:Addr} {xs:List V} (I:L2.Inv X pins σ H s) (hf:∀ b∈ch,ww X pins H b) (k:∀ b o,b ∉ ch->s.heap.get? b=some o->h'.get? b=some o)
  (th:∀ b o,b∈ch->s.heap.get? b=some o->∃ o',h'.get? b=some o') (ha:s.heap.objs.size<=a) (new:zH X.prog X.w (upd H a (.tup xs)) h' a (.tup xs)):L2.Inv X pins σ (upd H a (.tup xs)) { s with heap:=h',toks:=tk }:=by
 have hn:H a=none:=I.hok.fresh ha
 have nch:∀ b u,H b=some u->b ∉ ch:=fun b u e hb=>by rw [(hf b hb).1] at e; cases e
 refine I.call' (s' :={ s with heap:=h',toks:=tk }) (ch:=ch) rfl ⟨fun b o e n _ hc=>k b o hc e,fun b o e n _ hc=>⟨o.slots,k b o hc e⟩,fun b o e n _=>by rw [zi (az (ay (ai e) ha))]; exact n,fun b o e hc=>⟨o,k b o hc e⟩,
  fun b ys e=>by rw [zi (zn e hn)]; exact e,fun b o u e=>by rw [zi (zn e hn)]; exact e,fun b ps q e=>by rw [zi (zn e hn)]; exact e⟩ (fun b u e=> ?_) I.bare fun b hb=> ?_
 ·by_cases hb:b=a
  ·subst hb; rw [zl] at e; cases e; exact new
  ·rw [zi hb] at e
   refine (I.hok b u e).stay (fun c v hc q=> ?_) (fun c q=>by rw [zi (zn q hn)]; exact q) (fun c ys q=>by rw [zi (zn q hn)]; exact q) fun c o u q=>by rw [zi (zn q hn)]; exact q
   rcases hc with rfl | hc
   ·exact k c v (nch c u e) q
   ·exact k c v (nch c _ hc) q
 ·obtain ⟨f0,f1,f2,f3,f4,f5⟩:=hf b hb
  exact ⟨f3,f1,f4,f5⟩
def Jo (xs:List T):List T:=(xs.zipIdx).map fun p=>T.tup [.int (p.2:Nat),p.1]
theorem Uh {xs:List T} {i:Nat} {t:T} (h:(Jo xs)[i]? =some t):∃ x,xs[i]? =some x/\t= .tup [.int (i:Nat),x]:=by
 unfold Jo at h
 rw [aj,List.getElem?_zipIdx] at h
 cases e:xs[i]? with
 | none=>rw [e] at h; cases h
 | some x=>rw [e] at h; cases h; exact ⟨x,rfl,by simp⟩
theorem w5 (xs:List T):(Jo xs).length=xs.length:=by unfold Jo; simp
section
variable {X:Cx} {Y:Fx} {a:Expr} {fa:En->R T} {pos p pt:Pos} {elts:List Expr} {kk:Nat}
def enumI (fa:En->R T):En->R (List T):=fun ρ=>(fa ρ).bind fun t=>match t with
 | .lst xs=> .ok (Jo xs)
 | _=> .bad
def ux:List T->Option (List Str)
 | []=>some []
 | .str x :: r=>match ux r with | some ys=>some (x :: ys) | none=>none
 | _ :: _=>none
def qW (sep:Str):T->R T
 | .lst ts=>match ux ts with
  | some ys=>if (ys.map (·.length)).sum+ys.length*sep.length<=16777216 then .ok (.str (Txt.join sep ys)) else .bad
  | none=> .bad
 | _=> .bad
theorem Jp {H:Hp}:∀ {xs:List V} {ts:List T} {its:List Value} {ys:List Str},zq H xs ts->zB xs its->ux ts=some ys->StrsAre its ys
 | _,_,_,ys, .nil, .nil,h=>by
  have h' :some []=some ys:=h
  cases h'; exact .nil
 | _,_,_,ys, .cons (t:=t) r rs, .cons (b:=u) rv vs,h=>by
  cases r with
  | str x=>
   unfold ux at h
   split at h
   ·rename_i zs e
    cases h
    obtain ⟨tk,rfl⟩:=rv
    exact .cons x tk (Jp rs vs e)
   ·cases h
  | _=>cases h
theorem qX:MtR X "str.join" (fun x xs H Q=>∃ z l zs ts ys,x= .str z/\xs=[.ref l]/\H l=some (.lst zs)/\zq H zs ts/\ux ts=some ys/\(ys.map (·.length)).sum+ys.length*z.length<=16777216/\Q (.str (Txt.join z ys)) H):=by
 intro pins s σ H x xs v us Q I rx rv h
 obtain ⟨z,l,zs,ts,ys,rfl,rfl,hl,r,e,hb,q⟩:=h
 obtain ⟨t,rfl⟩:=rx
 obtain ⟨u,rfl,ru⟩:=Zg rv
 obtain rfl:u=Value.ref l:=ru
 obtain ⟨its,rv,p,_⟩:=zA I (.inl hl) r
 exact join_list p (by simpa using Jp r rv e) hb fun t' k=>⟨.str _,H,I.tok k,⟨t',rfl⟩,q⟩
theorem Vd {z:Str} {kc:Nat} {pz pa:Pos} (ha:ZQ X Y a fa) (hb:attributeBase (.Constant (.str z) kc pz) "join" X.env (eval (.Constant (.str z) kc pz) X.env)=eval (.Constant (.str z) kc pz) X.env:=by rfl) (hs:St1 X a:=by exact st1 rfl)
  (hz:(pa.endLine == p.line)=true:=by rfl):Snd X Y (.Call (.Attribute (.Constant (.str z) kc pz) "join" pa) [a] [] p) (ap1 (qW z) fa):= .mk fun ρ=>by
 have e1:(((((backTo p (starEach [a] X.env)).all fun x=> !x.fst) && (backToKw p (keywordEach [] X.env)).all fun x=>x.fst.isSome) && decide (([a].length+([]:List Keyword).length+if ([]:List Keyword).isEmpty=true then 0 else 1) < 30))=true):=by rw [hs]; rfl
 refine PE.imp (jP bp PySem.F.slot_str_join PySem.F.type_str_join qX uB (zj (ha ρ) zt hs) hb e1 hz hs rfl) fun σ H Q ⟨B,I,q⟩=> ?_
 refine ⟨rfl,step I q fun t v H1 _ s1 r1 I1 q1=> ?_⟩
 cases r1 with
 | @lst l xs ts h r=>
  have q1:Po Y rC _ H1 (match ux ts with | some ys=>if (ys.map (·.length)).sum+ys.length*z.length<=16777216 then .ok (.str (Txt.join z ys)) else .bad | none=> .bad) Q:=q1
  split at q1
  ·rename_i ys e
   split at q1
   ·rename_i hl
    exact ⟨z,l,xs,ts,ys,rfl,rfl,h,r,e,hl,po0 I1.sB q1 rfl (.str _)⟩
   ·exact q1.elim
  ·exact q1.elim
 | _=>exact q1.elim
end
def dd:List Str->List Str->List Str
 | acc,[]=>acc
 | acc,x :: r=>dd (if x∈acc then acc else acc++[x]) r
section
variable {prog:Program} {w:World} {A:Around} {R:Result->Shared->Prop} {I:Addr} {fp wr:List Addr} {n:Nat} {P:Nat->Value->Prop} {St:Nat->Heap->Prop}
theorem ZH {h h' :Heap} {S:Addr} {f g:Str->Bool} {m k:Nat} (x:h.SetOf (strKind prog w) S f m) (e:∀ o,h.get? S=some o->h'.get? S=some o) (ef:f=g) (em:m=k):h'.SetOf (strKind prog w) S g k:=by
 subst ef em
 obtain ⟨o,es,ep,t,ho,r⟩:=x
 exact ⟨o,es,ep,t,e o ho,r⟩
theorem yU (W:Walks prog w A.in1 I fp wr n P St) (S:Addr) (hSf:S ∉ fp) (val:Nat->Str) (hval:∀ i v,P i v->∃ t,v=Value.str (val i) t) (hb:n+1 < scanBound):
  ∀ (k i:Nat) (acc:List Str) (s:Shared),n - i=k->i<=n->acc.length<=i->St i s.heap->s.heap.SetOf (strKind prog w) S (fun x=>decide (x∈acc)) acc.length->
   (∀ h' tk,(∀ b o,b ∉ S :: wr->s.heap.get? b=some o->h'.get? b=some o)->h'.SetOf (strKind prog w) S (fun x=>decide (x∈dd acc ((fT i k).map val))) (dd acc ((fT i k).map val)).length->
    R (.ok (.ret .none)) { s with heap:=h',toks:=tk })->codeAny (model prog w) A (.builtin "set.update.loop" ⟨[.ref S, .ref I],[]⟩) R s:=by
 intro k
 induction k with
 | zero=>
  intro i acc s hk hi hal hst hS hR
  obtain rfl:i=n:=by omega
  refine bU eC ?_
  rw [bY cU _]
  refine aa (m:=pyNext (.ref I)) (W.done s _ _ hst fun h' tk hk' =>aq ?_)
  exact hR h' tk (fun b o hb e=>hk' b o (fun z=>hb (ah _ z)) e) (ZH hS (fun o e=>hk' S o (fun z=>hSf (W.sub _ z)) e) rfl rfl)
 | succ k ih=>
  intro i acc s hk hi hal hst hS hR
  refine bU eC ?_
  rw [bY cU _]
  refine aa (m:=pyNext (.ref I)) (W.item i s _ _ (by omega) hst fun v h1 tk1 hP hst1 hk1=> ?_)
  obtain ⟨t,rfl⟩:=hval i v hP
  have hS1:=ZH hS (fun o e=>hk1 S o (fun z=>hSf (W.sub _ z)) e) rfl rfl
  refine aa (m:=holding [Value.str (val i) t] (setAdd S (.str (val i) t))) (wpAny_holding ?_)
  unfold setAdd
  have isk:(strKind prog w).is (val i) (.str (val i) t)=true:=strKind_is _ _ _ _
  refine wpAny_holding (aa ((strKind prog w).pyHash isk ?_))
  refine wpAny_setAddHashed_of (knd:=strKind prog w) (s:={ s with heap:=h1,toks:=tk1+1 }) isk rfl hS1 (by omega) fun h2 hsb hS2=> ?_
  have e2:(if decide (val i∈acc)=true then acc.length else acc.length+1)=(if val i∈acc then acc else acc++[val i]).length:=by
   by_cases hm:val i∈acc
   ·simp [hm]
   ·simp [hm]
  have e1:(fun x=>decide (x∈acc) || decide (x=val i))=(fun x=>decide (x∈(if val i∈acc then acc else acc++[val i]))):=by
   funext x
   by_cases hm:val i∈acc
   ·simp only [if_pos hm]
    by_cases hx:x=val i
    ·subst hx; simp [hm]
    ·simp [hx]
   ·simp [hm,Bool.decide_or]
  have hS3:=ZH (h' :=h2) hS2 (fun o e=>e) e1 e2
  refine aq ⟨plainId_quiet cU _,ih (i+1) _ _ (by omega) (by omega) ?_ (W.frame _ h1 _ hst1 fun b hb o e=> ?_) hS3 fun h3 tk3 hk3 hS4=> ?_⟩
  ·split
   ·omega
   ·rw [aF,aJ]; omega
  ·exact (hsb.2 b (fun z:b=S=>hSf (z ▸ hb))).trans e
  ·rw [List.range'_succ,au] at hR
   refine hR h3 tk3 (fun b o hb e=>hk3 b o hb ?_) hS4
   exact (hsb.2 b (fun z:b=S=>hb (z ▸ av))).trans (hk1 b o (fun z=>hb (ah _ z)) e)
end
section
variable {prog:Program} {w:World} {A:Around} {E:Value->Shared->Prop} {s:Shared}
set_option maxRecDepth 100000 in
set_option maxHeartbeats 3200000 in
theorem Ui {l:Addr} {its:List Value} {ys:List Str} {Q:Value->Shared->Prop} (hh:A.handled=none) (hl:s.heap.IsList l its.toArray) (hi:StrsAre its ys) (hb:its.length+1 < scanBound)
  (h:∀ (h' :Heap) (tk:Nat),h'.SetOf (strKind prog w) s.heap.objs.size (fun x=>decide (x∈dd [] ys)) (dd [] ys).length->(∀ b o,b < s.heap.objs.size->s.heap.get? b=some o->h'.get? b=some o)->
   Q (.ref s.heap.objs.size) { s with heap:=h',toks:=tk }):wpAny (model prog w) A (call (.type "set") [.ref l]) Q E s:=by
 have getv:∀ {its:List Value} {ys:List Str},StrsAre its ys->its.length=ys.length/\∀ (i:Nat) (v:Value),its[i]? =some v->∃ t,v=Value.str (ys.getD i ⟨#[]⟩) t:=fun {its ys} hi=>by
  induction hi with
  | nil=>exact ⟨rfl,fun i v e=>by simp at e⟩
  | cons y t _ ih=>
   refine ⟨by simp [ih.1],fun i v e=> ?_⟩
   cases i with
   | zero=>exact ⟨t,by simpa using e.symm⟩
   | succ i=>exact ih.2 i v (by simpa using e)
 obtain ⟨hlen,hget⟩:=getv hi
 have hys:(fT 0 its.length).map (fun i=>ys.getD i ⟨#[]⟩)=ys:=by
  rw [hlen]
  refine dU fun i=> ?_
  rw [aj]
  by_cases hi' :i < ys.length
  ·rw [List.getElem?_range' hi',aw hi']
   simp [aw hi']
  ·rw [aV (by simp; omega),aV (by omega)]
   rfl
 obtain ⟨c,tl,hmro⟩:=cu.mro
 have hmade:=cu.made
 have hsub:=cu.sub
 have h1:=cu.notType
 have h2:=cu.canCreate
 have hct:=F.typeCall_set_1 (.ref l)
 refine dl (codeAny_of_tree (show wpAny _ _ (callAny (.type "set") _) _ _ _ from ?_))
 refine aq ⟨fm _ (by decide+kernel),bU F.entry_type_call ?_⟩
 rw [Around.under_plain (weight_type_call_type "set" [.ref l] []) rfl]
 repeat any_goals (first | assumption | wp_step)
 refine bX (code_set_new_1 (.ref l) (E:=E) (Q₁:=fun obj s₁=>∃ led:Bool,obj= .ref s.heap.objs.size/\s₁={ s with heap:=s.heap.push { cls:= .type "set",dict:=none,data:= .set #[] 0 (.fresh 0 0 led) } }) fun led=>⟨led,rfl,rfl⟩) fun r s₁ hr=> ?_
 cases r with
 | error e=>exact hr
 | ok fl=>
  cases fl with
  | ret obj=>
   obtain ⟨led,rfl,rfl⟩:=hr
   generalize hG:s.heap.push { cls:= .type "set",dict:=none,data:= .set #[] 0 (.fresh 0 0 led) }=G
   have hS:G.get? s.heap.objs.size=some { cls:= .type "set",dict:=none,data:= .set #[] 0 (.fresh 0 0 led) }:=by rw [← hG]; exact af _ rfl
   have hGs:G.objs.size=s.heap.objs.size+1:=by rw [← hG,cb]
   have hGk:∀ b o,s.heap.get? b=some o->G.get? b=some o:=fun b o e=>by rw [← hG]; exact ae _ e
   have hT:Shared.TypeIs { s with heap:=G } (.ref s.heap.objs.size) "set":=⟨_,hS,rfl⟩
   have hli:=cu.init.lookup
   have hbi:=cu.init.bind (.ref s.heap.objs.size)
   repeat any_goals (first | assumption | wp_step)
   refine bX (codeAny_call_builtin (R:=wants (fun r s₂=>r= .none/\∃ h' tk,s₂={ s with heap:=h',toks:=tk }/\h'.SetOf (strKind prog w) s.heap.objs.size (fun x=>decide (x∈dd [] ys)) (dd [] ys).length/\
     (∀ b o,b < s.heap.objs.size->s.heap.get? b=some o->h'.get? b=some o)) E) cu.init.plain F.entry_set_init (check_set_init_1 hT ?_)) fun r₂ s₂ hr₂=> ?_
   ·obtain ⟨⟨ocls,odict,odata,oslots⟩,hol,hcl,nl,hdl⟩:=hl
    simp only at hcl hdl
    subst hcl; subst hdl
    have hol' :=hGk _ _ hol
    have hsls:=F.sub_list_set
    have hslf:=F.sub_list_frozenset
    have hne:(Value.type "list" == Value.type "dict")=false:=by decide
    have hl1:G.IsList l its.toArray:=⟨_,hol',rfl,nl,rfl⟩
    have hlS:l < s.heap.objs.size:=ai hol
    unfold Builtin.«set.__init__» noKeywords Builtin.Frozenset.updateFrom
    generalize hPI:pyIter=PI
    wp_walk
    subst hPI
    refine wpAny_pyIter_list hl1 (aa (wpAny_runValue ?_))
    have hSf:s.heap.objs.size ∉ [G.objs.size,l]:=by
     rw [hGs]
     intro z
     rcases ax.mp z with z | z
     ·exact absurd z (az (eB _))
     ·exact absurd (a_.mp z) (cW hlS)
    refine yU (Walks.list (A:=A.in1.in1.in1) (by simp [hh]) G.objs.size l (by rw [hGs]; exact az (dW hlS)) its.toArray) s.heap.objs.size hSf (fun i=>ys.getD i ⟨#[]⟩) (fun i v e=>hget i v (by simpa using e)) (by simpa using hb) its.length 0 [] _ (by simp) (bI _) (ag _)
     ⟨⟨_,af _ rfl,rfl,rfl⟩,hl1.push _⟩ ?_ ?_
    ·have hget' :(G.push { cls:= .type "list_iterator",data:= .fields #[.ref l, .int 0 0] }).get? s.heap.objs.size=some { cls:= .type "set",dict:=none,data:= .set #[] 0 (.fresh 0 0 led) }:=ae _ hS
     exact ZH ((PyProof.Rows.setObjOf_fresh (knd:=strKind prog w) led).setOf hget' (by unfold scanBound; omega)) (fun o e=>e) (by funext x; simp) rfl
    ·intro h' tk' hm hS'
     rw [hys] at hS'
     refine aq (show wpAny _ _ (ret Value.none) _ _ _ from aq ⟨rfl,h',tk',rfl,hS',fun b o hb e=> ?_⟩)
     refine hm b o (fun z=> ?_) (ae _ (hGk b o e))
     rcases ax.mp z with z | z
     ·exact absurd z (az hb)
     ·have z' :b=G.objs.size:=a_.mp z
      rw [hGs] at z'
      exact absurd z' (az (dW hb))
   ·cases r₂ with
    | error e=>exact hr₂
    | ok fl₂=>
     cases fl₂ with
     | ret r=>
      obtain ⟨rfl,h',tk,rfl,hS',hk'⟩:=hr₂
      repeat any_goals (first | assumption | wp_step)
      exact h _ _ hS' hk'
     | _=>exact hr₂.elim
  | _=>exact hr.elim
end
section
variable {X:Cx} {Y:Fx} {a b:Expr} {fa fb:En->R T} {pos pos' p p' :Pos}
theorem Uj (hh:X.A.handled=none):Zf X (.type "set") (fun vs H Q=>∃ l xs ts ys,vs=[.ref l]/\H l=some (.lst xs)/\zq H xs ts/\ux ts=some ys/\ts.length+1 < 4096/\
  ∀ q,H q=none->Q (.ref q) (upd H q (.ext fun h=>h.SetOf (strKind X.prog X.w) q (fun x=>decide (x∈dd [] ys)) (dd [] ys).length))):=by
 intro pins s σ H vs us Q I rv h
 obtain ⟨l,xs,ts,ys,rfl,hl,r,ey,hb,q⟩:=h
 obtain ⟨u,rfl,ru⟩:=Zg rv
 obtain rfl:u=Value.ref l:=ru
 obtain ⟨its,rv,pl,hln,_⟩:=zA I (.inl hl) r
 refine Ui hh pl (Jp r rv ey) (by unfold scanBound; omega) fun h' tk hS hk=> ?_
 refine ⟨.ref s.heap.objs.size,_,I.laid (t' :=tk) (fun b u e=>hk b u (ai e) e) (ag _) ?_,rfl,q _ (I.hok.fresh (ag _))⟩
 obtain ⟨o,es,ep,t,ho,rr⟩:=id hS
 exact ⟨hS,⟨o,ho⟩,fun h1 h2 ⟨o1,es1,ep1,t1,ho1,rr1⟩ e=>⟨o1,es1,ep1,t1,e _ ho1,rr1⟩⟩
theorem Uk:Zf X (.builtin "len") (fun vs H Q=>∃ q φ f n,vs=[.ref q]/\H q=some (.ext φ)/\(∀ h:Heap,φ h->h.SetOf (strKind X.prog X.w) q f n)/\Q (.int n) H):=by
 intro pins s σ H vs us Q I rv h
 obtain ⟨l,φ,f,n,rfl,hl,hφ,q⟩:=h
 obtain ⟨u,rfl,ru⟩:=Zg rv
 obtain rfl:u=Value.ref l:=ru
 obtain ⟨h1,_,_⟩:=(show zH X.prog X.w H s.heap l (.ext φ) from I.hok l _ hl)
 obtain ⟨o,es,ep,t,ho,hex,hd,_,_,hb,hf,hn⟩:=hφ _ h1
 refine call_len_set ho hex hd hf ?_ ⟨.int es.size,H,I.tok _,⟨_,rfl⟩,by rw [hn]; exact q⟩
 have:es.size < 4096:=hb
 omega
def yV:T->R T
 | .lst ts=>match ux ts with
  | some ys=>if ts.length+1 < 4096 then .ok (.int (dd [] ys).length) else .bad
  | none=> .bad
 | _=> .bad
theorem Ve (hh:X.A.handled=none) (gl:Gl X "len") (mg:X.mg "len"=none) (gl' :Gl X "set") (mg' :X.mg "set"=none) (ha:ZQ X Y a fa) (hs:St1 X a:=by exact st1 rfl) (hs' :St1 X (.Call (.Name "set" p') [a] [] pos'):=by exact st1 rfl):
  Snd X Y (.Call (.Name "len" p) [.Call (.Name "set" p') [a] [] pos'] [] pos) (ap1 yV fa):= .mk fun ρ=>
 PE.imp (j0 Uk gl mg PySem.boot_len (zj (j1 (Uj hh) gl' mg' PyProof.Rows.Boot.«set» (zj (ha ρ) zt hs) (by decide) (by decide) hs rfl) zt hs') (by decide) (by decide) hs' rfl) fun σ H Q ⟨B,I,q⟩=>
  step I q fun t v H1 _ s1 r1 I1 q1=>by
   cases r1 with
   | @lst l xs ts h r=>
    have q1:Po Y rC _ H1 (match ux ts with | some ys=>if ts.length+1 < 4096 then .ok (.int (dd [] ys).length) else .bad | none=> .bad) Q:=q1
    split at q1
    ·rename_i ys e
     split at q1
     ·rename_i hl
      refine ⟨l,xs,ts,ys,rfl,h,r,e,hl,fun z hz=>⟨z,_,_,_,rfl,zl,fun h hh=>hh, ?_⟩⟩
      exact q1 _ _ (zm.new hz _) (.int _)
     ·exact q1.elim
    ·exact q1.elim
   | _=>exact q1.elim
end
theorem Vf {X:Cx} {E:XK}:Zb CX0 X E:=fun _ _ _ _ _ _ _ h=>h.elim
section
variable {X:Cx} {Y:Fx} {a b:Expr} {fa fb:En->R T} {pos pos' p p' :Pos}
theorem qY {cl:Nat->Value} {k j n:Nat} {f:Addr} {fd:FuncData} {ps:List Str} {g:List T->R T} {x:Str} {es:List Expr} {ga:En->R (List T)} (hy:Y.cl=cl) (F:zG X.prog X.w X.K X.mg X.base CX0 j f fd ps (spP cl n g)) (hr:ZJ k X.A) (hj:j<=k) (gl:Gl X x)
  (mg:X.mg x=some (.ref f)) (kp:c8 X.K (.ref f)=true) (bd:L2.Binds X.K fd ps []) (ha:wI X Y (a :: es) ga) (hd:(x == ("__debug__":Str))=false:=by decide)
  (hs:starEach (a :: es) X.env=(false,eval a X.env) :: starEach es X.env:=by exact zD rfl) (hz:((backTo pos (starEach es X.env)).any fun x=>x.fst)=false:=by exact Z2 rfl):Snd X Y (.Call (.Name x p) (a :: es) [] pos) (zb n g ga):=by
 subst hy
 exact YB F (hr.mono hj) gl mg kp bd Vf ha hd hs hz
theorem wL {x:Str} {i:Int} {u:Value} (gl:Gl X x) (mg:X.mg x=some u) (hu:∃ t,u=Value.int i t) (hd:(x == ("__debug__":Str))=false:=by decide):Snd X Y (.Name x pos) (cE (.int i)):= .mk fun ρ=>
 PE.imp (uC (v:= .int i) gl mg hu hd) fun σ H Q ⟨B,I,q⟩=>Za I q (.int i)
end
def xJ (scope sc0:Scope):Bool:=(scope.kind == .function) && scope.names.all (fun x=>x.2 != .cell) && scope.names.all (fun x=>x.2 != .local || scope.names.lookup x.1 == some .local) &&
 scope.names.all (fun x=>x.2 != .free || sc0.names.lookup x.1 == some .cell || sc0.names.lookup x.1 == some .free)
theorem YF {X:Cx} {scope:Scope} (sc0:Scope) (h0:X.env.scope=sc0) (h:xJ scope sc0=true):CSc X scope:=by
 unfold xJ at h
 simp only [am,aX] at h
 obtain ⟨⟨⟨h1,h2⟩,h3⟩,h4⟩:=h
 refine ⟨eq_of_beq h1,fun x hx=>by simpa using h2 x hx,fun x hx hl=> ?_,fun x hx hf=> ?_⟩
 ·have:=h3 x hx
  rw [hl] at this
  simpa using this
 ·have:=h4 x hx
  rw [hf] at this
  show X.env.scope.names.lookup x.1=_\/X.env.scope.names.lookup x.1=_
  rw [h0]
  simpa using this
def xK (N N' :List Str) (scope sc0:Scope) (k:Nat) (js:List Nat):Bool:=(N'.length == k+js.length) && (aY js.length).all fun i=>match js[i]? with
 | none=>true
 | some j=>match N'[k+i]?,N[j]? with
  | some x,some y=>(x == y) && (sc0.names.lookup x == some .cell || sc0.names.lookup x == some .free) && (scope.names.lookup x == some .free)
  | _,_=>false
theorem Ul {X:Cx} {scope:Scope} {N' :List Str} {k:Nat} {js:List Nat} (N:List Str) (sc0:Scope) (hN:X.N=N) (h0:X.env.scope=sc0) (h:xK N N' scope sc0 k js=true):V9 X scope N' k js:=by
 unfold xK at h
 simp only [am,aX] at h
 obtain ⟨h1,h2⟩:=h
 refine ⟨eq_of_beq h1,fun i j e=> ?_⟩
 have hi:i < js.length:=(ak.mp e).1
 have q:=h2 i (aW.mpr hi)
 rw [e] at q
 dsimp only at q
 split at q
 ·rename_i x y e1 e2
  simp only [am,Bool.or_eq_true,beq_iff_eq] at q
  obtain ⟨⟨rfl,q2⟩,q3⟩:=q
  refine ⟨x,e1,by rw [hN]; exact e2, ?_,q3, ?_⟩
  ·unfold Vis
   rw [h0]
   exact .inr q2
  ·show X.env.scope.names.lookup x=_\/X.env.scope.names.lookup x=_
   rw [h0]
   exact q2
 ·cases q
theorem Zd {X:Cx} {Y:Fx} {tg iter elt:Expr} {ifs:List Expr} {scope:Scope} {k:Nat} {js:List Nat} {fi:En->R (List T)} {tG:TG} {g:T->En->R En} {ft:En->R Bool} {fe:En->R T} (N' :List Str) (N:List Str) (sc0:Scope) (hN:X.N=N) (h0:X.env.scope=sc0)
  (h:(xJ scope sc0 && xK N N' scope sc0 k js)=true) (cm:X.calm=true) (it:uw X Y tg iter fi) (gt:QP X scope N' fun XC=>PG XC tg tG) (gk:GOk tG g) (gn:GNo g) (tt:∀ Y',Y'.cl=Y.cl->QP X scope N' fun XC=>u0 XC Y' ifs ft)
  (el:∀ Y',Y'.cl=Y.cl->XQ X scope N' Y'.E fun XC=>Snd XC Y' elt fe) (hs:∀ x,foldedSetIterable iter X.env x=pure x:=by intro _; rfl):Ug X Y tg iter elt ifs scope N' k js fi tG g ft fe:=by
 rw [am] at h
 exact ⟨YF sc0 h0 h.1,Ul N sc0 hN h0 h.2,cm,it,gt,gk,gn,tt,el,hs⟩
end PV
namespace PV
open PySem PySem.Spec PyProof.Rows L2 PySem.W
section
variable {X:Cx} {Y:Fx} {a b:Expr} {fa fb:En->R T} {pos pos' p p' :Pos}
theorem qZ {cl:Nat->Value} {k j n:Nat} {f:Addr} {fd:FuncData} {ps:List Str} {g:List T->R T} {x:Str} {es:List Expr} {ga:En->R (List T)} (hy:Y.cl=cl) (hp:Zb (CX1 X.prog X.w) X Y.E) (F:zG X.prog X.w X.K X.mg X.base (CX1 X.prog X.w) j f fd ps (spP cl n g)) (hr:ZJ k X.A) (hj:j<=k) (gl:Gl X x)
  (mg:X.mg x=some (.ref f)) (kp:c8 X.K (.ref f)=true) (bd:L2.Binds X.K fd ps []) (ha:wI X Y (a :: es) ga) (hd:(x == ("__debug__":Str))=false:=by decide)
  (hs:starEach (a :: es) X.env=(false,eval a X.env) :: starEach es X.env:=by exact zD rfl) (hz:((backTo pos (starEach es X.env)).any fun x=>x.fst)=false:=by exact Z2 rfl):Snd X Y (.Call (.Name x p) (a :: es) [] pos) (zb n g ga):=by
 subst hy
 exact YB F (hr.mono hj) gl mg kp bd hp ha hd hs hz
end
def ZM (c:Nat):En->RS:=fun _=> .ex c
section
variable {P:Program} {w:World} {K:ac} {mg:Str->Option Value} {base:Heap} {N:List Str} {qual:Str} {scope:Scope} {f:Addr} {cd:Value} {A:Around} {outer:List Env} {s:Shared} {H:Hp} {E:XK} {Y:Fx}
theorem Jq {x m:Str} {C:Addr} {bm bmN:List Value} {Bn Bb newId nid initId inN:String} {np cpos pos ap:Pos} {j c:Nat} (O:OwnCls x C bm newId mg base) (Fn:ExcBaseFacts Bn newId inN bmN) (hBn:bm.contains (.type Bn)=true) (FB:ExcBaseFacts Bb nid initId bm)
  (hY:Y.E=E) (hc:Y.cl c= .ref C) (hg:Gl (ja (CX1 P w) P w K mg base N qual scope f cd A outer s H E) x) (hd:(x == ("__debug__":Str))=false:=by decide):
  JZ (ja (CX1 P w) P w K mg base N qual scope f cd A outer s H E) Y (.Raise (some (.Call (.Name x np) [.Constant (.str m) j ap] [] cpos)) none pos) (ZM c):= .mk fun ρ=>by
 subst hY
 refine PS.imp (uV O Fn hBn FB hg ((Yw vG vH:wI (ja (CX1 P w) P w K mg base N qual scope f cd A outer s H Y.E) Y [.Constant (.str m) j ap] _) ρ) (zD rfl) hd) fun D σ H1 ⟨B,I,q⟩=>⟨B,I,fun vs H2 s2 r2=> ?_⟩
 have q:XP Y B c:=q
 refine ⟨?_, ?_⟩
 ·rw [r2.length]; exact (by decide:1<=sizeLine)
 ·have:=q none H2 (I.sH.trans s2) (I.sB.trans s2)
  rw [hc] at this
  exact this
theorem Fun.okX {x qual:Str} {st:Stmt} {f:Addr} {fd:FuncData} {N ps:List Str} {k:Nat} {sp:Sp} (F:Fun K x qual st f fd) (S:zd N ps (za st)) (len:∀ vs H Q E,sp vs H Q E->vs.length=ps.length)
  (hbody:∀ (cdv:Value) (A:Around) (outer:List Env) (s:Shared) (H:Hp) (vs:List V) (Q:VK) (E:XK),ZJ k (A.deeper (envOfC qual (za st) s.heap.objs.size f cdv))->sp vs H Q E->
   ∃ t,PSs (ja (CX1 P w) P w K mg base N qual (za st) f cdv A outer s H E) (zE st) t/\t { nx:=fun _ H' =>Q .non H',rt:=Q } (start N vs) H):zG P w K mg base (CX1 P w) (k+1) f fd ps sp:=by
 obtain ⟨oc,od,kV,doc,pm,an,cdv,ct,osl,rfl,lk,hcd⟩:=F.ex
 exact qm lk hcd S len fun A outer s H vs Q E hr hsp=>hbody cdv A outer s H vs Q E hr hsp
theorem Z1 {cl:Nat->Value} {x qual:Str} {st:Stmt} {f:Addr} {fd:FuncData} {N ps:List Str} {k n:Nat} {fb:En->RS} {g:List T->R T} (F:Fun K x qual st f fd) (S:zd N ps (za st)) (hn:n=ps.length)
  (hb:∀ (cdv:Value) (A:Around) (outer:List Env) (s:Shared) (H:Hp) (E:XK) (Y:Fx),Y.cl=cl->Y.E=E->ZJ k (A.deeper (envOfC qual (za st) s.heap.objs.size f cdv))->
   wz (ja (CX1 P w) P w K mg base N qual (za st) f cdv A outer s H E) Y (zE st) fb)
  (hg:∀ ts,ts.length=n->g ts=zh (fb (en0 N.length ts))):zG P w K mg base (CX1 P w) (k+1) f fd ps (spP cl n g):=by
 subst hn
 refine Fun.okX F S spP.len fun cdv A outer s H vs Q E hr ⟨B,ts,hl,sB,r,q⟩=> ?_
 refine ⟨_,hb cdv A outer s H E ⟨B,H,E,cl⟩ rfl rfl hr (en0 N.length ts),B,SI.start (Y:=⟨B,H,E,cl⟩) sB r, ?_⟩
 rw [hg ts hl] at q
 revert q
 cases fb (en0 N.length ts) with
 | rt t=>exact fun q v H' s r=>q v H' s r
 | rf t=>exact fun q a xs H' B' s0 n e r _ l=>q (.ref a) H' s0 (.lst (by rw [zC n]; exact e) (r.mono l))
 | nx ρ=>exact fun q σ' H' B' s' I' =>q _ H' I'.sH .non
 | bk ρ=>exact fun q=>q.elim
 | ct ρ=>exact fun q=>q.elim
 | ex c=>exact fun q=>q
 | bad=>exact fun q=>q
end
end PV
namespace PySem.W
open PySem PySem.Calls PyProof.Rows PySem.Spec Builtin Builtin.ObjectAttr Builtin.Getset_descriptor
section
variable {prog:Program} {w:World} {A:Around} {E:Value->Shared->Prop} {s:Shared} {K:Frag} {x C:Addr}
theorem w8 {tp:Value} {R:Result->Shared->Prop} (X:K.In s.heap) (L0:Looks (model prog w) s.heap (typeOf (.ref x)) (.ref C)) (hm:mroIn K C (.type "object")=some true)
  (h:R (.ok (.ret (.ref C))) s):codeAny (model prog w) A (.call (.builtin "getset_descriptor.__get__") ⟨[.builtin "object.__class__", .ref x,tp],[]⟩) R s:=by
 obtain ⟨hh,g,dr,t,os⟩:=s
 have L1:=looks_mroIn (M:=model prog w) X hm
 refine codeAny_call_builtin KF.slot_gs.plain KF.entry_gs (KF.slot_gs.check _ _ _ _ _ _ _ _ KF.type_class (KF.args_gs _ _ _) ?_)
 unfold Builtin.«getset_descriptor.__get__» descrGet
 rw [dga_obj]
 refine aa (aq ?_)
 unfold descrGetter descrCheckInstance descrNameAndClass isInstance
 simp only [KF.owner_class]
 repeat lk
 refine ⟨fm _ (by decide+kernel),bU KF.entry_class ?_⟩
 unfold Builtin.«object.__class__» shownTypeOf
 repeat lk
 exact h
theorem Q0 {M:Model} {h:Heap} (X:K.In h) (ha:findIn K (.ref C) "__class__"=some (some (.builtin "object.__class__"))) (hn:specialIn K (.builtin "object.__class__") "__get__"=some (some (.builtin "getset_descriptor.__get__")))
  (htk:takesIn K (.builtin "object.__class__")=some true):Looks M h (find (.ref x) (.ref C) "__class__") (.bind (.builtin "getset_descriptor.__get__") (.builtin "object.__class__")):=by
 have L1:=looks_findIn (M:=M) X ha
 have L2:Looks M h (getOf (some (.builtin "object.__class__"))) (some (.builtin "getset_descriptor.__get__")):=looks_specialIn X hn
 have L3:=looks_takesIn (M:=M) X htk
 refine L1.andThen (L2.andThen ?_)
 exact (show Looks M h (dataDescriptor? (some (.builtin "object.__class__")) (some (.builtin "getset_descriptor.__get__"))) (some (.builtin "getset_descriptor.__get__", .builtin "object.__class__")) from L3.andThen .now).andThen (Looks.tag .now)
theorem yW {M:Model} {nameV:Value} {Q:Unit->Shared->Prop} (L0:Looks M s.heap (typeOf (.ref x)) (.ref C)) (L1:Looks M s.heap (isSubtype (.ref C) (.type "BaseException")) true) (hq:Q () s):wpAny M A (checkBuiltinCall "BaseException.__getattribute__" ⟨[.ref x,nameV],[]⟩) Q E s:=by
 have hk:builtinKind "BaseException.__getattribute__"=some .slot:=by decide+kernel
 have hsplit:splitId "BaseException.__getattribute__"=some ("BaseException","__getattribute__"):=by decide+kernel
 have ha:=PySem.F.args_bexc_ga (.ref x) nameV
 obtain ⟨hh,g,d,t,os⟩:=s
 simp only [checkBuiltinCall,hk,hsplit]
 refine aa ?_
 unfold isInstance
 repeat (first | lk | wp_step)
 exact hq
end
end PySem.W
namespace PySem.W
open PySem PySem.Calls PyProof.Rows PySem.Spec Builtin Builtin.ObjectAttr Builtin.Getset_descriptor
section
variable {prog:Program} {w:World} {A:Around} {E:Value->Shared->Prop} {s:Shared} {K:Frag} {x C:Addr}
structure XCls (K:Frag) (C:Addr):Prop where
 ga:findIn K (.ref C) "__getattribute__"=some (some (.builtin "BaseException.__getattribute__"))
 gt:findIn K (.ref C) "__getattr__"=some none
 ca:findIn K (.ref C) "__class__"=some (some (.builtin "object.__class__"))
 sp:specialIn K (.builtin "object.__class__") "__get__"=some (some (.builtin "getset_descriptor.__get__"))
 tk:takesIn K (.builtin "object.__class__")=some true
 ob:mroIn K C (.type "object")=some true
 be:mroIn K C (.type "BaseException")=some true
 cl:(clsIn K C).isSome=true
theorem yX {tk:Tok} {Q:Fin->Shared->Prop} (X:K.In s.heap) (c:XCls K C) (L0:Looks (model prog w) s.heap (typeOf (.ref x)) (.ref C)) (hq:Q (.done (.ret (.ref C))) s):
  wpAny (model prog w) A (Builtin.«object.__getattribute__» ⟨[.ref x, .str "__class__" tk],[]⟩) Q E s:=by
 obtain ⟨hh,g,d,t,os⟩:=s
 have L1:=Q0 (M:=model prog w) (x:=x) X c.ca c.sp c.tk
 refine aa (aq (aa (aq (aa (L0.at (aa (L1.at ?_)))))))
 show wpAny _ _ (bindTo _ _ _ _) _ _ _
 unfold bindTo
 refine aa (dl (w8 X L0 c.ob ?_))
 exact aq hq
end
end PySem.W
namespace PySem.W
open PySem PySem.Calls PyProof.Rows PySem.Spec Builtin Builtin.ObjectAttr Builtin.Getset_descriptor
section
variable {prog:Program} {w:World} {A:Around} {E:Value->Shared->Prop} {s:Shared} {K:Frag} {x C:Addr}
theorem yY {Q:Option Value->Shared->Prop} (X:K.In s.heap) (c:XCls K C) (L0:Looks (model prog w) s.heap (typeOf (.ref x)) (.ref C)) (h:Q (some (.ref C)) { s with toks:=s.toks+1 }):wpAny (model prog w) A (getAttr? (.ref x) "__class__") Q E s:=by
 obtain ⟨hh,g,d,t,os⟩:=s
 have L1:=looks_findIn (M:=model prog w) X c.ga
 have L2:=looks_findIn (M:=model prog w) X c.gt
 have L3:=looks_mroIn (M:=model prog w) X c.be
 have fb:=eD.ga.bind (.ref x)
 unfold getAttr? getAttrBy? getAttrBy
 refine aa (wpAny_mkText (aa (cz (wpAny_holding (aa (L0.at (aa (L1.at ?_))))))))
 dsimp only
 have hx2:(Value.builtin "BaseException.__getattribute__" == Value.builtin "object.__getattribute__")=false:=by decide+kernel
 rw [if_neg (by rw [hx2]; simp)]
 unfold getAttrByItsOwn hookBefore
 refine aa ?_
 rw [if_pos (by rfl)]
 refine L2.at ?_
 refine aa (cz (wpAny_holding ?_))
 unfold callGetattribute
 rw [if_neg (by simp)]
 unfold boundAndCalled
 rw [fb]
 refine aa (aq ?_)
 refine dl (codeAny_call_builtin eD.ga.plain PySem.F.entry_bexc_ga (yW (s:=⟨hh,g,d,t+1,os⟩) L0 L3 (yX (s:=⟨hh,g,d,t+1,os⟩) X c L0 ?_)))
 exact handed_on rfl (aq h)
theorem Q1 (c:XCls K C):KitX K (.ref x) (.ref C) (fun h=>∃ o,h.get? x=some o/\o.cls= .ref C) where
 ty:=fun M h _ ⟨o,h1,h2⟩=>h2 ▸ (Looks.ld h1).andThen .now
 it:=fun _ _ X _=>by
  obtain ⟨cdD,hcD⟩:=cI.mp c.cl
  unfold clsIn at hcD
  split at hcD
  ·rename_i c' d' cd' sl' ho
   intro A' Q' E' s' k q
   unfold isType loadHead
   exact aa (wpAny_loadPart (k _ _ (X _ _ ho)) (aq q))
  ·cases hcD
 ne:=fun h tp dd its n sl X htp=>by
  obtain ⟨cdD,hcD⟩:=cI.mp c.cl
  refine Bool.eq_false_iff.mpr fun q=> ?_
  have e:C=tp:=Value.ref.inj (beq_iff_eq.mp q)
  subst e
  unfold clsIn at hcD
  split at hcD
  ·rename_i c' d' cd' sl' ho
   have z:=(X _ _ ho).symm.trans htp
   cases z
  ·cases hcD
 ca:=fun {prog w A E Q s} X ⟨o,h1,h2⟩ k=>yY X c (h2 ▸ (Looks.ld h1).andThen .now) k
end
end PySem.W
namespace PV
open PySem PySem.Spec PyProof.Rows L2 PySem.W
section
variable {X:Cx} {Y:Fx} {a b:Expr} {fa fb:En->R T} {pos pos' p p' :Pos}
def jr (i:Nat) (ok tab:Nat->Bool):En->R T:=fun ρ=>match ρ[i]? with
 | some (.xc c)=>if ok c=true then .ok (.bl (tab c)) else .bad
 | _=> .bad
theorem w9:Zf X (.builtin "isinstance") (fun xs H Q=>∃ a C v b,xs=[.ref a,v]/\H a=some (.ext (W5 (.ref C) a))/\XCls X.K C/\(∀ u,zP v u->kitOne X.K (.ref C) u=some b)/\Q (.bl b) H):=by
 intro pins s σ H xs us Q I rv h
 obtain ⟨a,C,v,b,rfl,e,c,hk,q⟩:=h
 obtain ⟨u,w,rfl,ru,rw'⟩:=uO rv
 obtain rfl:u=Value.ref a:=ru
 obtain ⟨hx,_,_⟩:=(show zH X.prog X.w H s.heap a (.ext (W5 (.ref C) a)) from I.hok a _ e)
 exact kia_one (Q1 c) I.kIn hx (hk w rw') (fun z=>nomatch z) fun tk=>⟨.bl _,H,I.tok tk,rfl,q⟩
structure XK1 (K:Frag) (cl:Nat->Value) (ok:Nat->Bool):Prop where
 at_:∀ c,ok c=true->∃ C,cl c= .ref C/\XCls K C
theorem ZS {i:Nat} {ok tab:Nat->Bool} {y cn:Str} {C:Addr} {yp cp:Pos} (hK:XK1 X.K Y.cl ok) (ht:∀ c,ok c=true->kitOne X.K (Y.cl c) (.ref C)=some (tab c)) (gl:Gl X "isinstance") (mg:X.mg "isinstance"=none) (hv:PE X (.Name y yp) (Yq i)) (gl' :Gl X cn) (mg' :X.mg cn=some (.ref C))
  (hd:(cn == ("__debug__":Str))=false:=by decide):Snd X Y (.Call (.Name "isinstance" p) [.Name y yp, .Name cn cp] [] pos) (jr i ok tab):= .mk fun ρ=>
 PE.imp (j0 w9 gl mg PyProof.Rows.Boot.«isinstance» (zj hv (zj (uC (v:= .ref C) gl' mg' rfl hd) zt (st1 rfl)) (st2 rfl rfl)) (by decide) (by decide) (by rw [st2 rfl rfl,st1 rfl]) (Z2 rfl)) fun σ H Q ⟨B,I,q⟩=>by
  unfold jr at q
  split at q
  ·rename_i c e
   split at q
   ·rename_i hc
    obtain ⟨a,e1,r⟩:=I.xc i c e
    obtain ⟨Cc,e2,xc⟩:=hK.at_ c hc
    have ht' :=ht c hc
    rw [e2] at r ht'
    exact ⟨_,e1,a,Cc,_,_,rfl,I.sB a _ r,xc,fun u ru=>by obtain rfl:u=Value.ref C:=ru; exact ht',Za I q (.bl _)⟩
   ·exact q.elim
  ·exact q.elim
theorem Q2 {i:Nat} {ok tab:Nat->Bool} {y:Str} {n:String} {yp cp:Pos} (hK:XK1 X.K Y.cl ok) (ht:∀ c,ok c=true->kitOne X.K (Y.cl c) (.type n)=some (tab c)) (gl:Gl X "isinstance") (mg:X.mg "isinstance"=none) (hv:PE X (.Name y yp) (Yq i)) (gl' :Gl X (aG n)) (mg' :X.mg (aG n)=none)
  (bt:bootBuiltins (aG n)=some (.type n)) (hn:aG n ≠ "__name__":=by decide) (hd:(aG n == ("__debug__":Str))=false:=by decide):Snd X Y (.Call (.Name "isinstance" p) [.Name y yp, .Name (aG n) cp] [] pos) (jr i ok tab):= .mk fun ρ=>
 PE.imp (j0 w9 gl mg PyProof.Rows.Boot.«isinstance» (zj hv (zj (uD (v:= .ty n) gl' mg' bt rfl hn hd) zt (st1 rfl)) (st2 rfl rfl)) (by decide) (by decide) (by rw [st2 rfl rfl,st1 rfl]) (Z2 rfl)) fun σ H Q ⟨B,I,q⟩=>by
  unfold jr at q
  split at q
  ·rename_i c e
   split at q
   ·rename_i hc
    obtain ⟨a,e1,r⟩:=I.xc i c e
    obtain ⟨Cc,e2,xc⟩:=hK.at_ c hc
    have ht' :=ht c hc
    rw [e2] at r ht'
    exact ⟨_,e1,a,Cc,_,_,rfl,I.sB a _ r,xc,fun u ru=>by obtain rfl:u=Value.type n:=ru; exact ht',Za I q (.bl _)⟩
   ·exact q.elim
  ·exact q.elim
def spC (cl:Nat->Value) (gx:Nat->R T):Sp:=fun vs H Q E=>∃ B a c,vs=[V.ref a]/\zm B H/\B a=some (.ext (W5 (cl c) a))/\Po ⟨B,H,E,cl⟩ rC B H (gx c) Q
end
section
variable {P:Program} {w:World} {K:ac} {mg:Str->Option Value} {base:Heap}
def enC (n c:Nat):En:= .xc c :: ad (n - 1) .un
theorem SI.startC {Y:Fx} {N:List Str} {a:Addr} {c:Nat} (s:zm Y.B0 Y.H0) (hN:1<=N.length) (r:Y.B0 a=some (.ext (W5 (Y.cl c) a))):SI Y Y.B0 (enC N.length c) (L2.start N [V.ref a]) Y.H0 where
 s0:=s
 sH:=zm.refl _
 sB:=s
 old:=fun _ _ _=>rfl
 len:=by unfold enC L2.start; simp
 vl:=fun i t h=>by
  unfold enC at h
  cases i with
  | zero=>cases h
  | succ i=>rw [cV,aC] at h; split at h <;> cases h
 ow:=fun i t h=>by
  unfold enC at h
  cases i with
  | zero=>cases h
  | succ i=>rw [cV,aC] at h; split at h <;> cases h
 xc:=fun i d h=>by
  unfold enC at h
  cases i with
  | zero=>
   cases h
   exact ⟨a,by unfold L2.start; rfl,r⟩
  | succ i=>rw [cV,aC] at h; split at h <;> cases h
end
end PV
namespace PySem.ZG
open PySem PySem.Spec PySem.Builtin.SmallTypes
structure wM (i:Addr) (fp:List Addr) (v:Nat->Option Value) (St:Nat->Heap->Prop):Prop where
 mem:i∈fp
 item:∀ {prog:Program} {w:World} {A:Around} {E:Value->Shared->Prop} {s:Shared} {Q:Value->Shared->Prop} {k:Nat} {x:Value},St k s.heap->v k=some x->(∀ h',St (k+1) h' ->cq i s.heap h' ->Q x { s with heap:=h' })->wpAny (model prog w) A (nextOf (.ref i)) Q E s
 stop:∀ {prog:Program} {w:World} {A:Around} {E:Value->Shared->Prop} {s:Shared} {Q:Value->Shared->Prop} {k:Nat},A.handled=none->St k s.heap->v k=none->(∀ h' e,eW i s.heap h' ->(∃ o,h'.get? e=some o/\o.cls= .type "StopIteration")->E (.ref e) { s with heap:=h' })->wpAny (model prog w) A (nextOf (.ref i)) Q E s
 keep:∀ {k:Nat} {h h' :Heap},St k h->(∀ b∈fp,∀ o,h.get? b=some o->h'.get? b=some o)->St k h'
 there:∀ {k:Nat} {h:Heap},St k h->∀ b∈fp,∃ o,h.get? b=some o
theorem wM.but {i:Addr} {fp:List Addr} {v:Nat->Option Value} {St:Nat->Heap->Prop} (N:wM i fp v St) {k:Nat} {h h' :Heap} {b:Addr} (x:St k h) (e:eW b h h') (n:b ∉ fp):St k h' :=
 N.keep x fun c hc o q=>e c o (fun z=>n (z ▸ hc)) q
theorem Q3 {i l:Addr} (hil:l ≠ i) (xs:Array Value):wM i [i,l] (fun k=>xs[k]?) (fun k h=>h.IsListIter i l k/\h.IsList l xs) where
 mem:= .head _
 item:=fun st hx h=>wpAny_nextOf_list_item st.1 st.2 hx fun h' a b=>h h' ⟨a,st.2.extBut b.extBut hil⟩ b
 stop:=fun hh st hx h=>wpAny_nextOf_list_end hh st.1 st.2 hx h
 keep:=fun st k=>⟨st.1.at fun o e=>k i (.head _) o e,st.2.at fun o e=>k l (.tail _ (.head _)) o e⟩
 there:=fun st b hb=>by
  obtain ⟨⟨o,e,_⟩,o2,e2,_⟩:=st
  rcases ax.mp hb with z | hb
  ·exact ⟨o,z ▸ e⟩
  ·exact ⟨o2,(a_.mp hb) ▸ e2⟩
end PySem.ZG
namespace PySem.ZG
open PySem PySem.Spec PySem.Builtin.SmallTypes
section
variable {prog:Program} {w:World} {A:Around} {E:Value->Shared->Prop} {s:Shared} {it l:Addr} {k:Nat} {xs:Array Value} {Q:Value->Shared->Prop}
theorem Wg (hit:s.heap.IsTupleIter it l k) (h:wpAny (model prog w) A.in1 (Builtin.«tuple_iterator.__next__» ⟨[.ref it],[]⟩) (fun fin s' =>∃ v,fin= .done (.ret v)/\Q v s') E s):wpAny (model prog w) A (nextOf (.ref it)) Q E s:=by
 unfold nextOf
 exact aa (wpAny_callSpecial?_slot (name:=aG "__next__") hit.typeIs di (ce di hit.typeIs PySem.F.entry_tuple_iterator_next
  (bB h (fun fin s' ⟨v,e,q⟩=>⟨v,e,aq q⟩) fun _ _ z=>z) (PySem.F.args_tuple_iterator_next_1 _)))
theorem yZ (hit:s.heap.IsTupleIter it l k) (ht:s.heap.IsTuple l xs) {x:Value} (hx:xs[k]? =some x) (h:∀ h',h'.IsTupleIter it l (k+1)->cq it s.heap h' ->Q x { s with heap:=h' }):wpAny (model prog w) A (nextOf (.ref it)) Q E s:=by
 refine Wg hit ?_
 obtain ⟨o,ho,hc,hd⟩:=id hit
 obtain ⟨ol,hol,_,nl,hdl⟩:=ht
 refine aa (m:=field (.ref it) 0) (bb ho hd (x:= .ref l) rfl ?_)
 rw [if_neg (show ¬((Value.ref l == Value.none)=true) by exact aB)]
 refine aa (m:=field (.ref it) 1) (bb ho hd (x:= .int k 0) rfl (aa (m:=seqItems? (.ref l)) (bR hol hdl ?_)))
 simp only [bZ,hx]
 have g:=Heap.get?_update_self (Obj.mapFields (·.setIfInBounds 1 (rawInt (k+1:Nat)))) ho (Obj.isFreed_of_fields (fo hd _))
 refine aa (wpAny_setField ho hd (by simp) (aq ⟨x,rfl,h _ ⟨_,g,(Obj.cls_mapFields ..).trans hc, ?_⟩ (e_ ..)⟩))
 rw [fo hd]; simp [rawInt]
theorem Y0 (hh:A.handled=none) (hit:s.heap.IsTupleIter it l k) (ht:s.heap.IsTuple l xs) (hx:xs[k]? =none)
  (h:∀ h' e,eW it s.heap h' ->(∃ o,h'.get? e=some o/\o.cls= .type "StopIteration")->E (.ref e) { s with heap:=h' }):wpAny (model prog w) A (nextOf (.ref it)) Q E s:=by
 refine Wg hit ?_
 obtain ⟨o,ho,hc,hd⟩:=id hit
 obtain ⟨ol,hol,_,nl,hdl⟩:=ht
 refine aa (m:=field (.ref it) 0) (bb ho hd (x:= .ref l) rfl ?_)
 rw [if_neg (show ¬((Value.ref l == Value.none)=true) by exact aB)]
 refine aa (m:=field (.ref it) 1) (bb ho hd (x:= .int k 0) rfl (aa (m:=seqItems? (.ref l)) (bR hol hdl ?_)))
 simp only [bZ,hx]
 refine aa (wpAny_rule (aa (wpAny_setField ho hd (by simp) (aa (m:=newExc (.type "StopIteration") []) ?_))))
 simp only [newExc,newTuple]
 refine aa (bu (aa (m:=firstArgMember _ _) (cj (a:=Value.none) (by first | rfl | (simp only [firstArgMember]; rfl)) (bu ?_ (by size_fits)))) (by size_fits))
 simp only [raiseNew]
 refine aa (wpAny_handled ?_)
 rw [show A.in1.handled=none from hh]
 exact aa (aq (wpAny_throw (h _ _ (((e_ ..).extBut.push _).push _) ⟨_,af _ rfl,rfl⟩)))
end
theorem Vg {i l:Addr} (hil:l ≠ i) (xs:Array Value):wM i [i,l] (fun k=>xs[k]?) (fun k h=>h.IsTupleIter i l k/\h.IsTuple l xs) where
 mem:= .head _
 item:=fun st hx h=>yZ st.1 st.2 hx fun h' a b=>h h' ⟨a,st.2.extBut b.extBut hil⟩ b
 stop:=fun hh st hx h=>Y0 hh st.1 st.2 hx h
 keep:=fun st k=>by
  obtain ⟨⟨o,e,r⟩,o2,e2,r2⟩:=st
  exact ⟨⟨o,k i (.head _) o e,r⟩,o2,k l (.tail _ (.head _)) o2 e2,r2⟩
 there:=fun st b hb=>by
  obtain ⟨⟨o,e,_⟩,o2,e2,_⟩:=st
  rcases ax.mp hb with z | hb
  ·exact ⟨o,z ▸ e⟩
  ·exact ⟨o2,(a_.mp hb) ▸ e2⟩
end PySem.ZG
namespace PySem.ZG
open PySem PySem.Spec PySem.Builtin.SmallTypes
structure Ap (z TI TO i1 i2:Addr) (fp1 fp2:List Addr):Prop where
 Iz:TI ≠ z
 Oz:TO ≠ z
 IO:TI ≠ TO
 I1:TI ≠ i1
 I2:TI ≠ i2
 z1:z ∉ fp1
 z2:z ∉ fp2
 O1:TO ∉ fp1
 O2:TO ∉ fp2
 a:i1 ∉ fp2
 b:i2 ∉ fp1
section
variable {prog:Program} {w:World} {A:Around} {E:Value->Shared->Prop} {s:Shared} {z TI TO i1 i2:Addr} {fp1 fp2:List Addr} {v1 v2:Nat->Option Value} {S1 S2:Nat->Heap->Prop} {k:Nat} {x y a b:Value}
theorem Ap.ne1 (D:Ap z TI TO i1 i2 fp1 fp2) (N1:wM i1 fp1 v1 S1):i1 ≠ z/\i1 ≠ TO:=⟨fun e=>D.z1 (e ▸ N1.mem),fun e=>D.O1 (e ▸ N1.mem)⟩
theorem Ap.ne2 (D:Ap z TI TO i1 i2 fp1 fp2) (N2:wM i2 fp2 v2 S2):i2 ≠ z/\i2 ≠ TO:=⟨fun e=>D.z2 (e ▸ N2.mem),fun e=>D.O2 (e ▸ N2.mem)⟩
theorem Q4 {Q:Value->Shared->Prop} (N1:wM i1 fp1 v1 S1) (N2:wM i2 fp2 v2 S2) (D:Ap z TI TO i1 i2 fp1 fp2) (hz:IsZip s.heap z TI TO .none) (hTI:IsPair s.heap TI (.ref i1) (.ref i2)) (hTO:IsPair s.heap TO a b) (p1:S1 k s.heap) (p2:S2 k s.heap) (hx:v1 k=some x) (hy:v2 k=some y)
  (hQ:∀ h',IsZip h' z TI TO (rawInt s.heap.objs.size)->IsPair h' TO x y->S1 (k+1) h' ->S2 (k+1) h' ->IsPair h' s.heap.objs.size x y->
   (∀ c o,c ≠ z->c ≠ TO->c ≠ i1->c ≠ i2->s.heap.get? c=some o->h'.get? c=some o)->Q (.ref s.heap.objs.size) { s with heap:=h' }):
  wpAny (model prog w) A (Builtin.«zip.__next__» ⟨[.ref z],[]⟩) (fun fin s' =>∃ v,fin= .done (.ret v)/\Q v s') E s:=by
 refine aa (m:=field (.ref z) 2) (bb hz rfl (x:= .bool false) rfl (aa (m:=field (.ref z) 3) (bb hz rfl (x:= .ref TI) rfl (aa (bR hTI rfl ?_)))))
 refine aa (m:=ownedTupleIsFree (.ref z)) ?_
 unfold ownedTupleIsFree
 refine aa (bb hz rfl (x:= .none) rfl (aq ?_))
 simp only [if_true]
 refine aa (wpAny_rule (aa (bb hz rfl (x:= .ref TO) rfl (aa (bj hz (by simp) fun g1 z1 e1=> ?_)))))
 replace z1:IsZip g1 z TI TO .ellipsis:=z1
 refine aa ?_
 simp only [fP,fZ,dB,List.forIn_nil]
 refine aa (aa (wpAny_onRaise (aa (m:=nextOf (.ref i1)) (N1.item (N1.but p1 e1.extBut D.z1) hx fun g2 q1 e2=>aq ?_))))
 have t2:IsPair g2 TO a b:=e2.extBut _ _ (D.ne1 N1).2.symm (e1.extBut _ _ D.Oz hTO)
 refine aa (bR t2 rfl (aa (wpAny_updateSeq_pair t2 fun g3 t3 e3=> ?_)))
 replace t3:IsPair g3 TO x b:=t3
 refine aa (wpAny_letGo (aq ?_))
 refine aa (aa (wpAny_onRaise (aa (m:=nextOf (.ref i2)) (N2.item (N2.but (N2.but (N2.but p2 e1.extBut D.z2) e2.extBut D.a) e3.extBut D.O2) hy fun g4 q2 e4=>aq ?_))))
 have t4:IsPair g4 TO x b:=e4.extBut _ _ (D.ne2 N2).2.symm t3
 refine aa (bR t4 rfl (aa (wpAny_updateSeq_pair t4 fun g5 t5 e5=> ?_)))
 replace t5:IsPair g5 TO x y:=t5
 refine aa (wpAny_letGo (aq (aq ?_)))
 refine aa (bR t5 rfl (aa (wpAny_newTuple ?_)))
 have sz:g5.objs.size=s.heap.objs.size:=by rw [e5.1,e4.1,e3.1,e2.1,e1.1]
 have z5:IsZip g5 z TI TO .ellipsis:=e5.extBut _ _ D.Oz.symm (e4.extBut _ _ (D.ne2 N2).1.symm (e3.extBut _ _ D.Oz.symm (e2.extBut _ _ (D.ne1 N1).1.symm z1)))
 have k5:∀ c o,c ≠ z->c ≠ TO->c ≠ i1->c ≠ i2->s.heap.get? c=some o->g5.get? c=some o:=fun c o c1 c2 c3 c4 e=>
  e5.extBut _ _ c2 (e4.extBut _ _ c4 (e3.extBut _ _ c2 (e2.extBut _ _ c3 (e1.extBut _ _ c1 e))))
 have r1:S1 (k+1) g5:=N1.but (N1.but (N1.but q1 e3.extBut D.O1) e4.extBut D.b) e5.extBut D.O1
 have r2:S2 (k+1) g5:=N2.but q2 e5.extBut D.O2
 refine aa (m:=ownedTupleHandOut (.ref z) (.ref g5.objs.size)) ?_
 unfold ownedTupleHandOut
 have z6:IsZip (g5.push { cls:= .type "tuple",data:= .seq #[x,y] }) z TI TO .ellipsis:=ae _ z5
 refine aa (bj z6 (by simp) fun g7 z7 e7=> ?_)
 replace z7:IsZip g7 z TI TO (rawInt g5.objs.size):=z7
 refine bj z7 (by simp) fun g8 z8 e8=> ?_
 replace z8:IsZip g8 z TI TO (rawInt g5.objs.size):=z8
 have up:∀ c o,c ≠ z->g5.get? c=some o->g8.get? c=some o:=fun c o c1 e=>e8.extBut _ _ c1 (e7.extBut _ _ c1 (ae _ e))
 have hn:g5.objs.size ≠ z:=cW (ai z5)
 have t8:IsPair g8 g5.objs.size x y:=e8.extBut _ _ hn (e7.extBut _ _ hn (af _ rfl))
 rw [sz] at z8 t8
 refine aq ⟨_,rfl, ?_⟩
 show Q (.ref g5.objs.size) _
 rw [sz]
 exact hQ g8 z8 (up _ _ D.Oz t5) (N1.keep r1 fun c hc o e=>up c o (fun q=>D.z1 (q ▸ hc)) e) (N2.keep r2 fun c hc o e=>up c o (fun q=>D.z2 (q ▸ hc)) e) t8 fun c o c1 c2 c3 c4 e=>up c o c1 (k5 c o c1 c2 c3 c4 e)
theorem Q5 {Q:Fin->Shared->Prop} (hh:A.handled=none) (N1:wM i1 fp1 v1 S1) (N2:wM i2 fp2 v2 S2) (D:Ap z TI TO i1 i2 fp1 fp2) (hz:IsZip s.heap z TI TO .none) (hTI:IsPair s.heap TI (.ref i1) (.ref i2)) (hTO:IsPair s.heap TO a b) (p1:S1 k s.heap) (p2:S2 k s.heap) (hend:v1 k=none\/v2 k=none)
  (hE:∀ h' e,(∀ c o,c ≠ z->c ≠ TO->c ≠ i1->c ≠ i2->s.heap.get? c=some o->h'.get? c=some o)->(∃ o,h'.get? e=some o/\o.cls= .type "StopIteration")->E (.ref e) { s with heap:=h' }):
  wpAny (model prog w) A (Builtin.«zip.__next__» ⟨[.ref z],[]⟩) Q E s:=by
 refine aa (m:=field (.ref z) 2) (bb hz rfl (x:= .bool false) rfl (aa (m:=field (.ref z) 3) (bb hz rfl (x:= .ref TI) rfl (aa (bR hTI rfl ?_)))))
 refine aa (m:=ownedTupleIsFree (.ref z)) ?_
 unfold ownedTupleIsFree
 refine aa (bb hz rfl (x:= .none) rfl (aq ?_))
 simp only [if_true]
 refine aa (wpAny_rule (aa (bb hz rfl (x:= .ref TO) rfl (aa (bj hz (by simp) fun g1 z1 e1=> ?_)))))
 replace z1:IsZip g1 z TI TO .ellipsis:=z1
 refine aa ?_
 simp only [fP,fZ,dB,List.forIn_nil]
 have off:∀ {g:Heap} {e:Addr} {oe:Obj},IsZip g z TI TO .ellipsis->g.get? e=some oe->oe.cls= .type "StopIteration"->e ≠ z:=fun hg he hc q=>by
  subst q; rw [hg] at he; cases he; simp at hc
 cases hx:v1 k with
 | none=>
  refine aa (aa (wpAny_onRaise (aa (m:=nextOf (.ref i1)) (N1.stop hh (N1.but p1 e1.extBut D.z1) hx fun g2 e e2 he=> ?_))))
  obtain ⟨oe,ho,hc⟩:=he
  have z2:IsZip g2 z TI TO .ellipsis:=e2 _ _ (D.ne1 N1).1.symm z1
  exact bj z2 (by simp) fun g3 _ e3=>hE g3 e (fun c o c1 _ c3 _ q=>e3.extBut _ _ c1 (e2 _ _ c3 (e1.extBut _ _ c1 q))) ⟨oe,e3.extBut _ _ (off z2 ho hc) ho,hc⟩
 | some x=>
  have hy:v2 k=none:=by
   rcases hend with q | q
   ·rw [hx] at q; cases q
   ·exact q
  refine aa (aa (wpAny_onRaise (aa (m:=nextOf (.ref i1)) (N1.item (N1.but p1 e1.extBut D.z1) hx fun g2 q1 e2=>aq ?_))))
  have t2:IsPair g2 TO a b:=e2.extBut _ _ (D.ne1 N1).2.symm (e1.extBut _ _ D.Oz hTO)
  refine aa (bR t2 rfl (aa (wpAny_updateSeq_pair t2 fun g3 t3 e3=>aa (wpAny_letGo (aq ?_)))))
  refine aa (aa (wpAny_onRaise (aa (m:=nextOf (.ref i2)) (N2.stop hh (N2.but (N2.but (N2.but p2 e1.extBut D.z2) e2.extBut D.a) e3.extBut D.O2) hy fun g4 e e4 he=> ?_))))
  obtain ⟨oe,ho,hc⟩:=he
  have z4:IsZip g4 z TI TO .ellipsis:=e4 _ _ (D.ne2 N2).1.symm (e3.extBut _ _ D.Oz.symm (e2.extBut _ _ (D.ne1 N1).1.symm z1))
  exact bj z4 (by simp) fun g5 _ e5=>hE g5 e (fun c o c1 c2 c3 c4 q=>e5.extBut _ _ c1 (e4 _ _ c4 (e3.extBut _ _ c2 (e2.extBut _ _ c3 (e1.extBut _ _ c1 q))))) ⟨oe,e5.extBut _ _ (off z4 ho hc) ho,hc⟩
theorem Q6 {Q:Option Value->Shared->Prop} (N1:wM i1 fp1 v1 S1) (N2:wM i2 fp2 v2 S2) (D:Ap z TI TO i1 i2 fp1 fp2) (hz:IsZip s.heap z TI TO .none) (hTI:IsPair s.heap TI (.ref i1) (.ref i2)) (hTO:IsPair s.heap TO a b) (p1:S1 k s.heap) (p2:S2 k s.heap) (hx:v1 k=some x) (hy:v2 k=some y)
  (hQ:∀ h',IsZip h' z TI TO (rawInt s.heap.objs.size)->IsPair h' TO x y->S1 (k+1) h' ->S2 (k+1) h' ->IsPair h' s.heap.objs.size x y->
   (∀ c o,c ≠ z->c ≠ TO->c ≠ i1->c ≠ i2->s.heap.get? c=some o->h'.get? c=some o)->Q (some (.ref s.heap.objs.size)) { s with heap:=h' }):wpAny (model prog w) A (pyNext (.ref z)) Q E s:=by
 have ty:s.TypeIs (.ref z) "zip":=⟨_,hz,rfl⟩
 unfold pyNext
 exact aa (cz (wpAny_callSpecial?_slot (name:=aG "__next__") ty cA (ce cA ty eO
  (Q4 N1 N2 D hz hTI hTO p1 p2 hx hy fun h' a1 a2 a3 a4 a5 a6=>aq (hQ h' a1 a2 a3 a4 a5 a6)) (eF _))))
theorem Q7 {Q:Option Value->Shared->Prop} (hh:A.handled=none) (N1:wM i1 fp1 v1 S1) (N2:wM i2 fp2 v2 S2) (D:Ap z TI TO i1 i2 fp1 fp2) (hz:IsZip s.heap z TI TO .none) (hTI:IsPair s.heap TI (.ref i1) (.ref i2)) (hTO:IsPair s.heap TO a b) (p1:S1 k s.heap) (p2:S2 k s.heap) (hend:v1 k=none\/v2 k=none)
  (hQ:∀ h',(∀ c o,c ≠ z->c ≠ TO->c ≠ i1->c ≠ i2->s.heap.get? c=some o->h'.get? c=some o)->Q none { s with heap:=h' }):wpAny (model prog w) A (pyNext (.ref z)) Q E s:=by
 have ty:s.TypeIs (.ref z) "zip":=⟨_,hz,rfl⟩
 unfold pyNext
 refine aa (cz (wpAny_callSpecial?_slot (name:=aG "__next__") ty cA (ce cA ty eO
  (Q5 hh N1 N2 D hz hTI hTO p1 p2 hend fun h' e kp he=> ?_) (eF _))))
 obtain ⟨o,ho,hc⟩:=he
 exact aa (wpAny_isInstance (T:="StopIteration") (b:=true) ⟨o,ho,hc⟩ isSubtype_stop (aq (hQ _ kp)))
end
end PySem.ZG
namespace PySem.ZG
open PySem PySem.Spec PySem.Builtin.SmallTypes
structure Q8 (l:Addr) (o:Obj) (P:Heap->Prop):Prop where
 go:∀ {prog:Program} {w:World} {A:Around} {E:Value->Shared->Prop} {s:Shared} {Q:Value->Shared->Prop},P s.heap->Q (.ref s.heap.objs.size) { s with heap:=s.heap.push o }->wpAny (model prog w) A (pyIter (.ref l)) Q E s
 push:∀ {h:Heap} (o' :Obj),P h->P (h.push o')
 fresh:o.isFreed=false
abbrev oL (l:Addr):Obj:={ cls:= .type "list_iterator",data:= .fields #[.ref l, .int 0 0] }
abbrev oT (l:Addr):Obj:={ cls:= .type "tuple_iterator",data:= .fields #[.ref l, .int 0 0] }
theorem Q9 (l:Addr) (xs:Array Value):Q8 l (oL l) (fun h=>h.IsList l xs):=⟨fun p q=>wpAny_pyIter_list p q,fun o p=>Heap.IsList.push p o,rfl⟩
theorem Vh (l:Addr) (xs:Array Value):Q8 l (oT l) (fun h=>h.IsTuple l xs):=⟨fun p q=>wpAny_pyIter_tuple p q,fun o p=>Heap.IsTuple.push p o,rfl⟩
abbrev zh2 (h:Heap) (o1 o2:Obj):Heap:=(h.push o1).push o2
abbrev zh3 (h:Heap) (o1 o2:Obj):Heap:=(zh2 h o1 o2).push { cls:= .type "tuple",data:= .seq #[.ref h.objs.size, .ref (h.push o1).objs.size] }
abbrev zh4 (h:Heap) (o1 o2:Obj):Heap:=(zh3 h o1 o2).push { cls:= .type "tuple",data:= .seq #[.none, .none] }
abbrev zh5 (h:Heap) (o1 o2:Obj):Heap:=(zh4 h o1 o2).push { cls:= .type "zip",data:= .fields #[.none, .bool false, .bool false, .ref (zh2 h o1 o2).objs.size, .ref (zh3 h o1 o2).objs.size] }
theorem Vi {l1 l2:Addr} {o1 o2:Obj} {P1 P2:Heap->Prop} (J1:Q8 l1 o1 P1) (J2:Q8 l2 o2 P2):
  Meets (Builtin.«zip.__new__» ⟨[.type "zip", .ref l1, .ref l2],[]⟩) (fun _ R s=>P1 s.heap/\P2 s.heap/\R (.ok (.ret (.ref (zh4 s.heap o1 o2).objs.size))) { s with heap:=zh5 s.heap o1 o2 }):=
 .of_wp fun prog w A R s h=>by
  obtain ⟨hp,g,d,tk,os⟩:=s
  obtain ⟨q1,q2,h⟩:=h
  have hsub:=sub_zip
  have c1:P1 (Shared.heap ⟨hp,g,d,tk,os⟩):=q1
  have c2:P2 (Shared.heap ⟨hp.push o1,g,d,tk,os⟩):=J2.push o1 q2
  wp_walk using J1.go c1,J2.go c2
  exact ⟨_,rfl,h⟩
end PySem.ZG
namespace PySem.ZG
open PySem PySem.Spec PySem.Builtin.SmallTypes
theorem Qa {prog:Program} {w:World} {A:Around} {E:Value->Shared->Prop} {s:Shared} {l1 l2:Addr} {o1 o2:Obj} {P1 P2:Heap->Prop} {Q:Value->Shared->Prop} (J1:Q8 l1 o1 P1) (J2:Q8 l2 o2 P2) (q1:P1 s.heap) (q2:P2 s.heap)
  (h:∀ h' n,n=s.heap.objs.size->IsZip h' (n+4) (n+2) (n+3) .none->IsPair h' (n+2) (.ref n) (.ref (n+1))->IsPair h' (n+3) .none .none->h'.get? n=some o1->h'.get? (n+1)=some o2->
   (∀ c o,s.heap.get? c=some o->h'.get? c=some o)->Q (.ref (n+4)) { s with heap:=h' }):wpAny (model prog w) A (call (.type "zip") [.ref l1, .ref l2]) Q E s:=by
 refine callType_new PySem.F.called_zip (by decide) (PySem.F.typeCall_zip_2 _ _) (PySem.F.newCall_zip_2 _ _) (fun obj=>PySem.F.args_object_init_3 obj _ _) PySem.F.entry_zip_new (Vi J1 J2) ⟨q1,q2, ?_⟩
 have n1:(s.heap.push o1).objs.size=s.heap.objs.size+1:=cb ..
 have n2:(zh2 s.heap o1 o2).objs.size=s.heap.objs.size+2:=by rw [cb,n1]
 have n3:(zh3 s.heap o1 o2).objs.size=s.heap.objs.size+3:=by rw [cb,n2]
 have n4:(zh4 s.heap o1 o2).objs.size=s.heap.objs.size+4:=by rw [cb,n3]
 have up:∀ {h:Heap} {c:Addr} {o:Obj} (o' :Obj),h.get? c=some o->(h.push o').get? c=some o:=fun o' e=>ae o' e
 have e5:(zh5 s.heap o1 o2).get? (zh4 s.heap o1 o2).objs.size=some _:=af _ rfl
 have e4:(zh5 s.heap o1 o2).get? (zh3 s.heap o1 o2).objs.size=some _:=up _ (af _ rfl)
 have e3:(zh5 s.heap o1 o2).get? (zh2 s.heap o1 o2).objs.size=some _:=up _ (up _ (af _ rfl))
 have e2:(zh5 s.heap o1 o2).get? (s.heap.push o1).objs.size=some _:=up _ (up _ (up _ (af _ J2.fresh)))
 have e1:(zh5 s.heap o1 o2).get? s.heap.objs.size=some _:=up _ (up _ (up _ (up _ (af _ J1.fresh))))
 show _/\_
 rw [n2,n3,n4] at e5
 rw [n1,n2] at e3
 rw [n3] at e4
 rw [n1] at e2
 rw [n4]
 exact ⟨⟨_,e5,rfl⟩,h _ _ rfl e5 e3 e4 e1 e2 fun c o q=>up _ (up _ (up _ (up _ (up _ q))))⟩
end PySem.ZG
namespace PV
open PySem PySem.Spec PyProof.Rows L2 PySem.ZG
inductive SK where
 | l | t
def SK.it:SK->Heap->Addr->Addr->Nat->Prop
 | .l=>fun h i l k=>h.IsListIter i l k
 | .t=>fun h i l k=>h.IsTupleIter i l k
def SK.has:SK->Heap->Addr->Array Value->Prop
 | .l=>fun h l xs=>h.IsList l xs
 | .t=>fun h l xs=>h.IsTuple l xs
def SK.sq (K:ac):SK->Hp->Addr->List V->Prop
 | .l=>fun H a xs=>SqL K H a xs
 | .t=>fun H a xs=>SqT K H a xs
def SK.tr:SK->List V->HO
 | .l=> .lst
 | .t=> .tup
def SK.ob:SK->Addr->Obj
 | .l=>oL
 | .t=>oT
theorem SK.nx (k:SK) {i l:Addr} (h:l ≠ i) (xs:Array Value):wM i [i,l] (fun n=>xs[n]?) (fun n hp=>k.it hp i l n/\k.has hp l xs):=by
 cases k with
 | l=>exact Q3 h xs
 | t=>exact Vg h xs
theorem SK.of (k:SK) (l:Addr) (xs:Array Value):Q8 l (k.ob l) (fun h=>k.has h l xs):=by
 cases k with
 | l=>exact Q9 l xs
 | t=>exact Vh l xs
theorem SK.start (k:SK) {h:Heap} {i l:Addr} (e:h.get? i=some (k.ob l)):k.it h i l 0:=by
 cases k with
 | l=>exact ⟨_,e,rfl,rfl⟩
 | t=>exact ⟨_,e,rfl,rfl⟩
theorem SK.obj {k:SK} {h:Heap} {i l:Addr} {n:Nat} (x:k.it h i l n):∃ o,h.get? i=some o/\∀ v,o.data ≠ .cell v:=by
 cases k with
 | l=>obtain ⟨o,e,_,d⟩:=x; exact ⟨o,e,fun v z=>by rw [d] at z; cases z⟩
 | t=>obtain ⟨o,e,_,d⟩:=x; exact ⟨o,e,fun v z=>by rw [d] at z; cases z⟩
theorem SK.at_ {k:SK} {h h' :Heap} {i l:Addr} {n:Nat} (x:k.it h i l n) (q:∀ o,h.get? i=some o->h'.get? i=some o):k.it h' i l n:=by
 cases k with
 | l=>obtain ⟨o,e,r⟩:=x; exact ⟨o,q o e,r⟩
 | t=>obtain ⟨o,e,r⟩:=x; exact ⟨o,q o e,r⟩
theorem SK.sqOf {K:ac} (k:SK) {H:Hp} {a:Addr} {xs:List V} (e:H a=some (k.tr xs)):k.sq K H a xs:=by
 cases k with
 | l=>exact SqL.of e
 | t=>exact SqT.of e
theorem Inv.seq {X:Cx} {pins:List (Addr×Obj)} {σ:Sg} {H:Hp} {s:Shared} (I:L2.Inv X pins σ H s) (k:SK) {a:Addr} {xs:List V} (h:k.sq X.K H a xs):∃ its:List Value,zB xs its/\k.has s.heap a its.toArray/\∃ o,s.heap.get? a=some o:=by
 cases k with
 | l=>
  obtain ⟨its,r,p,_⟩:=I.list h
  obtain ⟨o,_,e,_⟩:=id p
  exact ⟨its,r,p.isList,o,e⟩
 | t=>
  obtain ⟨its,r,p,_⟩:=I.tuple h
  obtain ⟨o,e,_⟩:=id p
  exact ⟨its,r,p,o,e⟩
def Itz (K:ac) (k1 k2:SK) (l1 l2:Addr):It:=
 ⟨fun i H=>∃ xs ys x y,k1.sq K H l1 xs/\k2.sq K H l2 ys/\xs[i]? =some x/\ys[i]? =some y,fun i H v H' =>∃ p x y,H p=none/\v= .ref p/\(∀ xs,k1.sq K H l1 xs->xs[i]? =some x)/\(∀ ys,k2.sq K H l2 ys->ys[i]? =some y)/\H' =upd H p (.tup [x,y]),
  fun i H=>∃ xs ys,k1.sq K H l1 xs/\k2.sq K H l2 ys/\(xs.length<=i\/ys.length<=i)⟩
theorem Inv.seq_inj {X:Cx} {pins:List (Addr×Obj)} {σ:Sg} {H:Hp} {s:Shared} (I:L2.Inv X pins σ H s) (k:SK) {a:Addr} {xs ys:List V} (h:k.sq X.K H a xs) (h' :k.sq X.K H a ys):xs=ys:=by
 cases k with
 | l=>exact I.list_inj h h'
 | t=>exact I.tuple_inj h h'
theorem nN {a b:Nat} (h:a ≠ b): @Ne Addr a b:=h
theorem nM {a b c:Nat} (h:a ≠ b) (h' :a ≠ c):¬ @Membership.mem Addr (List Addr) _ [b,c] a:=fun q=>by
 rcases ax.mp q with z | z
 ·exact h z
 ·exact h' (a_.mp z)
theorem Y1 {P:Program} {w:World} {K:ac} {elts:List Expr} {kk:Nat} {pt:Pos} (k1 k2:SK) {n l1 l2:Nat} (h1:l1 < n) (h2:l2 < n):
  uI P w K (.Tuple elts kk pt) (Itz K k1 k2 l1 l2) [n+4,n+2,n+3,n,n+1] (n+4)
   (fun i h=>IsZip h (n+4) (n+2) (n+3) .none/\IsPair h (n+2) (.ref n) (.ref (n+1))/\(∃ a b,IsPair h (n+3) a b)/\k1.it h n l1 i/\k2.it h (n+1) l2 i):=by
 have D:Ap (n+4) (n+2) (n+3) n (n+1) [n,l1] [n+1,l2]:=by
  refine ⟨nN (by omega),nN (by omega),nN (by omega),nN (by omega),nN (by omega),nM (by omega) (by omega),nM (by omega) (by omega),nM (by omega) (by omega),nM (by omega) (by omega),nM (by omega) (by omega),nM (by omega) (by omega)⟩
 refine ⟨by simp,fun i h st b hb=> ?_,fun i h h' st k=> ?_, ?_, ?_, ?_⟩
 ·obtain ⟨hz,hI,⟨a,c,hO⟩,p1,p2⟩:=st
  simp only [ax,bq,or_false] at hb
  rcases hb with rfl | rfl | rfl | rfl | rfl
  ·exact ⟨_,hz,fun v z=>nomatch z⟩
  ·exact ⟨_,hI,fun v z=>nomatch z⟩
  ·exact ⟨_,hO,fun v z=>nomatch z⟩
  ·exact SK.obj p1
  ·exact SK.obj p2
 ·obtain ⟨hz,hI,⟨a,c,hO⟩,p1,p2⟩:=st
  exact ⟨k _ (by simp) _ hz,k _ (by simp) _ hI,⟨a,c,k _ (by simp) _ hO⟩,SK.at_ p1 fun o e=>k n (by simp) o e,SK.at_ p2 fun o e=>k (n+1) (by simp) o e⟩
 ·intro X hP hw hK hc i pins s σ H E I hf st hg
  subst hP hw hK
  obtain ⟨xs,ys,x,y,s1,s2,hx,hy⟩:=hg
  obtain ⟨hz,hI,⟨a,c,hO⟩,p1,p2⟩:=st
  obtain ⟨its1,r1,b1,_⟩:=Inv.seq I k1 s1
  obtain ⟨its2,r2,b2,_⟩:=Inv.seq I k2 s2
  obtain ⟨u,hu,ru⟩:=r1.get hx
  obtain ⟨v,hv,rv⟩:=r2.get hy
  refine Q6 (k1.nx (az h1) its1.toArray) (k2.nx (i:=n+1) (nN (by omega)) its2.toArray) D hz hI hO ⟨p1,b1⟩ ⟨p2,b2⟩ (x:=u) (y:=v) (by simpa using hu) (by simpa using hv) fun g a1 a2 a3 a4 a5 kp=>⟨_,rfl, ?_⟩
  refine wpAny_letOwnedTupleGo_zip a1 fun g2 z2 e2=> ?_
  have hlt:n+4 < s.heap.objs.size:=ai hz
  have ne:∀ b:Nat,b<=n+4->s.heap.objs.size ≠ b:=fun b hb=>by
   have hlt:n+4 < s.heap.objs.size:=hlt
   omega
  have kp2:∀ b o,b ∉ [n+4,n+2,n+3,n,n+1]->s.heap.get? b=some o->g2.get? b=some o:=fun b o hb e=>by
   simp only [ax,bq,or_false,not_or] at hb
   exact e2.extBut _ _ hb.1 (kp b o hb.1 hb.2.2.1 hb.2.2.2.1 hb.2.2.2.2 e)
  have g2P:IsPair g2 s.heap.objs.size u v:=e2.extBut _ _ (ne _ (ag _)) a5
  have g2I:IsPair g2 (n+2) (.ref n) (.ref (n+1)):=e2.extBut _ _ D.Iz (kp _ _ D.Iz D.IO D.I1 D.I2 hI)
  have g2O:IsPair g2 (n+3) u v:=e2.extBut _ _ D.Oz a2
  have q1:k1.it g2 n l1 (i+1):=SK.at_ a3.1 fun o e=>e2.extBut _ _ (nN (by omega)) e
  have q2:k2.it g2 (n+1) l2 (i+1):=SK.at_ a4.1 fun o e=>e2.extBut _ _ (nN (by omega)) e
  have hfr:H s.heap.objs.size=none:=I.hok.fresh (ag _)
  refine ⟨.ref s.heap.objs.size,upd H s.heap.objs.size (.tup [x,y]),Inv.laidT (s:=s) (h' :=g2) (ch:=[n+4,n+2,n+3,n,n+1]) (tk:=s.toks) I hf kp2 (fun b o hb _=> ?_) (ag _)
   ⟨by rw [bh]; show 2<=16777216; decide,[u,v], .cons ru (.cons rv .nil),⟨_,g2P,rfl,_,rfl⟩, .inr ⟨_,g2P,rfl⟩⟩,rfl,⟨_,x,y,hfr,rfl,fun zs hq=>by rw [← Inv.seq_inj I k1 s1 hq]; exact hx,fun zs hq=>by rw [← Inv.seq_inj I k2 s2 hq]; exact hy,rfl⟩,⟨z2,g2I,⟨u,v,g2O⟩,q1,q2⟩,fun b hb=> ?_⟩
  ·simp only [ax,bq,or_false] at hb
   rcases hb with rfl | rfl | rfl | rfl | rfl
   ·exact ⟨_,z2⟩
   ·exact ⟨_,g2I⟩
   ·exact ⟨_,g2O⟩
   ·obtain ⟨o',e',_⟩:=SK.obj q1; exact ⟨o',e'⟩
   ·obtain ⟨o',e',_⟩:=SK.obj q2; exact ⟨o',e'⟩
  ·have hb2:(b:Nat)<=n+4:=by
    have hb:b=n+4\/b=n+2\/b=n+3\/b=n\/b=n+1:=by simpa using hb
    rcases hb with rfl | rfl | rfl | rfl | rfl
    ·exact ag _
    ·exact dE (by decide) n
    ·exact dE (by decide) n
    ·exact cD _ _
    ·exact dE (by decide) n
   rw [zi fun z=>ne b hb2 z.symm]
   exact (hf b hb).1
 ·intro X hP hw hK hc i pins s σ H E I hf st hg
  subst hP hw hK
  obtain ⟨xs,ys,s1,s2,hend⟩:=hg
  obtain ⟨hz,hI,⟨a,c,hO⟩,p1,p2⟩:=st
  obtain ⟨its1,r1,b1,_⟩:=Inv.seq I k1 s1
  obtain ⟨its2,r2,b2,_⟩:=Inv.seq I k2 s2
  have l1' :=r1.length
  have l2' :=r2.length
  refine Q7 (I.ok.hd hc) (k1.nx (az h1) its1.toArray) (k2.nx (i:=n+1) (nN (by omega)) its2.toArray) D hz hI hO ⟨p1,b1⟩ ⟨p2,b2⟩ (k:=i) ?_ fun g kp=>⟨rfl, ?_⟩
  ·rcases hend with q | q
   ·exact .inl (dh (by rw [ar,← l1']; exact q))
   ·exact .inr (dh (by rw [ar,← l2']; exact q))
  ·have kp2:∀ b o,b ∉ [n+4,n+3,n,n+1]->s.heap.get? b=some o->g.get? b=some o:=fun b o hb e=>by
    simp only [ax,bq,or_false,not_or] at hb
    exact kp b o hb.1 hb.2.1 hb.2.2.1 hb.2.2.2 e
   have nch:∀ b u,H b=some u->b ∉ [n+4,n+3,n,n+1]:=fun b u e hb=>by
    have hb' :b∈[n+4,n+2,n+3,n,n+1]:=by
     simp only [ax,bq,or_false] at hb ⊢
     rcases hb with q | q | q | q
     ·exact .inl q
     ·exact .inr (.inr (.inl q))
     ·exact .inr (.inr (.inr (.inl q)))
     ·exact .inr (.inr (.inr (.inr q)))
    rw [(hf b hb').1] at e; cases e
   refine I.call' (s' :={ s with heap:=g }) (ch:=[n+4,n+3,n,n+1]) rfl ⟨fun b o e _ _ hc=>kp2 b o hc e,fun b o e _ _ hc=>⟨o.slots,kp2 b o hc e⟩,fun b o e q _=>q,fun b o e hc=>⟨o,kp2 b o hc e⟩,fun b ys e=>e,fun b o u e=>e,fun _ _ _ e=>e⟩ (fun b u e=> ?_) I.bare fun b hb=> ?_
   ·refine (I.hok b u e).stay (fun c v hc q=>kp2 c v ?_ q) (fun _ q=>q) fun _ _ q=>q
    rcases hc with rfl | hc
    ·exact nch c u e
    ·exact nch c _ hc
   ·have hb' :b∈[n+4,n+2,n+3,n,n+1]:=by
     simp only [ax,bq,or_false] at hb ⊢
     rcases hb with q | q | q | q
     ·exact .inl q
     ·exact .inr (.inr (.inl q))
     ·exact .inr (.inr (.inr (.inl q)))
     ·exact .inr (.inr (.inr (.inr q)))
    obtain ⟨f0,f1,f2,f3,f4,f5⟩:=hf b hb'
    exact ⟨f3,f1,f4,f5⟩
 ·intro A i s Q E st h
  exact wpAny_pyIter_zip st.1 h
def yv (xs ys:List T):List T:=(xs.zip ys).map fun p=>T.tup [p.1,p.2]
theorem Y2 {xs ys:List T} {i:Nat} {t:T} (h:(yv xs ys)[i]? =some t):∃ x y,xs[i]? =some x/\ys[i]? =some y/\t= .tup [x,y]:=by
 unfold yv at h
 rw [aj] at h
 cases e:(xs.zip ys)[i]? with
 | none=>rw [e] at h; cases h
 | some p=>
  rw [e] at h
  cases h
  have:=List.getElem?_zip_eq_some.mp e
  exact ⟨p.1,p.2,this.1,this.2,rfl⟩
theorem wN (xs ys:List T):(yv xs ys).length=min xs.length ys.length:=by unfold yv; simp
theorem Vj {K:ac} {B1 H1:Hp} {k1 k2:SK} {a b:Addr} {xs ys:List V} {ts us:List T} (ha:B1 a=some (k1.tr xs)) (hb:B1 b=some (k2.tr ys)) (ra:zq B1 xs ts) (rb:zq B1 ys us):rI B1 H1 (Itz K k1 k2 a b) (yv ts us):=fun B2 H2 s1 s2=>by
 have a2:=k1.sqOf (K:=K) (s2 _ _ (s1 _ _ ha))
 have b2:=k2.sqOf (K:=K) (s2 _ _ (s1 _ _ hb))
 rw [wN]
 refine ⟨fun i hi=> ?_,fun i t x H3 e y=> ?_,fun i hi=>⟨xs,ys,a2,b2, ?_⟩⟩
 ·obtain ⟨v,e1,_⟩:=ra.get (aw (show i < ts.length by omega))
  obtain ⟨u,e2,_⟩:=rb.get (aw (show i < us.length by omega))
  exact ⟨xs,ys,v,u,a2,b2,e1,e2⟩
 ·obtain ⟨p,v,u,hp,rfl,y1,y2,rfl⟩:=y
  obtain ⟨t1,t2,et,eu,rfl⟩:=Y2 e
  obtain ⟨v',e1,r1⟩:=ra.get et
  obtain ⟨u',e2,r2⟩:=rb.get eu
  have q1:=y1 xs a2
  have q2:=y2 ys b2
  rw [e1] at q1; cases q1
  rw [e2] at q2; cases q2
  have up:=zr.ge s2 (zm.new hp (.tup [v,u]))
  exact ⟨zm.new hp _, .tup (ZR hp _) (.cons ((r1.mono s1).mono up) (.cons ((r2.mono s1).mono up) .nil))⟩
 ·rw [ra.length,rb.length]; omega
section
variable {X:Cx} {Y:Fx} {a b:Expr} {fa fb:En->R T} {pos p pt:Pos} {elts:List Expr} {kk:Nat}
theorem Vk {ta:TA} (hg:Gl X "zip") (hm:X.mg "zip"=none) (ha:PA X [a,b] ta) (hs:starEach [a,b] X.env=[(false,eval a X.env),(false,eval b X.env)]) (hs2:starEach [b] X.env=[(false,eval b X.env)]):
  PI X (.Tuple elts kk pt) (.Call (.Name "zip" p) [a,b] [] pos) (fun σ H R=>ta σ H fun vs H1=>∃ k1 k2 l1 l2 xs ys,vs=[.ref l1, .ref l2]/\H1 l1=some (SK.tr k1 xs)/\H1 l2=some (SK.tr k2 ys)/\R (Itz X.K k1 k2 l1 l2) H1):=by
 intro pins s σ H R I h
 refine Call_ (ZL I hg hm PyProof.Rows.Boot.«zip» (aN (thn (ha pos pins s σ H _ I h) fun us s1 ⟨vs,H1,I1,r1,q1⟩=> ?_) (by rw [hs,hs2]) (by rw [hs2]; rfl)))
 obtain ⟨k1,k2,l1,l2,xs,ys,e,h1,h2,q⟩:=q1
 subst e
 obtain ⟨u,v,rfl,ru,rv⟩:=uO r1
 obtain rfl:u=Value.ref l1:=ru
 obtain rfl:v=Value.ref l2:=rv
 obtain ⟨its1,_,b1,o1,e1⟩:=Inv.seq I1 k1 (k1.sqOf h1)
 obtain ⟨its2,_,b2,o2,e2⟩:=Inv.seq I1 k2 (k2.sqOf h2)
 refine Qa (k1.of l1 its1.toArray) (k2.of l2 its2.toArray) b1 b2 fun g n hn z1 z2 z3 z4 z5 kp=>wpAny_pyIter_zip z1 ?_
 subst hn
 have f:∀ b∈[s1.heap.objs.size+4,s1.heap.objs.size+2,s1.heap.objs.size+3,s1.heap.objs.size,s1.heap.objs.size+1],ww X pins H1 b:=fun b hb=>by
  have hb' :s1.heap.objs.size<=b:=by
   simp only [ax,bq,or_false] at hb
   rcases hb with rfl | rfl | rfl | rfl | rfl
   ·exact cD _ _
   ·exact cD _ _
   ·exact cD _ _
   ·exact ag _
   ·exact cD _ _
  exact I1.fpOk hb' (I1.hok.fresh hb')
 exact ⟨s1.heap.objs.size+4,_,_,_,H1,rfl,I1.kept (t' :=s1.toks) kp,Y1 k1 k2 (ai e1) (ai e2),⟨z1,z2,⟨_,_,z3⟩,SK.start k1 z4,SK.start k2 z5⟩,f,q⟩
def je:T->R (List T)
 | .lst xs=> .ok xs
 | .tup xs=> .ok xs
 | _=> .bad
def Vl (fa fb:En->R T):En->R (List T):=fun ρ=>(fa ρ).bind fun t=>(fb ρ).bind fun u=>(je t).bind fun xs=>(je u).bind fun ys=> .ok (yv xs ys)
theorem Um {B:Hp} {v:V} {t:T} {xs:List T} (r:Rep B v t) (e:je t= .ok xs):∃ (k:SK) (a:Addr) (vs:List V),v= .ref a/\B a=some (k.tr vs)/\zq B vs xs:=by
 cases r with
 | lst h r=>cases e; exact ⟨.l,_,_,rfl,h,r⟩
 | tup h r=>cases e; exact ⟨.t,_,_,rfl,h,r⟩
 | _=>cases e
theorem Wh (t:T) (c:Nat):je t ≠ .ex c:=by cases t <;> exact fun z=>nomatch z
theorem XS (hg:Gl X "zip") (hm:X.mg "zip"=none) (ha:Snd X Y a fa) (hb:Snd X Y b fb) (hs:starEach [a,b] X.env=[(false,eval a X.env),(false,eval b X.env)]:=by exact st2 rfl rfl) (hs2:starEach [b] X.env=[(false,eval b X.env)]:=by exact st1 rfl):
  uw X Y (.Tuple elts kk pt) (.Call (.Name "zip" p) [a,b] [] pos) (Vl fa fb):= .mk fun ρ=>
 PI.imp (Vk hg hm (zj (ha ρ) (zj (hb ρ) zt hs2) (by rw [hs,hs2])) hs hs2) fun σ H R ⟨B,I,q⟩=>step I q fun t v H1 _ s1 r1 I1 q1=>step I1 q1 fun u v' H2 _ s2 r2 I2 q2=>by
  cases e1:je t with
  | bad=>rw [e1] at q2; exact q2.elim
  | ex c=>exact absurd e1 (Wh _ _)
  | ok xs=>
   rw [e1] at q2
   cases e2:je u with
   | bad=>rw [e2] at q2; exact q2.elim
   | ex c=>exact absurd e2 (Wh _ _)
   | ok ys=>
    rw [e2] at q2
    obtain ⟨k1,a1,vs1,rfl,h1,w1⟩:=Um (r1.mono (zr.ge I1.sB s2)) e1
    obtain ⟨k2,a2,vs2,rfl,h2,w2⟩:=Um r2 e2
    exact ⟨k1,k2,a1,a2,vs1,vs2,rfl,I2.sB _ _ h1,I2.sB _ _ h2,Za I2 (show Po Y rI _ H2 (.ok (yv xs ys)) R from q2) (Vj h1 h2 w1 w2)⟩
end
end PV
namespace PV
open PySem PySem.Spec PyProof.Rows L2
section
variable {X:Cx} {Y:Fx} {a b:Expr} {fa fb:En->R T} {pos p p' pos' :Pos}
theorem Uo:Zf X (.type "range") (fun xs H Q=>∃ i j,xs=[.int i, .int j]/\∀ r,H r=none->Q (.ref r) (upd H r (.rng i j))):=by
 intro pins s σ H xs us Q I r h
 obtain ⟨i,j,rfl,q⟩:=h
 obtain ⟨u,v,rfl,ru,rv⟩:=uO r
 obtain ⟨t,rfl⟩:=ru
 obtain ⟨t',rfl⟩:=rv
 exact call_range_2 ⟨.ref s.heap.objs.size,_,I.laid (t' :=s.toks+1) (fun b o e=>ae _ e) (ag _) (show zH X.prog X.w _ _ _ (.rng i j) from ⟨_,_,_,af _ rfl⟩),rfl,q _ (I.hok.fresh (ag _))⟩
def yw (lo:Int) (n:Nat):List V:=(aY n).map fun (i:Nat)=>V.int (lo+(i:Int))
theorem Jr (hh:X.A.handled=none):Zf X (.type "list") (fun xs H Q=>∃ r lo hi,xs=[.ref r]/\H r=some (.rng lo hi)/\(-1000000 < lo/\lo < 1000000/\ -1000000 < hi/\hi < 1000000)/\∀ l,H l=none->Q (.ref l) (upd H l (.lst (yw lo (hi - lo).toNat)))):=by
 intro pins s σ H xs us Q I rv h
 obtain ⟨r,lo,hi,rfl,e,⟨c1,c2,c3,c4⟩,q⟩:=h
 obtain ⟨u,rfl,ru⟩:=Zg rv
 obtain rfl:u=Value.ref r:=ru
 obtain ⟨t,v,v',eo⟩:=(show zH X.prog X.w H s.heap r (.rng lo hi) from I.hok r _ e)
 have hn:en lo hi 1=((hi - lo).toNat:Int):=by rw [rangeSize_one]; split <;> omega
 refine call_list_range (n:=(hi - lo).toNat) hh eo (small_one (by omega) (by omega) (by omega) (by omega)) hn (by omega) fun h' tk acc c kp eo' hacc=> ?_
 have hv:zB (yw lo (hi - lo).toNat) acc.toList:=by
  have key:∀ (n:Nat) (lo:Int) (vs:List Value),vs.length=n->(∀ (j:Nat) (v:Value),vs[j]? =some v->∃ t,v=Value.int (lo+(j:Int)) t)->zB (yw lo n) vs:=by
   intro n
   induction n with
   | zero=>
    intro lo vs hl _
    rw [List.eq_nil_of_length_eq_zero hl]
    exact .nil
   | succ n ih=>
    intro lo vs hl hv
    cases vs with
    | nil=>cases hl
    | cons v vs=>
     have e:yw lo (n+1)=V.int (lo+0) :: yw (lo+1) n:=by
      unfold yw
      rw [df,au,br]
      refine congrArg _ (bP fun j _=> ?_)
      show V.int (lo+((j+1:Nat):Int))=V.int (lo+1+(j:Int))
      congr 1; omega
     rw [e]
     refine .cons (hv 0 v rfl) (ih (lo+1) vs (by simpa using hl) fun j x hx=> ?_)
     obtain ⟨t,z⟩:=hv (j+1) x (by simpa using hx)
     exact ⟨t,by rw [z]; congr 1; omega⟩
  refine key _ lo acc.toList (by simpa using hacc.1) fun j v hj=> ?_
  obtain ⟨t,z⟩:=hacc.2 j v (by simpa using hj)
  exact ⟨t,by rw [z]; congr 1; omega⟩
 have hz:(yw lo (hi - lo).toNat).length<=sizeLine:=by
  rw [bh]; unfold yw; rw [ao,dj]; omega
 exact ⟨.ref s.heap.objs.size,_,I.laid (t' :=tk) kp (ag _) (show zH X.prog X.w _ h' _ (.lst _) from ⟨hz,acc.toList,c,hv,by simpa using eo'⟩),rfl,q _ (I.hok.fresh (ag _))⟩
def Vm (fi:En->R (List T)):En->R T:=fun ρ=>(fi ρ).bind fun ts=> .ok (.lst ts)
theorem Up {B:Hp} (lo:Int) (n:Nat):zq B (yw lo n) (rng lo n):=by
 unfold yw rng
 induction aY n with
 | nil=>exact .nil
 | cons i is ih=>exact .cons (.int _) ih
theorem Qb (hh:X.A.handled=none) (gl:Gl X "list") (mg:X.mg "list"=none) (gl' :Gl X "range") (mg' :X.mg "range"=none) (ha:Snd X Y a fa) (hb:Snd X Y b fb)
  (hs:starEach [a,b] X.env=[(false,eval a X.env),(false,eval b X.env)]:=by exact st2 rfl rfl) (hs2:St1 X b:=by exact st1 rfl):Snd X Y (.Call (.Name "list" p) [.Call (.Name "range" p') [a,b] [] pos'] [] pos) (Vm (jq fa fb)):= .mk fun ρ=>
 PE.imp (j1 (Jr hh) gl mg PyProof.Rows.Boot.«list» (zj (j1 Uo gl' mg' boot_range (zj (ha ρ) (zj (hb ρ) zt hs2) (by rw [hs,hs2])) (by decide) (by decide) (by rw [hs,hs2]) (by rw [hs2]; rfl)) zt (st1 rfl)) (by decide) (by decide) (st1 rfl) rfl) fun σ H Q ⟨B,I,q⟩=>by
  have q:Po Y rC B H ((fa ρ).bind fun t=>(fb ρ).bind fun t' =>(match t,t' with | .int i, .int j=>if -1000000 < i/\i < 1000000/\ -1000000 < j/\j < 1000000 then R.ok (rng i (j - i).toNat) else .bad | _,_=> .bad).bind fun ts=> .ok (.lst ts)) Q:=by
   revert q
   unfold Vm jq
   cases fa ρ with
   | ok t=>cases fb ρ <;> exact fun q=>q
   | ex c=>exact fun q=>q
   | bad=>exact fun q=>q
  refine step I q fun t v H1 _ s1 r1 I1 q1=>step I1 q1 fun t' v' H2 _ s2 r2 I2 q2=> ?_
  cases r1 with
  | int i=>
   cases r2 with
   | int j=>
    by_cases c: -1000000 < i/\i < 1000000/\ -1000000 < j/\j < 1000000
    ·dsimp only at q2
     rw [if_pos c] at q2
     refine ⟨i,j,rfl,fun r hr=>⟨r,i,j,rfl,zl,c,fun l hl=> ?_⟩⟩
     have hlr:l ≠ r:=fun z=>by rw [z,zl] at hl; cases hl
     have hl2:H2 l=none:=by rw [zi hlr] at hl; exact hl
     refine q2 _ _ (zm.new hr _ |>.trans (zm.new hl _)) (.lst ?_ (Up _ _))
     rw [zC hl2,zl]
    ·dsimp only at q2
     rw [if_neg c] at q2
     exact q2.elim
   | _=>exact q2.elim
  | _=>cases r2 <;> exact q2.elim
end
def eqs (y:T):List T->Option (List Bool)
 | []=>some []
 | t :: ts=>match eqF 30 t y with
  | none=>none
  | some b=>match eqs y ts with
   | none=>none
   | some bs=>some (b :: bs)
def XT (y:T) (ts:List T):R T:=match eqs y ts with
 | some bs=> .ok (.int (bs.count true))
 | none=> .bad
def Qc (y:T) (ts:List T):R T:=match eqs y ts with
 | some bs=>if true∈bs then .ok (.int (bs.idxOf true)) else .bad
 | none=> .bad
def Vn (g:T->List T->R T) (fa fb:En->R T):En->R T:=fun ρ=>(fa ρ).bind fun t=>match t with
 | .lst ts=>(fb ρ).bind fun u=>g u ts
 | _=> .bad
theorem Uq {H:Hp} {y:T} {e:Value->Bool} (he:∀ (v:V) (t:T) (u:Value) (b:Bool),zP v u->Rep H v t->eqF 30 t y=some b->e u=b):∀ {xs:List V} {ts:List T} {its:List Value} {bs:List Bool},
  zB xs its->zq H xs ts->eqs y ts=some bs->its.map e=bs/\∀ u∈its,∃ v t k,zP v u/\Rep H v t/\eqF 30 t y=some k
 | _,_,_,_, .nil, .nil,h=>by
  cases h
  exact ⟨rfl,fun u hu=>by simp at hu⟩
 | _,_,_,_, .cons rv vs, .cons r rs,h=>by
  rename_i v u vals us t ts
  unfold eqs at h
  cases q:eqF 30 t y with
  | none=>rw [q] at h; cases h
  | some k=>
   rw [q] at h
   cases q' :eqs y ts with
   | none=>rw [q'] at h; cases h
   | some k' =>
    rw [q'] at h
    cases h
    obtain ⟨h1,h2⟩:=Uq he vs rs q'
    refine ⟨by rw [au,h1,he v t u k rv r q],fun w hw=> ?_⟩
    rcases ax.mp hw with z | hw
    ·exact ⟨v,t,k,z ▸ rv,r,q⟩
    ·exact h2 w hw
section
variable {X:Cx} {Y:Fx} {a b:Expr} {fa fb:En->R T} {pos p p' pos' :Pos}
theorem Ur {e:Value->Bool}:∀ its:List Value,List.countP e its=(its.map e).count true
 | []=>rfl
 | u :: us=>by
  rw [List.countP_cons,au,List.count_cons,Ur us]
  cases e u <;> rfl
theorem Y3 (hu:X.A.units+64 < cLine):MtR X "list.count" (fun x xs H Q=>∃ l ys ts v t bs,x= .ref l/\xs=[v]/\H l=some (.lst ys)/\zq H ys ts/\Rep H v t/\eqs t ts=some bs/\Q (.int (bs.count true)) H):=by
 intro pins s σ H x xs v0 us Q I rx rv h
 obtain ⟨l,ys,ts,v,t,bs,rfl,rfl,hl,r,rt,e,q⟩:=h
 obtain rfl:v0=Value.ref l:=rx
 obtain ⟨u,rfl,ru⟩:=Zg rv
 obtain ⟨hz,its,n,ri,eo⟩:=(show zH X.prog X.w H s.heap l (.lst ys) from I.hok l _ hl)
 obtain ⟨f,hf⟩:=wJ (H:=H) fun z=>eqF 30 z t
 obtain ⟨h2,h3⟩:=Uq hf ri r e
 refine bO eG ⟨_,eo,rfl⟩ PySem.F.entry_list_count (PySem.F.args_list_count_2 _ _) (SeqAt.list_countAt l its.toArray n none #[] u f) ⟨eo,fun w hw=> ?_, ?_⟩
 ·obtain ⟨v',t',k,rv',rr,ee⟩:=h3 w (by simpa using hw)
  rw [hf v' t' w k rv' rr ee]
  exact (uZ I 30 X.A.in1 (by rw [j3]; omega) t' t k v' v w u ee rr rt rv' ru).1
 ·rw [show its.toArray.toList=its from rfl,Ur,h2]
  exact ⟨.int _,H,I.tok _,⟨_,rfl⟩,q⟩
theorem Y4 (hu:X.A.units+64 < cLine):MtR X "list.index" (fun x xs H Q=>∃ l ys ts v t bs,x= .ref l/\xs=[v]/\H l=some (.lst ys)/\zq H ys ts/\Rep H v t/\eqs t ts=some bs/\true∈bs/\Q (.int (bs.idxOf true)) H):=by
 intro pins s σ H x xs v0 us Q I rx rv h
 obtain ⟨l,ys,ts,v,t,bs,rfl,rfl,hl,r,rt,e,hm,q⟩:=h
 obtain rfl:v0=Value.ref l:=rx
 obtain ⟨u,rfl,ru⟩:=Zg rv
 obtain ⟨hz,its,n,ri,eo⟩:=(show zH X.prog X.w H s.heap l (.lst ys) from I.hok l _ hl)
 obtain ⟨f,hf⟩:=wJ (H:=H) fun z=>eqF 30 z t
 obtain ⟨h2,h3⟩:=Uq hf ri r e
 have hj:bs.idxOf true < bs.length:=List.idxOf_lt_length_iff.mpr hm
 have hlen:bs.length=its.length:=by rw [← h2,ao]
 have hri:=ri.length
 rw [bh] at hz
 have hat:∀ m (hm:m < its.length),f its[m]=bs[m]'(by rw [hlen]; exact hm):=fun m hm=>by
  have:(its.map f)[m]'(by rw [ao]; exact hm)=bs[m]'(by rw [hlen]; exact hm):=by simp only [h2]
  rw [← this,List.getElem_map]
 refine bO eH ⟨_,eo,rfl⟩ PySem.F.entry_list_index (PySem.F.args_list_index_2 _ _) (SeqAt.list_indexAt l its.toArray n none #[] u f (bs.idxOf true) (by rw [ar,← hlen]; exact hj) (by omega) ?_ ?_) ⟨eo,fun w hw=> ?_, ?_⟩
 ·rw [eX,hat]
  exact List.getElem_idxOf hj
 ·intro m hm hlt
  rw [eX,hat m (by simpa using hm)]
  have:=List.not_of_lt_findIdx (p:=(· == true)) (xs:=bs) (i:=m) hlt
  simpa using this
 ·obtain ⟨v',t',k,rv',rr,ee⟩:=h3 w (by simpa using hw)
  rw [hf v' t' w k rv' rr ee]
  exact (uZ I 30 X.A.in1 (by rw [j3]; omega) t' t k v' v w u ee rr rt rv' ru).1
 ·exact ⟨.int _,H,I.tok _,⟨_,rfl⟩,q⟩
theorem Qd {pa:Pos} (hu:X.A.units+64 < cLine) (ha:ZQ X Y a fa) (hb:ZQ X Y b fb) (hb1:attributeBase a "count" X.env (eval a X.env)=eval a X.env:=by rfl) (hs:St1 X b:=by exact st1 rfl) (hz:(pa.endLine == p.line)=true:=by rfl):
  Snd X Y (.Call (.Attribute a "count" pa) [b] [] p) (Vn XT fa fb):= .mk fun ρ=>by
 have e1:(((((backTo p (starEach [b] X.env)).all fun x=> !x.fst) && (backToKw p (keywordEach [] X.env)).all fun x=>x.fst.isSome) && decide (([b].length+([]:List Keyword).length+if ([]:List Keyword).isEmpty=true then 0 else 1) < 30))=true):=by rw [hs]; rfl
 refine PE.imp (jP cT eG PySem.F.type_list_count (Y3 hu) (ha ρ) (zj (hb ρ) zt hs) hb1 e1 hz hs rfl) fun σ H Q ⟨B,I,q⟩=>step I q fun t v H1 _ s1 r1 I1 q1=> ?_
 cases t with
 | lst ts=>
  cases r1 with
  | @lst l xs _ h r=>
   refine ⟨.inl ⟨rfl,_,SqL.of h⟩,step I1 q1 fun u v' H2 _ s2 r2 I2 q2=> ?_⟩
   unfold XT at q2
   split at q2
   ·rename_i bs e
    exact ⟨l,xs,ts,v',u,bs,rfl,rfl,s2 _ _ h,r.mono s2,r2,e,Za I2 q2 (.int _)⟩
   ·exact q2.elim
 | _=>exact q1.elim
theorem Qe {pa:Pos} (hu:X.A.units+64 < cLine) (ha:ZQ X Y a fa) (hb:ZQ X Y b fb) (hb1:attributeBase a "index" X.env (eval a X.env)=eval a X.env:=by rfl) (hs:St1 X b:=by exact st1 rfl) (hz:(pa.endLine == p.line)=true:=by rfl):
  Snd X Y (.Call (.Attribute a "index" pa) [b] [] p) (Vn Qc fa fb):= .mk fun ρ=>by
 have e1:(((((backTo p (starEach [b] X.env)).all fun x=> !x.fst) && (backToKw p (keywordEach [] X.env)).all fun x=>x.fst.isSome) && decide (([b].length+([]:List Keyword).length+if ([]:List Keyword).isEmpty=true then 0 else 1) < 30))=true):=by rw [hs]; rfl
 refine PE.imp (jP cT eH PySem.F.type_list_index (Y4 hu) (ha ρ) (zj (hb ρ) zt hs) hb1 e1 hz hs rfl) fun σ H Q ⟨B,I,q⟩=>step I q fun t v H1 _ s1 r1 I1 q1=> ?_
 cases t with
 | lst ts=>
  cases r1 with
  | @lst l xs _ h r=>
   refine ⟨.inl ⟨rfl,_,SqL.of h⟩,step I1 q1 fun u v' H2 _ s2 r2 I2 q2=> ?_⟩
   unfold Qc at q2
   split at q2
   ·rename_i bs e
    split at q2
    ·rename_i hm
     exact ⟨l,xs,ts,v',u,bs,rfl,rfl,s2 _ _ h,r.mono s2,r2,e,hm,Za I2 q2 (.int _)⟩
    ·exact q2.elim
   ·exact q2.elim
 | _=>exact q1.elim
end
def jm:List T->Option (List Int)
 | []=>some []
 | .int i :: r=>match jm r with | some l=>some (i :: l) | none=>none
 | _ :: _=>none
def xL:T->R T
 | .lst ts=>match jm ts with | some l=> .ok (.int l.sum) | none=> .bad
 | _=> .bad
def nex (g:List T->R T):List T->R T:=fun ts=>quiet (g ts)
theorem noex {P:Program} {w:World} {K:ac} {mg:Str->Option Value} {base:Heap} {cl:Nat->Value} {k n:Nat} {f:Addr} {fd:FuncData} {ps:List Str} {g:List T->R T} (F:zG P w K mg base (CX1 P w) k f fd ps (spP cl n g)):zG P w K mg base CX0 k f fd ps (spP cl n (nex g)):=by
 have key:∀ vs H Q E,spP cl n (nex g) vs H Q E->spP cl n g vs H Q (fun _ _ _=>False):=fun vs H Q E ⟨B,ts,hl,sB,r,q⟩=>⟨B,ts,hl,sB,r,by
  unfold nex at q
  revert q
  cases g ts with
  | ok t=>exact fun q=>q
  | ex c=>exact fun q=>q.elim
  | bad=>exact fun q=>q.elim⟩
 refine ⟨fun vs H Q E h=>F.len vs H Q _ (key vs H Q E h),fun A outer s H args us vs Q E hr he hb hv h=> ?_⟩
 refine bX (F.run A outer s H args us vs Q _ hr he hb hv (key vs H Q E h)) fun r s' z=> ?_
 cases r with
 | ok fl=>cases fl <;> exact z
 | error e=>
  obtain ⟨_,_,_,_,_,_,_,z⟩:=(show CX1 P w outer H s (fun _ _ _=>False) e s' from z)
  exact z.elim
theorem Us:∀ {H:Hp} {xs:List V} {ts:List T} {its:List Value} {is:List Int},zq H xs ts->zB xs its->jm ts=some is->∃ ps:List (Int×Tok),its=ps.map (fun p=>Value.int p.1 p.2)/\ps.map (·.1)=is
 | _,_,_,_,is, .nil, .nil,h=>by
  have h' :some []=some is:=h
  cases h'
  exact ⟨[],rfl,rfl⟩
 | H,_,_,_,is, .cons (v:=x) (t:=t) r rs, .cons (b:=u) rv vs,h=>by
  cases r with
  | int i=>
   unfold jm at h
   split at h
   ·rename_i l e
    cases h
    obtain ⟨ps,h1,h2⟩:=Us rs vs e
    obtain ⟨tk,rfl⟩:=rv
    exact ⟨(i,tk) :: ps,by rw [h1]; rfl,by rw [au,h2]⟩
   ·cases h
  | _=>cases h
section
variable {X:Cx} {Y:Fx} {a b:Expr} {fa fb:En->R T} {pos p p' pos' :Pos}
theorem Ut (hh:X.A.handled=none):Zf X (.builtin "sum") (fun vs H Q=>∃ l xs ts is,vs=[.ref l]/\H l=some (.lst xs)/\zq H xs ts/\jm ts=some is/\Q (.int is.sum) H):=by
 intro pins s σ H vs us Q I rv h
 obtain ⟨l,xs,ts,is,rfl,hl,r,hk,q⟩:=h
 obtain ⟨u,rfl,ru⟩:=Zg rv
 obtain rfl:u=Value.ref l:=ru
 obtain ⟨its,rv,p,_⟩:=zA I (.inl hl) r
 obtain ⟨ps,h1,h2⟩:=Us r rv hk
 have e:its.toArray=intItems ps.toArray:=by rw [h1]; simp [intItems]
 rw [e] at p
 refine sum_intListG hh p fun h' tk t' kp=> ?_
 have e2:preSum (numAt ps.toArray) ps.toArray.size=is.sum:=by
  rw [preSum_eq,List.take_of_length_le (by simp),← h2]
 rw [e2]
 exact ⟨.int is.sum,H,I.kept (t' :=tk) kp,⟨t',rfl⟩,q⟩
theorem XU (hh:X.A.handled=none) (gl:Gl X "sum") (mg:X.mg "sum"=none) (ha:ZQ X Y a fa) (hs:St1 X a:=by exact st1 rfl):Snd X Y (.Call (.Name "sum" p) [a] [] pos) (ap1 xL fa):=
 U5 (Ut hh) (fun v t B H Q r sB q=>by
  cases r with
  | @lst l xs ts h r=>
   have q:Po Y rC B H (match jm ts with | some k=> .ok (.int k.sum) | none=> .bad) Q:=q
   split at q
   ·rename_i k e
    exact ⟨l,xs,ts,k,rfl,h,r,e,po0 sB q rfl (.int _)⟩
   ·exact q.elim
  | _=>exact q.elim) gl mg boot_sum ha hs
end
section
variable {X:Cx} {Y:Fx} {a b:Expr} {fa fb:En->R T} {pos p p' pos' :Pos}
end
section
variable {X:Cx} {Y:Fx} {tg iter elt:Expr} {ifs:List Expr} {scope:Scope} {pos pos' :Pos} {N' :List Str} {k:Nat} {js:List Nat} {fi:En->R (List T)} {tG:TG} {g:T->En->R En} {ft:En->R Bool} {fe:En->R T}
end
section
variable {P:Program} {w:World} {K:ac} {mg:Str->Option Value} {base:Heap}
end
end PV
namespace PySem.RV
open PySem PySem.Spec PyProof.Rows PySem.Builtin.SmallTypes
theorem Wi:Manifest.owners.lookup (String.ofList "desrever".toList.reverse)=some Manifest.sig_reversed:=by kernel_rfl
theorem ZA:Slot "reversed" "__next__" "reversed.__next__":=
 .of (owner:="reversed") (n:="__next__") (by rw [bV,bw]; kernel_rfl) (by decide+kernel) (by decide+kernel) (by decide+kernel)
  (by first | exact .inl (by decide+kernel) | exact .inr (by decide+kernel)) (by rw [cf]; kernel_rfl)
theorem jY:entryFor table "reversed.__next__"=some Builtin.«reversed.__next__»:=entryFor_of_tree (by kernel_rfl)
theorem wa (a:Value):argsOk "reversed.__next__" ⟨[a],[]⟩:=by
 unfold argsOk; rw [signature?_of (id:="reversed.__next__") (n:="__txen__".toList) (o:="desrever".toList) (by kernel_rfl) Wi]; kernel_rfl
theorem wb:Slot "reversed" "__iter__" "reversed.__iter__":=
 .of (owner:="reversed") (n:="__iter__") (by rw [bV,bw]; kernel_rfl) (by decide+kernel) (by decide+kernel) (by decide+kernel)
  (by first | exact .inl (by decide+kernel) | exact .inr (by decide+kernel)) (by rw [cf]; kernel_rfl)
theorem Uu (a:Value):argsOk "reversed.__iter__" ⟨[a],[]⟩:=by
 unfold argsOk; rw [signature?_of (id:="reversed.__iter__") (n:="__reti__".toList) (o:="desrever".toList) (by kernel_rfl) Wi]; kernel_rfl
theorem ub:entryFor table "reversed.__iter__"=some Builtin.«dict_keyiterator.__iter__»:=
 entryFor_alias (id' :="dict_keyiterator.__iter__") (by kernel_rfl) (by first | rfl | decide+kernel | (unfold String.splitOn; simp+decide [String.splitOnAux])) (by decide+kernel) (by kernel_rfl)
theorem Vo:typeLookup (.type "tuple") "__reversed__"=pure none:=by rw [bV,bw]; kernel_rfl
theorem Vp:isSubtype (.type "tuple") (.type "dict")=pure false:=by rw [cf]; kernel_rfl
abbrev IsRv (h:Heap) (it:Addr) (v:Value) (i:Int):Prop:=h.get? it=some { cls:= .type "reversed",data:= .fields #[v,rawInt i] }
section
variable {prog:Program} {w:World} {A:Around} {E:Value->Shared->Prop} {s:Shared} {it l:Addr} {xs:Array Value}
theorem wO {v:Value} {i:Int} (x:IsRv s.heap it v i):s.TypeIs (.ref it) "reversed":=⟨_,x,rfl⟩
theorem next_item {i:Nat} {x:Value} {Q:Option Value->Shared->Prop} (hit:IsRv s.heap it (.ref l) (i:Int)) (ht:IsTup s.heap l xs) (hf:(xs.size:Int) < 2 ^ 63) (hx:xs[i]? =some x)
  (hQ:∀ h' tk,IsRv h' it (.ref l) ((i:Int) - 1)->cq it s.heap h' ->Q (some x) { s with heap:=h',toks:=tk }):wpAny (model prog w) A (pyNext (.ref it)) Q E s:=by
 unfold pyNext
 refine aa (cz (wpAny_callSpecial?_slot (name:=aG "__next__") (wO hit) ZA (ce ZA (wO hit) jY ?_ (wa _))))
 unfold Builtin.«reversed.__next__»
 refine aa (cj (a:=(Value.ref it,[])) rfl ?_)
 dsimp only
 refine aa (bb hit rfl (x:= .ref l) rfl ?_)
 refine aa (bb hit rfl (x:=rawInt (i:Int)) rfl ?_)
 show wpAny _ _ (if (i:Int) < 0 then _ else _) _ _ s
 rw [if_neg (by omega)]
 have hi:i < xs.size:=(Array.getElem?_eq_some_iff.mp hx).1
 have hT:=ht.typeIs (s:=s)
 refine aa (wpAny_specialOf hT slot_tuple_getitem.lookup ?_)
 show wpAny _ _ (if (some _:Option Value).isNone=true then _ else _) _ _ s
 rw [if_neg (by simp)]
 refine aa (wpAny_mkInt ?_)
 refine aa (cz (getItem_tuple (s:={ s with toks:=s.toks+1 }) ht (by omega) (by omega) (seqIndex_of (by omega) (by omega)) (by simpa using hx) ?_))
 dsimp only
 refine aa (bb (s:={ s with toks:=s.toks+1 }) hit rfl (x:=rawInt (i:Int)) rfl ?_)
 show wpAny _ _ (setField (.ref it) 1 (rawInt ((i:Int) - 1)) >>= _) _ _ _
 refine aa (bj (s:={ s with toks:=s.toks+1 }) hit (by simp) fun g1 z1 e1=> ?_)
 exact aq ⟨x,rfl,aq (hQ g1 _ z1 e1)⟩
theorem next_end {Q:Option Value->Shared->Prop} (hh:A.handled=none) (hit:IsRv s.heap it (.ref l) (-1))
  (hQ:∀ h',eW it s.heap h' ->Q none { s with heap:=h' }):wpAny (model prog w) A (pyNext (.ref it)) Q E s:=by
 unfold pyNext
 refine aa (cz (wpAny_callSpecial?_slot (name:=aG "__next__") (wO hit) ZA (ce ZA (wO hit) jY ?_ (wa _))))
 unfold Builtin.«reversed.__next__»
 refine aa (cj (a:=(Value.ref it,[])) rfl ?_)
 dsimp only
 refine aa (bb hit rfl (x:= .ref l) rfl ?_)
 refine aa (bb hit rfl (x:=rawInt (-1)) rfl ?_)
 show wpAny _ _ (if (-1:Int) < 0 then _ else _) _ _ s
 rw [if_pos (by decide)]
 refine aa (wpAny_rule ?_)
 refine aa (show wpAny _ _ (do setField (.ref it) 1 (rawInt (-1)); setField (.ref it) 0 .none) _ _ _ from ?_)
 refine aa (bj hit (by simp) fun g1 z1 e1=> ?_)
 refine bj (s:={ s with heap:=g1 }) z1 (by simp) fun g2 z2 e2=> ?_
 refine aa (show wpAny _ _ (newExc (.type "StopIteration") [] >>= fun e=>raiseNew e) _ _ _ from ?_)
 refine aa ?_
 simp only [newExc,newTuple]
 refine aa (bu (aa (m:=firstArgMember _ _) (cj (a:=Value.none) (by first | rfl | (simp only [firstArgMember]; rfl)) (bu ?_ (by size_fits)))) (by size_fits))
 simp only [raiseNew]
 refine aa (wpAny_handled ?_)
 rw [show A.in1.handled=none from hh]
 refine aa (aq (wpAny_throw ?_))
 refine aa (wpAny_isInstance (T:="StopIteration") (b:=true) ⟨_,af _ rfl,rfl⟩ isSubtype_stop ?_)
 exact aq (hQ _ (((e1.extBut.trans e2.extBut).push _).push _))
theorem iter_rv {v:Value} {i:Int} {Q:Value->Shared->Prop} (hit:IsRv s.heap it v i) (h:Q (.ref it) s):wpAny (model prog w) A (pyIter (.ref it)) Q E s:=by
 refine wpAny_pyIter_slot (wO hit) wb (ce wb (wO hit) ub ?_ (Uu _))
 show wpAny _ _ (ret (.ref it)) _ _ s
 exact aq ⟨_,rfl,"reversed",_,wO hit,ZA.lookup,h⟩
theorem YG:mroOf (.type "reversed")=pure [.type "reversed", .type "object"]:=by rw [mroOf_type]; kernel_rfl
theorem Vq:typeLookup (.type "reversed") "__new__"=pure (some (.builtin "reversed.__new__")):=by rw [bV,bw]; kernel_rfl
theorem Qf:Bind.madeBy (.type "reversed")=pure (some "reversed.__new__"):=madeBy_type YG Vq (by decide+kernel)
theorem Vr:isSubtype (.type "reversed") (.type "reversed")=pure true:=by rw [cf]; kernel_rfl
theorem Vs (a:Value):newClass "reversed" ⟨[.type "reversed",a],[]⟩=pure (.type "reversed",[a]):=by
 unfold newClass
 simp only [isType,Vr,pure_bind,dY,bi,if_false]
theorem Uv:entryFor table "reversed.__new__"=some Builtin.«reversed.__new__»:=entryFor_of_tree (by kernel_rfl)
theorem Y5 {Q:Fin->Shared->Prop} (ht:IsTup s.heap l xs) (hf:(xs.size:Int) < 2 ^ 63)
  (h:∀ tk,Q (.done (.ret (.ref s.heap.objs.size))) { s with heap:=s.heap.push { cls:= .type "reversed",data:= .fields #[.ref l,rawInt ((xs.size:Int) - 1)] },toks:=tk }):
  wpAny (model prog w) A (Builtin.«reversed.__new__» ⟨[.type "reversed", .ref l],[]⟩) Q E s:=by
 have hT:=ht.typeIs (s:=s)
 unfold Builtin.«reversed.__new__»
 refine aa (cj (Vs _) ?_)
 try dsimp only
 refine aa (cj (a:=()) (by first | rfl | kernel_rfl) ?_)
 refine aa (cj (a:=()) (by first | rfl | kernel_rfl) ?_)
 try dsimp only
 refine aa (wpAny_specialOf hT Vo ?_)
 try dsimp only
 refine aa (m:=(do
   if ← isInstance (.ref l) (.type "dict") then return false
   match ← specialOf (.ref l) "__getitem__" with
   | none=>return false
   | some (.builtin id)=>
    if ["tuple.__getitem__","str.__getitem__","bytes.__getitem__","bytearray.__getitem__","memoryview.__getitem__","numpy.ndarray.__getitem__","sqlite3.Row.__getitem__"].contains id then return true
    if id == "sqlite3.Blob.__getitem__" then return false
    unsupported "reversed.__new__:is-it-a-sequence"
   | some _=>return true)) ?_
 refine aa (wpAny_isInstance hT Vp ?_); rw [if_neg (by simp)]
 refine aa (wpAny_specialOf hT slot_tuple_getitem.lookup ?_)
 dsimp only
 rw [if_pos (by decide)]
 refine aq ?_
 rw [if_neg (by simp)]
 refine aa (len_tuple ht hf ?_)
 refine aa (cj (a:=some (xs.size:Int)) rfl ?_)
 dsimp only
 refine aa (show wpAny _ _ (newObj (.type "reversed") (.fields #[.ref l,rawInt ((xs.size:Int) - 1)])) _ _ _ from ?_)
 exact bu (aq (h _)) (by size_fits)
theorem Uw:Slot "reversed" "__init__" "object.__init__":=
 .of (owner:="object") (n:="__init__") (by rw [bV,bw]; kernel_rfl) (by decide+kernel) (by decide+kernel) (by decide+kernel)
  (by first | exact .inl (by decide+kernel) | exact .inr (by decide+kernel)) (by rw [cf]; kernel_rfl)
theorem Ux:TypeCalled "reversed" "reversed.__new__" "object.__init__":=
 ⟨by decide+kernel,by decide+kernel,⟨_,_,YG⟩,Qf,by decide+kernel,by rw [cf]; kernel_rfl,Uw⟩
theorem Y6 (a:Value):checkTypeCall "reversed" ⟨[a],[]⟩=pure ():=by kernel_rfl
theorem Y7 (a:Value):checkBuiltinCall "reversed.__new__" ⟨[.type "reversed",a],[]⟩=pure ():=by kernel_rfl
theorem call_rvT {Q:Value->Shared->Prop} (ht:IsTup s.heap l xs) (hf:(xs.size:Int) < 2 ^ 63)
  (h:∀ tk,Q (.ref s.heap.objs.size) { s with heap:=s.heap.push { cls:= .type "reversed",data:= .fields #[.ref l,rawInt ((xs.size:Int) - 1)] },toks:=tk }):wpAny (model prog w) A (call (.type "reversed") [.ref l]) Q E s:=by
 refine callType_new (S:=fun _ R s=>(∃ xs,IsTup s.heap l xs/\(xs.size:Int) < 2 ^ 63/\∀ tk,R (.ok (.ret (.ref s.heap.objs.size))) { s with heap:=s.heap.push { cls:= .type "reversed",data:= .fields #[.ref l,rawInt ((xs.size:Int) - 1)] },toks:=tk })) Ux (by decide) (Y6 _) (Y7 _) (fun obj=>PySem.F.args_object_init_2 obj _) Uv (.of_wp fun prog w A R s h=> ?_) ⟨xs,ht,hf,fun tk=> ?_⟩
 ·obtain ⟨xs,h1,h2,h3⟩:=h
  exact Y5 h1 h2 fun tk=>⟨_,rfl,h3 tk⟩
 ·exact ⟨⟨_,af _ rfl,rfl⟩,h tk⟩
end
end PySem.RV
namespace PySem.RV
open PySem PySem.Spec PyProof.Rows
theorem Y8:typeLookup (.type "list_reverseiterator") "__len__"=pure none:=by rw [bV,bw]; kernel_rfl
theorem Qg:typeLookup (.type "list_reverseiterator") "__length_hint__"=pure (some (.builtin "list_reverseiterator.__length_hint__")):=by rw [bV,bw]; kernel_rfl
section
variable {prog:Program} {w:World} {A:Around} {E:Value->Shared->Prop} {s:Shared} {I:Addr} {fp wr:List Addr} {G:Array GenState->Array GenState->Prop} {n:Nat} {P:Nat->Value->Prop} {St:Nat->Shared->Prop}
theorem uc {Q:List Value->Shared->Prop} (W:WalksS prog w A.in1 I fp wr G n P St) (hT:∀ i s,St i s->s.TypeIs (.ref I) "list_reverseiterator") (hst:St 0 s) (hfp:∀ b∈fp,b < s.heap.objs.size) (hI:I∈fp)
  (hQ:∀ s' acc,Moved wr G s s' ->ItemsOf P acc n->Q acc.toList s') (hn:n<=sizeLine):wpAny (model prog w) A (collect (.ref I)) Q E s:=by
 have nf:s.heap.objs.size ∉ fp:=fun z=>bx _ (hfp _ z)
 have nI:s.heap.objs.size ≠ I:=fun z=>nf (z ▸ hI)
 unfold collect
 refine aa (wpAny_runValue (bU F.entry_proto_collect ?_))
 rw [bY F.plain_proto_collect _]
 refine (show wpAny _ A.in1 (newList [] >>= fun l=>again (.builtin "list.__iadd__" ⟨[l, .ref I],[]⟩)) _ _ s from ?_)
 refine aa (bu (aq ⟨plainId_quiet fD _,bU F.entry_list_iadd ?_⟩))
 rw [bY fD _]
 have g0:=W.frame 0 s (s.heap.push { cls:= .type "list",data:= .seq ([]:List Value).toArray }) s.toks hst (ag _) fun b _ o e=>ae _ e
 have g1:(s.heap.push { cls:= .type "list",data:= .seq ([]:List Value).toArray }).get? s.heap.objs.size=some { cls:= .type "list",data:= .seq ([]:List Value).toArray }:=af _ rfl
 have g2:dZ (.ref s.heap.objs.size) (.ref I)=false:=by simp [dZ,nI]
 refine (show wpAny _ A.in1 (dF (.ref s.heap.objs.size) (.ref I) (.ref s.heap.objs.size)) _ _ _ from ?_)
 unfold dF
 refine aa (wpAny_typeOf (hT 0 _ g0) ?_)
 rw [if_neg (by rw [g2]; decide)]
 refine aa (W.self 0 _ _ _ g0 (aa (wpAny_holding ?_)))
 unfold Builtin.List.listLengthHint
 refine aa (wpAny_specialOf (hT 0 _ g0) Y8 ?_)
 refine (show wpAny _ A.in1 (specialOf (Value.ref I) (aG "__length_hint__") >>= _) _ _ _ from ?_)
 refine aa (wpAny_specialOf (hT 0 _ g0) Qg ?_)
 generalize hid:("list_reverseiterator.__length_hint__":String)=id0
 wp_delta
 rw [show splitId id0=some ("list_reverseiterator","__length_hint__") from by subst hid; decide+kernel]
 subst hid
 refine aa (wpAny_isInstance (b:=true) (hT 0 _ g0) (by rw [cf]; kernel_rfl) ?_)
 refine aq ?_
 rw [if_neg (by decide)]
 refine aq ⟨plainId_quiet F.plain_extend_loop _,codeAny_extend_loopS W hn _ nf _ n 0 _ _ _ rfl (bI _) g0 g1 (ItemsOf.nil P) fun s' acc' c' hm hS' hacc=> ?_⟩
 refine (show wpAny _ A (load s.heap.objs.size >>= _) _ _ s' from ?_)
 exact aa (wpAny_load hS' (aq (hQ s' acc' (Moved.drop_new (o:={ cls:= .type "list",data:= .seq ([]:List Value).toArray }) (tk:=s.toks) hm (ag _)) hacc)))
theorem Vt {Q₁:Value->Shared->Prop} (W:WalksS prog w A.in1.in1 I fp wr G n P St) (hT:∀ i s,St i s->s.TypeIs (.ref I) "list_reverseiterator") (hst:St 0 s) (hfp:∀ b∈fp,b < s.heap.objs.size) (hI:I∈fp)
  (h:∀ s' acc,Moved wr G s s' ->ItemsOf P acc n->Q₁ (.ref s'.heap.objs.size) { s' with heap:=s'.heap.push { cls:= .type "tuple",data:= .seq acc } }) (hsz:n<=sizeLine):
  codeAny (model prog w) A (.call (.builtin "tuple.__new__") ⟨[.type "tuple", .ref I],[]⟩) (wants Q₁ E) s:=by
 refine codeAny_of_tree ?_
 refine (show wpAny _ A.in1 (do checkBuiltinCall "tuple.__new__" ⟨[.type "tuple", .ref I],[]⟩; again (.builtin "tuple.__new__" ⟨[.type "tuple", .ref I],[]⟩)) _ _ s from ?_)
 refine aa (cj (F.newCall_tuple_1 _) (aq ⟨plainId_quiet fE _,bU F.entry_tuple_new ?_⟩))
 rw [bY fE _]
 have hsub:=sub_tuple_self
 have hinit:=init_tuple_lookup
 have hmh:=madeHere_tuple
 have ty:=hT 0 s hst
 wp_walk using wpAny_typeOf ty,uc (hn:=hsz) W hT hst hfp hI
 intro s' acc hm hacc
 have e:acc.toList.toArray=acc:=by simp
 refine (show wpAny _ _ (cM acc.toList.toArray >>= fun v=>ret v) _ _ _ from ?_)
 unfold cM
 refine aa (bu (aq ?_) (by rw [e]; show acc.size<=sizeLine; rw [hacc.1]; exact hsz))
 rw [e]
 exact h s' acc hm hacc
theorem tuple_lr {Q:Value->Shared->Prop} (W:WalksS prog w A.in1.in1.in1 I fp wr G n P St) (hT:∀ i s,St i s->s.TypeIs (.ref I) "list_reverseiterator") (hst:St 0 s) (hfp:∀ b∈fp,b < s.heap.objs.size) (hI:I∈fp)
  (hQ:∀ s' acc,Moved wr G s s' ->ItemsOf P acc n->Q (.ref s'.heap.objs.size) { s' with heap:=s'.heap.push { cls:= .type "tuple",data:= .seq acc } }) (hsz:n<=sizeLine):
  wpAny (model prog w) A (call (.type "tuple") [.ref I]) Q E s:=
 callType_codes (Q₁:=fun obj s₁=>s₁.TypeIs obj "tuple"/\Q obj s₁) eY (F.typeCall_tuple_1 _) F.entry_object_init
  (Vt (hsz:=hsz) W hT hst hfp hI fun s' acc hm hacc=>⟨⟨_,af _ rfl,rfl⟩,hQ s' acc hm hacc⟩) fun obj s₁ h₁=>
   ⟨h₁.1,F.args_object_init_2 obj _,object_init_meets eY.init.lookup eY.made (by decide) prog w A.in1 _ s₁ ⟨h₁.1,rfl,h₁.2⟩⟩
end
end PySem.RV
namespace PV
open PySem PySem.Spec PyProof.Rows L2
def XV (K:ac) (a:Addr) (n:Nat):It:=
 ⟨fun i H=>∃ xs x,SqT K H a xs/\xs.length=n/\xs.reverse[i]? =some x,fun i H x H' =>H' =H/\∀ xs,SqT K H a xs->xs.reverse[i]? =some x,fun i H=>∃ xs,SqT K H a xs/\xs.length=n/\n<=i⟩
def XW (K:ac) (a:Addr) (n:Nat):It:=
 ⟨fun i H=>∃ xs x,SqL K H a xs/\xs.length=n/\xs.reverse[i]? =some x,fun i H x H' =>H' =H/\∀ xs,SqL K H a xs->xs.reverse[i]? =some x,fun i H=>∃ xs,SqL K H a xs/\xs.length=n/\n<=i⟩
theorem YH {α:Type} {xs:List α} {i:Nat} {x:α} (h:xs.reverse[i]? =some x):i < xs.length/\xs[xs.length - 1 - i]? =some x:=by
 have hi:=(ak.mp h).1
 rw [bc] at hi
 rw [eS hi] at h
 exact ⟨hi,h⟩
theorem Y9 {P:Program} {w:World} {K:ac} {tg:Expr} (a it:Addr) (n:Nat):uI P w K tg (XV K a n) [it] it (fun i h=>i<=n/\RV.IsRv h it (.ref a) ((n:Int) - 1 - (i:Int))) where
 mem:=by simp
 obj:=fun i h st b hb=>by
  have e:b=it:=by simpa using hb
  subst e
  exact ⟨_,st.2,fun v z=>nomatch z⟩
 keep:=fun i h h' st k=>⟨st.1,k it (by simp) _ st.2⟩
 item:=by
  intro X hP hw hK hc i pins s σ H E I hf st hg
  subst hP hw hK
  obtain ⟨xs,x,hq,hn,hx⟩:=hg
  obtain ⟨its,rv,p,hz⟩:=I.tuple hq
  obtain ⟨hi,hx'⟩:=YH hx
  obtain ⟨u,hu,ru⟩:=rv.get hx'
  obtain ⟨f0,f1,f2,f3,f4,f5⟩:=hf it (by simp)
  have hl:=rv.length
  have e:(n:Int) - 1 - (i:Int)=((xs.length - 1 - i:Nat):Int):=by omega
  have hit:=st.2
  rw [e] at hit
  have hb:(its.toArray.size:Int) < 2 ^ 63:=by
   rw [bh] at hz
   simp; omega
  refine RV.next_item hit p hb (x:=u) (by simpa using hu) fun h' tk st' sb=> ?_
  have I1:Inv X pins σ H { s with heap:=h',toks:=tk }:=I.turned (t' :=tk) (fun b o hb e=>(sb.2 b hb).trans e) f0 f1 f3 f4 f5
  have e2:((xs.length - 1 - i:Nat):Int) - 1=(n:Int) - 1 - ((i+1:Nat):Int):=by omega
  rw [e2] at st'
  exact ⟨u,rfl,WO (s:={ s with heap:=h',toks:=tk }) st' rfl rfl (by decide) ⟨x,H,I1,ru,⟨rfl,fun ys hy=>by rw [I.tuple_inj hy hq]; exact hx⟩,⟨by omega,st'⟩,fun b hb=>(hf b hb).1⟩⟩
 done:=by
  intro X hP hw hK hc i pins s σ H E I hf st hg
  subst hP hw hK
  obtain ⟨xs,hq,hn,hx⟩:=hg
  obtain ⟨f0,f1,f2,f3,f4,f5⟩:=hf it (by simp)
  have hit:=st.2
  have h1:=st.1
  rw [show (n:Int) - 1 - (i:Int)= -1 by omega] at hit
  exact RV.next_end (I.ok.hd hc) hit fun h' eb=>⟨rfl,I.turned (t' :=s.toks) (fun b o hb e=>eb b o hb e) f0 f1 f3 f4 f5⟩
 self:=fun _ _ _ _ _ st h=>RV.iter_rv st.2 h
theorem Ya {P:Program} {w:World} {K:ac} {tg:Expr} (a it:Addr) (n:Nat):uI P w K tg (XW K a n) [it] it (fun i h=>i<=n/\h.IsRevIter it a ((n:Int) - 1 - (i:Int))) where
 mem:=by simp
 obj:=fun i h st b hb=>by
  have e:b=it:=by simpa using hb
  subst e
  obtain ⟨o,e,c,d⟩:=st.2
  exact ⟨o,e,fun v z=>by rw [d] at z; cases z⟩
 keep:=fun i h h' st k=>⟨st.1,st.2.at fun o e=>k it (by simp) o e⟩
 item:=by
  intro X hP hw hK hc i pins s σ H E I hf st hg
  subst hP hw hK
  obtain ⟨xs,x,hq,hn,hx⟩:=hg
  obtain ⟨its,rv,p,hz⟩:=I.list hq
  obtain ⟨hi,hx'⟩:=YH hx
  obtain ⟨u,hu,ru⟩:=rv.get hx'
  obtain ⟨f0,f1,f2,f3,f4,f5⟩:=hf it (by simp)
  have e:(n:Int) - 1 - (i:Int)=((xs.length - 1 - i:Nat):Int):=by omega
  have hit:=st.2
  rw [e] at hit
  refine wpAny_pyNext_rev_item hit p.isList (x:=u) (by simpa using hu) fun h' st' sb=> ?_
  have I1:Inv X pins σ H { s with heap:=h' }:=I.turned (t' :=s.toks) (fun b o hb e=>(sb.2 b hb).trans e) f0 f1 f3 f4 f5
  have e2:((xs.length - 1 - i:Nat):Int) - 1=(n:Int) - 1 - ((i+1:Nat):Int):=by omega
  rw [e2] at st'
  obtain ⟨o,e,c,d⟩:=id st'
  exact ⟨u,rfl,WO (s:={ s with heap:=h' }) e c d (by decide) ⟨x,H,I1,ru,⟨rfl,fun ys hy=>by rw [I.list_inj hy hq]; exact hx⟩,⟨by omega,st'⟩,fun b hb=>(hf b hb).1⟩⟩
 done:=by
  intro X hP hw hK hc i pins s σ H E I hf st hg
  subst hP hw hK
  obtain ⟨xs,hq,hn,hx⟩:=hg
  obtain ⟨f0,f1,f2,f3,f4,f5⟩:=hf it (by simp)
  have hit:=st.2
  have h1:=st.1
  rw [show (n:Int) - 1 - (i:Int)= -1 by omega] at hit
  exact wpAny_pyNext_rev_end (I.ok.hd hc) hit fun h' eb=>⟨rfl,I.turned (t' :=s.toks) (fun b o hb e=>eb b o hb e) f0 f1 f3 f4 f5⟩
 self:=fun _ _ _ _ _ st h=>wpAny_pyIter_revIter st.2 h
theorem zq.rev {H:Hp}:∀ {vs:List V} {ts:List T},zq H vs ts->zq H vs.reverse ts.reverse
 | _,_, .nil=> .nil
 | _,_, .cons r t=>by rw [bv,bv]; exact (zq.rev t).append (.cons r .nil)
theorem Vu {K:ac} {B1 H1:Hp} {a:Addr} {xs:List V} {ts:List T} (h:B1 a=some (.tup xs)) (r:zq B1 xs ts):rI B1 H1 (XV K a xs.length) ts.reverse:=fun B2 H2 s1 s2=>by
 have h2:=s2 _ _ (s1 _ _ h)
 have hr:=r.rev
 refine ⟨fun i hi=> ?_,fun i t x H3 e y=> ?_,fun i hi=>⟨xs,SqT.of h2,rfl,by rw [bc] at hi; rw [r.length]; exact hi⟩⟩
 ·obtain ⟨v,e,_⟩:=hr.get (aw hi)
  exact ⟨xs,v,SqT.of h2,rfl,e⟩
 ·obtain ⟨rfl,y⟩:=y
  obtain ⟨v,e1,r1⟩:=hr.get e
  have:=y xs (SqT.of h2)
  rw [e1] at this; cases this
  refine ⟨zm.refl _, ?_⟩
  rw [zr.self B2 _ s2]
  exact r1.mono s1
theorem Vv {K:ac} {B1 H1:Hp} {a:Addr} {xs:List V} {ts:List T} (h:B1 a=some (.lst xs)) (r:zq B1 xs ts):rI B1 H1 (XW K a xs.length) ts.reverse:=fun B2 H2 s1 s2=>by
 have h2:=s2 _ _ (s1 _ _ h)
 have hr:=r.rev
 refine ⟨fun i hi=> ?_,fun i t x H3 e y=> ?_,fun i hi=>⟨xs,SqL.of h2,rfl,by rw [bc] at hi; rw [r.length]; exact hi⟩⟩
 ·obtain ⟨v,e,_⟩:=hr.get (aw hi)
  exact ⟨xs,v,SqL.of h2,rfl,e⟩
 ·obtain ⟨rfl,y⟩:=y
  obtain ⟨v,e1,r1⟩:=hr.get e
  have:=y xs (SqL.of h2)
  rw [e1] at this; cases this
  refine ⟨zm.refl _, ?_⟩
  rw [zr.self B2 _ s2]
  exact r1.mono s1
def XX (fa:En->R T):En->R (List T):=fun ρ=>(fa ρ).bind fun t=>(je t).bind fun xs=> .ok xs.reverse
def Yb:T->R T
 | .lst xs=>if xs.length<=bnd then .ok (.tup xs.reverse) else .bad
 | _=> .bad
section
variable {X:Cx} {Y:Fx} {a b tg:Expr} {fa fb:En->R T} {pos p p' pos' :Pos}
theorem Vw {ta:TA} (hg:Gl X "reversed") (hm:X.mg "reversed"=none) (ha:PA X [a] ta) (hs:St1 X a:=by exact st1 rfl):
  PI X tg (.Call (.Name "reversed" p) [a] [] pos) (fun σ H R=>ta σ H fun vs H1=>∃ l xs,vs=[.ref l]/\((H1 l=some (.lst xs)/\R (XW X.K l xs.length) H1)\/(H1 l=some (.tup xs)/\R (XV X.K l xs.length) H1))):=by
 intro pins s σ H R I h
 refine Call_ (ZL I hg hm boot_reversed (aN (thn (ha pos pins s σ H _ I h) fun us s1 ⟨vs,H1,I1,r1,q1⟩=> ?_) hs rfl))
 obtain ⟨l,xs,e,q⟩:=q1
 subst e
 obtain ⟨u,rfl,ru⟩:=Zg r1
 obtain rfl:u=Value.ref l:=ru
 have ok:∀ b∈[s1.heap.objs.size],ww X pins H1 b:=fun b hb=>by
  have e:b=s1.heap.objs.size:=by simpa using hb
  subst e
  exact I1.fpOk (ag _) (I1.hok.fresh (ag _))
 rcases q with ⟨hl,q⟩ | ⟨hl,q⟩
 ·obtain ⟨its,rv,p,hz⟩:=I1.list (SqL.of hl)
  have e:((its.toArray.size:Nat):Int) - 1=(xs.length:Int) - 1 - ((0:Nat):Int):=by have:=rv.length; simp; omega
  refine call_reversed_list p.isList ?_
  rw [e]
  have st:(s1.heap.push (revObj l ((xs.length:Int) - 1 - ((0:Nat):Int)))).IsRevIter s1.heap.objs.size l ((xs.length:Int) - 1 - ((0:Nat):Int)):=⟨_,af _ rfl,rfl,rfl⟩
  refine wpAny_pyIter_revIter (s:={ s1 with heap:=s1.heap.push (revObj l ((xs.length:Int) - 1 - ((0:Nat):Int))) }) st ?_
  exact ⟨s1.heap.objs.size,[s1.heap.objs.size],_,_,H1,rfl,I1.kept (t' :=s1.toks) (fun b o e=>ae _ e),Ya l _ xs.length,⟨bI _,st⟩,ok,q⟩
 ·obtain ⟨its,rv,p,hz⟩:=I1.tuple (SqT.of hl)
  have hlen:=rv.length
  have e:((its.toArray.size:Nat):Int) - 1=(xs.length:Int) - 1 - ((0:Nat):Int):=by simp; omega
  refine RV.call_rvT p (by rw [bh] at hz; simp; omega) fun tk=> ?_
  rw [e]
  refine RV.iter_rv (s:={ s1 with heap:=_,toks:=tk }) (af _ rfl) ?_
  exact ⟨s1.heap.objs.size,[s1.heap.objs.size],_,_,H1,rfl,I1.kept (t' :=tk) (fun b o e=>ae _ e),Y9 l _ xs.length,⟨bI _,af _ rfl⟩,ok,q⟩
theorem XY (hg:Gl X "reversed") (hm:X.mg "reversed"=none) (ha:Snd X Y a fa) (hs:St1 X a:=by exact st1 rfl):uw X Y tg (.Call (.Name "reversed" p) [a] [] pos) (XX fa):= .mk fun ρ=>
 PI.imp (Vw hg hm (zj (ha ρ) zt hs) hs) fun σ H R ⟨B,I,q⟩=>step I q fun t v H1 _ s1 r1 I1 q1=>by
  cases r1 with
  | @tup l xs ts h r=>exact ⟨l,xs,rfl, .inr ⟨I1.sB _ _ h,Za I1 (show Po Y rI _ H1 (.ok ts.reverse) R from q1) (Vu h r)⟩⟩
  | @lst l xs ts h r=>exact ⟨l,xs,rfl, .inl ⟨I1.sB _ _ h,Za I1 (show Po Y rI _ H1 (.ok ts.reverse) R from q1) (Vv h r)⟩⟩
  | _=>exact q1.elim
theorem Wj:∀ {xs ys:List V} {us ws:List Value},zB xs us->zB ys ws->zB (xs++ys) (us++ws)
 | _,_,_,_, .nil,q=>q
 | _,_,_,_, .cons r t,q=> .cons r (Wj t q)
theorem Js:∀ {xs:List V} {us:List Value},zB xs us->zB xs.reverse us.reverse
 | _,_, .nil=> .nil
 | _,_, .cons r t=>by rw [bv,bv]; exact Wj (Js t) (.cons r .nil)
theorem Qh {its:List Value} {acc:Array Value} (h:ItemsOf (fun i v=>its.toArray[its.toArray.size - 1 - i]? =some v) acc its.toArray.size):acc.toList=its.reverse:=by
 have h1:acc.size=its.length:=by
  have:=h.1
  simpa using this
 have h2:=h.2
 refine dU fun i=> ?_
 by_cases hi:i < its.length
 ·have hlt:i < acc.toList.length:=by simp; omega
  have e:=aw hlt
  have:=h2 i _ (by rw [← Array.getElem?_toList]; exact e)
  rw [eS hi,e,← this]
  simp
 ·rw [aV (by simp; omega),aV (by simp; omega)]
theorem Vx (hh:X.A.handled=none) (gl:Gl X "tuple") (mg:X.mg "tuple"=none) (gl' :Gl X "reversed") (mg' :X.mg "reversed"=none) (ha:Snd X Y a fa) (hs:St1 X a:=by exact st1 rfl) (hs' :St1 X (.Call (.Name "reversed" p') [a] [] pos'):=by exact st1 rfl):
  Snd X Y (.Call (.Name "tuple" p) [.Call (.Name "reversed" p') [a] [] pos'] [] pos) (ap1 Yb fa):= .mk fun ρ=>by
 intro pins s σ H Q I ⟨B,J,q⟩
 have hq:tS Y rC fa ρ σ H (fun v H1=>∃ l xs,v= .ref l/\H1 l=some (.lst xs)/\xs.length<=sizeLine/\∀ t,H1 t=none->Q (.ref t) (upd H1 t (.tup xs.reverse))):=by
  refine step J q fun t v H1 _ s1 r1 I1 q1=> ?_
  cases r1 with
  | @lst l xs ts h r=>
   have q1:Po Y rC _ H1 (if ts.length<=bnd then .ok (.tup ts.reverse) else .bad) Q:=q1
   split at q1
   ·rename_i hb
    exact ⟨l,xs,rfl,I1.sB _ _ h,by rw [r.length]; exact zS hb,fun t ht=>QN I1.sB q1 rfl r.rev ht⟩
   ·exact q1.elim
  | _=>exact q1.elim
 refine bC (ZL I gl mg PyProof.Rows.Boot.«tuple» (aN (e:= .Call (.Name "reversed" p') [a] [] pos') (rest:=[]) ?_ hs' rfl))
 rw [hs']
 show wpAny _ _ (spliced [(false,eval (.Call (.Name "reversed" p') [a] [] pos') X.env)]) _ _ s
 refine fg (bC (ZL I gl' mg' boot_reversed (aN (e:=a) (rest:=[]) ?_ hs rfl)))
 refine thn ((zj (ha ρ) zt hs) pos' pins s σ H (fun vs H1=>∃ l xs,vs=[.ref l]/\H1 l=some (.lst xs)/\xs.length<=sizeLine/\∀ t,H1 t=none->Q (.ref t) (upd H1 t (.tup xs.reverse))) I ?_) fun us s1 ⟨vs,H1,I1,r1,l,xs,e,hl,hz,q1⟩=> ?_
 ·obtain ⟨B',J',q'⟩:=hq
  refine ⟨B',J', ?_⟩
  revert q'
  cases fa ρ with
  | bad=>exact fun q' =>q'
  | ex c=>exact fun q' =>q'
  | ok t=>
   intro q' v H1 s1 r1
   obtain ⟨l,xs,rfl,h⟩:=q' v H1 s1 r1
   exact ⟨l,xs,rfl,h⟩
 subst e
 obtain ⟨u,rfl,ru⟩:=Zg r1
 obtain rfl:u=Value.ref l:=ru
 obtain ⟨its,rv,pl,_⟩:=I1.list (SqL.of hl)
 have hlt:l < s1.heap.objs.size:=I1.hok.lt hl
 refine call_reversed_list pl.isList (fx ?_)
 have e0:((its.toArray.size:Nat):Int) - 1 - ((0:Nat):Int)=((its.toArray.size:Nat):Int) - 1:=by omega
 refine RV.tuple_lr (s:={ s1 with heap:=s1.heap.push (revObj l ((its.toArray.size:Int) - 1)) }) (Walks.listRev (A:=X.A.in1.in1.in1) hh s1.heap.objs.size l (az hlt) its.toArray).toS (fun i s st=>st.2.1.typeIs) ⟨bI _,⟨_,af _ rfl,rfl,by rw [e0]; rfl⟩,pl.isList.push _⟩ (fun b hb=> ?_) (by simp) (fun s' acc hm hacc=> ?_) (by rw [ar,← rv.length]; exact hz)
 ·have hb:b=s1.heap.objs.size\/b=l:=by simpa using hb
  rcases hb with rfl | rfl
  ·rw [cb]; exact eB _
  ·rw [cb]; exact dW hlt
 obtain ⟨h',g',d',tk',os'⟩:=s'
 have e1:g' =s1.gens:=hm.gens
 have e2:d' =s1.drawn:=hm.drawn
 have e3:os' =s1.os:=hm.os
 subst e1 e2 e3
 have kp:∀ b o,s1.heap.get? b=some o->h'.get? b=some o:=fun b o e=>hm.heap b o (fun z=>by
  have z:b=s1.heap.objs.size:=by simpa using z
  have:=ai e
  rw [z] at this
  exact bx _ this) (ae _ e)
 have I2:Inv X pins σ H1 { s1 with heap:=h',toks:=tk' }:=I1.kept (t' :=tk') kp
 have ea:acc=its.reverse.toArray:=by rw [← Qh hacc]
 rw [ea]
 refine ⟨.ref h'.objs.size,upd H1 h'.objs.size (.tup xs.reverse),I2.laid (t' :=tk') (fun b u e=>ae _ e) (ag _) ⟨by rw [bc]; exact hz,its.reverse,Js rv,⟨_,af _ rfl,rfl,_,rfl⟩, .inr ⟨_,af _ rfl,rfl⟩⟩,rfl,q1 _ (I2.hok.fresh (ag _))⟩
end
section
variable {X:Cx} {Y:Fx} {a b:Expr} {fa fb:En->R T} {pos p p' pos' pt:Pos} {elts:List Expr} {kk:Nat}
end
section
variable {X:Cx} {Y:Fx} {a b:Expr} {fa fb:En->R T} {pos p p' pos' pt:Pos} {elts:List Expr} {kk:Nat}
end
end PV
namespace PySem.RV
open PySem PySem.Spec PyProof.Rows PySem.Builtin.SmallTypes
end PySem.RV
namespace PV
open PySem PySem.Spec PyProof.Rows L2
section
variable {X:Cx} {Y:Fx} {a:Expr} {fa:En->R T} {pos p pt:Pos} {elts:List Expr} {kk:Nat}
end
end PV
namespace PySem.RW37
open PySem PySem.Spec PyProof.Rows L2
section
variable {X:Cx} {pos:Pos}
end
end PySem.RW37
namespace PV
open PySem PySem.Spec PyProof.Rows L2 PySem.RW37
section
variable {X:Cx} {Y:Fx} {pos:Pos} {a b c:Expr}
def YI (fa:En->R T) (g:T->En->R En):En->RS:=fun ρ=>(fa ρ).s fun t=>match g t ρ with
 | .ok ρ' => .nx ρ'
 | _=> .bad
theorem Uy {tg:Expr} {fa:En->R T} {g:T->En->R En} (ha:Snd X Y a fa) (hg:V5 X Y tg g) (hs:swapsWithSole [tg] a pos.line X.env=pure false:=by rfl) (hw:swappedStores [tg] a X.env=pure none:=by rfl)
  (h1:(assignEach [tg] X.env).map (·.2)=[assign tg X.env]:=by rfl):JZ X Y (.Assign [tg] a pos) (YI fa g):= .mk fun ρ=>by
 obtain ⟨tt,hp,hr⟩:=hg
 refine PS.imp (ve (ha ρ) hp hs hw h1) fun D σ H ⟨B,I,q⟩=>Jm I q fun t v H1 _ s1 r1 I1 q1=>hr _ _ _ _ _ _ _ I1 r1 ?_
 cases h:g t ρ with
 | ok ρ' =>
  rw [h] at q1
  exact fun σ' I' =>q1 _ _ _ (zm.refl _) I'
 | ex c=>rw [h] at q1; exact q1.elim
 | bad=>rw [h] at q1; exact q1.elim
end
end PV
namespace PV
open PySem PySem.Spec PyProof.Rows L2
section
variable {X:Cx} {Y:Fx} {a b:Expr} {fa fb:En->R T} {pos p p' pos' pt:Pos} {elts:List Expr} {kk:Nat}
end
section
variable {X:Cx} {Y:Fx} {tg iter elt:Expr} {ifs:List Expr} {scope:Scope} {pos pos' :Pos} {N' :List Str} {k:Nat} {js:List Nat} {fi:En->R (List T)} {tG:TG} {g:T->En->R En} {ft:En->R Bool} {fe:En->R T}
end
section
variable {prog:Program} {w:World} {A:Around} {R:Result->Shared->Prop} {I:Addr} {fp wr:List Addr} {n:Nat} {P:Nat->Value->Prop} {St:Nat->Heap->Prop}
end
section
variable {prog:Program} {w:World} {A:Around} {E:Value->Shared->Prop} {s:Shared} {l:Addr} {xs:Array (Int×Tok)}
end
section
variable {X:Cx} {Y:Fx} {a b:Expr} {fa fb:En->R T} {pos p p' pos' pt kp:Pos} {elts:List Expr} {kk:Nat}
end
section
variable {prog:Program} {w:World} {K:Type} [DecidableEq K] {knd:KeyKind prog w K} {A:Around} {E:Value->Shared->Prop} {s:Shared}
end
section
variable {prog:Program} {w:World} {A:Around} {E:Value->Shared->Prop} {s:Shared} {I S:Addr} {i ep j:Nat} {o:Obj} {es:Array (Int×Value)} {t:SetTable}
end
section
variable {prog:Program} {w:World} {A:Around} {E:Value->Shared->Prop} {s:Shared} {I S P:Addr} {i ep j:Nat} {es:Array (Int×Value)} {t:SetTable}
end
section
variable {prog:Program} {w:World} {A:Around} {E:Value->Shared->Prop} {s:Shared} {S:Addr} {ep:Nat} {es:Array (Int×Value)} {t:SetTable}
end
section
variable {prog:Program} {w:World} {A:Around} {E:Value->Shared->Prop} {s:Shared} {S:Addr}
end
section
variable {prog:Program} {w:World} {A:Around} {R:Result->Shared->Prop} {I:Addr} {fp wr:List Addr} {n:Nat} {P:Nat->Value->Prop} {St:Nat->Heap->Prop}
end
section
variable {prog:Program} {w:World} {A:Around} {E:Value->Shared->Prop} {s:Shared}
end
section
variable {prog:Program} {w:World} {A:Around} {E:Value->Shared->Prop} {s:Shared} {S:Addr}
end
section
variable {X:Cx} {Y:Fx} {a b:Expr} {fa fb:En->R T} {pos pos' p p' :Pos}
end
section
variable {X:Cx} {Y:Fx} {a b:Expr} {fa fb:En->R T} {pos:Pos}
end
section
variable {X:Cx} {Y:Fx} {a b:Expr} {fa fb:En->R T} {pos:Pos}
end
section
variable {prog:Program} {w:World} {A:Around} {E:Value->Shared->Prop} {s:Shared}
end
section
variable {prog:Program} {w:World} {A:Around} {E:Value->Shared->Prop} {s:Shared}
end
section
variable {prog:Program} {w:World} {A:Around} {R:Result->Shared->Prop} {I:Addr} {fp wr:List Addr} {n:Nat} {P:Nat->Value->Prop} {St:Nat->Heap->Prop}
end
section
variable {prog:Program} {w:World} {A:Around} {E:Value->Shared->Prop} {s:Shared}
end
section
variable {X:Cx} {Y:Fx} {a b:Expr} {fa fb:En->R T} {pos pos' p p' :Pos}
end
section
variable {X:Cx} {Y:Fx} {a:Expr} {fa:En->R T} {pos pos' p p' :Pos}
end
section
variable {X:Cx} {Y:Fx} {a b:Expr} {fa fb:En->R T} {pos:Pos}
end
def YJ:T->R T
 | .lst ts=>if ts.length<=bnd then .ok (.lst ts.reverse) else .bad
 | _=> .bad
theorem YK {α β:Type} (f:α->Option β) (g:α->β):∀ l:List α,(∀ x∈l,f x=some (g x))->l.filterMap f=l.map g
 | [],_=>rfl
 | x :: l,h=>by
  rw [List.filterMap_cons_some (h x av),YK f g l fun y hy=>h y (ah _ hy),au]
theorem Yc (its:Array Value):slicePick its none none (some (-1))=its.reverse:=by
 unfold slicePick
 have hb:sliceBounds none none (some (-1)) its.size=((its.size:Int) - 1, -1, -1):=by
  unfold sliceBounds
  simp
 rw [hb]
 dsimp only
 have hr:sliceRange ((its.size:Int) - 1) (-1) (-1)=(aY its.size).map fun k=>its.size - 1 - k:=by
  unfold sliceRange
  have hc:(if (-1:Int) > 0 then (if (its.size:Int) - 1 < -1 then (-1 - ((its.size:Int) - 1)+ -1 - 1) / -1 else 0) else (if (its.size:Int) - 1 > -1 then ((its.size:Int) - 1 - -1 - -1 - 1) / (- -1) else 0)).toNat=its.size:=by
   rw [if_neg (by decide)]
   split
   ·rw [show (- -1:Int)=1 from rfl,Int.ediv_one]; omega
   ·omega
  dsimp only
  rw [hc]
  refine bP fun k hk=> ?_
  have:=aW.mp hk
  omega
 rw [hr,List.filterMap_map,YK _ (fun k=>its.getD (its.size - 1 - k) .none) (aY its.size) (fun k hk=>by
  have:=aW.mp hk
  show its[its.size - 1 - k]? =_
  rw [Array.getD_eq_getD_getElem?,dR (by omega)]
  rfl)]
 apply Array.ext
 ·simp
 ·intro i h1 h2
  simp at h1 h2 ⊢
  rw [dR (by omega)]
  rfl
section
variable {X:Cx} {Y:Fx} {a:Expr} {fa:En->R T} {pos p2 p3 p4:Pos} {kc:Nat}
theorem Vy {te:TE} (he:PE X a te):PE X (.Subscript a (.Slice none none (some (.UnaryOp .USub (.Constant (.int 1) kc p3) p4)) p2) pos) (fun σ H Q=>te σ H fun x H1=>∃ l xs,x= .ref l/\H1 l=some (.lst xs)/\∀ p,H1 p=none->Q (.ref p) (upd H1 p (.lst xs.reverse))):=by
 intro pins s σ H Q I h
 refine Subscript_ (thn (he pins s σ H _ I h) fun v s1 ⟨x,H1,I1,r1,q1⟩=> ?_)
 refine wpAny_Slice ?_
 rw [evalPart_none]
 refine aq (aq ?_)
 have hst:PE X (.UnaryOp .USub (.Constant (.int 1) kc p3) p4) _:=vh Yt Yr
 show wpAny _ _ (eval (.UnaryOp .USub (.Constant (.int 1) kc p3) p4) X.env) _ _ _
 refine thn (hst pins s1 σ H1 (fun y H' =>y=V.int (-1)/\H' =H1) I1 ⟨1,rfl,rfl,rfl⟩) fun vu s2 ⟨y,H2,I2,r2,e1,e2⟩=> ?_
 subst e1 e2
 obtain ⟨tk,rfl⟩:=r2
 obtain ⟨l,xs,rfl,hl,q⟩:=q1
 obtain rfl:v=Value.ref l:=r1
 generalize hG:s2.heap.push { cls:= .type "slice",data:= .fields #[Value.none,Value.none,Value.int (-1) tk] }=G
 have I4:Inv X pins σ H2 { s2 with heap:=G }:=by rw [← hG]; exact I2.kept (t' :=s2.toks) fun b ob q=>ae _ q
 have hsl:G.IsSliceOf s2.heap.objs.size .none .none (.int (-1) tk):=by rw [← hG]; exact fj ..
 obtain ⟨hz,its,n,rv,eo⟩:=(show zH X.prog X.w H2 G l (.lst xs) from I4.hok l _ hl)
 have hL:G.IsList l its.toArray:=⟨_,eo,rfl,n,rfl⟩
 have hsz:its.toArray.size<=sizeLine:=by rw [ar,← rv.length]; exact hz
 refine tail_any (ops:=[.ref l, .ref s2.heap.objs.size]) (s:={ s2 with heap:=G }) hL.typeIs slot_list_getitem.lookup (wpAny_getItem_list_slice hL hsl .none .none (.int (-1) tk) (by decide) ?_ hsz) (by with_unfolding_all rfl)
 rw [Yc]
 refine ⟨.ref G.objs.size,upd H2 G.objs.size (.lst xs.reverse),I4.laid (t' :=s2.toks) (fun b o e=>ae _ e) (ag _) ?_,rfl,q _ (I4.hok.fresh (ag _))⟩
 exact ⟨by rw [bc]; exact hz,its.reverse,0,Js rv,by rw [List.reverse_toArray]; exact af _ rfl⟩
theorem XZ (ha:Snd X Y a fa):Snd X Y (.Subscript a (.Slice none none (some (.UnaryOp .USub (.Constant (.int 1) kc p3) p4)) p2) pos) (ap1 YJ fa):= .mk fun ρ=>
 PE.imp (Vy (ha ρ)) fun σ H Q ⟨B,I,q⟩=>step I q fun t v H1 _ s1 r1 I1 q1=>by
  cases r1 with
  | @lst l xs ts h r=>
   have q1:Po Y rC _ H1 (if ts.length<=bnd then .ok (.lst ts.reverse) else .bad) Q:=q1
   split at q1
   ·exact ⟨l,xs,rfl,I1.sB _ _ h,fun z hz=>q1 _ _ (zm.new hz _) (.lst (ZR hz _) (r.rev.mono (zr.ge I1.sB (zm.new hz _))))⟩
   ·exact q1.elim
  | _=>exact q1.elim
end
end PV
namespace PySem.RV
open PySem PySem.Spec PyProof.Rows PySem.Builtin.SmallTypes
section
variable {prog:Program} {w:World} {A:Around} {E:Value->Shared->Prop} {s:Shared} {I l:Addr} {xs:Array Value}
end
end PySem.RV
namespace PV
open PySem PySem.Spec PyProof.Rows L2
section
variable {X:Cx} {Y:Fx} {a:Expr} {fa:En->R T} {pos p p' pos' :Pos}
end
def QQ (t t' :T):R Bool:=match t,t' with
 | .str x, .str y=> .ok (Txt.contains y x)
 | _,_=> .bad
theorem Vz:Nx QQ:=fun t t' c h=>by
 unfold QQ at h
 split at h <;> cases h
section
variable {X:Cx} {Y:Fx} {a b c:Expr} {fa fb fc:En->R T} {pos p:Pos}
theorem Qi:OpR X (compareOp .In) (Jj QQ):=by
 intro pins s σ H x y v u Q I rx ry h
 obtain ⟨t,t',k,r,r',e,q⟩:=h
 unfold QQ at e
 split at e
 ·cases e
  cases r; cases r'
  obtain ⟨t1,rfl⟩:=rx
  obtain ⟨t2,rfl⟩:=ry
  exact P.in_str ⟨.bl _,H,I,rfl,q⟩
 ·cases e
def smE (g:Str->T->R T) (fa fb:En->R T):En->R T:=fun ρ=>(fa ρ).bind fun t=>match t with
 | .str x=>(fb ρ).bind fun u=>g x u
 | _=> .bad
def VA (x:Str):T->R T
 | .str y=> .ok (.bl (Txt.startswith x y))
 | _=> .bad
def K1 (x:Str):T->R T
 | .str y=> .ok (.bl (Txt.endswith x y))
 | _=> .bad
def k6 (x:Str):T->R T
 | .str y=>if x.length<=bnd/\(y.length == 0)=false then .ok (.tup [.str (bJ x y).1, .str (bJ x y).2.1, .str (bJ x y).2.2]) else .bad
 | _=> .bad
def K2 (x:Str):T->R T
 | .str y=>if x.length<=bnd/\(y.length == 0)=false then .ok (.tup [.str (bH x y).1, .str (bH x y).2.1, .str (bH x y).2.2]) else .bad
 | _=> .bad
def K3 (x:Str):T->R T
 | .str y=>if x.length<=1000/\(y.length == 0)=false then .ok (.lst ((eI x y).map T.str)) else .bad
 | _=> .bad
def VB (fa fb fc:En->R T):En->R T:=fun ρ=>(fa ρ).bind fun t=>match t with
 | .str x=>(fb ρ).bind fun u=>(fc ρ).bind fun w=>match u,w with
  | .str y, .int i=> .ok (.bl (f_ x y i))
  | _,_=> .bad
 | _=> .bad
theorem YL:MtR X "str.startswith" (fun x xs H Q=>(∃ z y,x= .str z/\xs=[.str y]/\Q (.bl (Txt.startswith z y)) H)\/∃ z y i,x= .str z/\xs=[.str y, .int i]/\Q (.bl (f_ z y i)) H):=by
 intro pins s σ H x xs v us Q I rx rv h
 rcases h with ⟨z,y,rfl,rfl,q⟩ | ⟨z,y,i,rfl,rfl,q⟩
 ·obtain ⟨t,rfl⟩:=rx
  obtain ⟨u,rfl,ru⟩:=Zg rv
  obtain ⟨t2,rfl⟩:=ru
  exact call_gives F.slot_str_startswith (cr _ _ _) F.entry_str_startswith (F.args_str_startswith_2 _ _) (gives_str_startswith z y t t2) ⟨.bl _,H,I,rfl,q⟩
 ·obtain ⟨t,rfl⟩:=rx
  obtain ⟨u,u3,rfl,ru,r3⟩:=uO rv
  obtain ⟨t2,rfl⟩:=ru
  obtain ⟨t3,rfl⟩:=r3
  refine SC.startswith3 ?_
  exact ⟨.bl _,H,I,rfl,q⟩
theorem VC:MtR X "str.endswith" (fun x xs H Q=>∃ z y,x= .str z/\xs=[.str y]/\Q (.bl (Txt.endswith z y)) H):=by
 intro pins s σ H x xs v us Q I rx rv h
 obtain ⟨z,y,rfl,rfl,q⟩:=h
 obtain ⟨t,rfl⟩:=rx
 obtain ⟨u,rfl,ru⟩:=Zg rv
 obtain ⟨t2,rfl⟩:=ru
 exact call_gives F.slot_str_endswith (cr _ _ _) F.entry_str_endswith (F.args_str_endswith_2 _ _) (gives_str_endswith z y t t2) ⟨.bl _,H,I,rfl,q⟩
theorem j6 {pins:List (Addr×Obj)} {s:Shared} {σ:L2.St} {H:Hp} (I:Inv X pins σ H s) (x y z:Str) (t1 t2 t3:Tok) (k:Nat) {Q:VK} (q:∀ p,H p=none->Q (.ref p) (upd H p (.tup [.str x, .str y, .str z]))):
  EP X pins σ Q (.ref s.heap.objs.size) { s with heap:=s.heap.push { cls:= .type "tuple",data:= .seq [.str x t1, .str y t2, .str z t3].toArray },toks:=k }:=
 ⟨.ref s.heap.objs.size,upd H s.heap.objs.size (.tup [.str x, .str y, .str z]),I.laid (t' :=k) (fun b u e=>ae _ e) (ag _) ⟨by rw [bh]; show 3<=16777216; decide,[.str x t1, .str y t2, .str z t3], .cons ⟨_,rfl⟩ (.cons ⟨_,rfl⟩ (.cons ⟨_,rfl⟩ .nil)),⟨_,af _ rfl,rfl,_,rfl⟩, .inr ⟨_,af _ rfl,rfl⟩⟩,rfl,q _ (I.hok.fresh (ag _))⟩
theorem VD:MtR X "str.partition" (fun x xs H Q=>∃ z y,x= .str z/\xs=[.str y]/\z.length<=bnd/\(y.length == 0)=false/\∀ p,H p=none->Q (.ref p) (upd H p (.tup [.str (bJ z y).1, .str (bJ z y).2.1, .str (bJ z y).2.2]))):=by
 intro pins s σ H x xs v us Q I rx rv h
 obtain ⟨z,y,rfl,rfl,hz,hy,q⟩:=h
 obtain ⟨t,rfl⟩:=rx
 obtain ⟨u,rfl,ru⟩:=Zg rv
 obtain ⟨t2,rfl⟩:=ru
 refine bO F.slot_str_partition (cr _ _ _) F.entry_str_partition (F.args_str_partition_2 _ _) (meets_str_partition z y t t2 hy (zS hz)) ?_
 unfold bJ at q
 revert q
 cases cg z y 0 z.length 1 with
 | nil=>exact fun q=>j6 I _ _ _ _ _ _ _ q
 | cons i r=>exact fun q=>j6 I _ _ _ _ _ _ _ q
theorem VE:MtR X "str.rpartition" (fun x xs H Q=>∃ z y,x= .str z/\xs=[.str y]/\z.length<=bnd/\(y.length == 0)=false/\∀ p,H p=none->Q (.ref p) (upd H p (.tup [.str (bH z y).1, .str (bH z y).2.1, .str (bH z y).2.2]))):=by
 intro pins s σ H x xs v us Q I rx rv h
 obtain ⟨z,y,rfl,rfl,hz,hy,q⟩:=h
 obtain ⟨t,rfl⟩:=rx
 obtain ⟨u,rfl,ru⟩:=Zg rv
 obtain ⟨t2,rfl⟩:=ru
 refine bO F.slot_str_rpartition (cr _ _ _) F.entry_str_rpartition (F.args_str_rpartition_2 _ _) (meets_str_rpartition z y t t2 hy (zS hz)) ?_
 unfold bH at q
 revert q
 cases Builtin.Str.lastOccurrence z y 0 z.length with
 | none=>exact fun q=>j6 I _ _ _ _ _ _ _ q
 | some i=>exact fun q=>j6 I _ _ _ _ _ _ _ q
theorem wc:∀ l:List (Str×Tok),zB (l.map fun p=>V.str p.1) (strValues l)
 | []=> .nil
 | (x,t) :: r=> .cons ⟨t,rfl⟩ (wc r)
theorem Jt {pins:List (Addr×Obj)} {s:Shared} {σ:L2.St} {H:Hp} (I:Inv X pins σ H s) (l:List (Str×Tok)) (k:Nat) {ys:List Str} (hl:l.map (·.1)=ys) (hz:ys.length<=sizeLine) {Q:VK} (q:∀ p,H p=none->Q (.ref p) (upd H p (.lst (ys.map V.str)))):
  EP X pins σ Q (.ref s.heap.objs.size) { s with heap:=s.heap.push { cls:= .type "list",data:= .seq (strValues l).toArray },toks:=k }:=by
 subst hl
 have e:(l.map (·.1)).map V.str=l.map fun p=>V.str p.1:=by rw [br]; rfl
 rw [e] at q
 refine ⟨.ref s.heap.objs.size,upd H s.heap.objs.size (.lst (l.map fun p=>V.str p.1)),I.laid (t' :=k) (fun b u e=>ae _ e) (ag _) ⟨?_,strValues l,0,wc l,af _ rfl⟩,rfl,q _ (I.hok.fresh (ag _))⟩
 rw [ao] at hz ⊢
 exact hz
theorem Uz (x y:Str):(eI x y).length<=x.length+2:=by
 unfold eI
 have e1:=eT x y 0 x.length (x.length+1)
 split
 ·simp
 ·split
  ·simp
  ·rw [length_partsBetween]; omega
theorem VF:MtR X "str.split" (fun x xs H Q=>∃ z y,x= .str z/\xs=[.str y]/\z.length<=1000/\(y.length == 0)=false/\∀ p,H p=none->Q (.ref p) (upd H p (.lst ((eI z y).map V.str)))):=by
 intro pins s σ H x xs v us Q I rx rv h
 obtain ⟨z,y,rfl,rfl,hz,hy,q⟩:=h
 obtain ⟨t,rfl⟩:=rx
 obtain ⟨u,rfl,ru⟩:=Zg rv
 obtain ⟨t2,rfl⟩:=ru
 have hs:(eI z y).length<=sizeLine:=by
  have:=Uz z y
  rw [bh]; omega
 have hn:(d_ z (cg z y 0 z.length (z.length+1)) y.length).length<=sizeLine:=by
  have e1:=eT z y 0 z.length (z.length+1)
  rw [length_partsBetween,bh]; omega
 cases h1:(decide (z.length < y.length) || decide (f6 z < f6 y))
 ·cases hf:(cg z y 0 z.length (z.length+1)).isEmpty
  ·refine bO eJ (cr _ _ _) dX (dO _ _) (meets_str_split_sep z y t t2 h1 hy hf (by rw [bh]; omega) hn) ?_
   refine (show wants (EP X pins σ Q) X.xe _ { s with toks:=_,heap:=s.heap.push { cls:= .type "list",data:= .seq (strsFrom s.toks (d_ z (cg z y 0 z.length (z.length+1)) y.length)).toArray } } from ?_)
   rw [strsFrom_eq]
   exact Jt I _ _ ((numbered_texts _ _).trans ((if_neg (ne_true_of_eq_false h1)).trans (if_neg (ne_true_of_eq_false hf))).symm) hs q
  ·refine bO eJ (cr _ _ _) dX (dO _ _) (meets_str_split_not_found z y t t2 h1 hy hf) ?_
   exact Jt I [(z,t)] s.toks ((if_neg (ne_true_of_eq_false h1)).trans (if_pos hf)).symm hs q
 ·refine bO eJ (cr _ _ _) dX (dO _ _) (meets_str_split_cannot_occur z y t t2 h1) ?_
  exact Jt I [(z,t)] s.toks (if_pos h1).symm hs q
section
variable {pa:Pos}
theorem VG {b:Expr} {p:Pos} (hs:St1 X b):(((((backTo p (starEach [b] X.env)).all fun x=> !x.fst) && (backToKw p (keywordEach [] X.env)).all fun x=>x.fst.isSome) && decide (([b].length+([]:List Keyword).length+if ([]:List Keyword).isEmpty=true then 0 else 1) < 30))=true):=by rw [hs]; rfl
theorem k7 (ha:Snd X Y a fa) (hb:Snd X Y b fb) (hb1:attributeBase a "startswith" X.env (eval a X.env)=eval a X.env:=by rfl) (hs:St1 X b:=by exact st1 rfl) (hz:(pa.endLine == p.line)=true:=by rfl):
  Snd X Y (.Call (.Attribute a "startswith" pa) [b] [] p) (smE VA fa fb):= .mk fun ρ=>
 PE.imp (jP bp dG dH YL (ha ρ) (zj (hb ρ) zt hs) hb1 (VG hs) hz hs rfl) fun σ H Q ⟨B,I,q⟩=>step I q fun t v H1 _ s1 r1 I1 q1=>by
  cases r1 with
  | str x=>
   refine ⟨rfl,step I1 q1 fun u v' H2 _ s2 r2 I2 q2=> ?_⟩
   cases r2 with
   | str y=>exact .inl ⟨x,y,rfl,rfl,po0 I2.sB q2 rfl (.bl _)⟩
   | _=>exact q2.elim
  | _=>exact q1.elim
theorem VH (ha:Snd X Y a fa) (hb:Snd X Y b fb) (hc:Snd X Y c fc) (hb1:attributeBase a "startswith" X.env (eval a X.env)=eval a X.env:=by rfl) (hs:starEach [b,c] X.env=[(false,eval b X.env),(false,eval c X.env)]:=by exact st2 rfl rfl) (hs2:St1 X c:=by exact st1 rfl) (hz:(pa.endLine == p.line)=true:=by rfl):
  Snd X Y (.Call (.Attribute a "startswith" pa) [b,c] [] p) (VB fa fb fc):= .mk fun ρ=>
 PE.imp (jP bp dG dH YL (ha ρ) (zj (hb ρ) (zj (hc ρ) zt hs2) (by rw [hs,hs2])) hb1 (by rw [hs]; rfl) hz (by rw [hs,hs2]) (by rw [hs2]; rfl)) fun σ H Q ⟨B,I,q⟩=>step I q fun t v H1 _ s1 r1 I1 q1=>by
  cases r1 with
  | str x=>
   refine ⟨rfl,step I1 q1 fun u v' H2 _ s2 r2 I2 q2=>step I2 q2 fun w v3 H3 _ s3 r3 I3 q3=> ?_⟩
   cases r2 with
   | str y=>
    cases r3 with
    | int i=>exact .inr ⟨x,y,i,rfl,rfl,po0 I3.sB q3 rfl (.bl _)⟩
    | _=>exact q3.elim
   | _=>cases r3 <;> exact q3.elim
  | _=>exact q1.elim
theorem k8 (ha:Snd X Y a fa) (hb:Snd X Y b fb) (hb1:attributeBase a "endswith" X.env (eval a X.env)=eval a X.env:=by rfl) (hs:St1 X b:=by exact st1 rfl) (hz:(pa.endLine == p.line)=true:=by rfl):
  Snd X Y (.Call (.Attribute a "endswith" pa) [b] [] p) (smE K1 fa fb):= .mk fun ρ=>
 PE.imp (jP bp PySem.F.slot_str_endswith PySem.F.type_str_endswith VC (ha ρ) (zj (hb ρ) zt hs) hb1 (VG hs) hz hs rfl) fun σ H Q ⟨B,I,q⟩=>step I q fun t v H1 _ s1 r1 I1 q1=>by
  cases r1 with
  | str x=>
   refine ⟨rfl,step I1 q1 fun u v' H2 _ s2 r2 I2 q2=> ?_⟩
   cases r2 with
   | str y=>exact ⟨x,y,rfl,rfl,po0 I2.sB q2 rfl (.bl _)⟩
   | _=>exact q2.elim
  | _=>exact q1.elim
theorem VI {H:Hp} (x y z:Str):zq H [V.str x, .str y, .str z] [T.str x, .str y, .str z]:= .cons (.str _) (.cons (.str _) (.cons (.str _) .nil))
theorem VJ {H:Hp}:∀ ys:List Str,zq H (ys.map V.str) (ys.map T.str)
 | []=> .nil
 | _ :: r=> .cons (.str _) (VJ r)
theorem k9 (ha:Snd X Y a fa) (hb:Snd X Y b fb) (hb1:attributeBase a "partition" X.env (eval a X.env)=eval a X.env:=by rfl) (hs:St1 X b:=by exact st1 rfl) (hz:(pa.endLine == p.line)=true:=by rfl):
  Snd X Y (.Call (.Attribute a "partition" pa) [b] [] p) (smE k6 fa fb):= .mk fun ρ=>
 PE.imp (jP bp PySem.F.slot_str_partition PySem.F.type_str_partition VD (ha ρ) (zj (hb ρ) zt hs) hb1 (VG hs) hz hs rfl) fun σ H Q ⟨B,I,q⟩=>step I q fun t v H1 _ s1 r1 I1 q1=>by
  cases r1 with
  | str x=>
   refine ⟨rfl,step I1 q1 fun u v' H2 _ s2 r2 I2 q2=> ?_⟩
   cases r2 with
   | str y=>
    have q2:Po Y rC _ H2 (if x.length<=bnd/\(y.length == 0)=false then .ok (.tup [.str (bJ x y).1, .str (bJ x y).2.1, .str (bJ x y).2.2]) else .bad) Q:=q2
    split at q2
    ·rename_i hc
     exact ⟨x,y,rfl,rfl,hc.1,hc.2,fun z hz=>QN I2.sB q2 rfl (VI _ _ _) hz⟩
    ·exact q2.elim
   | _=>exact q2.elim
  | _=>exact q1.elim
theorem ka (ha:Snd X Y a fa) (hb:Snd X Y b fb) (hb1:attributeBase a "rpartition" X.env (eval a X.env)=eval a X.env:=by rfl) (hs:St1 X b:=by exact st1 rfl) (hz:(pa.endLine == p.line)=true:=by rfl):
  Snd X Y (.Call (.Attribute a "rpartition" pa) [b] [] p) (smE K2 fa fb):= .mk fun ρ=>
 PE.imp (jP bp PySem.F.slot_str_rpartition PySem.F.type_str_rpartition VE (ha ρ) (zj (hb ρ) zt hs) hb1 (VG hs) hz hs rfl) fun σ H Q ⟨B,I,q⟩=>step I q fun t v H1 _ s1 r1 I1 q1=>by
  cases r1 with
  | str x=>
   refine ⟨rfl,step I1 q1 fun u v' H2 _ s2 r2 I2 q2=> ?_⟩
   cases r2 with
   | str y=>
    have q2:Po Y rC _ H2 (if x.length<=bnd/\(y.length == 0)=false then .ok (.tup [.str (bH x y).1, .str (bH x y).2.1, .str (bH x y).2.2]) else .bad) Q:=q2
    split at q2
    ·rename_i hc
     exact ⟨x,y,rfl,rfl,hc.1,hc.2,fun z hz=>QN I2.sB q2 rfl (VI _ _ _) hz⟩
    ·exact q2.elim
   | _=>exact q2.elim
  | _=>exact q1.elim
theorem kb (ha:Snd X Y a fa) (hb:Snd X Y b fb) (hb1:attributeBase a "split" X.env (eval a X.env)=eval a X.env:=by rfl) (hs:St1 X b:=by exact st1 rfl) (hz:(pa.endLine == p.line)=true:=by rfl):
  Snd X Y (.Call (.Attribute a "split" pa) [b] [] p) (smE K3 fa fb):= .mk fun ρ=>
 PE.imp (jP bp PySem.F.slot_str_split PySem.F.type_str_split VF (ha ρ) (zj (hb ρ) zt hs) hb1 (VG hs) hz hs rfl) fun σ H Q ⟨B,I,q⟩=>step I q fun t v H1 _ s1 r1 I1 q1=>by
  cases r1 with
  | str x=>
   refine ⟨rfl,step I1 q1 fun u v' H2 _ s2 r2 I2 q2=> ?_⟩
   cases r2 with
   | str y=>
    have q2:Po Y rC _ H2 (if x.length<=1000/\(y.length == 0)=false then .ok (.lst ((eI x y).map T.str)) else .bad) Q:=q2
    split at q2
    ·rename_i hc
     exact ⟨x,y,rfl,rfl,hc.1,hc.2,fun z hz=>Xl I2.sB q2 rfl (VJ _) hz⟩
    ·exact q2.elim
   | _=>exact q2.elim
  | _=>exact q1.elim
end
end
def VL (fa:En->R T) (fl fh:En->R (Option Int)):En->R T:=fun ρ=>(fa ρ).bind fun t=>(fl ρ).bind fun lo=>(fh ρ).bind fun hi=>match t with
 | .str x=>if x.length<=bnd then .ok (.str (fQ x lo hi)) else .bad
 | _=> .bad
def QR (i:Int):Str:=aG (toString i)
def txO:T->Option Str
 | .int i=>if i.natAbs < 1000000 then some (QR i) else none
 | .str x=>if x.length<=1000000 then some x else none
 | _=>none
def txV:V->Option Str
 | .int i=>if i.natAbs < 1000000 then some (QR i) else none
 | .str x=>if x.length<=1000000 then some x else none
 | _=>none
def kd (t:T):R T:=match txO t with
 | some x=> .ok (.str x)
 | none=> .bad
def f3T (z:Str) (t u:T):R T:=match txO t,txO u with
 | some x,some y=>if (x++z++y).length<=bnd then .ok (.str (x++z++y)) else .bad
 | _,_=> .bad
def f3E (z:Str) (fa fb:En->R T):En->R T:=fun ρ=>(fa ρ).bind fun t=>match txO t with
 | some x=>if (x++z).length<=bnd then (fb ρ).bind fun u=>f3T z t u else .bad
 | none=> .bad
def rdI (x:Str):Option Int:=((aY 199).map fun (k:Nat)=>(k:Int) - 99).find? fun n=>QR n == x
def K4:T->R T
 | .str x=>match rdI x with
  | some n=> .ok (.int n)
  | none=> .bad
 | _=> .bad
theorem wd {i:Int} (h:i.natAbs < 1000000):i.natAbs.log2 < 1920:=by
 by_cases h0:i.natAbs=0
 ·rw [h0]; decide
 ·have:i.natAbs.log2 < 20:=(Nat.log2_lt h0).mpr (by omega)
  omega
theorem VM:∀ k < 199,PySem.intText? (QR ((k:Nat) - 99:Int))=some ((k:Nat) - 99:Int)/\(QR ((k:Nat) - 99:Int)).length<=640:=by decide+kernel
section
variable {X:Cx} {Y:Fx} {a b c:Expr} {fa fb fc:En->R T} {pos p p1 p2 p3:Pos} {kc:Nat}
theorem VN:SlR X (fun x lo hi H Q=>∃ z,x= .str z/\z.length<=bnd/\Q (.str (fQ z lo hi)) H):=by
 intro pins s σ H x v vl vu lo hi sl Q I rx hs pl pu h
 obtain ⟨z,rfl,hz,q⟩:=h
 obtain ⟨t,rfl⟩:=rx
 refine ⟨"str",_,F.slot_str_getitem.lookup,cr _ _ _, ?_⟩
 have fin:∀ t' k,EP X pins σ Q (.str (fQ z lo hi) t') { s with toks:=k }:=fun t' k=>⟨.str _,H,I.tok k,⟨t',rfl⟩,q⟩
 have hl:=aE (Txt.slice_le z lo hi) (zS hz)
 cases pl with
 | none=>
  cases pu with
  | none=>exact wpAny_getItem_str_slice (l:=none) (u:=none) (st:=none) hs rfl (post_val_or_str ⟨hl,fin⟩)
  | int j tj=>exact wpAny_getItem_str_slice (l:=none) (u:=some (j,tj)) (st:=none) hs rfl (post_val_or_str ⟨hl,fin⟩)
 | int i ti=>
  cases pu with
  | none=>exact wpAny_getItem_str_slice (l:=some (i,ti)) (u:=none) (st:=none) hs rfl (post_val_or_str ⟨hl,fin⟩)
  | int j tj=>exact wpAny_getItem_str_slice (l:=some (i,ti)) (u:=some (j,tj)) (st:=none) hs rfl (post_val_or_str ⟨hl,fin⟩)
theorem ke {lo hi:Option Expr} {fl fh:En->R (Option Int)} (ha:Snd X Y a fa) (hl:qS X Y lo fl) (hh:qS X Y hi fh):Snd X Y (.Subscript a (.Slice lo hi none p2) pos) (VL fa fl fh):= .mk fun ρ=>
 PE.imp (yI VN (ha ρ) (hl ρ) (hh ρ)) fun σ H Q ⟨B,I,q⟩=>step I q fun t v H1 _ s1 r1 I1 q1=>step I1 q1 fun l l' H2 _ s2 el I2 q2=>step I2 q2 fun h h' H3 _ s3 eh I3 q3=>by
  have el' :l' =l:=el
  have eh' :h' =h:=eh
  subst el' eh'
  cases r1 with
  | str x=>
   have q3:Po Y rC _ H3 (if x.length<=bnd then .ok (.str (fQ x l' h')) else .bad) Q:=q3
   split at q3
   ·rename_i hb
    exact ⟨x,rfl,hb,po0 I3.sB q3 rfl (.str _)⟩
   ·exact q3.elim
  | _=>exact q3.elim
theorem Yd:Zf X (.type "str") (fun xs H Q=>∃ v x,xs=[v]/\txV v=some x/\Q (.str x) H):=by
 intro pins s σ H xs us Q I r h
 obtain ⟨v,x,rfl,e,q⟩:=h
 obtain ⟨u,rfl,ru⟩:=Zg r
 unfold txV at e
 split at e
 ·split at e
  ·rename_i i hi
   obtain ⟨t,rfl⟩:=ru
   cases e
   exact P.str_of_int (wd hi) ⟨.str _,H,I.tok _,⟨_,rfl⟩,q⟩
  ·cases e
 ·split at e
  ·obtain ⟨t,rfl⟩:=ru
   cases e
   exact P.str_of_str ⟨.str _,H,I,⟨_,rfl⟩,q⟩
  ·cases e
 ·cases e
theorem UA {H:Hp} {v:V} {t:T} {x:Str} (r:Rep H v t) (e:txO t=some x):txV v=some x:=by
 cases r with
 | int i=>exact e
 | str y=>exact e
 | _=>cases e
theorem VO (gl:Gl X "str") (mg:X.mg "str"=none) (ha:Snd X Y a fa) (hs:St1 X a:=by exact st1 rfl):Snd X Y (.Call (.Name "str" p) [a] [] pos) (ap1 kd fa):=
 U6 Yd (fun v t B H Q r sB q=>by
  unfold kd at q
  split at q
  ·rename_i x e
   exact ⟨v,x,rfl,UA r e,po0 sB q rfl (.str _)⟩
  ·exact q.elim) gl mg (PyProof.Rows.Boot.«str») ha hs
theorem we:Zf X (.type "int") (fun xs H Q=>∃ x n,xs=[.str x]/\rdI x=some n/\Q (.int n) H):=by
 intro pins s σ H xs us Q I r h
 obtain ⟨x,n,rfl,e,q⟩:=h
 obtain ⟨u,rfl,ru⟩:=Zg r
 obtain ⟨t,rfl⟩:=ru
 have hm:=List.mem_of_find?_eq_some e
 have hx:QR n=x:=by simpa using List.find?_some e
 obtain ⟨k,hk,rfl⟩:=aO.mp hm
 obtain ⟨h1,h2⟩:=VM k (aW.mp hk)
 subst hx
 exact PySem.W.KIN.call_text h1 h2 ⟨.int _,H,I.tok _,⟨_,rfl⟩,q⟩
theorem VP (gl:Gl X "int") (mg:X.mg "int"=none) (ha:Snd X Y a fa) (hs:St1 X a:=by exact st1 rfl):Snd X Y (.Call (.Name "int" p) [a] [] pos) (ap1 K4 fa):=
 U6 we (fun v t B H Q r sB q=>by
  cases r with
  | str x=>
   have q:Po Y rC _ H (match rdI x with | some n=> .ok (.int n) | none=> .bad) Q:=q
   split at q
   ·rename_i n e
    exact ⟨x,n,rfl,e,po0 sB q rfl (.int _)⟩
   ·exact q.elim
  | _=>exact q.elim) gl mg (PyProof.Rows.Boot.«int») ha hs
theorem YM {prog:Program} {w:World} {A:Around} {E:Value->Shared->Prop} {s:Shared} {v:V} {u:Value} {x:Str} {Q:Value->Shared->Prop} (r:zP v u) (e:txV v=some x) (h:∀ t k,Q (.str x t) { s with toks:=k }):wpAny (model prog w) A (formatField u Str.empty) Q E s:=by
 unfold txV at e
 split at e
 ·split at e
  ·rename_i i hi
   obtain ⟨t,rfl⟩:=r
   cases e
   exact wpAny_formatField_int (wd hi) (h _ _)
  ·cases e
 ·split at e
  ·rename_i hb
   obtain ⟨t,rfl⟩:=r
   cases e
   exact wpAny_formatField_str (h _ s.toks) (h _ _) (by rw [bh]; omega)
  ·cases e
 ·cases e
theorem kf {z:Str} {ta tb:TE} (ha:PE X a ta) (hb:PE X b tb):PE X (.JoinedStr [.FormattedValue a (-1) none p1, .Constant (.str z) kc p2, .FormattedValue b (-1) none p3] pos)
  (fun σ H Q=>ta σ H fun v H1=>∃ x,txV v=some x/\(x++z).length<=sizeLine/\tb σ H1 fun v' H2=>∃ y,txV v' =some y/\(x++z++y).length<=sizeLine/\Q (.str (x++z++y)) H2):=by
 intro pins s σ H Q I h
 refine wpAny_JoinedStr ?_
 refine (show wpAny _ _ (eval (.FormattedValue a (-1) none p1) X.env) _ _ _ from ?_)
 refine wpAny_FormattedValue_plain (thn (ha pins s σ H _ I h) fun u s1 ⟨v,H1,I1,r1,x,ex,hz,q1⟩=>YM r1 ex fun t k=>⟨x,t,rfl, ?_, ?_⟩)
 ·rw [fR]
  exact aE (by rw [Str.length_append]; omega) hz
 rw [fR]
 have I1:=I1.tok k
 refine (show wpAny _ _ (eval (.Constant (.str z) kc p2) X.env) _ _ _ from ?_)
 refine thn (uB pins _ σ H1 (fun v' H' =>v' =V.str z/\H' =H1) I1 ⟨rfl,rfl⟩) fun u2 s2 ⟨v2,H2,I2,r2,e1,e2⟩=> ?_
 subst e1 e2
 obtain ⟨t2,rfl⟩:=r2
 refine ⟨z,t2,rfl,hz, ?_⟩
 refine (show wpAny _ _ (eval (.FormattedValue b (-1) none p3) X.env) _ _ _ from ?_)
 refine wpAny_FormattedValue_plain (thn (hb pins s2 σ H2 _ I2 q1) fun u3 s3 ⟨v3,H3,I3,r3,y,ey,hz3,q3⟩=>YM r3 ey fun t k=>⟨y,t,rfl,hz3,hz3, ?_⟩)
 exact ⟨.str _,H3,(I3.tok k).tok _,⟨_,rfl⟩,q3⟩
theorem gU {z:Str} (ha:Snd X Y a fa) (hb:Snd X Y b fb):Snd X Y (.JoinedStr [.FormattedValue a (-1) none p1, .Constant (.str z) kc p2, .FormattedValue b (-1) none p3] pos) (f3E z fa fb):= .mk fun ρ=>
 PE.imp (kf (ha ρ) (hb ρ)) fun σ H Q ⟨B,I,q⟩=>step I q fun t v H1 _ s1 r1 I1 q1=>by
  cases e:txO t with
  | none=>rw [e] at q1; exact q1.elim
  | some x=>
   rw [e] at q1
   have q1:Po Y rC _ H1 (if (x++z).length<=bnd then (fb ρ).bind fun u=>f3T z t u else .bad) Q:=q1
   split at q1
   ·rename_i hl
    refine ⟨x,UA r1 e,zS hl,step I1 q1 fun u v' H2 _ s2 r2 I2 q2=> ?_⟩
    unfold f3T at q2
    rw [e] at q2
    cases e2:txO u with
    | none=>rw [e2] at q2; exact q2.elim
    | some y=>
     rw [e2] at q2
     have q2:Po Y rC _ H2 (if (x++z++y).length<=bnd then .ok (.str (x++z++y)) else .bad) Q:=q2
     split at q2
     ·rename_i hl2
      exact ⟨y,UA r2 e2,zS hl2,po0 I2.sB q2 rfl (.str _)⟩
     ·exact q2.elim
   ·exact q1.elim
end
def kg (x:Str):It:=
 ⟨fun i _=>i < x.cps.size,fun i H v H' =>∃ p c,H p=none/\v= .ref p/\x.cps[i]? =some c/\H' =upd H p (.tup [.int i, .str ⟨#[c]⟩]),fun i _=>x.cps.size<=i⟩
theorem Qj (x:Str):strIterType x="str_ascii_iterator"\/strIterType x="str_iterator":=by
 unfold strIterType; split
 ·exact .inl rfl
 ·exact .inr rfl
theorem wf {prog:Program} {w:World} {A:Around} (hh:A.handled=none) (it:Addr) (x:Str) (t:Tok) {ty:String} (hty:ty="str_ascii_iterator"\/ty="str_iterator"):Draws prog w A it [it] x.cps.size (SignAt x) (fun i h=>h.IsStrIter it ty x t i):=by
 rcases hty with rfl | rfl
 ·exact Draws.strAscii hh it x t
 ·exact Draws.strWide hh it x t
theorem ud {P:Program} {w:World} {K:ac} {elts:List Expr} {kk:Nat} {pt:Pos} {x:Str} {tt:Tok} {ty:String} (hty:ty="str_ascii_iterator"\/ty="str_iterator") (e it:Addr) (hei:e ≠ it):
  uI P w K (.Tuple elts kk pt) (kg x) [e,it] e (fun i h=>i<=x.cps.size/\(∃ old,IsEnum h e it i old)/\h.IsStrIter it ty x tt i) where
 mem:=by simp
 obj:=fun i h st b hb=>by
  obtain ⟨_,⟨old,he⟩,o,e1,c,d⟩:=st
  rcases ax.mp hb with rfl | hb
  ·exact ⟨_,he,fun v z=>nomatch z⟩
  ·have z:b=it:=by simpa using hb
   subst z
   exact ⟨o,e1,fun v z=>by rw [d] at z; cases z⟩
 keep:=fun i h h' st k=>by
  obtain ⟨hn,⟨old,he⟩,o,e1,r⟩:=st
  exact ⟨hn,⟨old,k e (by simp) _ he⟩,o,k it (by simp) o e1,r⟩
 item:=by
  intro X hP hw hK hc i pins s σ H E I hf st hg
  subst hP hw hK
  obtain ⟨hin,⟨old,he⟩,hit⟩:=st
  have D:=wf (prog:=X.prog) (w:=X.w) (A:=X.A.in1) (I.ok.hd hc) it x tt hty
  have hef:e ∉ [it]:=fun z=>hei (a_.mp z)
  have WE:=WalksT.enumerateD D e hei hef (.head _)
  refine WE.item i s _ _ hg ⟨⟨old,he⟩,hit⟩ fun T vals h' tk hP hT hTup hM hk=> ?_
  obtain ⟨t,y,⟨c,u,hc',rfl⟩,rfl⟩:=hP
  refine ⟨.ref T,rfl, ?_⟩
  refine WE.go elts kk pt i T _ _ _ hM fun h2 hst2 hk2=> ?_
  have hTn:H T=none:=I.hok.fresh hT
  have hTne:∀ b∈[e,it],b ≠ T:=fun b hb z=>by
   obtain ⟨_,_,h3,h4⟩:=hM
   rcases ax.mp hb with rfl | hb
   ·exact h3 z.symm
   ·have:b=it:=by simpa using hb
    subst this; exact h4 z.symm
  have kj:IsTup h2 T #[.int i t, .str ⟨#[c]⟩ u]:=by
   obtain ⟨o,eo,r⟩:=hTup
   exact ⟨o,hk2 T o (fun hb=>hTne T hb rfl) eo,r⟩
  refine ⟨.ref T,upd H T (.tup [.int i, .str ⟨#[c]⟩]),Inv.laidT (s:=s) (h' :=h2) (ch:=[e,it]) (tk:=tk) I hf (fun b o hb e=>hk2 b o hb (hk b o hb e)) (fun b o hb _=> ?_) hT ⟨by rw [bh]; show 2<=16777216; decide,[.int i t, .str ⟨#[c]⟩ u], .cons ⟨t,rfl⟩ (.cons ⟨u,rfl⟩ .nil),kj, .inl ⟨_,_,rfl⟩⟩,rfl,⟨T,c,hTn,rfl,hc',rfl⟩,⟨hg,hst2.1,hst2.2⟩,fun b hb=> ?_⟩
  ·obtain ⟨⟨old2,he2⟩,⟨o2,eo2,_⟩⟩:=hst2
   rcases ax.mp hb with rfl | hb
   ·exact ⟨_,he2⟩
   ·have:b=it:=by simpa using hb
    subst this; exact ⟨o2,eo2⟩
  ·rw [zi (hTne b hb)]; exact (hf b hb).1
 done:=by
  intro X hP hw hK hc i pins s σ H E I hf st hg
  subst hP hw hK
  obtain ⟨hin,⟨old,he⟩,hit⟩:=st
  have D:=wf (prog:=X.prog) (w:=X.w) (A:=X.A.in1) (I.ok.hd hc) it x tt hty
  have hn:x.cps.size=i:=Nat.le_antisymm hg hin
  refine wpAny_pyNext_enum_endD D he (by rw [hn]; exact hit) fun h' hk=>⟨rfl, ?_⟩
  obtain ⟨f0,f1,f2,f3,f4,f5⟩:=hf it (by simp)
  exact I.turned (t' :=s.toks) (fun b o hb e=>hk b o hb e) f0 f1 f3 f4 f5
 self:=fun _ _ _ _ _ st h=>let ⟨_,⟨_,he⟩,_⟩:=st; wpAny_pyIter_enum he h
theorem Ye {B1 H1:Hp} {x:Str}:rI B1 H1 (kg x) (Jo (Zj x)):=fun B2 H2 s1 s2=>by
 have hl:(Jo (Zj x)).length=x.cps.size:=by rw [w5]; unfold Zj; simp
 refine ⟨fun i hi=>by rw [hl] at hi; exact hi,fun i t v H3 e y=> ?_,fun i hi=>by rw [hl] at hi; exact hi⟩
 obtain ⟨p,c,hp,rfl,hc,rfl⟩:=y
 obtain ⟨t',et,rfl⟩:=Uh e
 have hc' :x.cps.toList[i]? =some c:=by simpa using hc
 unfold Zj at et
 rw [aj,hc'] at et
 cases et
 exact ⟨zm.new hp _, .tup (ZR hp _) (.cons (.int _) (.cons (.str _) .nil))⟩
def YN (fa:En->R T):En->R (List T):=fun ρ=>(fa ρ).bind fun t=>match t with
 | .str x=> .ok (Jo (Zj x))
 | _=> .bad
section
variable {X:Cx} {Y:Fx} {a:Expr} {fa:En->R T} {pos p pt:Pos} {elts:List Expr} {kk:Nat}
theorem Yf {ta:TA} (hg:Gl X "enumerate") (hm:X.mg "enumerate"=none) (ha:PA X [a] ta) (hs:St1 X a:=by exact st1 rfl):
  PI X (.Tuple elts kk pt) (.Call (.Name "enumerate" p) [a] [] pos) (fun σ H R=>ta σ H fun vs H1=>∃ x,vs=[.str x]/\R (kg x) H1):=by
 intro pins s σ H R I h
 refine Call_ (ZL I hg hm PyProof.Rows.Boot.«enumerate» (aN (thn (ha pos pins s σ H _ I h) fun us s1 ⟨vs,H1,I1,r1,q1⟩=> ?_) hs rfl))
 obtain ⟨x,e,q⟩:=q1
 subst e
 obtain ⟨u,rfl,ru⟩:=Zg r1
 obtain ⟨tt,rfl⟩:=ru
 refine call_enumerate_str fun h' he hit hsz hk=>wpAny_pyIter_enum he ?_
 have f:∀ b∈[s1.heap.objs.size+1,s1.heap.objs.size],ww X pins H1 b:=fun b hb=>by
  rcases ax.mp hb with rfl | hb
  ·exact I1.fpOk (Nat.le_succ _) (I1.hok.fresh (Nat.le_succ _))
  ·have z:b=s1.heap.objs.size:=by simpa using hb
   subst z
   exact I1.fpOk (ag _) (I1.hok.fresh (ag _))
 exact ⟨s1.heap.objs.size+1,[s1.heap.objs.size+1,s1.heap.objs.size],_,_,H1,rfl,I1.kept (t' :=s1.toks) hk,ud (Qj x) _ _ (Nat.succ_ne_self _),⟨bI _,⟨_,he⟩,hit⟩,f,q⟩
theorem Qk (hg:Gl X "enumerate") (hm:X.mg "enumerate"=none) (ha:Snd X Y a fa) (hs:St1 X a:=by exact st1 rfl):uw X Y (.Tuple elts kk pt) (.Call (.Name "enumerate" p) [a] [] pos) (YN fa):= .mk fun ρ=>
 PI.imp (Yf hg hm (zj (ha ρ) zt hs) hs) fun σ H R ⟨B,I,q⟩=>step I q fun t v H1 _ s1 r1 I1 q1=>by
  cases r1 with
  | str x=>exact ⟨x,rfl,Za I1 (show Po Y rI _ H1 (.ok (Jo (Zj x))) R from q1) Ye⟩
  | _=>exact q1.elim
end
def kh (fb:En->RS):En->RS:=fun ρ=>match fb ρ with
 | .ex _=> .bad
 | r=>r
theorem Ql {X:Cx} {tb:TS} {body:List Stmt} {hh:ExceptHandler} {hs:List ExceptHandler} {pos:Pos}
  (hb:∀ (pn:List (Addr×Obj)) (xe:Value->Shared->Prop),PSs (X.try' pn xe) body tb):PS X (.Try body (hh :: hs) [] [] pos) tb:=by
 intro pins s σ H D I hw
 have hr:=hb (X.pn++pins) (fun e s1=>wpAny (model X.prog X.w) X.A (noteFrame e X.env) (fun _ s2=>wpAny (model X.prog X.w) X.A (setFlight e none) (fun _ s3=>wpAny (model X.prog X.w) X.A (handleBy e X.env (hh :: hs)) (SP X pins D) X.xe s3) X.xe s2) X.xe s1) [] s σ H D (I.try' _) hw
 refine wpAny_Try_except (bB hr (fun f s1 h1=> ?_) fun _ _ z=>z)
 have h1:=h1.untry
 cases f with
 | next=>exact cx h1
 | brk=>exact h1
 | cont=>exact h1
 | ret u=>exact h1
theorem VQ {X:Cx} {Y:Fx} {fb:En->RS} {body:List Stmt} {hh:ExceptHandler} {hs:List ExceptHandler} {pos:Pos}
  (hb:∀ (pn:List (Addr×Obj)) (xe:Value->Shared->Prop),wz (X.try' pn xe) Y body fb):JZ X Y (.Try body (hh :: hs) [] [] pos) (kh fb):= .mk fun ρ=>
 PS.imp (Ql (tb:=tSS Y fb ρ) fun pn xe=>hb pn xe ρ) fun D σ H ⟨B,I,q⟩=>⟨B,I,by
  unfold kh at q
  cases e:fb ρ with
  | ex c=>rw [e] at q; exact q.elim
  | _=>rw [e] at q; exact q⟩
end PV
namespace PV
open PySem PySem.W PyProof.Rows
section
variable {α β:Type}
def Gd (lt:Nat->Nat->Bool) (n:Nat):KasT α->(α->Prop)->Prop
 | .ret a,P=>P a
 | .ask i j k,P=>(i < n/\j < n/\i ≠ j)/\Gd lt n (k (lt i j)) P
theorem Gd.mono {lt:Nat->Nat->Bool} {n:Nat} {P P' :α->Prop} (h:∀ a,P a->P' a):∀ (t:KasT α),Gd lt n t P->Gd lt n t P'
 | .ret a,g=>h a g
 | .ask i j k,⟨h1,g⟩=>⟨h1,Gd.mono h _ g⟩
theorem Gd.bind {lt:Nat->Nat->Bool} {n:Nat} {P:β->Prop} {f:α->KasT β}:∀ (t:KasT α),Gd lt n t (fun a=>Gd lt n (f a) P)->Gd lt n (t.bind f) P
 | .ret a,g=>g
 | .ask i j k,⟨h1,g⟩=>⟨h1,Gd.bind _ g⟩
end
section
variable {O:KeyOrd} {n:Nat} {key:Nat->O.α}
abbrev kp (key:Nat->O.α) (p:Array Nat) (i:Nat):O.α:=key (p.getD i 0)
structure Pm (n:Nat) (p:Array Nat):Prop where
 sz:p.size=n
 pm:p.toList.Perm (aY n)
theorem Pm.lt {p:Array Nat} (h:Pm n p) {i:Nat} (hi:i < n):p.getD i 0 < n:=by
 have hs:i < p.size:=by rw [h.sz]; exact hi
 have e:p.getD i 0=p[i]:=by simp [hV,hs]
 rw [e]
 exact aW.mp (h.pm.mem_iff.mp (Array.getElem_mem_toList hs))
theorem Pm.inj {p:Array Nat} (h:Pm n p) {i j:Nat} (hi:i < n) (hj:j < n) (e:p.getD i 0=p.getD j 0):i=j:=by
 have hs:i < p.size:=by rw [h.sz]; exact hi
 have hs' :j < p.size:=by rw [h.sz]; exact hj
 have e1:p.getD i 0=p[i]:=by simp [hV,hs]
 have e2:p.getD j 0=p[j]:=by simp [hV,hs']
 rw [e1,e2] at e
 have nd:p.toList.Nodup:=h.pm.nodup_iff.mpr List.nodup_range
 have:=(fH (i:=i) (j:=j) (h₀:=by simpa using hs) (h₁:=by simpa using hs') nd).mp (by simpa using e)
 exact this
def So (key:Nat->O.α) (p:Array Nat) (m:Nat):Prop:=∀ i j,i < j->j < m->O.klt (kp key p i) (kp key p j)
theorem Qm {p q:Array Nat} {i j:Nat} (h:p[i]? =q[j]?):p.getD i 0=q.getD j 0:=by
 have e:∀ (a:Array Nat) (k:Nat),a.getD k 0=(a[k]?).getD 0:=fun a k=>by simp
 rw [e,e,h]
variable (hk:∀ i j,i < n->j < n->key i=key j->i=j)
include hk
theorem VR {p:Array Nat} (h:Pm n p) {i j:Nat} (hi:i < n) (hj:j < n) (hij:i ≠ j) (hf:O.blt (kp key p i) (kp key p j)=false):O.klt (kp key p j) (kp key p i):=by
 cases q:O.blt (kp key p j) (kp key p i) with
 | true=>exact q
 | false=>exact absurd (h.inj hi hj (hk _ _ (h.lt hi) (h.lt hj) (O.total _ _ hf q))) hij
omit hk in
theorem So.snoc {p:Array Nat} {m:Nat} (h:So key p m) (h1:1<=m) (hl:O.klt (kp key p (m - 1)) (kp key p m)):So key p (m+1):=fun i j hij hj=>by
 by_cases hjm:j=m
 ·subst hjm
  by_cases him:i=j - 1
  ·rw [him]; exact hl
  ·exact ei (h i (j - 1) (by omega) (by omega)) (fF hl)
 ·exact h i j hij (by omega)
theorem UB {p:Array Nat} (hp:Pm n p):∀ (f m:Nat),1<=m->m+f=n->So key p m->Gd (fun i j=>O.blt (key i) (key j)) n (kas_asc p f m) fun r=>m<=r/\r<=n/\So key p r/\(r < n->O.klt (kp key p r) (kp key p (r - 1)))
 | 0,m,_,hm,h=>⟨ag _,by omega,h,fun z=>by omega⟩
 | f+1,m,h1,hm,h=>by
  refine ⟨⟨hp.lt (by omega),hp.lt (by omega),fun z=>absurd (hp.inj (by omega) (by omega) z) (by omega)⟩, ?_⟩
  show Gd _ n (if O.blt (kp key p m) (kp key p (m - 1))=true then .ret m else kas_asc p f (m+1)) _
  cases q:O.blt (kp key p m) (kp key p (m - 1)) with
  | true=>exact ⟨ag _,by omega,h,fun _=>q⟩
  | false=>
   rw [if_neg (by simp)]
   exact Gd.mono (fun r ⟨a,b,c⟩=>⟨by omega,b,c⟩) _ (UB hp f (m+1) (by omega) (by omega) (h.snoc h1 (VR hk hp (by omega) (by omega) (by omega) q)))
def De (key:Nat->O.α) (p:Array Nat) (m:Nat):Prop:=∀ i j,i < j->j < m->O.klt (kp key p j) (kp key p i)
theorem UC {p:Array Nat} (hp:Pm n p):∀ (f m:Nat),2<=m->m+f=n->De key p m->Gd (fun i j=>O.blt (key i) (key j)) n (kas_desc f p m 0) fun r=>r.1=p/\r.2.2=0/\m<=r.2.1/\r.2.1<=n/\De key p r.2.1
 | 0,m,_,hm,h=>⟨rfl,rfl,ag _,by show m<=n; omega,h⟩
 | f+1,m,h1,hm,h=>by
  refine ⟨⟨hp.lt (by omega),hp.lt (by omega),fun z=>absurd (hp.inj (by omega) (by omega) z) (by omega)⟩, ?_⟩
  show Gd _ n (if O.blt (kp key p m) (kp key p (m - 1))=true then (if 0 > 0 then kas_desc f (kas_rev p (m - (0+1)) m) (m+1) 0 else kas_desc f p (m+1) 0) else .ask (p.getD (m - 1) 0) (p.getD m 0) fun d=>if d=true then .ret (p,m,0) else kas_desc f p (m+1) (0+1)) _
  cases q:O.blt (kp key p m) (kp key p (m - 1)) with
  | true=>
   rw [if_pos rfl,if_neg (by omega)]
   refine Gd.mono (fun r ⟨a,b,c,d⟩=>⟨a,b,by omega,d⟩) _ (UC hp f (m+1) (by omega) (by omega) fun i j hij hj=> ?_)
   by_cases hjm:j=m
   ·subst hjm
    by_cases him:i=j - 1
    ·rw [him]; exact q
    ·exact ei (show O.klt (kp key p j) (kp key p (j - 1)) from q) (fF (h i (j - 1) (by omega) (by omega)))
   ·exact h i j hij (by omega)
  | false=>
   rw [if_neg (by simp)]
   refine ⟨⟨hp.lt (by omega),hp.lt (by omega),fun z=>absurd (hp.inj (by omega) (by omega) z) (by omega)⟩, ?_⟩
   have q2:O.blt (kp key p (m - 1)) (kp key p m)=true:=VR hk hp (by omega) (by omega) (by omega) q
   show Gd _ n (if O.blt (kp key p (m - 1)) (kp key p m)=true then .ret (p,m,0) else _) _
   rw [if_pos q2]
   exact ⟨rfl,rfl,ag _,by show m<=n; omega,h⟩
omit hk in
theorem YO {p:Array Nat} (hp:Pm n p) (i j:Nat):Pm n (kas_rev p i j):=⟨(mirror_size _ _ _ _).trans hp.sz,(Array.perm_iff_toList_perm.mp (mirror_perm p i j _)).trans hp.pm⟩
omit hk in
theorem UD {p:Array Nat} (hp:Pm n p) {m k:Nat} (hm:m<=n) (hk' :k < m):(kas_rev p 0 m).getD k 0=p.getD (m - 1 - k) 0:=by
 refine Qm ?_
 unfold kas_rev
 rw [getElem?_mirror_all (by rw [hp.sz]; exact hm),if_pos ⟨bI _,hk'⟩]
 congr 1
 omega
theorem Z3 {p:Array Nat} (hp:Pm n p) (h2:2<=n):Gd (fun i j=>O.blt (key i) (key j)) n (kas_count n p) fun r=>1<=r.1/\r.1<=n/\Pm n r.2/\So key r.2 r.1:=by
 unfold kas_count
 refine Gd.bind _ (Gd.mono (fun m ⟨a,b,c,d⟩=> ?_) _ (UB hk hp (n - 1) 1 (ag _) (by omega) fun i j hij hj=>by omega))
 by_cases hmn:m=n
 ·rw [if_pos (by simpa using hmn)]
  exact ⟨a,b,hp,c⟩
 ·rw [if_neg (by simpa using hmn)]
  by_cases hm1:m > 1
  ·rw [if_pos hm1]
   refine ⟨⟨hp.lt (by omega),hp.lt (by omega),fun z=>absurd (hp.inj (by omega) (by omega) z) (by omega)⟩, ?_⟩
   have q:O.blt (kp key p 0) (kp key p (m - 1))=true:=c 0 (m - 1) (by omega) (by omega)
   show Gd _ n (if O.blt (kp key p 0) (kp key p (m - 1))=true then .ret (m,p) else _) _
   rw [if_pos q]
   exact ⟨a,b,hp,c⟩
  ·rw [if_neg hm1]
   have e:m=1:=by omega
   subst e
   unfold kas_descPart
   have d1:=d (by omega)
   refine Gd.bind _ (Gd.mono (fun r ⟨r1,r2,r3,r4,r5⟩=> ?_) _ (UC hk hp (n - (1+1)) (1+1) (by omega) (by omega) fun i j hij hj=>by
    have:i=0/\j=1:=by omega
    rw [this.1,this.2]; exact d1))
   rw [r2,if_neg (by omega),r1]
   unfold kas_tail3
   refine Gd.bind _ (Gd.mono (fun m' ⟨x1,x2,x3,_⟩=>⟨by show 1<=m'; omega,x2,YO hp 0 r.2.1,x3⟩) _ (UB hk (YO hp 0 r.2.1) (n - r.2.1) r.2.1 (by omega) (by omega) fun i j hij hj=> ?_))
   unfold kp
   rw [UD hp r4 (by omega),UD hp r4 hj]
   exact r5 _ _ (by omega) (by omega)
omit hk in
end
end PV
namespace PV
open PySem PySem.Spec PyProof.Rows L2
section
variable {P:Program} {w:World} {H:Hp} {h:Heap}
end
section
variable {X:Cx} {Y:Fx} {a:Expr} {fa:En->R T} {p pos:Pos}
end
section
open PySem.W PySem.Calls
variable {O:KeyOrd} {n:Nat} {key:Nat->O.α}
end
section
variable {prog:Program} {w:World} {A:Around} {E:Value->Shared->Prop} {s:Shared}
open PySem.W PySem.Calls
end
section
variable {X:Cx} {Y:Fx} {a:Expr} {fa:En->R T} {p pos:Pos}
end
end PV
namespace PV
open PySem PySem.Spec PyProof.Rows L2
section
variable {X:Cx} {Y:Fx} {a b:Expr} {fa:En->R T} {pos p p1 p2 p3 lp sp' :Pos}
end
section
variable {prog:Program} {w:World} {A:Around} {E:Value->Shared->Prop} {s:Shared}
open HT in
open HT in
end
section
variable {X:Cx} {Y:Fx} {a:Expr} {fa:En->R T} {pos p2 p3 p4:Pos} {kc:Nat}
end
end PV
namespace PV
open PySem PySem.Spec PyProof.Rows L2
end PV
namespace L2
open PySem PySem.Spec PyProof.Rows PySem.W
structure Lm (X:Cx) (c P:Addr) (q:Str):Prop where
 code:X.env.code= .ref c
 hd:codeHdIn X.K c P=true
 bt:X.base.BuiltinsAt X.mg P
 ql:X.env.qual++"<lambda>"=q
def jS (H:Hp) (q:Str) (c:Addr):Prop:=∃ oc vs t,H c=some (.frz oc (.own c))/\oc.data= .fields vs/\vs[1]? =some (.str q t)
theorem jS.mono {H H' :Hp} {q:Str} {c:Addr} (s:zm H H') (h:jS H q c):jS H' q c:=let ⟨oc,vs,t,e,r⟩:=h; ⟨oc,vs,t,s _ _ e,r⟩
theorem jS.rec {P:Program} {w:World} {H:Hp} {q:Str} {c:Addr} {h:Heap} (x:jS H q c) (ok:HOk P w H h):h.CodeRec (.ref c) q:=by
 obtain ⟨oc,vs,t,e,d,v⟩:=x
 exact ⟨c,oc,vs,t,rfl,(ok c _ e).1,d,v⟩
theorem jZ {p p' :Pos} {c cv:Value}:∀ (l:List Value),TriplesOk l->codeAmong p (l++[rawInt p'.line,rawInt p'.col,c])=some cv->codeAmong p l=some cv\/cv=c
 | [],_,h=>by
  right
  simp only [bA,rawInt,codeAmong] at h
  split at h
  ·exact (aI h).symm
  ·cases h
 | .int a t :: .int b u :: x :: r,ok,h=>by
  simp only [dq,codeAmong] at h ⊢
  split at h
  ·rename_i z; rw [if_pos z]; exact .inl h
  ·rename_i z
   rw [if_neg z]
   exact jZ r (by simpa only [TriplesOk] using ok) h
abbrev ue (q:Str) (params:Arguments) (body:Expr) (scope:Scope) (clos:List (Str×Addr)) (pm ctv:Value) (c:Addr):Obj:=kla_obj "<lambda>" q params body scope clos pm c ctv
theorem VS {X:Cx} {c P:Addr} {q:Str} {params:Arguments} {body:Expr} {scope:Scope} {pos:Pos} {clos:List (Str×Addr)} (L:Lm X c P q) (hdef:defaultsOf params X.env=([],[])) (hcl:closureFor scope X.env=pure clos):
  PE X (.Lambda params body scope pos) (fun σ H Q=>H P=some (.tbl #[] q)/\∀ f c' pm ctv H',zm H H' ->H' f=some (.frz (ue q params body scope clos pm ctv c') (.own f))->jS H' q c' ->Q (.ref f) H'):=by
 intro pins s σ H Q I ⟨hP,h⟩
 obtain ⟨more,eP,tr,al⟩:=I.hok P _ hP
 have C:CodeHd s.heap c P:=codeHd_of_K I.kIn L.hd
 have hg:s.heap.Ns mainGlobals X.mg:=I.ok.mod.glob.keeps I.bk
 have hB:s.heap.BuiltinsAt X.mg P:=by
  obtain ⟨bm,o,b1,b2,b3,b4,b5,b6⟩:=L.bt
  exact ⟨bm,o,b1,b2,b3,b4,I.bk _ _ b5,b6⟩
 have hgP:mainGlobals ≠ P:=fun z=>by
  obtain ⟨o,es,ep,e,hd,_⟩:=hg
  rw [z,eP] at e; cases e; cases hd
 have fobj:∀ {H2:Hp} {f:Addr} {o:Obj} {h2:Heap},h2.get? f=some o->zH X.prog X.w H2 h2 f (.frz o (.own f)):=fun e=>⟨e,_,e⟩
 refine kla_eval hdef ?_
 rw [L.ql]
 cases hf:codeAmong pos (#[]++more).toList with
 | some cv=>
  obtain ⟨c',oc,vs,t,rfl,e2,e3,e4⟩:=al pos cv hf
  refine kla_makeFunctionHit hcl I.ok.glob hg L.code C eP tr hf hB fun ctv h' tk hk hsz=> ?_
  have hfr:H h'.objs.size=none:=I.hok.fresh hsz
  have e5:(h'.push (ue q params body scope clos ((X.mg "__name__").getD .none) ctv c')).get? h'.objs.size=some (ue q params body scope clos ((X.mg "__name__").getD .none) ctv c'):=af _ rfl
  refine ⟨.ref h'.objs.size,_,I.laid (a:=h'.objs.size) (o:= .frz (ue q params body scope clos ((X.mg "__name__").getD .none) ctv c') (.own h'.objs.size)) (fun b u e=>ae _ (hk b u e)) hsz (fobj e5),rfl, ?_⟩
  exact h _ c' _ ctv _ (PV.zm.new hfr _) zl (jS.mono (PV.zm.new hfr _) ⟨oc,vs,t,e2,e3,e4⟩)
 | none=>
  refine kla_makeFunction hcl I.ok.glob hg L.code C eP tr hf hgP hB fun c' ctv h' tk hx hge hlt hrec htb=> ?_
  obtain ⟨c₂,oc,vs,t,e2,hoc,hd,hv⟩:=hrec
  cases e2
  have hc0:H c' =none:=I.hok.fresh hge
  have hPlt:P < s.heap.objs.size:=ai eP
  have hcP:c' ≠ P:=fun z=>by rw [z] at hge; exact absurd hPlt (Nat.not_lt.mpr hge)
  have neP:∀ b,H b=none->b ≠ P:=fun b n z=>by rw [z,hP] at n; cases n
  have neC:∀ b o,s.heap.get? b=some o->b ≠ c' :=fun b o e=>az (ay (ai e) hge)
  have sm:zm H (upd H c' (.frz oc (.own c'))):=PV.zm.new hc0 _
  have hl:(#[]++more++ #[rawInt pos.line,rawInt pos.col,Value.ref c']).toList=(#[]++more).toList++[rawInt pos.line,rawInt pos.col,Value.ref c']:=by simp
  have hok:HOk X.prog X.w (upd H c' (.frz oc (.own c'))) h' :=fun b u e=>by
   by_cases hb:b=c'
   ·subst hb
    rw [zl] at e; cases e
    exact fobj hoc
   ·rw [zi hb] at e
    by_cases hbP:b=P
    ·subst hbP
     rw [hP] at e; cases e
     refine ⟨more++ #[rawInt pos.line,rawInt pos.col,Value.ref c'],by rw [← dP]; exact htb,by rw [← dP,hl]; exact TriplesOk_snoc _ _ _ _ tr,fun p cv z=> ?_⟩
     rw [← dP,hl] at z
     rcases jZ _ tr z with z | rfl
     ·obtain ⟨c2,oc2,vs2,t2,a1,a2,a3⟩:=al p cv z
      exact ⟨c2,oc2,vs2,t2,a1,sm _ _ a2,a3⟩
     ·exact ⟨c',oc,vs,t,rfl,zl,hd,hv⟩
    ·refine (I.hok b u e).stay (fun a v ha q' =>hx a v (fun z=> ?_) q') (fun _ q' =>sm _ _ q') (fun _ _ q' =>sm _ _ q') fun _ _ _ q' =>sm _ _ q'
     subst z
     rcases ha with z | z
     ·exact hbP z.symm
     ·rw [hP] at z; cases z
  have I1:Inv X pins σ (upd H c' (.frz oc (.own c'))) { s with heap:=h',toks:=s.toks }:=by
   refine I.step (g' :=s.gens) (d' :=s.drawn) (t' :=s.toks) (ch:=[]) (fun _ z=>nomatch z) (fun b o _ _ _ e n=>hx b o (neP b n) e) (fun b o _ _ _ e n=>⟨o.slots,hx b o (neP b n) e⟩) (fun b o _ e n=>by rw [zi (neC b o e)]; exact n) (fun b o _ e=> ?_) (fun _ _ e=>sm _ _ e) (fun _ _ _ e=>sm _ _ e) (fun _ _ _ e=>sm _ _ e) (fun m hm=>hm.extBut hx (neP _ I.free)) hok I.bare
   by_cases hb:b=P
   ·exact ⟨_,hb ▸ htb⟩
   ·exact ⟨o,hx b o hb e⟩
  have hfr:upd H c' (.frz oc (.own c')) h'.objs.size=none:=by rw [zi (cW hlt)]; exact I1.hok.fresh (ag _) |> fun z=>by rw [zi (cW hlt)] at z; exact z
  have e5:(h'.push (ue q params body scope clos ((X.mg "__name__").getD .none) ctv c')).get? h'.objs.size=some (ue q params body scope clos ((X.mg "__name__").getD .none) ctv c'):=af _ rfl
  refine ⟨.ref h'.objs.size,_,I1.laid (a:=h'.objs.size) (o:= .frz (ue q params body scope clos ((X.mg "__name__").getD .none) ctv c') (.own h'.objs.size)) (fun b u e=>ae _ e) (ag _) (fobj e5),rfl, ?_⟩
  have s2:zm (upd H c' (.frz oc (.own c'))) (upd (upd H c' (.frz oc (.own c'))) h'.objs.size (.frz (ue q params body scope clos ((X.mg "__name__").getD .none) ctv c') (.own h'.objs.size))):=PV.zm.new hfr _
  exact h _ c' _ ctv _ (sm.trans s2) zl (jS.mono s2 ⟨oc,vs,t,zl,hd,hv⟩)
end L2
namespace L2
open PySem PySem.Spec PyProof.Rows PySem.W
def YQ (s:Shared) (H:Hp) (fr:List Addr):Heap:=hideAll s.heap (trk s.heap H++fr)
theorem Wn {s:Shared} {H:Hp} {fr:List Addr} {b:Addr} {o:Obj} (e:s.heap.get? b=some o) (n:H b=none) (hb:b ∉ fr):(YQ s H fr).get? b=some o:=
 hideAll_get _ e fun hm=>by
  rcases eR.mp hm with z | z
  ·have q:(H b).isSome=true:=(dy.mp z).2
   rw [n] at q; cases q
  ·exact hb z
theorem Qn {s:Shared} {H:Hp} {fr:List Addr} {b:Addr} {o:Obj} (e:(YQ s H fr).get? b=some o):s.heap.get? b=some o/\H b=none:=by
 have e' :s.heap.get? b=some o:=of_hideAll _ e
 refine ⟨e', ?_⟩
 cases q:H b with
 | none=>rfl
 | some x=>
  have hm:b∈trk s.heap H++fr:=bW _ (dy.mpr ⟨aW.mpr (ai e'),by simp [q]⟩)
  have z:(YQ s H fr).get? b=none:=hideAll_none _ hm
  rw [z] at e; cases e
theorem Mod.keeps {K:Frag} {mg:Str->Option Value} {b b' :Heap} (m:Mod K mg b) (k:∀ a o,b.get? a=some o->b'.get? a=some o):Mod K mg b' :=
 ⟨m.kin.keeps k,m.glob.keeps k,let ⟨mb,h1,h2⟩:=m.blt; ⟨mb,h1.keeps k,h2⟩,m.nolimit.keeps k⟩
section
variable {X:Cx} {pins:List (Addr×Obj)} {σ:St} {H:Hp} {s:Shared}
theorem Inv.big_of (I:Inv X pins σ H s):∀ b o,X.base.get? b=some o->(YQ s H (frs X.stack)).get? b=some o:=fun b o e=>by
 refine Wn (I.bs b o e).1 (I.bs b o e).2 fun hb=> ?_
 have:=(I.stack.mem hb).1
 rw [e] at this; cases this
theorem Inv.big (I:Inv X pins σ H s):uR X.prog X.w X.K X.mg (YQ s H (frs X.stack)) X.A X.stack s H:=
 ⟨I.ok.frames,I.ok.mod.keeps I.big_of,fun b o e=>Qn e,Nat.le_of_eq (hideAll_size _ _),funFrames_hide I.stack fun env he a ha=>aM _ (cQ.mpr ⟨env,he,ha⟩),I.stkFree,I.hok,I.bare⟩
theorem Qo {CX:CXT} {k:Nat} {f:Addr} {fd:FuncData} {ps:List Str} {sp:Sp} {E:XK} {Q:VK} {us:List Value} {vs:List V} (I:Inv X pins σ H s) (F:zG X.prog X.w X.K X.mg (YQ s H (frs X.stack)) CX k f fd ps sp) (hr:ZJ k X.A) (hb:Binds X.K fd ps []) (hx:Zb CX X E)
  (r:zB vs us) (h:sp vs H Q E):wpAny (model X.prog X.w) X.A (call (.ref f) us) (EP X pins σ Q) X.xe s:=by
 have hl:us.length=ps.length:=by rw [← r.length]; exact F.len _ _ _ _ h
 have hb' :=hb s us I.kIn (by rw [bz]; exact hl)
 rw [bz] at hb'
 refine dl (bX (F.run X.A X.stack s H ⟨us,[]⟩ us vs Q E hr I.big hb' r h) fun r s' hq=> ?_)
 cases r with
 | error e=>exact hx pins σ H s e s' I hq
 | ok fl=>
  cases fl with
  | ret u=>exact I.after hq
  | next=>exact bg hq
  | brk=>exact bg hq
  | cont=>exact bg hq
end
def cxL (P:Program) (w:World) (K:Frag) (mg:Str->Option Value) (base:Heap) (N:List Str) (q:Str) (scope:Scope) (f:Addr) (cd:Value) (clos:List (Str×Addr)) (A:Around) (outer:List Env) (s:Shared) (H:Hp) (E:XK):Cx where
 prog:=P
 w:=w
 K:=K
 mg:=mg
 base:=base
 A:=A.deeper (envX q scope s.heap.objs.size f cd clos)
 N:=N
 s₀:=s
 H₀:=H
 env:=envX q scope s.heap.objs.size f cd clos
 outer:=outer
 stack:=envX q scope s.heap.objs.size f cd clos :: outer
 ex:=[]
 calm:=true
 fn:=fun _=>false
 pn:=[]
 xe:=fun e s' =>wpAny (model P w) (A.deeper (envX q scope s.heap.objs.size f cd clos)) (leaving (envX q scope s.heap.objs.size f cd clos) e) (fun _ s'' =>CX1 P w outer H s E e s'') (fun e' s'' =>CX1 P w outer H s E e' s'') s'
section
variable {P:Program} {w:World} {K:Frag} {mg:Str->Option Value} {base:Heap} {N:List Str} {q:Str} {scope:Scope} {f:Addr} {cd:Value} {clos:List (Str×Addr)} {A:Around} {outer:List Env} {s:Shared} {H:Hp} {E:XK}
theorem VT:Zb (CX1 P w) (cxL P w K mg base N q scope f cd clos A outer s H E) E:=by
 intro pins σ H1 s1 e s' I ⟨ea,cls,a0,B,H',he,L,hE⟩
 subst he
 exact wpAny_leaves_onW (base:=B) I.ok.frames rfl L.fly fun h' fl sl=>⟨ea,cls,a0,B,H',rfl,L.out I rfl rfl rfl fl sl,hE⟩
structure LSc (scope:Scope):Prop where
 kind:scope.kind= .function
 co:scope.isCoroutine=false
 gen:scope.isGenerator=false
 nocell:∀ x∈scope.names,x.2 ≠ .cell
structure UE (base:Heap) (H:Hp) (scope:Scope) (clos:List (Str×Addr)) (N:List Str) (σ:St):Prop where
 inj:∀ x y c,clos.lookup x=some c->clos.lookup y=some c->x=y
 has:∀ x∈scope.names,x.2= .free->∃ c,clos.lookup x.1=some c
 cell:∀ x c,clos.lookup x=some c->(∃ v,base.IsCell c v)/\H c=none
 loc:∀ (i:Nat) (x:Str) (v:V),N[i]? =some x->σ[i]? =some (some v)->∃ u c,zP v u/\clos.lookup x=some c/\base.IsCell c (some u)/\scope.names.lookup x=some .free
 len:σ.length=N.length
theorem J0 {h h' :Heap} {c:Addr} {v:Option Value} (k:∀ a o,h.get? a=some o->h'.get? a=some o) (x:h.IsCell c v):h'.IsCell c v:=let ⟨o,e,d⟩:=x; ⟨o,k _ _ e,d⟩
theorem Qp {σ:St} {h1:Heap} {tk:Nat} (S:LSc scope) (hd:A.handled=none) (e0:uR P w K mg base A outer s H) (C:UE base H scope clos N σ) (ns:h1.Ns s.heap.objs.size (fun _=>none)) (hk:∀ b o,s.heap.get? b=some o->h1.get? b=some o):
  Inv (cxL P w K mg base N q scope f cd clos A outer s H E) [] σ H { s with heap:=h1,toks:=tk }:=by
 have bk:∀ b o,base.get? b=some o->h1.get? b=some o:=fun b o e=>hk b o (e0.bs b o e).1
 have noA:∀ b:Addr,b ∉ (cxL P w K mg base N q scope f cd clos A outer s H E).ex:=fun b z=>absurd (show b∈([]:List Addr) from z) (by simp)
 refine ⟨⟨e0.mod,S.kind,rfl,rfl,ag _,C.inj,fun y hy=> ?_,fun y c h _=>(aB h).elim,fun _=>hd,dv e0.frames, .inr ⟨rfl,rfl⟩,fun b z=>absurd z (noA b),e0.bs,e0.bsz,fun b _ _=>noA b,fun b z=>absurd z (noA b),e0.funs,e0.frf⟩,
  rfl,e0.bare,Un.kept hk,⟨_,ns,fun i y v h1 h2 h3=> ?_⟩,fun y c h=> ?_,e0.hok.fresh (ag _),fun y c h=>(C.cell y c h).2,fun p hp=>absurd (show p∈([]:List (Addr×Obj)) from hp) (by simp),e0.hok.kept hk,C.len⟩
 ·have hy:scope.names.lookup y=some .cell\/scope.names.lookup y=some .free:=hy
  rcases hy with hy | hy
  ·exact absurd rfl (S.nocell _ (ba hy))
  ·exact C.has _ (ba hy) rfl
 ·obtain ⟨u,c,r,e,ic,k⟩:=C.loc i y v h1 h2
  exact ⟨u,r, .inr ⟨.inr k,c,e,J0 bk ic⟩⟩
 ·obtain ⟨v,ic⟩:=(C.cell y c h).1
  exact ⟨v,J0 bk ic⟩
theorem Qq {k:Nat} {params:Arguments} {body:Expr} {pm ctv:Value} {c' :Addr} {σ:St} {Q:VK} {te:TE} (S:LSc scope) (hr:ZJ (k+1) A) (e0:uR P w K mg base A outer s H) (C:UE base H scope clos N σ)
  (hf:H f=some (.frz (ue q params body scope clos pm ctv c') (.own f))) (hc:jS H q c') (hp:bindArgs (kla_fn "<lambda>" q params body scope clos pm (.ref c') ctv) ⟨[],[]⟩=pure [])
  (hb:PE (cxL P w K mg base N q scope f (.ref c') clos A outer s H E) body te) (ht:te σ H Q):
  codeAny (model P w) A (.call (.ref f) ⟨[],[]⟩) (CR (CX1 P w) outer P w H s Q E) s:=by
 have lim:s.heap.NoLimit:=e0.mod.nolimit.keeps fun b o e=>(e0.bs b o e).1
 refine kla_callFunE hr.depth (e0.hok f _ hf).1 rfl S.co S.gen rfl (hc.rec e0.hok) ?_
 rw [hp]
 refine aq (wpAny_newFunctionEnv S.nocell (fun y hy=>by simp at hy) (fun h1 hns hsb=> ?_) S.kind)
 have hk:∀ b o,s.heap.get? b=some o->h1.get? b=some o:=fun b o e=>hsb.extBut b o (az (ai e)) (ae _ e)
 refine ⟨lim.keeps hk, ?_⟩
 show codeAny _ _ (.expr body (envX q scope s.heap.objs.size f (.ref c') clos)) _ _
 have I:=Qp (q:=q) (f:=f) (cd:= .ref c') (E:=E) (tk:=s.toks+([]:List (Str×Value)).length) S hr.hd e0 C hns hk
 exact kla_codeExpr (bB (hb [] _ σ H Q I ht) (fun v s' ⟨x,H',J,r,q⟩=>⟨x,H',J.os,J.bare,J.base,J.hok,r,q⟩) fun _ _ z=>z)
end
end L2
namespace L2
open PySem PySem.Spec PyProof.Rows PySem.W
structure Zv (k:Nat) (A:Around):Prop where
 dp:A.depth+3*k+5 < recursionLimit
 un:A.units+16*k+200 < cLine
 gd:A.guards=some []
theorem ZJ.m {k:Nat} {A:Around} (r:ZJ k A):Zv k A:=⟨r.dp,r.un,r.gd⟩
theorem Zv.mono {j k:Nat} {A:Around} (r:Zv k A) (h:j<=k):Zv j A:=⟨by have:=r.dp; omega,by have:=r.un; omega,r.gd⟩
theorem Zv.deeper {k:Nat} {A:Around} (r:Zv (k+1) A) (env:Env):Zv k (A.deeper env):=
 ⟨by have:=r.dp; show A.depth+1+3*k+5 < _; omega,by have:=r.un; show A.units+3+16*k+200 < _; omega,r.gd⟩
theorem Zv.mark {k:Nat} {A:Around} (r:Zv k A) (e:Value):Zv k (A.mark (some e)):=⟨r.dp,r.un,r.gd⟩
theorem Zv.depth {k:Nat} {A:Around} (r:Zv k A):A.depth < recursionLimit:=by have:=r.dp; omega
theorem Zv.units {k:Nat} {A:Around} (r:Zv k A):A.units+64 < cLine:=by have:=r.un; omega
structure FnM (P:Program) (w:World) (K:Frag) (mg:Str->Option Value) (base:Heap) (k:Nat) (f:Addr) (fd:FuncData) (ps:List Str) (sp:Sp):Prop where
 len:∀ vs H Q E,sp vs H Q E->vs.length=ps.length
 run:∀ (A:Around) (outer:List Env) (s:Shared) (H:Hp) (args:Args) (us:List Value) (vs:List V) (Q:VK),Zv k A->uR P w K mg base A outer s H->BindsTo s fd args (ps.zip us)->zB vs us->sp vs H Q (fun _ _ _=>False)->
  codeAny (model P w) A (.call (.ref f) args) (fun r s' =>∃ u,r= .ok (.ret u)/\CE outer P w H s Q u s') s
abbrev cxM (P:Program) (w:World) (K:Frag) (mg:Str->Option Value) (base:Heap) (N:List Str) (qual:Str) (scope:Scope) (f:Addr) (cd:Value) (A:Around) (outer:List Env) (s:Shared) (H:Hp):Cx:=
 { (ja CX0 P w K mg base N qual scope f cd A outer s H (fun _ _ _=>False)).nox with calm:=false }
section
variable {P:Program} {w:World} {K:Frag} {mg:Str->Option Value} {base:Heap}
theorem VU {k:Nat} {x qual:Str} {st:Stmt} {f:Addr} {fd:FuncData} {N ps:List Str} {sp:Sp} (F:Fun K x qual st f fd) (S:zd N ps (za st)) (len:∀ vs H Q E,sp vs H Q E->vs.length=ps.length)
  (hbody:∀ (cdv:Value) (A:Around) (outer:List Env) (s:Shared) (H:Hp) (vs:List V) (Q:VK),Zv k (A.deeper (envOfC qual (za st) s.heap.objs.size f cdv))->sp vs H Q (fun _ _ _=>False)->
   ∃ t,PSs (cxM P w K mg base N qual (za st) f cdv A outer s H) (zE st) t/\t { nx:=fun _ H' =>Q .non H',rt:=Q } (start N vs) H):FnM P w K mg base (k+1) f fd ps sp:=by
 obtain ⟨oc,od,kV,doc,pm,an,cdv,ct,osl,rfl,lk,hcd⟩:=F.ex
 refine ⟨len,fun A outer s H args us vs Q hr e0 hb r hsp=> ?_⟩
 have hl:=len _ _ _ _ hsp
 have KX:K.In s.heap:=e0.mod.kin.keeps fun b o e=>(e0.bs b o e).1
 have lim:s.heap.NoLimit:=e0.mod.nolimit.keeps fun b o e=>(e0.bs b o e).1
 have hkind:∀ y∈ps.zip us,(za st).names.lookup y.1=some .local\/((za st).names.lookup y.1=some .cell/\((cellsFrom (s.heap.objs.size+1) (za st).names []).lookup y.1).isSome=true):=fun ⟨n,v⟩ hy=>by
  rcases S.par n (cy hy).1 with q | q
  ·exact .inl q
  ·exact .inr ⟨q,cellsFrom_some _ _ _ (.inl q)⟩
 refine codeAny_call_function hr.depth (KX _ _ lk) rfl S.co S.gen rfl (codeRec_of KX hcd) (hb _ _ _ _ ?_)
 refine wpAny_newFunctionEnv_cells S.kind hkind fun env he s1 x=> ?_
 subst he
 refine ⟨lim.keeps x.toInCall.keep,codeAny_func ?_⟩
 obtain ⟨t,ht,hq⟩:=hbody cdv A outer s H vs Q (hr.deeper _) hsp
 have e1:uR P w K mg base { A with handled:=none } outer s H:=⟨e0.frames,e0.mod,e0.bs,e0.bsz,e0.funs,e0.frf,e0.hok,e0.bare⟩
 have J:Inv (ja CX0 P w K mg base N qual (za st) f cdv { A with handled:=none } outer s H (fun _ _ _=>False)) [] (start N vs) H s1:=JQ S rfl e1 hl r x
 have I:Inv (cxM P w K mg base N qual (za st) f cdv A outer s H) [] (start N vs) H s1:=
  ⟨⟨J.ok.mod,J.ok.kind,J.ok.glob,J.ok.blt,J.ok.above,J.ok.inj,J.ok.has,J.ok.cab,fun z=>(by cases z),dv e0.frames,J.ok.stk,J.ok.exf,J.ok.bs,J.ok.bsz,J.ok.noex,J.ok.exfs,J.ok.funs,J.ok.frf⟩,J.os,J.bare,J.base,J.loc,J.cell,J.free,J.freeC,J.pin,J.hok,J.len⟩
 refine bB (ht [] s1 (start N vs) H _ I hq) (fun fl s' hs=> ?_) fun e s' hs=>hs.elim
 have fin:∀ {σ' :St} {H' :Hp} {v:V} {u:Value},Inv (cxM P w K mg base N qual (za st) f cdv A outer s H) [] σ' H' s' ->zP v u->Q v H' ->∃ u',(Except.ok (Flow.ret u):Result)= .ok (.ret u')/\CE outer P w H s Q u' s' :=
  fun {σ' H' v u} J rv q=>⟨u,rfl,v,H',J.os,J.bare,J.base,J.hok,rv,q⟩
 cases fl with
 | ret u=>
  obtain ⟨v,σ',H',J,rv,q⟩:=hs
  exact fin J rv q
 | next=>
  obtain ⟨σ',H',J,q⟩:=hs
  exact fin (v:=V.non) (u:=Value.none) J rfl q
 | brk=>obtain ⟨_,_,_,q⟩:=hs; exact bg q
 | cont=>obtain ⟨_,_,_,q⟩:=hs; exact bg q
theorem Yg {X:Cx} {k:Nat} {f:Addr} {fd:FuncData} {ps:List Str} {sp:Sp} {x:Str} {p pos:Pos} {e:Expr} {t:TA} (F:FnM X.prog X.w X.K X.mg X.base k f fd ps sp) (hr:Zv k X.A) (hg:Gl X x) (hm:X.mg x=some (.ref f)) (hk:keepIn X.K (.ref f)=true) (hb:Binds X.K fd ps [])
  (ha:PA X [e] t) (hdb:(x == ("__debug__":Str))=false:=by decide) (he:starEach [e] X.env=[(false,eval e X.env)]:=by rfl):
  PE X (.Call (.Name x p) [e] [] pos) (fun σ H Q=>t σ H fun vs H1=>sp vs H1 Q fun _ _ _=>False):=by
 intro pins s σ H Q I h
 refine bC (j9 I hg hm ?_ hdb)
 refine callWith_K (h₀:=X.base) I.ok.mod.kin hk (thn (ha pos pins s σ H _ I h) fun us s1 ⟨vs,H1,I1,r,q⟩=>⟨I1.kIn, ?_⟩) he rfl
 have hl:us.length=ps.length:=by rw [← r.length]; exact F.len _ _ _ _ q
 have hb' :=hb s1 us I1.kIn (by rw [bz]; exact hl)
 rw [bz] at hb'
 refine dl (bX (F.run X.A X.stack s1 H1 ⟨us,[]⟩ us vs Q hr I1.env0 hb' r q) fun r s' ⟨u,e1,hq⟩=> ?_)
 subst e1
 exact I1.after hq
end
def VV (X:Cx) (E:XK) (i:Nat) (f:Addr) (o:Obj):TE:=fun σ H Q=>σ[i]? =some (some (.ref f))/\H f=some (.frz o (.own f))/\
 ∀ s,uR X.prog X.w X.K X.mg X.base X.A X.stack s H->codeAny (model X.prog X.w) X.A (.call (.ref f) ⟨[],[]⟩) (CR (CX1 X.prog X.w) X.stack X.prog X.w H s Q E) s
theorem Qr {X:Cx} {E:XK} {i:Nat} {x:Str} {p pos:Pos} {f c' :Addr} {q:Str} {params:Arguments} {body:Expr} {scope:Scope} {clos:List (Str×Addr)} {pm ctv:Value} (hv:PE X (.Name x p) (Yq i)) (hx:Zb (CX1 X.prog X.w) X E):
  PE X (.Call (.Name x p) [] [] pos) (VV X E i f (ue q params body scope clos pm ctv c')):=by
 intro pins s σ H Q I ⟨hσ,hf,run⟩
 refine bC (thn (hv pins s σ H (fun v H' =>v= .ref f/\H' =H) I ⟨_,hσ,rfl,rfl⟩) fun u s1 ⟨v,H1,I1,r,e1,e2⟩=> ?_)
 subst e1 e2
 obtain rfl:u=Value.ref f:=r
 refine callWith_F0 ⟨_,_,_,_,(I1.hok f _ hf).1⟩ ?_
 refine dl (bX (run s1 I1.env0) fun r s' hq=> ?_)
 cases r with
 | error e=>exact hx pins σ H1 s1 e s' I1 hq
 | ok fl=>
  cases fl with
  | ret u=>exact I1.after hq
  | next=>exact bg hq
  | brk=>exact bg hq
  | cont=>exact bg hq
theorem Qs {X:Cx} {tb:XK->TS} {th:TE} {body:List Stmt} {c n:Str} {C:Addr} {cp hp rp pos:Pos} {i:Nat} {e2:Expr}
  (hX:X.stack=X.env :: X.outer) (hf:X.env.frame=some X.env.locals) (hN:X.N.Nodup) (hi:X.N[i]? =some n) (hl:X.env.scope.names.lookup n=some .local) (hg:Gl X c) (hm:X.mg c=some (.ref C))
  (hb:∀ (E' :XK) (pn:List (Addr×Obj)) (xe:Value->Shared->Prop),Zb (CX1 X.prog X.w) (X.try' pn xe) E' ->PSs (X.try' pn xe) body (tb E'))
  (he:∀ ea,PE (X.mark' (.ref ea)) e2 th) (hdc:(c == ("__debug__":Str))=false:=by decide):
  PS X (.Try body [.ExceptHandler (some (.Name c cp)) (some n) [.Return (some e2) rp] hp] [] [] pos)
   (fun D σ H=>∃ E' :XK,(∀ (cls:Value) (d:Option Addr) (H' :Hp) (ea:Addr) (σ' :St),E' cls d H' ->exmOne X.K cls (.ref C)=some true/\(H' ea=none->σ'.length=σ.length->σ.length=X.N.length->th (σ'.set i (some (.ref ea))) (upd H' ea (.ext (W5 cls ea))) D.rt))/\tb E' D σ H):=by
 intro pins s σ H D I ⟨E',hE,hw⟩
 have pass:Zb (CX1 X.prog X.w) (X.try' (X.pn++pins) fun e s1=>wpAny (model X.prog X.w) X.A (noteFrame e X.env) (fun _ s2=>wpAny (model X.prog X.w) X.A (setFlight e none) (fun _ s3=>wpAny (model X.prog X.w) X.A (handleBy e X.env [.ExceptHandler (some (.Name c cp)) (some n) [.Return (some e2) rp] hp]) (SP X pins D) X.xe s3) X.xe s2) X.xe s1) E' :=by
  intro pins' σ' H1 s1 e s' I1 ⟨ea,cls,a0,B,H',he',L,hw'⟩
  subst he'
  have I0:Inv X pins σ' H1 s1:=I1.untry
  have L:wG X.prog X.w X.stack H1 s1 s' ea cls a0 B H' :=L
  have fr:X.A.frames=some (X.env :: X.outer):=by rw [← hX]; exact I0.ok.frames
  show wpAny (model X.prog X.w) X.A (noteFrame (.ref ea) X.env) _ _ s'
  refine wpAny_looks_onW (base:=B) fr hf (hX ▸ L.fly) fun h1 held sl1=> ?_
  refine wpAny_landsW held fun h2 fl2 sl2=> ?_
  rw [← hX] at fl2
  have sl12:s'.heap.UpToSlots h2:=sl1.trans sl2
  have I2:=I0.caught L fl2 sl12
  obtain ⟨hm1,hD⟩:=hE cls none H' ea σ' hw'
  refine WU hm1 ?_
  refine j9 (X:=X.mark' (.ref ea)) (I2.mark' (.ref ea)) hg hm ⟨rfl,I2.kIn,fl2.there, ?_⟩ hdc
  refine lands_againW fl2 fun h3 fl3 sl3=> ?_
  have I3:=I0.caughtX L fl3 (sl12.trans sl3)
  have hlen:σ'.length=X.N.length:=I0.len
  refine Je (X:=X.mark' (.ref ea)) (I3.mark' _) hN hi (.inl hl) (v:= .ref ea) rfl (fun s4 I4=> ?_) (.inr hl)
  have hs1:=Jf (uF (X:=X.mark' (.ref ea)) (pos:=rp) (he ea))
  have hr:=hs1 pins s4 _ _ { nx:=fun _ _=>False,rt:=D.rt } I4 (hD L.fresh (hlen.trans I.len.symm) I.len)
  refine bB hr (fun f s5 h5=> ?_) fun _ _ z=>z
  cases f with
  | next=>obtain ⟨_,_,_,z⟩:=h5; exact z.elim
  | brk=>obtain ⟨_,_,_,z⟩:=h5; exact z.elim
  | cont=>obtain ⟨_,_,_,z⟩:=h5; exact z.elim
  | ret u=>
   obtain ⟨v,σ5,H5,I5,r5,q5⟩:=h5
   refine qy (X:=X) (I5.unmark I.ok.hd) hN hi hl fun s6 I6=> ?_
   exact ⟨v,_,_,I6,r5,q5⟩
 have hr:=hb E' (X.pn++pins) _ pass [] s σ H D (I.try' _) hw
 refine wpAny_Try_except (bB hr (fun f s1 h1=> ?_) fun _ _ z=>z)
 have h1:=h1.untry
 cases f with
 | next=>exact cx h1
 | brk=>exact h1
 | cont=>exact h1
 | ret u=>exact h1
end L2
namespace PV
open PySem PySem.Spec PyProof.Rows L2 PySem.W
def nx1 (r:R T):R T:=match r with
 | .ok t=> .ok t
 | _=> .bad
def wP (ok:Nat->Bool) (gx:Nat->R T) (r:R T):R T:=match r with
 | .ok t=> .ok t
 | .ex c=>if ok c=true then nx1 (gx c) else .bad
 | .bad=> .bad
def Yh (js:List Nat) (ok:Nat->Bool) (gx:Nat->R T) (fe:En->R T):En->R T:=fun ρ=>wP ok gx (fe (jW 0 js ρ))
def spT (P:Program) (w:World) (K:Frag) (mg:Str->Option Value) (base:Heap) (cl:Nat->Value) (ok:Nat->Bool) (gx:Nat->R T) (k:Nat) (f:Addr) (o:Obj) (B:Hp) (r:R T):Sp:=fun vs H Q E=>vs=[V.ref f]/\H f=some (.frz o (.own f))/\zm B H/\Po ⟨B,H,E,cl⟩ rC B H (wP ok gx r) Q/\
 ∀ (A:Around) (outer:List Env) (s:Shared) (E' :XK) (Q' :VK),ZJ (k+1) A->uR P w K mg base A outer s H->Po ⟨B,H,E',cl⟩ rC B H r Q' ->codeAny (model P w) A (.call (.ref f) ⟨[],[]⟩) (CR (CX1 P w) outer P w H s Q' E') s
def UF (P:Program) (w:World) (K:Frag) (mg:Str->Option Value) (cl:Nat->Value) (ok:Nat->Bool) (gx:Nat->R T) (k:Nat) (ft:Addr) (fdt:FuncData) (d:Str):Prop:=
 ∀ (base:Heap) (f c' :Addr) (q:Str) (params:Arguments) (body:Expr) (scope:Scope) (clos:List (Str×Addr)) (pm ctv:Value) (B:Hp) (r:R T),K.In base->zG P w K mg base CX0 (k+2) ft fdt [d] (spT P w K mg base cl ok gx k f (ue q params body scope clos pm ctv c') B r)
section
variable {P:Program} {w:World} {K:Frag} {mg:Str->Option Value}
theorem Qt {cl:Nat->Value} {ok:Nat->Bool} {gx:Nat->R T} {k j i:Nat} {x qual d n cn lc y:Str} {st:Stmt} {ft C fl:Addr} {fdt fdl:FuncData} {N:List Str} {dp cp rp np hp lp ep lcp rp2 tp:Pos} (F:Fun K x qual st ft fdt) (S:zd N [d] (za st))
  (hst:zE st=[.Try [.Return (some (.Call (.Name d dp) [] [] cp)) rp] [.ExceptHandler (some (.Name cn np)) (some n) [.Return (some (.Call (.Name lc lp) [.Name n ep] [] lcp)) rp2] hp] [] [] tp])
  (h0:N[0]? =some d) (hd:(za st).names.lookup d=some .local) (hi:N[i]? =some n) (hl:(za st).names.lookup n=some .local) (hi0:i ≠ 0)
  (hgc:(za st).names.lookup cn=some .globalImplicit) (hmc:mg cn=some (.ref C)) (hok:∀ c,ok c=true->exmOne K (cl c) (.ref C)=some true)
  (hgl:(za st).names.lookup lc=some .globalImplicit) (hml:mg lc=some (.ref fl)) (kp:keepIn K (.ref fl)=true) (bd:L2.Binds K fdl [y] []) (FL:∀ base,K.In base->FnM P w K mg base j fl fdl [y] (spC cl gx)) (hj:j<=k+1)
  (h1:(d == ("__debug__":Str))=false:=by decide) (h2:(d == ("__classdict__":Str))=false:=by decide) (h3:(n == ("__debug__":Str))=false:=by decide) (h4:(n == ("__classdict__":Str))=false:=by decide) (h5:(lc == ("__debug__":Str))=false:=by decide) (h6:(cn == ("__debug__":Str))=false:=by decide):
  UF P w K mg cl ok gx k ft fdt d:=by
 intro base f c' q params body scope clos pm ctv B r KB
 refine F.ok S (fun vs H Q E ⟨e,_⟩=>by rw [e]; rfl) fun cdv A outer s H vs Q E hr ⟨e,hf,sB,po,run⟩=> ?_
 subst e
 rw [hst]
 have he:∀ ea,PE ((ja CX0 P w K mg base N qual (za st) ft cdv A outer s H E).nox.mark' (.ref ea)) (.Call (.Name lc lp) [.Name n ep] [] lcp) (fun σ H Q=>∃ v,σ[i]? =some (some v)/\spC cl gx [v] H Q fun _ _ _=>False):=fun ea=>
  PE.imp (Yg (FL base KB) ((hr.m.mono hj).mark _) hgl hml kp bd (zj (uA hi (.inl hl) h3 h4) zt (st1 rfl)) h5 (st1 rfl)) fun σ H Q ⟨v,e,z⟩=>⟨v,e,z⟩
 refine ⟨_,Jf (Qs (X:=(ja CX0 P w K mg base N qual (za st) ft cdv A outer s H E).nox) (tb:=fun E' =>kR (VV (ja CX0 P w K mg base N qual (za st) ft cdv A outer s H E) E' 0 f (ue q params body scope clos pm ctv c'))) (i:=i) (C:=C) rfl rfl S.nd hi hl hgc hmc (fun E' pn xe hp=>Jf (uF (Qr (f:=f) (c' :=c') (q:=q) (params:=params) (body:=body) (scope:=scope) (clos:=clos) (pm:=pm) (ctv:=ctv) (uA h0 (.inl hd) h1 h2) hp))) he h6), ?_⟩
 refine ⟨fun cls _ H' =>∃ c,cls=cl c/\ok c=true/\zm H H' /\zm B H' /\Po ⟨B,H,E,cl⟩ rC B H (nx1 (gx c)) Q,fun cls d H' ea σ' ⟨c,e1,e2,s1,s2,q1⟩=> ?_,by unfold L2.start; rfl,hf,fun s2 e0=>run _ _ s2 _ _ hr e0 ?_⟩
 ·subst e1
  refine ⟨hok c e2,fun hea hl' hX' =>⟨.ref ea,aZ (by rw [hl',hX']; exact (ak.mp hi).1),upd B ea (.ext (W5 (cl c) ea)),ea,c,rfl, ?_,zl, ?_⟩⟩
  ·intro b o hb
   by_cases z:b=ea
   ·subst z; rw [zl] at hb ⊢; exact hb
   ·rw [zi z] at hb ⊢; exact s2 b o hb
  ·have s3:zm H (upd H' ea (.ext (W5 (cl c) ea))):=s1.trans (zm.new hea _)
   have hHe:H ea=none:=s1.free hea
   revert q1
   cases gx c with
   | bad=>exact fun z=>z
   | ex c2=>exact fun z=>z.elim
   | ok t=>
    intro z b H3 s4 rb
    refine z b H3 (s3.trans s4) (rb.mono fun a o ha=> ?_)
    cases hH:upd H' ea (.ext (W5 (cl c) ea)) a with
    | none=>
     rw [zC hH] at ha
     cases hHa:H a with
     | none=>rw [zC hHa]; exact ha
     | some u=>have:=s3 a u hHa; rw [hH] at this; cases this
    | some u=>
     rw [zI hH] at ha
     by_cases ze:a=ea
     ·subst ze
      rw [zC hHe]
      rw [zl] at ha hH
      rw [← ha,s4 _ _ zl]
     ·rw [zi ze] at ha
      rw [zI (sB a o ha)]; exact ha
 ·revert po
  unfold wP
  cases r with
  | ok t=>exact fun po=>po
  | bad=>exact fun po=>po
  | ex c=>
   intro po
   dsimp only at po
   split at po
   ·rename_i hc
    exact fun d H' a b=>⟨c,rfl,hc,a,b,po⟩
   ·exact po.elim
end
section
variable {X:Cx} {Y:Fx}
theorem VW {pins:List (Addr×Obj)} {σ:Sg} {H:Hp} {s:Shared} {scope:Scope} {clos:List (Str×Addr)} {N' :List Str} {js:List Nat} (I:L2.Inv X pins σ H s) (hfn:∀ x,X.fn x=true) (hcl:∀ x c,clos.lookup x=some c->X.env.cells.lookup x=some c)
  (hcf:∀ x∈scope.names,x.2=NameKind.free->∃ c,clos.lookup x.1=some c) (CP:V9 X scope N' 0 js):UE (YQ s H (frs X.stack)) H scope clos N' (Wb 0 js σ):=by
 have up:∀ x c,X.env.cells.lookup x=some c->∀ v,s.heap.IsCell c v->(YQ s H (frs X.stack)).IsCell c v:=fun x c e v ⟨o,ho,hd⟩=>⟨o,Wn ho (I.freeC x c e) fun hb=>by
  rcases ax.mp (I.stkSub c hb) with z | z
  ·exact I.cne x c e z
  ·obtain ⟨_,o2,e2,_⟩:=I.ok.funs.mem z
   exact absurd (ai e2) (Nat.not_lt.mpr (I.ok.cab x c (hfn x) e)),hd⟩
 refine ⟨fun x y c h1 h2=>I.ok.inj x y c (hcl _ _ h1) (hcl _ _ h2),hcf,fun x c e=>⟨?_,I.freeC x c (hcl x c e)⟩,fun i x v h1 h2=> ?_,by unfold Wb; simp [CP.len]⟩
 ·obtain ⟨v,ic⟩:=I.cell x c (hcl x c e)
  exact ⟨v,up x c (hcl x c e) v ic⟩
 ·unfold Wb at h2
  rw [List.replicate_zero,bA,aj] at h2
  cases ej:js[i]? with
  | none=>rw [ej] at h2; cases h2
  | some j=>
   rw [ej] at h2
   have h2' :(σ[j]?).getD none=some v:=aI h2
   have hσ:σ[j]? =some (some v):=by
    cases ez:σ[j]? with
    | none=>rw [ez] at h2'; cases h2'
    | some z=>rw [ez] at h2'; exact congrArg some h2'
   obtain ⟨y,e1,e2,e3,e4,e5⟩:=CP.cap i j ej
   rw [fG,h1] at e1
   cases e1
   obtain ⟨m,hn,hlo⟩:=I.loc
   obtain ⟨u,ru,lk⟩:=hlo j x v e2 hσ e3
   obtain ⟨c,ec⟩:=hcf (x, .free) (ba e4) rfl
   rcases lk with ⟨k,_⟩ | ⟨_,c2,e6,ic⟩
   ·rcases e5 with z | z <;> (rw [k] at z; cases z)
   ·have:=hcl x c ec
    rw [e6] at this; cases this
    exact ⟨u,c,ru,ec,up x c e6 _ ic,e4⟩
theorem VX {cl:Nat->Value} {ok:Nat->Bool} {gx:Nat->R T} {kE k:Nat} {x d q:Str} {c P ft:Addr} {fdt:FuncData} {params:Arguments} {body:Expr} {scope:Scope} {lp p pos:Pos} {js:List Nat} {fe:En->R T} (hy:Y.cl=cl) (L:Lm X c P q) (hT:Y.H0 P=some (.tbl #[] q)) (hfn:∀ x,X.fn x=true)
  (O:UF X.prog X.w X.K X.mg cl ok gx kE ft fdt d) (hr:ZJ k X.A) (hj:kE+2<=k) (gl:Gl X x) (mg:X.mg x=some (.ref ft)) (kp:keepIn X.K (.ref ft)=true) (bd:L2.Binds X.K fdt [d] [])
  (N' N:List Str) (sc0:Scope) (hN:X.N=N) (h0:X.env.scope=sc0) (hck:(xJ scope sc0 && xK N N' scope sc0 0 js)=true) (hco:scope.isCoroutine=false) (hge:scope.isGenerator=false)
  (hb:∀ (base:Heap) (A:Around) (outer:List Env) (s:Shared) (H:Hp) (E:XK) (f c' :Addr) (clos:List (Str×Addr)) (Y' :Fx),X.K.In base->Y'.cl=cl->Y'.E=E->ZJ kE (A.deeper (envX q scope s.heap.objs.size f (.ref c') clos))->Snd (cxL X.prog X.w X.K X.mg base N' q scope f (.ref c') clos A outer s H E) Y' body fe)
  (hp:∀ (clos:List (Str×Addr)) (pm cd ctv:Value),bindArgs (kla_fn "<lambda>" q params body scope clos pm cd ctv) ⟨[],[]⟩=pure []:=by intros; rfl) (hdef:defaultsOf params X.env=([],[]):=by rfl) (hd:(x == ("__debug__":Str))=false:=by decide):
  Snd X Y (.Call (.Name x p) [.Lambda params body scope lp] [] pos) (Yh js ok gx fe):= .mk fun ρ=>by
 intro pins s σ H Q I ⟨B,J,po⟩
 subst hy
 rw [am] at hck
 have CS:=YF (X:=X) sc0 h0 hck.1
 have CP:V9 X scope N' 0 js:=Ul N sc0 hN h0 hck.2
 have S:LSc scope:=⟨CS.kind,hco,hge,CS.nocell⟩
 obtain ⟨clos,ecl,hcl,hcf⟩:=Uc (scope:=scope) (env:=X.env) fun x hx hf=>I.ok.has x.1 (CS.fre x hx hf)
 refine bC (j9 I gl mg ?_ hd)
 have hP:H P=some (.tbl #[] q):=J.sH _ _ hT
 have hpa:=zj (VS (params:=params) (body:=body) (pos:=lp) L hdef ecl) zt (st1 rfl) pos pins s σ H (fun vs H1=>∃ f c' pm ctv,vs=[V.ref f]/\zm H H1/\H1 f=some (.frz (ue q params body scope clos pm ctv c') (.own f))/\jS H1 q c') I ⟨hP,fun f c' pm ctv H' s1 hf hc=>⟨f,c',pm,ctv,rfl,s1,hf,hc⟩⟩
 refine callWith_K (h₀:=X.base) I.ok.mod.kin kp (thn hpa fun us s1 ⟨vs,H1,I1,r,f,c',pm,ctv,e,sm,hf,hc⟩=>⟨I1.kIn, ?_⟩) (st1 rfl) rfl
 subst e
 have J1:=J.grow sm
 refine Qo (E:=Y.E) I1 (O _ f c' q params body scope clos pm ctv (zr B H H1) (fe (jW 0 js ρ)) I1.big.mod.kin) (hr.mono hj) bd Vf r ⟨rfl,hf,J1.sB, ?_,fun A outer s2 E' Q' hrm e0 q' => ?_⟩
 ·have po:Po Y rC B H (wP ok gx (fe (jW 0 js ρ))) Q:=po
  revert po
  cases wP ok gx (fe (jW 0 js ρ)) with
  | bad=>exact fun z=>z
  | ex c2=>exact fun z d H' a b=>z d H' ((J.sH.trans sm).trans a) ((zr.ge J.sB sm).trans b)
  | ok t=>exact fun z b H2 s2 rb=>z b H2 (sm.trans s2) (by rw [← zr.trans sm s2]; exact rb)
 ·refine Qq (N:=N') (σ:=Wb 0 js σ) (te:=tS ⟨zr B H H1,H1,E',Y.cl⟩ rC fe (jW 0 js ρ)) S hrm e0 (VW I1 hfn hcl hcf CP) hf hc (hp clos pm _ ctv) ?_ ⟨_,J1.blockS 0 js E' (zm.refl _),q'⟩
  exact (hb _ A outer s2 H1 E' f c' clos ⟨zr B H H1,H1,E',Y.cl⟩ e0.mod.kin rfl rfl (hrm.deeper _)) (jW 0 js ρ)
end
section
variable {P:Program} {w:World} {K:ac} {mg:Str->Option Value} {base:Heap}
theorem Qu {cl:Nat->Value} {x qual q:Str} {st:Stmt} {f:Addr} {fd:FuncData} {N:List Str} {k:Nat} {fb:En->RS} {gx:Nat->R T} (F:Fun K x qual st f fd) (S:zd N [q] (za st)) (hN:1<=N.length)
  (hb:∀ (cdv:Value) (A:Around) (outer:List Env) (s:Shared) (H:Hp) (Y:Fx),Y.cl=cl->Zv k (A.deeper (envOfC qual (za st) s.heap.objs.size f cdv))->
   wz (cxM P w K mg base N qual (za st) f cdv A outer s H) Y (zE st) fb)
  (hg:∀ c,gx c=zh (fb (enC N.length c))):FnM P w K mg base (k+1) f fd [q] (spC cl gx):=by
 refine VU F S (fun vs H Q E ⟨_,_,_,e,_⟩=>by rw [e]; rfl) fun cdv A outer s H vs Q hr ⟨B,a,c,e,sB,r,q⟩=> ?_
 subst e
 refine ⟨_,hb cdv A outer s H ⟨B,H,fun _ _ _=>False,cl⟩ rfl hr (enC N.length c),B,SI.startC (Y:=⟨B,H,fun _ _ _=>False,cl⟩) sB hN r, ?_⟩
 rw [hg c] at q
 revert q
 cases fb (enC N.length c) with
 | rt t=>exact fun q v H' s r=>q v H' s r
 | rf t=>exact fun q a xs H' B' s0 n e r _ l=>q (.ref a) H' s0 (.lst (by rw [zC n]; exact e) (r.mono l))
 | nx ρ=>exact fun q σ' H' B' _ I=>q .non H' I.sH .non
 | ex c=>exact fun q=>q
 | bk ρ=>exact fun q=>q.elim
 | ct ρ=>exact fun q=>q.elim
 | bad=>exact fun q=>q
def QS (cl:Nat->Value) (n:Nat) (g:List T->R T) (Pt:Addr) (q:Str):Sp:=fun vs H Q E=>H Pt=some (.tbl #[] q)/\spP cl n g vs H Q E
theorem VY {cl:Nat->Value} {x qual q:Str} {st:Stmt} {f c Pt:Addr} {fd:FuncData} {N ps:List Str} {k n:Nat} {fb:En->RS} {g:List T->R T} (F:Fun K x qual st f fd) (hc:fd.code= .ref c) (S:zd N ps (za st)) (hn:n=ps.length)
  (hb:∀ (A:Around) (outer:List Env) (s:Shared) (H:Hp) (E:XK) (Y:Fx),Y.cl=cl->Y.E=E->Y.H0 Pt=some (.tbl #[] q)->ZJ k (A.deeper (envOfC qual (za st) s.heap.objs.size f (.ref c)))->
   wz (ja (CX1 P w) P w K mg base N qual (za st) f (.ref c) A outer s H E) Y (zE st) fb)
  (hg:∀ ts,ts.length=n->g ts=zh (fb (en0 N.length ts))):zG P w K mg base (CX1 P w) (k+1) f fd ps (QS cl n g Pt q):=by
 subst hn
 obtain ⟨oc,od,kV,doc,pm,an,cdv,ct,osl,rfl,lk,hcd⟩:=F.ex
 obtain rfl:cdv= .ref c:=hc
 refine qm lk hcd S (fun vs H Q E z=>spP.len vs H Q E z.2) fun A outer s H vs Q E hr ⟨hT,B,ts,hl,sB,r,q⟩=> ?_
 refine ⟨_,hb A outer s H E ⟨B,H,E,cl⟩ rfl rfl hT hr (en0 N.length ts),B,SI.start (Y:=⟨B,H,E,cl⟩) sB r, ?_⟩
 rw [hg ts hl] at q
 revert q
 cases fb (en0 N.length ts) with
 | rt t=>exact fun q v H' s r=>q v H' s r
 | rf t=>exact fun q a xs H' B' s0 n e r _ l=>q (.ref a) H' s0 (.lst (by rw [zC n]; exact e) (r.mono l))
 | nx ρ=>exact fun q σ' H' B' _ I=>q .non H' I.sH .non
 | ex c=>exact fun q=>q
 | bk ρ=>exact fun q=>q.elim
 | ct ρ=>exact fun q=>q.elim
 | bad=>exact fun q=>q
end
end PV
namespace L2
open PySem PySem.Spec PyProof.Rows PySem.W
theorem UG {P:Program} {w:World} {K:Frag} {mg mb:Str->Option Value} {CX:CXT} {k:Nat} {fa a c Pt:Addr} {fd:FuncData} {x q:Str} {sp:Sp} {s₁:Shared} {vs:List Value} {ns:List Int}
  (KX:K.In s₁.heap) (hns:s₁.heap.Ns mainGlobals mg) (hb:s₁.heap.Ns builtinsNs mb) (hbb:∀ x:Str,x ≠ "__name__"->mb x=bootBuiltins x) (hlim:s₁.heap.NoLimit) (hg:s₁.gens= #[])
  (ha:s₁.heap.get? a=some { cls:= .type "list",data:= .seq vs.toArray }) (hi:IntsAre vs ns) (hl:ns.length<=sizeLine) (hr:ZJ k callerA)
  (hbt:s₁.heap.BuiltinsAt mg Pt) (hPt:s₁.heap.get? Pt=some (tabObj #[])) (hKP:K.lookup Pt=none) (hC:codeHdIn K c Pt=true) (hKa:K.lookup a=none)
  (F:∀ base:Heap,K.In base->base.BuiltinsAt mg Pt->zG P w K mg base CX k fa fd [x] sp) (hbind:∀ (s:Shared) (u:Value),BindsTo s fd ⟨[u],[]⟩ [(x,u)])
  (hsp:∀ (H:Hp) (o:Obj),H a=some (.frz o (.lst (ns.map V.int)))->H Pt=some (.tbl #[] q)->sp [.ref a] H (fun v _=>v= .bl true) fun _ _ _=>False)
  (hCX:∀ H e s',CX [] H s₁ (fun _ _ _=>False) e s' ->False):
  codeAny (model P w) callerA (.call (.ref fa) ⟨[.ref a],[]⟩) (fun r s' =>r= .ok (.ret (.bool true))/\OldK s₁.heap s'.heap/\s'.os=s₁.os/\AllBare s'.gens) s₁:=by
 have rv:=JV hi
 have hne:Pt ≠ a:=fun z=>by rw [z,ha] at hPt; cases hPt
 obtain ⟨H,hH⟩:∃ H:Hp,H=upd (upd (fun _=>none) Pt (.tbl #[] q)) a (.frz { cls:= .type "list",data:= .seq vs.toArray } (.lst (ns.map V.int))):=⟨_,rfl⟩
 have h1:H a=some (.frz { cls:= .type "list",data:= .seq vs.toArray } (.lst (ns.map V.int))):=by rw [hH,zl]
 have h2:H Pt=some (.tbl #[] q):=by rw [hH,zi hne,zl]
 have h3:∀ b,b ≠ a->b ≠ Pt->H b=none:=fun b n1 n2=>by rw [hH,zi n1,zi n2]
 have hok:HOk P w H s₁.heap:=fun b o e=>by
  by_cases b1:b=a
  ·subst b1; rw [h1] at e; cases e
   exact ⟨ha,by rw [ao]; exact hl,vs,_,rv,ha⟩
  ·by_cases b2:b=Pt
   ·subst b2; rw [h2] at e; cases e
    exact ⟨#[],hPt,trivial,fun p cv z=>by cases z⟩
   ·rw [h3 b b1 b2] at e; cases e
 have free:∀ {b:Addr} {o:Obj},s₁.heap.get? b=some o->o.cls ≠ .type "list"->o.cls ≠ .none->H b=none:=fun {b o} e n1 n2=>h3 b (fun z=>by rw [z,ha] at e; cases e; exact n1 rfl) fun z=>by rw [z,hPt] at e; cases e; exact n2 rfl
 have noD:∀ {b:Addr} {o:Obj} {es:Array DictEntry} {ep:Nat},s₁.heap.get? b=some o->o.data= .dict es ep->H b=none:=fun {b o es ep} e d=>h3 b (fun z=>by rw [z,ha] at e; cases e; cases d) fun z=>by rw [z,hPt] at e; cases e; cases d
 have nsK:∀ {b:Addr} {m:Str->Option Value},s₁.heap.Ns b m->(yA s₁.heap H).Ns b m:=fun {b m} ⟨o,es,ep,e,d,r⟩=>⟨o,es,ep,Jc e (noD e d),d,r⟩
 have hKb:K.In (yA s₁.heap H):=fun b o e=>Jc (KX b o e) (h3 b (fun z=>by rw [z,hKa] at e; cases e) fun z=>by rw [z,hKP] at e; cases e)
 have hM:Mod K mg (yA s₁.heap H):=⟨hKb,nsK hns,⟨mb,nsK hb,hbb⟩,let ⟨mc,h1,h2⟩:=hlim; ⟨mc,nsK h1,h2⟩⟩
 have hBT:(yA s₁.heap H).BuiltinsAt mg Pt:=by
  obtain ⟨bm,o,b1,b2,b3,b4,b5,b6,b7,b8⟩:=hbt
  exact ⟨bm,o,b1,b2,b3,b4,Jc b5 (h3 bm (fun z=>by rw [z,ha] at b5; cases b5; cases b8) b4),b6,b7,b8⟩
 have e0:uR P w K mg (yA s₁.heap H) callerA [] s₁ H:=⟨rfl,hM,fun b o e=>qd e,Nat.le_of_eq (uz _ _),trivial,fun b hb=>absurd (show b∈([]:List Addr) from hb) (by simp),hok, .of_eq hg⟩
 refine bX ((F _ hKb hBT).run callerA [] s₁ H ⟨[.ref a],[]⟩ [.ref a] [.ref a] _ _ hr e0 (hbind s₁ (.ref a)) (.cons rfl .nil) (hsp H _ h1 h2)) fun r s' h=> ?_
 cases r with
 | error e=>exact (hCX H e s' h).elim
 | ok fl=>
  cases fl with
  | next=>exact bg h
  | brk=>exact bg h
  | cont=>exact bg h
  | ret u=>
   obtain ⟨v,H',os,bare,un,hok',r',qv⟩:=h
   have q' :v= .bl true:=qv
   subst q'
   obtain rfl:u=Value.bool true:=r'
   refine ⟨rfl,⟨fun b o e=> ?_,fun b o e=>un.there b o e (by simp)⟩,os,bare⟩
   by_cases b1:b=a
   ·subst b1
    have z2:=un.frzs b _ _ h1
    obtain ⟨e2,_⟩:=hok' b _ z2
    rw [ha] at e; cases e
    exact .inl e2
   ·by_cases b2:b=Pt
    ·subst b2
     obtain ⟨more,e2,_⟩:=hok' b _ (un.tbls b _ _ h2)
     rw [hPt] at e; cases e
     exact .inr (.inl ⟨((codeHd_of_K KX hC).tab hPt).isCodeTable,rfl, #[],more,rfl,e2⟩)
    ·exact .inl (un.keep b o e (h3 b b1 b2) (by intro z; exact absurd (show b∈([]:List Addr) from z) (by simp)) (by simp))
theorem walk_ofT {l:OpenLaw} {n k:Nat} {q:Program} {loose:List Str} {XP:(Str->Option Value)->Heap->Prop} {YP:World->Heap->Prop} {d:DefRec} {K:Params->Frag} {ts:List Addr} {CX:World->CXT} {sp:World->Addr->Sp} {x nm:Str}
  (hn:l.most=some n) (hn2:n<=sizeLine) (hdf:d.params.defaults=[]) (hr:ZJ k callerA)
  (hY:∀ (w:World) (h:Heap),YP w h->(K w.params).In h/\∀ P∈ts,h.get? P=some (tabObj #[])) (hKa:∀ (w:World) (a:Addr) (o:Obj),(K w.params).lookup a=some o->o.cls ≠ .type "list")
  (F:∀ (w:World) (mg:Str->Option Value) (fa:Addr) (h:Heap),(K w.params).In h->h.Ns mainGlobals mg->mg d.name=some (.ref fa)->(∀ P∈ts,h.get? P=some (tabObj #[]))->
   ∃ (fd:FuncData) (c Pt:Addr),(∀ (s:Shared) (u:Value),BindsTo s fd ⟨[u],[]⟩ [(x,u)])/\h.get? Pt=some (tabObj #[])/\(K w.params).lookup Pt=none/\codeHdIn (K w.params) c Pt=true/\
    ∀ base:Heap,(K w.params).In base->base.BuiltinsAt mg Pt->zG l.prog w (K w.params) mg base (CX w) k fa fd [x] (sp w Pt))
  (hsp:∀ (w:World) (H:Hp) (a Pt:Addr) (o:Obj) (ns:List Int),ns.length<=n->H a=some (.frz o (.lst (ns.map V.int)))->H Pt=some (.tbl #[] nm)->sp w Pt [.ref a] H (fun v _=>v= .bl true) fun _ _ _=>False)
  (hCX:∀ (w:World) (H:Hp) (s:Shared) (e:Value) (s' :Shared),CX w [] H s (fun _ _ _=>False) e s' ->False):
  WalkO q loose XP YP l.row.toRowW d [] (fun f vs=>hU f vs):=by
 refine Att.attach_call hn hdf fun w s₀ s₁ mg mb fa o pm cd doc a vs ns G Y ho hd hcd hmg hobj hints hlen hg=> ?_
 obtain ⟨KX,hT⟩:=hY w _ Y
 obtain ⟨fd,c,Pt,hb,hPt,hKP,hC,hF⟩:=F w mg fa _ KX G.T.g hmg hT
 obtain ⟨bm,ob,b1,b2,b3,b4,b5,b6⟩:=G.T.bmain
 have hbP:bm ≠ Pt:=fun z=>by rw [z,hPt] at b3; cases b3; cases b4
 have hbG:bm ≠ mainGlobals:=fun z=>by
  obtain ⟨o,es,ep,e,hd,_⟩:=G.T.g
  rw [z,e] at b3; cases b3; rw [hd] at b6; cases b6
 refine UG (q:=nm) KX G.T.g G.T.b G.T.builtins G.T.nolimit hg hobj hints (aE hlen hn2) hr ⟨bm,ob,b1,b2,hbG,hbP,b3,b4,b5,b6⟩ hPt hKP hC ?_ hF hb (fun H o h1 h2=>hsp w H a Pt o ns hlen h1 h2) fun H e s' =>hCX w H s₁ e s'
 cases hk:(K w.params).lookup a with
 | none=>rfl
 | some o2=>
  have e:=KX a o2 hk
  rw [hobj] at e; cases e
  exact (hKa w a _ hk rfl).elim
end L2
namespace G
open PySem PySem.Spec PyProof.Rows L2 PV
def okX (c:Nat):Bool:=[0,1,2,3,4,5,6].contains c
def jf (c:Nat):Bool:=c == 0
def ZT (c:Nat):Bool:=c == 1
def jg (c:Nat):Bool:=c == 2
def ZU (c:Nat):Bool:=c == 3
def jA (c:Nat):Bool:=c == 4
def jh (c:Nat):Bool:=c == 5
def ji (c:Nat):Bool:=c == 6
def Zk (_:Nat):Bool:=true
def b_e:En->RS:=
  zo (QO 2 (zc))
  (zo (W7 (jR (ap1 YJ (vE 0))) (zY 3) (zo (uv 2 (zf ixT (vE 3) (zf jc (vE 1) (ap1 Zc (vB 3)))))
  (zF 1 (zf Zy (vE 1) (ap1 Zc (vB 3))))))
  (zv (ap1 qO (ap1 YJ (vE 2)))))
def f_e:List T->R T:=fun ts=>zh (b_e  (en0 4 ts))
def b_y:En->RS:=
  zo (ifS (zJ ltC (vB 1) (ap1 Zc (vB 0))) (zv (zf ixT (vE 0) (vE 1))) (nxS))
  (zo (ifS (zJ eqC (vB 0) (jt (zc))) (zv (cE (.int 0))) (nxS))
  (zv (zf zQ (zf Zn (zf ixT (vE 0) (zf jc (vE 1) (ap1 Zc (vB 0)))) (cE (.int 31))) (vE 1))))
def f_y:List T->R T:=fun ts=>zh (b_y  (en0 2 ts))
def b_n (c_y:List T->R T):En->RS:=
  zo (zF 3 (zf jc (zf Zn (zf zQ (zb 2 c_y (z9 (vE 0) (z9 (vE 1) (zc)))) (zf Zn (cE (.int 6151)) (zf zQ (vE 1) (cE (.int 1))))) (cE (.int 40692))) (cE (.int 2147483399))))
  (zv (zf jc (zf jc (zf zQ (zf Zn (vE 3) (vE 3)) (zf Zy (vE 3) (cE (.int 31)))) (cE (.int 2147483629))) (vE 2)))
def f_n:List T->R T:=fun ts=>zh (b_n (f_y) (en0 4 ts))
def b_d:En->RS:=
  zv (jO (ap1 (Yz "int") (vB 0)) (K0 (ap1 (Yz "bool") (vB 0))))
def f_d:List T->R T:=fun ts=>zh (b_d  (en0 1 ts))
def K5 (c_d:List T->R T):En->RS:=
  zv (jO (zb 1 c_d (z9 (vE 0) (zc))) (jO (zb 1 c_d (z9 (vE 1) (zc))) (kZ leC leC leC (vB 2) (vB 0) (vB 1) (vB 3))))
def xM:List T->R T:=fun ts=>zh (K5 (f_d) (en0 4 ts))
def b_7:En->RS:=
  zv (jO (ap1 (Yz "tuple") (vB 0)) (chE leC leC (vB 1) (ap1 Zc (vB 0)) (vB 2)))
def f_7:List T->R T:=fun ts=>zh (b_7  (en0 3 ts))
def b_r:En->RS:=
  zo (ifS (orT (JY (Jl (ap1 (Yz "str") (vB 0)))) (JY (chT leC leC (cE (.int 1)) (ap1 Zc (vB 0)) (cE (.int 3))))) (zv (cE (.bl false))) (nxS))
  (zv (ap1 YA (zZ (jR (vE 0)) (zY 0) (Zz) (chE leC leC (cE (.str "a")) (vB 0) (cE (.str "z"))) 1 [])))
def f_r:List T->R T:=fun ts=>zh (b_r  (en0 1 ts))
def b_o (c_d:List T->R T) (c_7:List T->R T) (c_r:List T->R T):En->RS:=
  zv (jO (zb 3 c_7 (z9 (vE 0) (z9 (cE (.int 2)) (z9 (cE (.int 2)) (zc))))) (jO (zb 1 c_r (z9 (zf ixT (vE 0) (cE (.int 0))) (zc))) (jO (zb 1 c_d (z9 (zf ixT (vE 0) (cE (.int 1))) (zc))) (chE leC leC (cE (.int 1)) (zf ixT (vE 0) (cE (.int 1))) (cE (.int 20))))))
def f_o:List T->R T:=fun ts=>zh (b_o (f_d) (f_7) (f_r) (en0 1 ts))
def b_l (c_7:List T->R T) (c_o:List T->R T):En->RS:=
  zo (ifS (orT (JY (Jl (zb 3 c_7 (z9 (vE 0) (z9 (cE (.int 1)) (z9 (cE (.int 4)) (zc))))))) (JY (Jl (ap1 YA (zZ (jR (vE 0)) (zY 0) (Zz) (zb 1 c_o (z9 (vE 0) (zc))) 1 []))))) (zv (cE (.bl false))) (nxS))
  (zo (zF 1 (zZ (jR (vE 0)) (zY 0) (Zz) (zf ixT (vE 0) (cE (.int 0))) 1 []))
  (zv (U1 eqC (ap1 yV (vB 1)) (ap1 Zc (vB 1)))))
def f_l:List T->R T:=fun ts=>zh (b_l (f_7) (f_o) (en0 2 ts))
def b_6 (c_11:List T->R T) (c_6:List T->R T) (c_l:List T->R T) (c_x:List T->R T):En->RS:=
  zo (ifS (orT (zJ eqC (vB 1) (cE (.int 0))) (orT (JY (Jl (ap1 (Yz "tuple") (vB 0)))) (zJ eqC (ap1 Zc (vB 0)) (cE (.int 0))))) (zv (cE (.bl false))) (nxS))
  (zo (ifS (zJ eqC (zf ixT (vE 0) (cE (.int 0))) (cE (.str "whole"))) (zv (jO (U1 eqC (ap1 Zc (vB 0)) (cE (.int 3))) (zb 4 c_11 (z9 (zf ixT (vE 0) (cE (.int 1))) (z9 (zf ixT (vE 0) (cE (.int 2))) (z9 (WW (cE (.int 20))) (z9 (cE (.int 20)) (zc)))))))) (nxS))
  (zo (ifS (zJ eqC (zf ixT (vE 0) (cE (.int 0))) (cE (.str "pick"))) (zv (jO (U1 eqC (ap1 Zc (vB 0)) (cE (.int 2))) (zb 1 c_l (z9 (zf ixT (vE 0) (cE (.int 1))) (zc))))) (nxS))
  (zo (ifS (zJ eqC (zf ixT (vE 0) (cE (.int 0))) (cE (.str "row"))) (zv (jO (U1 eqC (ap1 Zc (vB 0)) (cE (.int 2))) (zb 2 c_x (z9 (zf ixT (vE 0) (cE (.int 1))) (z9 (zf ju (vE 1) (cE (.int 1))) (zc)))))) (nxS))
  (zo (ifS (zJ eqC (zf ixT (vE 0) (cE (.int 0))) (cE (.str "many"))) (zv (jO (U1 eqC (ap1 Zc (vB 0)) (cE (.int 4))) (jO (zb 4 c_11 (z9 (zf ixT (vE 0) (cE (.int 2))) (z9 (zf ixT (vE 0) (cE (.int 3))) (z9 (cE (.int 0)) (z9 (cE (.int 3)) (zc)))))) (zb 2 c_6 (z9 (zf ixT (vE 0) (cE (.int 1))) (z9 (zf ju (vE 1) (cE (.int 1))) (zc))))))) (nxS))
  (zv (cE (.bl false)))))))
def b_x (c_7:List T->R T) (c_6:List T->R T):En->RS:=
  zv (jO (zb 3 c_7 (z9 (vE 0) (z9 (cE (.int 1)) (z9 (cE (.int 3)) (zc))))) (ap1 YA (zZ (jR (vE 0)) (zY 0) (Zz) (zb 2 c_6 (z9 (vE 0) (z9 (vE 1) (zc)))) 1 [1])))
def S_6:Nat->Nat->List T->R T
 | 0,_=>fun _=> .bad
 | n+1,0=>fun ts=>zh (b_6 (xM) (S_6 n 0) (f_l) (S_6 n 1) (en0 2 ts))
 | n+1,_=>fun ts=>zh (b_x (f_7) (S_6 n 0) (en0 2 ts))
abbrev f_6 (n:Nat):List T->R T:=S_6 n 0
abbrev f_x (n:Nat):List T->R T:=S_6 n 1
def b_2 (c_6:List T->R T):En->RS:=
  zv (zb 2 c_6 (z9 (vE 0) (z9 (cE (.int 3)) (zc))))
def f_2:List T->R T:=fun ts=>zh (b_2 (f_6 20) (en0 1 ts))
def b_9 (c_2:List T->R T):En->RS:=
  ifS (JY (Jl (zb 1 c_2 (z9 (vE 0) (zc))))) (ZM 0) (nxS)
def f_9:List T->R T:=fun ts=>zh (b_9 (f_2) (en0 1 ts))
def b_b:En->RS:=
  zv (zZ (jR (zf ixT (vE 0) (cE (.int 1)))) (zY 0) (Zz) (zf ixT (vE 0) (cE (.int 0))) 1 [])
def f_b:List T->R T:=fun ts=>zh (b_b  (en0 1 ts))
def b_8 (c_d:List T->R T) (c_7:List T->R T) (c_b:List T->R T) (c_t:List T->R T):En->RS:=
  zo (ifS (zJ eqC (zf ixT (vE 0) (cE (.int 0))) (cE (.str "whole"))) (zv (jO (zb 1 c_d (z9 (vE 1) (zc))) (chE leC leC (zf ixT (vE 0) (cE (.int 1))) (vB 1) (zf ixT (vE 0) (cE (.int 2)))))) (nxS))
  (zo (ifS (zJ eqC (zf ixT (vE 0) (cE (.int 0))) (cE (.str "pick"))) (zv (U1 inC (vB 1) (zb 1 c_b (z9 (vE 0) (zc))))) (nxS))
  (zo (ifS (zJ eqC (zf ixT (vE 0) (cE (.int 0))) (cE (.str "row"))) (zv (jO (zb 3 c_7 (z9 (vE 1) (z9 (ap1 Zc (zf ixT (vE 0) (cE (.int 1)))) (z9 (ap1 Zc (zf ixT (vE 0) (cE (.int 1)))) (zc))))) (zb 2 c_t (z9 (zf ixT (vE 0) (cE (.int 1))) (z9 (vE 1) (zc)))))) (nxS))
  (zv (jO (zb 3 c_7 (z9 (vE 1) (z9 (zf ixT (vE 0) (cE (.int 2))) (z9 (zf ixT (vE 0) (cE (.int 3))) (zc))))) (zb 2 c_t (z9 (zf Zn (jt (z9 (zf ixT (vE 0) (cE (.int 1))) (zc))) (ap1 Zc (vB 1))) (z9 (vE 1) (zc))))))))
def b_t (c_8:List T->R T):En->RS:=
  zv (ap1 YA (zZ (Vl (vE 0) (vE 1)) (Z6 0 1) (Zz) (zb 2 c_8 (z9 (vE 0) (z9 (vE 1) (zc)))) 2 []))
def S_8:Nat->Nat->List T->R T
 | 0,_=>fun _=> .bad
 | n+1,0=>fun ts=>zh (b_8 (f_d) (f_7) (f_b) (S_8 n 1) (en0 2 ts))
 | n+1,_=>fun ts=>zh (b_t (S_8 n 0) (en0 2 ts))
abbrev f_8 (n:Nat):List T->R T:=S_8 n 0
abbrev f_t (n:Nat):List T->R T:=S_8 n 1
def b_q (c_9:List T->R T) (c_8:List T->R T):En->RS:=
  zo (jd (zb 1 c_9 (z9 (vE 0) (zc))))
  (zv (zb 2 c_8 (z9 (vE 0) (z9 (vE 1) (zc)))))
def f_q:List T->R T:=fun ts=>zh (b_q (f_9) (f_8 20) (en0 2 ts))
def b_c (c_q:List T->R T):En->RS:=
  ifS (JY (Jl (zb 2 c_q (z9 (vE 0) (z9 (vE 1) (zc)))))) (ZM 1) (nxS)
def f_c:List T->R T:=fun ts=>zh (b_c (f_q) (en0 2 ts))
def b_1 (c_i:List T->R T) (c_a:List T->R T):En->RS:=
  zo (ifS (zJ eqC (zf ixT (vE 0) (cE (.int 0))) (cE (.str "whole"))) (zv (zf zQ (zf ju (zf ixT (vE 0) (cE (.int 2))) (zf ixT (vE 0) (cE (.int 1)))) (cE (.int 1)))) (nxS))
  (zo (ifS (zJ eqC (zf ixT (vE 0) (cE (.int 0))) (cE (.str "pick"))) (zv (ap1 Zc (zf ixT (vE 0) (cE (.int 1))))) (nxS))
  (zo (ifS (zJ eqC (zf ixT (vE 0) (cE (.int 0))) (cE (.str "row"))) (zv (zb 1 c_i (z9 (zf ixT (vE 0) (cE (.int 1))) (zc)))) (nxS))
  (zv (zb 2 c_a (z9 (vE 0) (z9 (zf zQ (zf ixT (vE 0) (cE (.int 3))) (cE (.int 1))) (zc)))))))
def b_i (c_1:List T->R T):En->RS:=
  zo (zF 1 (cE (.int 1)))
  (zo (W7 (jR (vE 0)) (zY 2) (zF 1 (zf Zn (vE 1) (zb 1 c_1 (z9 (vE 2) (zc))))))
  (zv (vE 1)))
def b_a (c_i:List T->R T):En->RS:=
  zv (ap1 xL (zZ (jq (zf ixT (vE 0) (cE (.int 2))) (vE 1)) (zY 0) (Zz) (zb 1 c_i (z9 (zf Zn (jt (z9 (zf ixT (vE 1) (cE (.int 1))) (zc))) (vE 0)) (zc))) 1 [0]))
def S_1:Nat->Nat->List T->R T
 | 0,_=>fun _=> .bad
 | n+1,0=>fun ts=>zh (b_1 (S_1 n 1) (S_1 n 2) (en0 1 ts))
 | n+1,1=>fun ts=>zh (b_i (S_1 n 0) (en0 3 ts))
 | n+1,_=>fun ts=>zh (b_a (S_1 n 1) (en0 2 ts))
abbrev f_1 (n:Nat):List T->R T:=S_1 n 0
abbrev f_i (n:Nat):List T->R T:=S_1 n 1
abbrev f_a (n:Nat):List T->R T:=S_1 n 2
def b_3 (c_b:List T->R T) (c_a:List T->R T) (c_w:List T->R T):En->RS:=
  zo (ifS (zJ eqC (zf ixT (vE 0) (cE (.int 0))) (cE (.str "whole"))) (zv (zf ju (vE 1) (zf ixT (vE 0) (cE (.int 1))))) (nxS))
  (zo (ifS (zJ eqC (zf ixT (vE 0) (cE (.int 0))) (cE (.str "pick"))) (zv (Vn Qc (zb 1 c_b (z9 (vE 0) (zc))) (vB 1))) (nxS))
  (zo (ifS (zJ eqC (zf ixT (vE 0) (cE (.int 0))) (cE (.str "row"))) (zv (zb 2 c_w (z9 (zf ixT (vE 0) (cE (.int 1))) (z9 (vE 1) (zc))))) (nxS))
  (zo (zF 2 (ap1 Zc (vB 1)))
  (zv (zf zQ (zb 2 c_a (z9 (vE 0) (z9 (vE 2) (zc)))) (zb 2 c_w (z9 (zf Zn (jt (z9 (zf ixT (vE 0) (cE (.int 1))) (zc))) (vE 2)) (z9 (vE 1) (zc)))))))))
def b_w (c_1:List T->R T) (c_3:List T->R T):En->RS:=
  zo (zF 2 (cE (.int 0)))
  (zo (W7 (Vl (vE 0) (vE 1)) (Z6 3 4) (zF 2 (zf zQ (zf Zn (vE 2) (zb 1 c_1 (z9 (vE 3) (zc)))) (zb 2 c_3 (z9 (vE 3) (z9 (vE 4) (zc)))))))
  (zv (vE 2)))
def S_3:Nat->Nat->List T->R T
 | 0,_=>fun _=> .bad
 | n+1,0=>fun ts=>zh (b_3 (f_b) (f_a 20) (S_3 n 1) (en0 3 ts))
 | n+1,_=>fun ts=>zh (b_w (f_1 20) (S_3 n 0) (en0 5 ts))
abbrev f_3 (n:Nat):List T->R T:=S_3 n 0
abbrev f_w (n:Nat):List T->R T:=S_3 n 1
def b_4 (c_b:List T->R T) (c_12:List T->R T) (c_k:List T->R T):En->RS:=
  zo (ifS (zJ eqC (zf ixT (vE 0) (cE (.int 0))) (cE (.str "whole"))) (zv (zf zQ (zf ixT (vE 0) (cE (.int 1))) (vE 1))) (nxS))
  (zo (ifS (zJ eqC (zf ixT (vE 0) (cE (.int 0))) (cE (.str "pick"))) (zv (zf ixT (zb 1 c_b (z9 (vE 0) (zc))) (vE 1))) (nxS))
  (zo (ifS (zJ eqC (zf ixT (vE 0) (cE (.int 0))) (cE (.str "row"))) (zv (zb 2 c_k (z9 (zf ixT (vE 0) (cE (.int 1))) (z9 (vE 1) (zc))))) (nxS))
  (zv (zb 2 c_12 (z9 (vE 0) (z9 (vE 1) (zc)))))))
def QT (c_a:List T->R T) (c_k:List T->R T):En->RS:=
  zo (zF 2 (zf ixT (vE 0) (cE (.int 2))))
  (zo (Zo (zJ leC (zb 2 c_a (z9 (vE 0) (z9 (zf zQ (vE 2) (cE (.int 1))) (zc)))) (vB 1)) (zF 2 (zf zQ (vE 2) (cE (.int 1)))) (8))
  (zv (zb 2 c_k (z9 (zf Zn (jt (z9 (zf ixT (vE 0) (cE (.int 1))) (zc))) (vE 2)) (z9 (zf ju (vE 1) (zb 2 c_a (z9 (vE 0) (z9 (vE 2) (zc))))) (zc))))))
def b_k (c_1:List T->R T) (c_4:List T->R T):En->RS:=
  zo (QO 2 (zc))
  (zo (zF 3 (vE 1))
  (zo (W7 (XX (vE 0)) (zY 4) (zo (zF 5 (zb 1 c_1 (z9 (vE 4) (zc))))
  (zo (uv 2 (zb 2 c_4 (z9 (vE 4) (z9 (zf jc (vE 3) (vE 5)) (zc)))))
  (zF 3 (zf Zy (vE 3) (vE 5))))))
  (zv (ap1 Yb (vE 2)))))
def S_4:Nat->Nat->List T->R T
 | 0,_=>fun _=> .bad
 | n+1,0=>fun ts=>zh (b_4 (f_b) (S_4 n 1) (S_4 n 2) (en0 2 ts))
 | n+1,1=>fun ts=>zh (QT (f_a 20) (S_4 n 2) (en0 3 ts))
 | n+1,_=>fun ts=>zh (b_k (f_1 20) (S_4 n 0) (en0 6 ts))
abbrev f_4 (n:Nat):List T->R T:=S_4 n 0
abbrev gW (n:Nat):List T->R T:=S_4 n 1
abbrev f_k (n:Nat):List T->R T:=S_4 n 2
def b_5 (c_c:List T->R T) (c_4:List T->R T) (c_3:List T->R T):En->RS:=
  zo (jd (zb 2 c_c (z9 (vE 0) (z9 (vE 1) (zc)))))
  (zo (jd (zb 2 c_c (z9 (vE 0) (z9 (vE 2) (zc)))))
  (zo (zF 3 (zb 2 c_3 (z9 (vE 0) (z9 (vE 1) (zc)))))
  (zo (zF 4 (zb 2 c_3 (z9 (vE 0) (z9 (vE 2) (zc)))))
  (zo (ifS (zJ gtC (zf zQ (zf ju (vE 4) (vE 3)) (cE (.int 1))) (cE (.int 500))) (ZM 3) (nxS))
  (zv (zZ (jq (vE 3) (zf zQ (vE 4) (cE (.int 1)))) (zY 0) (Zz) (zb 2 c_4 (z9 (vE 1) (z9 (vE 0) (zc)))) 1 [0]))))))
def f_5:List T->R T:=fun ts=>zh (b_5 (f_c) (f_4 20) (f_3 20) (en0 5 ts))
def b_u (c_9:List T->R T) (c_1:List T->R T):En->RS:=
  zo (jd (zb 1 c_9 (z9 (vE 0) (zc))))
  (zv (zb 1 c_1 (z9 (vE 0) (zc))))
def f_u:List T->R T:=fun ts=>zh (b_u (f_9) (f_1 20) (en0 1 ts))
def b_g (c_1:List T->R T) (c_4:List T->R T):En->RS:=
  zo (ifS (JY (chT leC ltC (cE (.int 0)) (vB 1) (zb 1 c_1 (z9 (vE 0) (zc))))) (zv (cE .non)) (nxS))
  (zv (zb 2 c_4 (z9 (vE 0) (z9 (vE 1) (zc)))))
def f_g:List T->R T:=fun ts=>zh (b_g (f_1 20) (f_4 20) (en0 2 ts))
def b_j (c_c:List T->R T) (c_3:List T->R T) (c_g:List T->R T):En->RS:=
  zo (jd (zb 2 c_c (z9 (vE 0) (z9 (vE 1) (zc)))))
  (zv (zb 2 c_g (z9 (vE 0) (z9 (zf zQ (zb 2 c_3 (z9 (vE 0) (z9 (vE 1) (zc)))) (cE (.int 1))) (zc)))))
def f_j:List T->R T:=fun ts=>zh (b_j (f_c) (f_3 20) (f_g) (en0 2 ts))
def b_p (c_c:List T->R T) (c_3:List T->R T) (c_g:List T->R T):En->RS:=
  zo (jd (zb 2 c_c (z9 (vE 0) (z9 (vE 1) (zc)))))
  (zv (zb 2 c_g (z9 (vE 0) (z9 (zf ju (zb 2 c_3 (z9 (vE 0) (z9 (vE 1) (zc)))) (cE (.int 1))) (zc)))))
def f_p:List T->R T:=fun ts=>zh (b_p (f_c) (f_3 20) (f_g) (en0 2 ts))
def b_s:En->RS:=
  zo (zF 1 (jt (z9 (jr 0 okX jA) (z9 (jr 0 okX ji) (z9 (jr 0 okX jf) (z9 (jr 0 okX jg) (zc)))))))
  (zo (zF 1 (zf zQ (vE 1) (jt (z9 (jr 0 okX jh) (z9 (jr 0 okX ZT) (z9 (jr 0 okX ZU) (zc)))))))
  (zo (ifS (orT (zJ neC (Vn XT (vB 1) (cE (.bl true))) (cE (.int 1))) (JY (Jl (jr 0 okX Zk)))) (zv (cE (.str "wrong"))) (nxS))
  (zv (zf ixT (jt (z9 (cE (.str "ended")) (z9 (cE (.str "no back")) (z9 (cE (.str "no kind")) (z9 (cE (.str "no rule")) (z9 (cE (.str "no text")) (z9 (cE (.str "no worth")) (z9 (cE (.str "too many")) (zc))))))))) (Vn Qc (vB 1) (cE (.bl true)))))))
def f_s:Nat->R T:=fun c=>zh (b_s  (enC 2 c))
def b_v (c_9:List T->R T) (c_1:List T->R T) (c_4:List T->R T):En->RS:=
  zo (jd (zb 1 c_9 (z9 (vE 0) (zc))))
  (zv (zb 2 c_4 (z9 (vE 0) (z9 (zf Zy (zf ju (zb 1 c_1 (z9 (vE 0) (zc))) (cE (.int 1))) (cE (.int 2))) (zc)))))
def f_v:List T->R T:=fun ts=>zh (b_v (f_9) (f_1 20) (f_4 20) (en0 1 ts))
def K6:En->RS:=
  ifS (JY (Jl (ap1 (Yz "str") (vB 0)))) (ZM 5) (nxS)
def K7:List T->R T:=fun ts=>zh (K6  (en0 1 ts))
def K8:En->RS:=
  zo (QO 2 (zc))
  (zo (zF 3 (cE (.int 0)))
  (zo (zF 4 (cE (.int 0)))
  (zo (W7 (YN (vE 0)) (Z6 5 6) (zo (ifS (zJ QQ (vB 6) (cE (.str "([{"))) (zF 4 (zf zQ (vE 4) (cE (.int 1)))) (nxS))
  (zo (ifS (zJ QQ (vB 6) (cE (.str ")]}"))) (zF 4 (zf ju (vE 4) (cE (.int 1)))) (nxS))
  (ifS (vR (zJ eqC (vB 4) (cE (.int 0))) (Jl (VB (vE 0) (vE 1) (vE 5)))) (zo (uv 2 (VL (vE 0) (wK (vE 3)) (wK (vE 5))))
  (zF 3 (zf zQ (vE 5) (ap1 Zc (vB 1))))) (nxS)))))
  (zo (uv 2 (VL (vE 0) (wK (vE 3)) (noO)))
  (zv (vE 2))))))
def K9:List T->R T:=fun ts=>zh (K8  (en0 7 ts))
def b_m:En->RS:=
  zo (ifS (zJ gtC (ap1 Zc (vB 0)) (cE (.int 3))) (ZM 5) (nxS))
  (zo (kh (zF 1 (ap1 K4 (vE 0))))
  (zo (ifS (zJ neC (ap1 kd (vE 1)) (vB 0)) (ZM 5) (nxS))
  (zv (vE 1))))
def f_m:List T->R T:=fun ts=>zh (b_m  (en0 2 ts))
def Ka (c_m:List T->R T):En->RS:=
  zo (zF 1 (smE k6 (vE 0) (cE (.str ".."))))
  (zv (Z0 (z9 (zb 1 c_m (z9 (zf ixT (vE 1) (cE (.int 0))) (zc))) (z9 (zb 1 c_m (z9 (zf ixT (vE 1) (cE (.int 2))) (zc))) (zc)))))
def Kb:List T->R T:=fun ts=>zh (Ka (f_m) (en0 2 ts))
def Kc:En->RS:=
  zo (ifS (orT (JY (Jl (smE VA (vE 0) (vE 1)))) (JY (Jl (smE K1 (vE 0) (vE 2))))) (ZM 5) (nxS))
  (zv (VL (vE 0) (wK (ap1 Zc (vB 1))) (wK (WW (ap1 Zc (vB 2))))))
def Ke:List T->R T:=fun ts=>zh (Kc  (en0 3 ts))
def Kf (c_m:List T->R T):En->RS:=
  zo (zF 1 (smE k6 (vE 0) (cE (.str ":"))))
  (zv (Z0 (z9 (zf ixT (vE 1) (cE (.int 0))) (z9 (zb 1 c_m (z9 (zf ixT (vE 1) (cE (.int 2))) (zc))) (zc)))))
def Kg:List T->R T:=fun ts=>zh (Kf (f_m) (en0 2 ts))
def b_h (c_14:List T->R T) (c_16:List T->R T) (c_h:List T->R T) (c_17:List T->R T) (c_15:List T->R T):En->RS:=
  zo (ifS (zJ eqC (vB 1) (cE (.int 0))) (ZM 5) (nxS))
  (zo (ifS (Jl (smE VA (vE 0) (cE (.str "{")))) (zv (Z0 (z9 (cE (.str "pick")) (z9 (ap1 qO (zZ (jR (smE K3 (zb 3 c_14 (z9 (vE 0) (z9 (cE (.str "{")) (z9 (cE (.str "}")) (zc))))) (cE (.str " ")))) (zY 0) (Zz) (zb 1 (nex c_17) (z9 (vE 0) (zc))) 1 [])) (zc))))) (nxS))
  (zo (ifS (Jl (smE VA (vE 0) (cE (.str "(")))) (zo (zF 2 (zb 2 c_16 (z9 (zb 3 c_14 (z9 (vE 0) (z9 (cE (.str "(")) (z9 (cE (.str ")")) (zc))))) (z9 (cE (.str " ")) (zc)))))
  (zv (Z0 (z9 (cE (.str "row")) (z9 (ap1 qO (zZ (jR (vE 2)) (zY 0) (Zz) (zb 2 (nex c_h) (z9 (vE 0) (z9 (zf ju (vE 1) (cE (.int 1))) (zc)))) 1 [1])) (zc)))))) (nxS))
  (zo (ifS (Jl (smE VA (vE 0) (cE (.str "[")))) (zo (zF 3 (smE K2 (vE 0) (cE (.str "]"))))
  (zv (zf zQ (Z0 (z9 (cE (.str "many")) (z9 (zb 2 c_h (z9 (VL (zf ixT (vE 3) (cE (.int 0))) (wK (cE (.int 1))) (noO)) (z9 (zf ju (vE 1) (cE (.int 1))) (zc)))) (zc)))) (zb 1 c_15 (z9 (zf ixT (vE 3) (cE (.int 2))) (zc)))))) (nxS))
  (zv (zf zQ (Z0 (z9 (cE (.str "whole")) (zc))) (zb 1 c_15 (z9 (vE 0) (zc))))))))
def S_h:Nat->Nat->List T->R T
 | 0,_=>fun _=> .bad
 | n+1,_=>fun ts=>zh (b_h (Ke) (K9) (S_h n 0) (Kg) (Kb) (en0 4 ts))
abbrev f_h (n:Nat):List T->R T:=S_h n 0
def Kh (c_2:List T->R T) (c_18:List T->R T) (c_h:List T->R T):En->RS:=
  zo (jd (zb 1 c_18 (z9 (vE 0) (zc))))
  (zo (zF 1 (zb 2 c_h (z9 (vE 0) (z9 (cE (.int 3)) (zc)))))
  (zo (ifS (JY (Jl (zb 1 c_2 (z9 (vE 1) (zc))))) (ZM 5) (nxS))
  (zv (vE 1))))
def VZ:List T->R T:=fun ts=>zh (Kh (f_2) (K7) (f_h 20) (en0 2 ts))
def Ki:En->RS:=
  zv (f3E ".." (vE 0) (vE 1))
def Kj:List T->R T:=fun ts=>zh (Ki  (en0 2 ts))
def b_f (c_f:List T->R T) (c_13:List T->R T):En->RS:=
  zo (ifS (zJ eqC (zf ixT (vE 0) (cE (.int 0))) (cE (.str "whole"))) (zv (zb 2 c_13 (z9 (zf ixT (vE 0) (cE (.int 1))) (z9 (zf ixT (vE 0) (cE (.int 2))) (zc))))) (nxS))
  (zo (ifS (zJ eqC (zf ixT (vE 0) (cE (.int 0))) (cE (.str "pick"))) (zv (zf zQ (zf zQ (cE (.str "{")) (ap1 (qW " ") (zZ (jR (zf ixT (vE 0) (cE (.int 1)))) (Z6 0 1) (Zz) (f3E ":" (vE 0) (vE 1)) 2 []))) (cE (.str "}")))) (nxS))
  (zo (ifS (zJ eqC (zf ixT (vE 0) (cE (.int 0))) (cE (.str "row"))) (zv (zf zQ (zf zQ (cE (.str "(")) (ap1 (qW " ") (zZ (jR (zf ixT (vE 0) (cE (.int 1)))) (zY 0) (Zz) (zb 1 c_f (z9 (vE 0) (zc))) 1 []))) (cE (.str ")")))) (nxS))
  (zv (zf zQ (zf zQ (zf zQ (cE (.str "[")) (zb 1 c_f (z9 (zf ixT (vE 0) (cE (.int 1))) (zc)))) (cE (.str "]"))) (zb 2 c_13 (z9 (zf ixT (vE 0) (cE (.int 2))) (z9 (zf ixT (vE 0) (cE (.int 3))) (zc))))))))
def S_f:Nat->Nat->List T->R T
 | 0,_=>fun _=> .bad
 | n+1,_=>fun ts=>zh (b_f (S_f n 0) (Kj) (en0 1 ts))
abbrev f_f (n:Nat):List T->R T:=S_f n 0
def b_z (c_9:List T->R T) (c_f:List T->R T):En->RS:=
  zo (jd (zb 1 c_9 (z9 (vE 0) (zc))))
  (zv (zb 1 c_f (z9 (vE 0) (zc))))
def f_z:List T->R T:=fun ts=>zh (b_z (f_9) (f_f 20) (en0 1 ts))
def b_0 (c_u:List T->R T) (c_n:List T->R T) (c_s:Nat->R T) (c_z:List T->R T) (c_10:List T->R T) (c_j:List T->R T) (c_p:List T->R T) (c_5:List T->R T) (c_v:List T->R T) (c_e:List T->R T):En->RS:=
  zo (YI (Z0 (z9 (Z0 (z9 (cE (.str "whole")) (z9 (WW (cE (.int 20))) (z9 (cE (.int 20)) (zc))))) (z9 (Z0 (z9 (cE (.str "pick")) (z9 (Z0 (z9 (Z0 (z9 (cE (.str "a")) (z9 (cE (.int 1)) (zc)))) (z9 (Z0 (z9 (cE (.str "b")) (z9 (cE (.int 2)) (zc)))) (z9 (Z0 (z9 (cE (.str "cab")) (z9 (cE (.int 20)) (zc)))) (zc))))) (zc)))) (zc)))) (Z6 1 2))
  (zo (zF 3 (zf ixT (jt (z9 (Z0 (z9 (vE 1) (z9 (vE 1) (z9 (vE 1) (zc))))) (z9 (Z0 (z9 (vE 1) (z9 (vE 2) (z9 (vE 1) (zc))))) (z9 (Z0 (z9 (vE 2) (z9 (vE 1) (z9 (vE 1) (zc))))) (zc))))) (zb 3 c_n (z9 (vE 0) (z9 (cE (.int 0)) (z9 (cE (.int 3)) (zc)))))))
  (zo (YI (Z0 (z9 (Z0 (z9 (cE (.str "row")) (z9 (vE 3) (zc)))) (z9 (cE (.int 1)) (zc)))) (Z6 4 5))
  (zo (zF 6 (zZ (jR (vE 3)) (zY 0) (Zz) (ifE (zJ eqC (vB 0) (vB 1)) (jt (z9 (cE (.str "a")) (z9 (cE (.str "b")) (z9 (cE (.str "cab")) (zc))))) (Vm (jq (WW (cE (.int 20))) (cE (.int 21))))) 1 [2]))
  (zo (W7 (jR (vE 6)) (zY 7) (zF 5 (zf Zn (vE 5) (ap1 Zc (vB 7)))))
  (zo (zF 8 (zf jc (zf Zn (zb 3 c_n (z9 (vE 0) (z9 (cE (.int 1)) (z9 (cE (.int 99991)) (zc))))) (cE (.int 7919))) (zf ju (vE 5) (cE (.int 600)))))
  (zo (YI (Z0 (z9 (zb 2 c_e (z9 (vE 6) (z9 (vE 8) (zc)))) (z9 (zb 2 c_e (z9 (vE 6) (z9 (zf zQ (vE 8) (cE (.int 499))) (zc)))) (zc)))) (Z6 9 10))
  (zo (ifS (orT (zJ neC (zb 1 c_u (z9 (vE 4) (zc))) (vB 5)) (zJ neC (zb 2 c_j (z9 (vE 4) (z9 (vE 9) (zc)))) (zb 2 c_e (z9 (vE 6) (z9 (zf zQ (vE 8) (cE (.int 1))) (zc)))))) (zv (cE (.bl false))) (nxS))
  (zo (ifS (vR (zJ gtC (vB 8) (cE (.int 0))) (zJ neC (zb 2 c_p (z9 (vE 4) (z9 (vE 9) (zc)))) (zb 2 c_e (z9 (vE 6) (z9 (zf ju (vE 8) (cE (.int 1))) (zc)))))) (zv (cE (.bl false))) (nxS))
  (zo (zF 11 (zb 2 c_e (z9 (vE 6) (z9 (zf zQ (vE 8) (cE (.int 9))) (zc)))))
  (zo (ifS (zJ neC (zb 3 c_5 (z9 (vE 4) (z9 (vE 9) (z9 (vE 11) (zc))))) (zZ (yP (cE (.int 10))) (zY 0) (Zz) (zb 2 c_e (z9 (vE 1) (z9 (zf zQ (vE 2) (vE 0)) (zc)))) 1 [6,8])) (zv (cE (.bl false))) (nxS))
  (zo (ifS (orT (zJ neC (zb 3 c_5 (z9 (vE 4) (z9 (vE 11) (z9 (vE 9) (zc))))) (jt (zc))) (zJ neC (Yh [4,9,10] okX c_s (zb 3 c_5 (z9 (vE 0) (z9 (vE 1) (z9 (zb 2 c_j (z9 (vE 0) (z9 (vE 2) (zc)))) (zc)))))) (cE (.str "too many")))) (zv (cE (.bl false))) (nxS))
  (zo (ifS (orT (zJ neC (zb 1 c_v (z9 (vE 4) (zc))) (zb 2 c_e (z9 (vE 6) (z9 (zf Zy (zf ju (vE 5) (cE (.int 1))) (cE (.int 2))) (zc))))) (zJ neC (zb 1 c_10 (z9 (zb 1 c_z (z9 (vE 4) (zc))) (zc))) (vB 4))) (zv (cE (.bl false))) (nxS))
  (zo (zF 12 (Z0 (z9 (cE (.str "row")) (z9 (Z0 (z9 (Z0 (z9 (cE (.str "whole")) (z9 (cE (.int 0)) (z9 (cE (.int 19)) (zc))))) (z9 (Z0 (z9 (cE (.str "whole")) (z9 (WW (cE (.int 4))) (z9 (cE (.int 20)) (zc))))) (zc)))) (zc)))))
  (zo (ifS (zJ neC (ap1 Zc (zb 3 c_5 (z9 (vE 12) (z9 (Z0 (z9 (cE (.int 0)) (z9 (WW (cE (.int 4))) (zc)))) (z9 (Z0 (z9 (cE (.int 19)) (z9 (cE (.int 20)) (zc)))) (zc)))))) (cE (.int 500))) (zv (cE (.bl false))) (nxS))
  (zv (jO (U1 yu (zb 2 c_j (z9 (vE 4) (z9 (zb 2 c_e (z9 (vE 6) (z9 (zf ju (vE 5) (cE (.int 1))) (zc)))) (zc)))) (cE .non)) (U1 yu (zb 2 c_p (z9 (vE 4) (z9 (zb 2 c_e (z9 (vE 6) (z9 (cE (.int 0)) (zc)))) (zc)))) (cE .non))))))))))))))))))
def f_0:List T->R T:=fun ts=>zh (b_0 (f_u) (f_n) (f_s) (f_z) (VZ) (f_j) (f_p) (f_5) (f_v) (f_e) (en0 13 ts))
end G
namespace G
open PySem L2 PV
abbrev scr (ns:List Int):T:= .fz (ns.map T.int)
theorem Qv (ns:List Int) (k:Int) (h0:0<=k):∃ c,f_y [scr ns, .int k]= .ok (.int c):=by
 have e1:f_y [scr ns, .int k]=zh (if decide (k < ((ns.map T.int).length:Int))=true then (atT (ns.map T.int) k).s (fun t=> .rt t) else
   match (eqC (scr ns) (.lst [])).s (fun b=>if b=true then RS.rt (.int 0) else .nx [.vl (scr ns), .vl (.int k)]) with
   | .nx ρ' =>zv (zf zQ (zf Zn (zf ixT (vE 0) (zf jc (vE 1) (ap1 Zc (vB 0)))) (cE (.int 31))) (vE 1)) ρ'
   | r=>r):=by
  show zh (match (if decide (k < ((ns.map T.int).length:Int))=true then (atT (ns.map T.int) k).s (fun t=>RS.rt t) else .nx [.vl (scr ns), .vl (.int k)]) with
   | .nx ρ' =>_
   | r=>r)=_
  cases decide (k < ((ns.map T.int).length:Int)) with
  | true=>
   rw [if_pos rfl,if_pos rfl]
   unfold atT
   cases atI (ns.map T.int) k <;> rfl
  | false=>rfl
 rw [e1,ao]
 by_cases hk:k < (ns.length:Int)
 ·obtain ⟨v,hv⟩:∃ v,ns[k.toNat]? =some v:=⟨ns[k.toNat]'(by omega),aw (by omega)⟩
  have ea:atI (ns.map T.int) k=some (.int v):=by
   have:k=((k.toNat:Nat):Int):=by omega
   rw [this]
   exact Zw (by rw [aj,hv]; rfl)
  rw [decide_eq_true hk,if_pos rfl]
  exact ⟨v,by unfold atT; rw [ea]; rfl⟩
 ·rw [decide_eq_false hk,if_neg aB]
  cases ns with
  | nil=>exact ⟨0,rfl⟩
  | cons x xs=>
   have hm0:=dC k (show (((x :: xs).length:Nat):Int) ≠ 0 by simp only [aD]; omega)
   have hm1:=cR k (show (0:Int) < (((x :: xs).length:Nat):Int) by simp only [aD]; omega)
   obtain ⟨v,hv⟩:∃ v,(x :: xs)[(k % (((x :: xs).length:Nat):Int)).toNat]? =some v:=⟨_,aw (by omega)⟩
   have ea:atI ((x :: xs).map T.int) (k % (((x :: xs).length:Nat):Int))=some (.int v):=by
    have e:k % (((x :: xs).length:Nat):Int)=(((k % (((x :: xs).length:Nat):Int)).toNat:Nat):Int):=by omega
    rw [e]
    exact Zw (by rw [aj,hv]; rfl)
   have cm:JL v 31:= .inr ⟨by decide,by decide⟩
   have hp:(0:Int) < (((x :: xs).map T.int).length:Int):=by simp only [ao,aD]; omega
   refine ⟨v*31+k, ?_⟩
   show zh (((((if 0 < (((x :: xs).map T.int).length:Int) then R.ok (T.int (k % (((x :: xs).map T.int).length:Int))) else .bad).bind fun y=>ixT (scr (x :: xs)) y).bind fun a=>Zn a (.int 31)).bind fun a=>zQ a (.int k)).s fun t=> .rt t)=_
   rw [if_pos hp]
   show zh ((((atT ((x :: xs).map T.int) (k % (((x :: xs).map T.int).length:Int))).bind fun a=>Zn a (.int 31)).bind fun a=>zQ a (.int k)).s fun t=> .rt t)=_
   rw [ao]
   unfold atT
   rw [ea]
   show zh ((((if JL v 31 then R.ok (T.int (v*31)) else .bad)).bind fun a=>zQ a (.int k)).s fun t=> .rt t)=_
   rw [if_pos cm]
   rfl
theorem UH (ns:List Int) (k m:Int) (h0:0<=k) (hm:0 < m):∃ p,f_n [scr ns, .int k, .int m]= .ok (.int p)/\0<=p/\p < m:=by
 obtain ⟨c,hc⟩:=Qv ns k h0
 have cm1:JL 6151 (k+1):= .inl ⟨by decide,by decide⟩
 have cm2:JL (c+6151*(k+1)) 40692:= .inr ⟨by decide,by decide⟩
 generalize hd:(c+6151*(k+1))*40692 % 2147483399=d
 have hd0:0<=d:=by rw [← hd]; exact dC _ (by decide)
 have hd1:d < 2147483399:=by rw [← hd]; exact cR _ (by decide)
 have cm3:JL d d:= .inl ⟨by omega,by omega⟩
 refine ⟨(d*d+d / 31) % 2147483629 % m, ?_,dC _ (by omega),cR _ hm⟩
 have e1:f_n [scr ns, .int k, .int m]=zh (match ((((((f_y [scr ns, .int k]).bind fun x=>(Zn (.int 6151) (.int (k+1))).bind fun y=>zQ x y).bind fun x=>Zn x (.int 40692)).bind fun x=>jc x (.int 2147483399))).s fun t=>RS.nx [.vl (scr ns), .vl (.int k), .vl (.int m), .vl t]) with
   | .nx ρ' =>zv (zf jc (zf jc (zf zQ (zf Zn (vE 3) (vE 3)) (zf Zy (vE 3) (cE (.int 31)))) (cE (.int 2147483629))) (vE 2)) ρ'
   | r=>r):=rfl
 rw [e1,hc]
 show zh (match (((((if JL 6151 (k+1) then R.ok (T.int (6151*(k+1))) else .bad).bind fun y=>zQ (.int c) y).bind fun x=>Zn x (.int 40692)).bind fun x=>jc x (.int 2147483399)).s fun t=>RS.nx [.vl (scr ns), .vl (.int k), .vl (.int m), .vl t]) with
   | .nx ρ' =>_
   | r=>r)=_
 rw [if_pos cm1]
 show zh (match ((((if JL (c+6151*(k+1)) 40692 then R.ok (T.int ((c+6151*(k+1))*40692)) else .bad)).bind fun x=>jc x (.int 2147483399)).s fun t=>RS.nx [.vl (scr ns), .vl (.int k), .vl (.int m), .vl t]) with
   | .nx ρ' =>_
   | r=>r)=_
 rw [if_pos cm2]
 show zh (zv (zf jc (zf jc (zf zQ (zf Zn (vE 3) (vE 3)) (zf Zy (vE 3) (cE (.int 31)))) (cE (.int 2147483629))) (vE 2)) [.vl (scr ns), .vl (.int k), .vl (.int m), .vl (.int ((c+6151*(k+1))*40692 % 2147483399))])=_
 rw [hd]
 show zh (((((if JL d d then R.ok (T.int (d*d)) else .bad).bind fun x=>zQ x (.int (d / 31))).bind fun x=>jc x (.int 2147483629)).bind fun x=>jc x (.int m)).s fun t=>RS.rt t)=_
 rw [if_pos cm3]
 show zh ((if 0 < m then R.ok (T.int ((d*d+d / 31) % 2147483629 % m)) else .bad).s fun t=>RS.rt t)=_
 rw [if_pos hm]
 rfl
theorem UI {ft:En->R Bool} {fe:En->R T}:∀ (ts:List T) (ρ:En) (x:Sl),zR (zY 0) ft fe ts (ρ.set 0 x)=zR (zY 0) ft fe ts ρ
 | [],_,_=>rfl
 | t :: ts,ρ,x=>by
  unfold zR zY
  rw [List.set_set]
theorem jn {ft:En->R Bool} {fe:En->R T} {p:T->Bool} {h:T->T}:∀ (ts:List T) (ρ:En),(∀ t∈ts,ft (ρ.set 0 (.vl t))= .ok (p t)/\(p t=true->fe (ρ.set 0 (.vl t))= .ok (h t)))->zR (zY 0) ft fe ts ρ= .ok ((ts.filter p).map h)
 | [],_,_=>rfl
 | t :: ts,ρ,H=>by
  obtain ⟨h1,h2⟩:=H t av
  have ih:=jn ts ρ fun u hu=>H u (ah _ hu)
  have e:zR (zY 0) ft fe (t :: ts) ρ=(ft (ρ.set 0 (.vl t))).bind fun k=>if k=true then (fe (ρ.set 0 (.vl t))).bind fun v=>(zR (zY 0) ft fe ts (ρ.set 0 (.vl t))).bind fun vs=> .ok (v :: vs) else zR (zY 0) ft fe ts (ρ.set 0 (.vl t)):=rfl
  rw [e,h1,UI,ih]
  show (if p t=true then _ else _)=_
  cases hp:p t with
  | true=>rw [if_pos rfl,h2 hp,List.filter_cons_of_pos hp]; rfl
  | false=>rw [if_neg aB,List.filter_cons_of_neg (by rw [hp]; exact aB)]
theorem UJ {fe:En->R T} {h:T->T} (ts:List T) (ρ:En) (H:∀ t∈ts,fe (ρ.set 0 (.vl t))= .ok (h t)):zR (zY 0) Zz fe ts ρ= .ok (ts.map h):=by
 have:=jn (ft:=Zz) (fe:=fe) (p:=fun _=>true) (h:=h) ts ρ fun t ht=>⟨rfl,fun _=>H t ht⟩
 rw [this,List.filter_eq_self.mpr (fun _ _=>rfl)]
theorem zX {fe:En->R T} {h:T->T} {k:Nat} {js:List Nat} {ρ:En} (ts:List T) (hl:ts.length<=bnd) (H:∀ t∈ts,fe ((jW k js ρ).set 0 (.vl t))= .ok (h t)):Zi (zY 0) Zz fe k js ρ ts= .ok (ts.map h):=by
 unfold Zi
 rw [if_pos hl,UJ ts _ H]
 rfl
theorem jv (p:T->Bool):∀ ts:List T,wy (ts.map fun t=>T.bl (p t))=some (ts.all p)
 | []=>rfl
 | t :: ts=>by
  show (match wy (ts.map fun t=>T.bl (p t)) with | some j=>some (p t && j) | none=>none)=_
  rw [jv p ts]; rfl
def isW:T->Bool
 | .int _=>true
 | _=>false
theorem Wo (t:T):f_d [t]= .ok (.bl (isW t)):=by cases t <;> rfl
def uf (a b:Nat):T->Bool
 | .tup xs=>decide (a<=xs.length) && decide (xs.length<=b)
 | _=>false
theorem Z7 (t:T) (a b:Nat):f_7 [t, .int a, .int b]= .ok (.bl (uf a b t)):=by
 cases t with
 | tup xs=>
  show zh ((if decide ((a:Int)<=(xs.length:Int))=true then R.ok (T.bl (decide ((xs.length:Int)<=(b:Int)))) else .ok (.bl false)).s fun t=> .rt t)=_
  have e1:decide ((a:Int)<=(xs.length:Int))=decide (a<=xs.length):=by simp
  have e2:decide ((xs.length:Int)<=(b:Int))=decide (xs.length<=b):=by simp
  rw [e1,e2]
  show _=R.ok (T.bl (decide (a<=xs.length) && decide (xs.length<=b)))
  cases decide (a<=xs.length) <;> rfl
 | _=>rfl
def jB (lo hi:Int):T->T->Bool
 | .int i, .int j=>decide (lo<=i) && decide (i<=j) && decide (j<=hi)
 | _,_=>false
theorem UK (t u:T) (lo hi:Int):xM [t,u, .int lo, .int hi]= .ok (.bl (jB lo hi t u)):=by
 cases t with
 | int i=>
  cases u with
  | int j=>
   show zh ((if decide (lo<=i)=true then (if decide (i<=j)=true then R.ok (T.bl (decide (j<=hi))) else .ok (.bl false)) else .ok (.bl false)).s fun t=> .rt t)=_
   show _=R.ok (T.bl (decide (lo<=i) && decide (i<=j) && decide (j<=hi)))
   cases decide (lo<=i) <;> cases decide (i<=j) <;> rfl
  | _=>rfl
 | _=>cases u <;> rfl
def ZB (c:Nat):Bool:=decide (97<=c) && decide (c<=122)
def ZN:T->Bool
 | .str x=>decide (1<=x.length) && decide (x.length<=3) && x.cps.toList.all ZB
 | _=>false
theorem YR (a b:Nat):decide ([a] < [b])=decide (a < b):=by
 by_cases h:a < b
 ·rw [decide_eq_true h]; exact decide_eq_true (List.Lex.rel h)
 ·rw [decide_eq_false h]
  refine decide_eq_false fun z=> ?_
  cases z with
  | rel h' =>exact h h'
  | cons h' =>cases h'
theorem Qw (c:Nat) (ρ:En):chE leC leC (cE (.str "a")) (vB 0) (cE (.str "z")) ((Sl.vl (.str ⟨#[c]⟩)) :: ρ)= .ok (.bl (ZB c)):=by
 have e1:leC (.str "a") (.str ⟨#[c]⟩)= .ok (decide (97<=c)):=by
  show R.ok (!decide ([c] < [97]))=_
  rw [YR]
  by_cases h:c < 97
  ·rw [decide_eq_true h,decide_eq_false (by omega)]; rfl
  ·rw [decide_eq_false h,decide_eq_true (by omega)]; rfl
 have e2:leC (.str ⟨#[c]⟩) (.str "z")= .ok (decide (c<=122)):=by
  show R.ok (!decide ([122] < [c]))=_
  rw [YR]
  by_cases h:122 < c
  ·rw [decide_eq_true h,decide_eq_false (by omega)]; rfl
  ·rw [decide_eq_false h,decide_eq_true (by omega)]; rfl
 show (leC (.str "a") (.str ⟨#[c]⟩)).bind (fun k=>if k=true then (leC (.str ⟨#[c]⟩) (.str "z")).bind fun k' =>R.ok (T.bl k') else R.ok (T.bl false))=_
 rw [e1,e2]
 unfold ZB
 show (if decide (97<=c)=true then R.ok (T.bl (decide (c<=122))) else .ok (.bl false))=_
 cases decide (97<=c) <;> rfl
def x4:T->Prop
 | .str x=>x.length<=bnd
 | _=>True
theorem Qx (t:T) (ht:x4 t):f_r [t]= .ok (.bl (ZN t)):=by
 cases t with
 | str x=>
  have hx:x.length<=bnd:=ht
  have e0:Zc (.str x)= .ok (.int x.length):=if_pos hx
  have ec:Zi (zY 0) Zz (chE leC leC (cE (.str "a")) (vB 0) (cE (.str "z"))) 1 [] [.vl (.str x)] (Zj x)= .ok (x.cps.toList.map fun c=>T.bl (ZB c)):=by
   have hs:(Zj x).length<=bnd:=by unfold Zj; rw [ao,cH]; exact hx
   have:=zX (fe:=chE leC leC (cE (.str "a")) (vB 0) (cE (.str "z"))) (h:=fun t=>match t with | .str y=>T.bl (ZB (y.cps.toList.headD 0)) | t=>t) (k:=1) (js:=[]) (ρ:=[.vl (.str x)]) (Zj x) hs fun t ht=>by
    unfold Zj at ht
    obtain ⟨c,_,rfl⟩:=aO.mp ht
    exact Qw c []
   rw [this]
   unfold Zj
   rw [br]
   rfl
  have ea:wy (x.cps.toList.map fun c=>T.bl (ZB c))=some (x.cps.toList.all ZB):=by
   have:=jv (fun t=>match t with | .str y=>ZB (y.cps.toList.headD 0) | _=>true) (Zj x)
   unfold Zj at this
   rw [br,fA] at this
   exact this
  have e1:f_r [.str x]=zh (match ((((Zc (.str x)).bind fun y=>(leC (.int 1) y).bind fun k=>if k=true then leC y (.int 3) else .ok false).bind fun b=> .ok (!b)).s fun k=>if k=true then RS.rt (.bl false) else .nx [.vl (.str x)]) with
    | .nx ρ' =>zv (ap1 YA (zZ (jR (vE 0)) (zY 0) (Zz) (chE leC leC (cE (.str "a")) (vB 0) (cE (.str "z"))) 1 [])) ρ'
    | r=>r):=rfl
  rw [e1,e0]
  have c1:decide ((1:Int)<=(x.length:Int))=decide (1<=x.length):=by
   by_cases h:1<=x.length
   ·rw [decide_eq_true h]; exact decide_eq_true (by omega)
   ·rw [decide_eq_false h]; exact decide_eq_false (by omega)
  have c2:decide ((x.length:Int)<=(3:Int))=decide (x.length<=3):=by
   by_cases h:x.length<=3
   ·rw [decide_eq_true h]; exact decide_eq_true (by omega)
   ·rw [decide_eq_false h]; exact decide_eq_false (by omega)
  show zh (match ((((if decide ((1:Int)<=(x.length:Int))=true then R.ok (decide ((x.length:Int)<=(3:Int))) else .ok false)).bind fun b=> .ok (!b)).s fun k=>if k=true then RS.rt (.bl false) else .nx [.vl (.str x)]) with
    | .nx ρ' =>_
    | r=>r)=_
  rw [c1,c2]
  show _=R.ok (T.bl (decide (1<=x.length) && decide (x.length<=3) && x.cps.toList.all ZB))
  cases decide (1<=x.length) with
  | false=>rfl
  | true=>
   cases decide (x.length<=3) with
   | false=>rfl
   | true=>
    show zh ((((Zi (zY 0) Zz (chE leC leC (cE (.str "a")) (vB 0) (cE (.str "z"))) 1 [] [.vl (.str x)] (Zj x)).bind fun vs=> .ok (.lst vs)).bind YA).s fun t=> .rt t)=_
    rw [ec]
    show zh ((match wy (x.cps.toList.map fun c=>T.bl (ZB c)) with | some k=>R.ok (T.bl k) | none=> .bad).s fun t=> .rt t)=_
    rw [ea]
    rfl
 | _=>rfl
theorem bOk {α β:Type} (a:α) (f:α->R β):(R.ok a).bind f=f a:=rfl
theorem jC {α:Type} (a:α) (f:α->RS):(R.ok a).s f=f a:=rfl
theorem J4 (r:R T):zh (r.s fun t=> .rt t)=r:=by cases r <;> rfl
theorem J6 (f:En->R T) (ρ:En):zv f ρ=(f (frz ρ)).s fun t=> .rt t:=rfl
theorem Z4 {g:List T->R T} {f:En->R T} {ρ:En}:zb 1 g (z9 f zc) ρ=(f ρ).bind fun x=>g [x]:=by
 unfold zb z9 zc
 cases f ρ <;> rfl
theorem zp {g:List T->R T} {f f' :En->R T} {ρ:En}:zb 2 g (z9 f (z9 f' zc)) ρ=(f ρ).bind fun x=>(f' ρ).bind fun y=>g [x,y]:=by
 unfold zb z9 zc
 cases f ρ with
 | ok a=>cases f' ρ <;> rfl
 | ex c=>rfl
 | bad=>rfl
theorem jD {g:List T->R T} {f f' f'' :En->R T} {ρ:En}:zb 3 g (z9 f (z9 f' (z9 f'' zc))) ρ=(f ρ).bind fun x=>(f' ρ).bind fun y=>(f'' ρ).bind fun z=>g [x,y,z]:=by
 unfold zb z9 zc
 cases f ρ with
 | ok a=>
  cases f' ρ with
  | ok b=>cases f'' ρ <;> rfl
  | ex c=>rfl
  | bad=>rfl
 | ex c=>rfl
 | bad=>rfl
theorem ki {g:List T->R T} {f f' f'' f3:En->R T} {ρ:En}:zb 4 g (z9 f (z9 f' (z9 f'' (z9 f3 zc)))) ρ=(f ρ).bind fun x=>(f' ρ).bind fun y=>(f'' ρ).bind fun z=>(f3 ρ).bind fun w=>g [x,y,z,w]:=by
 unfold zb z9 zc
 cases f ρ with
 | ok a=>
  cases f' ρ with
  | ok b=>
   cases f'' ρ with
   | ok c=>cases f3 ρ <;> rfl
   | ex c=>rfl
   | bad=>rfl
  | ex c=>rfl
  | bad=>rfl
 | ex c=>rfl
 | bad=>rfl
def xN (r k:R T):R T:=r.bind fun x=>match x with
 | .bl true=>k
 | .bl false=> .ok (.bl false)
 | _=> .bad
theorem jE (f g:En->R T) (ρ:En):jO f g ρ=xN (f ρ) (g ρ):=rfl
theorem zV (a:Bool) (k:R T):xN (.ok (.bl a)) k=if a=true then k else .ok (.bl false):=by cases a <;> rfl
theorem v0 {t:T} {ρ:En}:vE 0 (.vl t :: ρ)= .ok t:=rfl
theorem v1 {t:T} {a:Sl} {ρ:En}:vE 1 (a :: .vl t :: ρ)= .ok t:=rfl
theorem w0 {t:T} {ρ:En}:vB 0 (.vl t :: ρ)= .ok t:=rfl
theorem w1 {t:T} {a:Sl} {ρ:En}:vB 1 (a :: .vl t :: ρ)= .ok t:=rfl
theorem Zt {t:T} {ρ:En}:cE t ρ= .ok t:=rfl
theorem zk {g:T->T->R T} {f f' :En->R T} {ρ:En}:zf g f f' ρ=(f ρ).bind fun x=>(f' ρ).bind fun y=>g x y:=rfl
theorem wQ {t:T} {ρ:En}:frz (.vl t :: ρ)= .vl t :: frz ρ:=rfl
theorem wR:frz []=[]:=rfl
theorem x5 {g g' :T->T->R Bool} {fa fb fc:En->R T} {ρ:En}:chE g g' fa fb fc ρ=(fa ρ).bind fun x=>(fb ρ).bind fun y=>(g x y).bind fun k=>if k=true then (fc ρ).bind fun z=>(g' y z).bind fun k' => .ok (.bl k') else .ok (.bl false):=rfl
theorem ZV {g:T->R T} {f:En->R T} {ρ:En}:ap1 g f ρ=(f ρ).bind g:=rfl
theorem Qy {i j:Int}:leC (.int i) (.int j)= .ok (decide (i<=j)):=rfl
theorem Ju {g:T->T->R Bool} {f f' :En->R T} {ρ:En}:U1 g f f' ρ=(f ρ).bind fun x=>(f' ρ).bind fun y=>(g x y).bind fun b=> .ok (.bl b):=rfl
theorem ug {xs:List T}:Zc (.tup xs)= .ok (.int xs.length):=rfl
theorem UL {xs:List T}:Zc (.lst xs)= .ok (.int xs.length):=rfl
mutual
def sOk:T->Prop
 | .str x=>x.length<=bnd
 | .tup xs=>wA xs
 | .lst xs=>wA xs
 | .fz xs=>wA xs
 | _=>True
def wA:List T->Prop
 | []=>True
 | t :: ts=>sOk t/\wA ts
end
theorem j7:∀ {ts:List T} {t:T},wA ts->t∈ts->sOk t
 | u :: ts,t,h,hm=>by
  have h' :sOk u/\wA ts:=by simpa only [wA] using h
  rcases ax.mp hm with rfl | hm
  ·exact h'.1
  ·exact j7 h'.2 hm
theorem sOk.str {t:T} (h:sOk t):x4 t:=by
 cases t with
 | str x=>
  have h' :x.length<=bnd:=by simpa only [sOk] using h
  exact h'
 | _=>trivial
theorem Jv {xs:List T} (h:sOk (.tup xs)):wA xs:=by simpa only [sOk] using h
def zw:T->Bool
 | .tup [w, .int i]=>ZN w && decide (1<=i) && decide (i<=20)
 | _=>false
theorem UM (t:T) (ht:sOk t):f_o [t]= .ok (.bl (zw t)):=by
 have e:f_o [t]=zh (b_o f_d f_7 f_r [.vl t]):=rfl
 rw [e,b_o]
 simp only [J6,J4,wQ,wR,jE,jD,Z4,v0,Zt,bOk,zk,x5]
 rw [show f_7 [t, .int 2, .int 2]= .ok (.bl (uf 2 2 t)) from Z7 t 2 2,zV]
 cases t with
 | tup xs=>
  match xs,ht with
  | [],_=>rfl
  | [_],_=>rfl
  | _ :: _ :: _ :: _,_=>simp [uf,zw]
  | [w,n],ht=>
   have hw:sOk w:=j7 (Jv ht) (by simp)
   show (if true=true then xN (f_r [w]) (xN (f_d [n]) ((leC (.int 1) n).bind fun k=>if k=true then (leC n (.int 20)).bind fun k' =>R.ok (T.bl k') else .ok (.bl false))) else _)=_
   rw [if_pos rfl,Qx w hw.str,Wo,zV,zV]
   cases n with
   | int i=>
    show (if ZN w=true then (if true=true then (if decide (1<=i)=true then R.ok (T.bl (decide (i<=20))) else .ok (.bl false)) else _) else _)=R.ok (T.bl (ZN w && decide (1<=i) && decide (i<=20)))
    cases ZN w <;> cases decide (1<=i) <;> rfl
   | _=>
    show (if ZN w=true then (if false=true then _ else R.ok (T.bl false)) else R.ok (T.bl false))=R.ok (T.bl false)
    cases ZN w <;> rfl
 | _=>rfl
theorem wg (f g:En->RS) (ρ:En):zo f g ρ=match f ρ with | .nx ρ' =>g ρ' | r=>r:=rfl
theorem uh (g:En->R Bool) (f1 f2:En->RS) (ρ:En):ifS g f1 f2 ρ=(g ρ).s fun k=>if k=true then f1 ρ else f2 ρ:=rfl
theorem UN (f g:En->R Bool) (ρ:En):orT f g ρ=(f ρ).bind fun x=>if x=true then .ok true else g ρ:=rfl
theorem J7 (f:En->R Bool) (ρ:En):JY f ρ=(f ρ).bind fun x=> .ok (!x):=rfl
theorem Wp (f:En->R T) (ρ:En):Jl f ρ=(f ρ).bind tru:=rfl
theorem wj (k:Bool):tru (.bl k)= .ok k:=rfl
theorem UO (i:Nat) (f:En->R T) (ρ:En):zF i f ρ=(f ρ).s fun t=> .nx (ρ.set i (.vl t)):=rfl
theorem zO {g:T->T->R Bool} {f f' :En->R T} {ρ:En}:zJ g f f' ρ=(f ρ).bind fun x=>(f' ρ).bind fun y=>g x y:=rfl
theorem ZC {fi:En->R (List T)} {g:T->En->R En} {ft:En->R Bool} {fe:En->R T} {k:Nat} {js:List Nat} {ρ:En}:zZ fi g ft fe k js ρ=(fi ρ).bind fun ts=>(Zi g ft fe k js ρ ts).bind fun vs=> .ok (.lst vs):=rfl
theorem wk {f:En->R T} {ρ:En}:jR f ρ=(f ρ).bind jl:=rfl
def zT:T->Str
 | .tup (.str w :: _)=>w
 | _=>⟨#[]⟩
def UP:T->Bool
 | .tup cs=>decide (1<=cs.length) && decide (cs.length<=4) && cs.all zw && decide ((dd [] (cs.map zT)).length=cs.length)
 | _=>false
theorem wl {c:T} (h:zw c=true):∃ w n,c= .tup [.str w,n]:=by
 unfold zw at h
 split at h
 ·rename_i w i
  cases w with
  | str x=>exact ⟨x,_,rfl⟩
  | _=>cases h
 ·cases h
theorem J8:∀ {cs:List T},cs.all zw=true->ux (cs.map fun c=>T.str (zT c))=some (cs.map zT)
 | [],_=>rfl
 | c :: cs,h=>by
  rw [cL,am] at h
  have ih:=J8 h.2
  show (match ux (cs.map fun c=>T.str (zT c)) with | some ys=>some (zT c :: ys) | none=>none)=_
  rw [ih]; rfl
theorem ui (t:T) (ht:sOk t):f_l [t]= .ok (.bl (UP t)):=by
 have e:f_l [t]=zh (b_l f_7 f_o [.vl t, .un]):=rfl
 rw [e,b_l]
 simp only [wg,uh,UN,J7,Wp,jD,v0,Zt,bOk]
 rw [show f_7 [t, .int 1, .int 4]= .ok (.bl (uf 1 4 t)) from Z7 t 1 4]
 simp only [bOk,wj]
 cases t with
 | tup cs=>
  have hl:uf 1 4 (.tup cs)=(decide (1<=cs.length) && decide (cs.length<=4)):=rfl
  rw [hl]
  show _=R.ok (T.bl (decide (1<=cs.length) && decide (cs.length<=4) && cs.all zw && decide ((dd [] (cs.map zT)).length=cs.length)))
  cases h14:(decide (1<=cs.length) && decide (cs.length<=4)) with
  | false=>rfl
  | true=>
   rw [am,decide_eq_true_eq,decide_eq_true_eq] at h14
   have hb:cs.length<=bnd:=aE h14.2 (by decide)
   have ec:Zi (zY 0) Zz (zb 1 f_o (z9 (vE 0) zc)) 1 [] [.vl (.tup cs), .un] cs= .ok (cs.map fun c=>T.bl (zw c)):=
    zX (h:=fun c=>T.bl (zw c)) cs hb fun c hc=>by
     show zb 1 f_o (z9 (vE 0) zc) [.vl c]=_
     rw [Z4,v0,bOk]
     exact UM c (j7 (Jv ht) hc)
   simp only [dY,bi,if_false,ZV,ZC,wk,v0,bOk,jl,ec]
   have ea:YA (.lst (cs.map fun c=>T.bl (zw c)))= .ok (.bl (cs.all zw)):=by
    show (match wy (cs.map fun c=>T.bl (zw c)) with | some k=>R.ok (T.bl k) | none=> .bad)=_
    rw [jv]
   rw [ea]
   simp only [bOk,wj,jC]
   cases hall:cs.all zw with
   | false=>rfl
   | true=>
    have ew:Zi (zY 0) Zz (zf ixT (vE 0) (cE (.int 0))) 1 [] [.vl (.tup cs), .un] cs= .ok (cs.map fun c=>T.str (zT c)):=
     zX (h:=fun c=>T.str (zT c)) cs hb fun c hc=>by
      obtain ⟨w,n,rfl⟩:=wl (aX.mp hall c hc)
      rfl
    simp only [dY,bi,if_false,nxS,UO,ZC,wk,v0,bOk,jl,ew,jC,J6]
    show zh (((yV (.lst (cs.map fun c=>T.str (zT c)))).bind fun x=>(Zc (.lst (cs.map fun c=>T.str (zT c)))).bind fun y=>(eqC x y).bind fun b=>R.ok (T.bl b)).s fun t=> .rt t)=_
    have el:yV (.lst (cs.map fun c=>T.str (zT c)))= .ok (.int (dd [] (cs.map zT)).length):=by
     show (match ux (cs.map fun c=>T.str (zT c)) with | some ys=>if (cs.map fun c=>T.str (zT c)).length+1 < 4096 then R.ok (T.int (dd [] ys).length) else .bad | none=> .bad)=_
     rw [J8 hall]
     exact if_pos (by rw [ao]; omega)
    rw [el,UL,ao,J4]
    show R.ok (T.bl (((dd [] (cs.map zT)).length:Int) == (cs.length:Int)))=_
    congr 2
    by_cases hq:(dd [] (cs.map zT)).length=cs.length
    ·rw [decide_eq_true hq,hq]; simp
    ·rw [decide_eq_false hq]
     simp only [Bool.true_and,beq_eq_false_iff_ne]
     omega
 | _=>rfl
def isS (w:Str):T->Bool
 | .str s=>s == w
 | _=>false
theorem eqS (h:T) (w:Str):eqC h (.str w)= .ok (isS w h):=by cases h <;> rfl
theorem eqI (i j:Int):eqC (.int i) (.int j)= .ok (i == j):=rfl
theorem at0 {h:T} {r:List T}:ixT (.tup (h :: r)) (.int 0)= .ok h:=by
 show atT (h :: r) 0=_
 unfold atT
 rw [show atI (h :: r) 0=some h from Zw (j:=0) rfl]
theorem at1 {h a:T} {r:List T}:ixT (.tup (h :: a :: r)) (.int 1)= .ok a:=by
 show atT (h :: a :: r) 1=_
 unfold atT
 rw [show atI (h :: a :: r) 1=some a from Zw (j:=1) rfl]
theorem at2 {h a b:T} {r:List T}:ixT (.tup (h :: a :: b :: r)) (.int 2)= .ok b:=by
 show atT (h :: a :: b :: r) 2=_
 unfold atT
 rw [show atI (h :: a :: b :: r) 2=some b from Zw (j:=2) rfl]
theorem at3 {h a b c:T} {r:List T}:ixT (.tup (h :: a :: b :: c :: r)) (.int 3)= .ok c:=by
 show atT (h :: a :: b :: c :: r) 3=_
 unfold atT
 rw [show atI (h :: a :: b :: c :: r) 3=some c from Zw (j:=3) rfl]
def Jw (k:T->Bool):T->Bool
 | .tup ks=>decide (1<=ks.length) && decide (ks.length<=3) && ks.all k
 | _=>false
def Wq:List T->Bool
 | [a,b]=>jB (-20) 20 a b
 | _=>false
def Yi:List T->Bool
 | [c]=>UP c
 | _=>false
def xO (k:T->Bool):List T->Bool
 | [c]=>Jw k c
 | _=>false
def Yj (k:T->Bool):List T->Bool
 | [c,a,b]=>jB 0 3 a b && k c
 | _=>false
def Yk (k:T->Bool):T->Bool
 | .tup (h :: r)=>if isS "whole" h=true then Wq r else if isS "pick" h=true then Yi r else if isS "row" h=true then xO k r else if isS "many" h=true then Yj k r else false
 | _=>false
def isK:Nat->T->Bool
 | 0,_=>false
 | d+1,t=>Yk (isK d) t
theorem UQ {α:Type} (xs:List α) (n:Nat):((xs.length:Int) == (n:Int))=decide (xs.length=n):=by
 by_cases h:xs.length=n
 ·rw [decide_eq_true h,h]; simp
 ·rw [decide_eq_false h,beq_eq_false_iff_ne]; omega
theorem x6 {f:En->R T} {ρ:En}:WW f ρ=(f ρ).bind fun x=>match x with | .int i=> .ok (.int (-i)) | _=> .bad:=rfl
theorem Zq {i j:Int}:ju (.int i) (.int j)= .ok (.int (i - j)):=rfl
set_option maxHeartbeats 1000000 in
theorem Qz {n:Nat} {d:Nat} {k:T->Bool} (H0:∀ t,sOk t->S_6 n 0 [t, .int d]= .ok (.bl (k t))) (H1:∀ t,sOk t->S_6 n 1 [t, .int d]= .ok (.bl (Jw k t))) (t:T) (ht:sOk t):
  S_6 (n+1) 0 [t, .int ((d+1:Nat):Int)]= .ok (.bl (Yk k t)):=by
 have e:S_6 (n+1) 0 [t, .int ((d+1:Nat):Int)]=zh (b_6 xM (S_6 n 0) f_l (S_6 n 1) [.vl t, .vl (.int ((d+1:Nat):Int))]):=rfl
 have hL:(((d+1:Nat):Int) == 0)=false:=by rw [beq_eq_false_iff_ne]; omega
 have hL1:((d+1:Nat):Int) - 1=(d:Int):=by omega
 rw [e,b_6]
 simp only [wg,uh,UN,J7,Wp,zO,w0,w1,Zt,bOk,eqI,hL,bi,if_false,ZV]
 cases t with
 | tup xs=>
  cases xs with
  | nil=>rfl
  | cons h r=>
   have hs:=Jv ht
   have hm:∀ u∈r,sOk u:=fun u hu=>j7 hs (ah _ hu)
   have z0:(((h :: r).length:Int) == 0)=false:=by rw [beq_eq_false_iff_ne]; simp only [aD]; omega
   have ti:Yz "tuple" (.tup (h :: r))= .ok (.bl true):=rfl
   simp only [ti,bOk,wj,dY,bi,if_false,ug,eqI,z0,jC,nxS,zk,v0,v1,Zt,at0,eqS,J6,wQ,wR,jE,Ju,ZV,w0,ki,Z4,zp,x6,Zq,hL1]
   show _=R.ok (T.bl (if isS "whole" h=true then Wq r else if isS "pick" h=true then Yi r else if isS "row" h=true then xO k r else if isS "many" h=true then Yj k r else false))
   have l3:(((h :: r).length:Int) == 3)=decide ((h :: r).length=3):=UQ (h :: r) 3
   have l2:(((h :: r).length:Int) == 2)=decide ((h :: r).length=2):=UQ (h :: r) 2
   have l4:(((h :: r).length:Int) == 4)=decide ((h :: r).length=4):=UQ (h :: r) 4
   simp only [l2,l3,l4,zV]
   cases isS "whole" h with
   | true=>
    simp only [if_true]
    match r,hm with
    | [],_=>rfl
    | [_],_=>rfl
    | _ :: _ :: _ :: _,_=>simp [Wq,jC,zh]
    | [a,b],_=>
     simp only [at1,at2,bOk,UK]
     rfl
   | false=>
    simp only [bi,if_false,v0,v1,w0,bOk,at0,jC,wQ,wR,ug,eqI,l2,l4,zV,Zq,hL1]
    cases isS "pick" h with
    | true=>
     simp only [if_true]
     match r,hm with
     | [],_=>rfl
     | _ :: _ :: _,_=>simp [Yi,jC,zh]
     | [c],hm=>
      simp only [at1,bOk,ui c (hm c (by simp))]
      rfl
    | false=>
     simp only [bi,if_false,v0,v1,w0,bOk,at0,jC,wQ,wR,ug,eqI,l2,l4,zV,Zq,hL1]
     cases isS "row" h with
     | true=>
      simp only [if_true]
      match r,hm with
      | [],_=>rfl
      | _ :: _ :: _,_=>simp [xO,jC,zh]
      | [c],hm=>
       simp only [at1,bOk,H1 c (hm c (by simp))]
       rfl
     | false=>
      simp only [bi,if_false,v0,v1,w0,bOk,at0,jC,wQ,wR,ug,eqI,l2,l4,zV,Zq,hL1]
      cases isS "many" h with
      | true=>
       simp only [if_true]
       match r,hm with
       | [],_=>rfl
       | [_],_=>rfl
       | [_,_],_=>rfl
       | _ :: _ :: _ :: _ :: _,_=>simp [Yj,jC,zh]
       | [c,a,b],hm=>
        simp only [at1,at2,at3,bOk,UK,H0 c (hm c (by simp)),zV]
        show zh (match (if jB 0 3 a b=true then R.ok (T.bl (k c)) else .ok (.bl false)).s (fun t=>RS.rt t) with | .nx _=>RS.rt (T.bl false) | r=>r)=R.ok (T.bl (jB 0 3 a b && k c))
        cases jB 0 3 a b <;> rfl
      | false=>rfl
 | _=>rfl
theorem x8 {n:Nat} {d:Nat} {k:T->Bool} (H0:∀ t,sOk t->S_6 n 0 [t, .int d]= .ok (.bl (k t))) (t:T) (ht:sOk t):S_6 (n+1) 1 [t, .int d]= .ok (.bl (Jw k t)):=by
 have e:S_6 (n+1) 1 [t, .int d]=zh (b_x f_7 (S_6 n 0) [.vl t, .vl (.int d)]):=rfl
 rw [e,b_x]
 simp only [J6,J4,wQ,wR,jE,jD,v0,Zt,bOk]
 rw [show f_7 [t, .int 1, .int 3]= .ok (.bl (uf 1 3 t)) from Z7 t 1 3,zV]
 cases t with
 | tup ks=>
  show (if (decide (1<=ks.length) && decide (ks.length<=3))=true then _ else _)=R.ok (T.bl (decide (1<=ks.length) && decide (ks.length<=3) && ks.all k))
  cases h13:(decide (1<=ks.length) && decide (ks.length<=3)) with
  | false=>rfl
  | true=>
   rw [am,decide_eq_true_eq,decide_eq_true_eq] at h13
   have hb:ks.length<=bnd:=aE h13.2 (by decide)
   have ec:Zi (zY 0) Zz (zb 2 (S_6 n 0) (z9 (vE 0) (z9 (vE 1) zc))) 1 [1] [.vl (.tup ks), .vl (.int d)] ks= .ok (ks.map fun c=>T.bl (k c)):=
    zX (h:=fun c=>T.bl (k c)) ks hb fun c hc=>by
     show zb 2 (S_6 n 0) (z9 (vE 0) (z9 (vE 1) zc)) [.vl c, .vl (.int d)]=_
     rw [zp,v0,v1,bOk,bOk]
     exact H0 c (j7 (Jv ht) hc)
   simp only [if_true,ZV,ZC,wk,v0,bOk,jl,ec]
   show (match wy (ks.map fun c=>T.bl (k c)) with | some k=>R.ok (T.bl k) | none=> .bad)=_
   rw [jv]
   rfl
 | _=>rfl
theorem wS:∀ (d n:Nat),2*d+1<=n->∀ t,sOk t->S_6 n 0 [t, .int d]= .ok (.bl (isK d t))
 | 0,n+1,_,t,_=>rfl
 | d+1,n+2,h,t,ht=>Qz (n:=n+1) (fun u hu=>wS d (n+1) (by omega) u hu) (fun u hu=>x8 (fun v hv=>wS d n (by omega) v hv) u hu) t ht
theorem uj (t:T) (ht:sOk t):f_2 [t]= .ok (.bl (isK 3 t)):=by
 have e:f_2 [t]=zh (b_2 (f_6 20) [.vl t]):=rfl
 rw [e,b_2]
 simp only [J6,J4,wQ,wR,zp,v0,Zt,bOk]
 exact wS 3 20 (by omega) t ht
def inR (lo hi:Int):T->Bool
 | .int i=>decide (lo<=i) && decide (i<=hi)
 | _=>false
theorem wm:∀ (ws acc:List Str),(dd acc ws).length<=acc.length+ws.length
 | [],acc=>ag _
 | w :: ws,acc=>by
  unfold dd
  have:=wm ws (if w∈acc then acc else acc++[w])
  by_cases h:w∈acc
  ·rw [if_pos h] at this ⊢; simp only [aD]; omega
  ·rw [if_neg h] at this ⊢; rw [aF,aJ] at this; simp only [aD]; omega
theorem UR:∀ (ws acc:List Str),((dd acc ws).length=acc.length+ws.length)↔∀ (k:Nat) (w:Str),ws[k]? =some w->w ∉ acc++ws.take k
 | [],acc=>by simp [dd]
 | w :: ws,acc=>by
  unfold dd
  by_cases h:w∈acc
  ·rw [if_pos h]
   have:=wm ws acc
   constructor
   ·intro e; simp only [aD] at e; omega
   ·intro H; exact absurd (bW _ h) (H 0 w rfl)
  ·rw [if_neg h]
   have ih:=UR ws (acc++[w])
   rw [aF,aJ] at ih
   rw [show acc.length+(w :: ws).length=acc.length+1+ws.length by simp only [aD]; omega,ih]
   constructor
   ·intro H k v e
    cases k with
    | zero=>simp at e; subst e; simpa using h
    | succ k=>
     have:=H k v (by simpa using e)
     simpa [db] using this
   ·intro H k v e
    have:=H (k+1) v (by simpa using e)
    simpa [db] using this
theorem v2 {t:T} {a b:Sl} {ρ:En}:vE 2 (a :: b :: .vl t :: ρ)= .ok t:=rfl
theorem v3 {t:T} {a b c:Sl} {ρ:En}:vE 3 (a :: b :: c :: .vl t :: ρ)= .ok t:=rfl
theorem w2 {t:T} {a b:Sl} {ρ:En}:vB 2 (a :: b :: .vl t :: ρ)= .ok t:=rfl
theorem w3 {t:T} {a b c:Sl} {ρ:En}:vB 3 (a :: b :: c :: .vl t :: ρ)= .ok t:=rfl
theorem v4 {t:T} {a b c d:Sl} {ρ:En}:vE 4 (a :: b :: c :: d :: .vl t :: ρ)= .ok t:=rfl
theorem QA (f g:En->R Bool) (ρ:En):vR f g ρ=(f ρ).bind fun x=>if x=true then g ρ else .ok false:=rfl
theorem ZO (i j:Int):zQ (.int i) (.int j)= .ok (.int (i+j)):=rfl
theorem kj {f g:En->R T} {ρ:En} {x y:T} (hf:f ρ= .ok x) (hg:g ρ= .ok y):Z0 (z9 f (z9 g zc)) ρ= .ok (.tup [x,y]):=by
 unfold Z0 z9 zc
 rw [hf,hg]; rfl
def Dst (ws:List Str):Prop:=∀ (k:Nat) (w:Str),ws[k]? =some w->w ∉ ws.take k
theorem xa (c:Int) (j:Int) (hc:JL c j):Zn (.int c) (.int j)= .ok (.int (c*j)):=by
 show (if JL c j then R.ok (T.int (c*j)) else .bad)=_
 rw [if_pos hc]
mutual
def dep:T->Nat
 | .tup xs=>yx xs+1
 | .lst xs=>yx xs+1
 | _=>1
def yx:List T->Nat
 | []=>0
 | t :: ts=>max (dep t) (yx ts)
end
mutual
def siz:T->Nat
 | .tup xs=>yy xs+1
 | .lst xs=>yy xs+1
 | _=>1
def yy:List T->Nat
 | []=>0
 | t :: ts=>siz t+yy ts
end
theorem Wr {w:Str} {t:T} (h:isS w t=true):t= .str w:=by
 cases t with
 | str s=>
  have:(s == w)=true:=h
  rw [eq_of_beq this]
 | _=>cases h
theorem US {lo hi:Int} {t:T} (h:inR lo hi t=true):∃ i,t= .int i:=by
 cases t with
 | int i=>exact ⟨i,rfl⟩
 | _=>cases h
theorem Ws {lo hi:Int} {a b:T} (h:jB lo hi a b=true):∃ i j,a= .int i/\b= .int j:=by
 cases a with
 | int i=>
  cases b with
  | int j=>exact ⟨i,j,rfl,rfl⟩
  | _=>cases h
 | _=>cases h
structure Fit (D S:Nat) (t:T):Prop where
 so:sOk t
 dp:dep t<=D
 sz:siz t<=S
theorem uk {c:T} (h:zw c=true):Fit 2 3 c:=by
 unfold zw at h
 split at h
 ·rename_i w i
  have hw:ZN w=true:=by
   rw [am,am] at h
   exact h.1.1
  cases w with
  | str x=>
   have hx:(decide (1<=x.length) && decide (x.length<=3) && x.cps.toList.all ZB)=true:=hw
   rw [am,am,decide_eq_true_eq,decide_eq_true_eq] at hx
   refine ⟨?_, ?_, ?_⟩
   ·simp only [sOk,wA,and_true]
    exact aE hx.1.2 (by decide)
   ·simp [dep,yx]
   ·simp [siz,yy]
  | _=>cases hw
 ·cases h
theorem km {D S:Nat}:∀ {cs:List T},(∀ c∈cs,Fit D S c)->wA cs/\yx cs<=D/\yy cs<=S*cs.length
 | [],_=>⟨by simp only [wA],bI _,bI _⟩
 | c :: cs,h=>by
  obtain ⟨a,b,d⟩:=km (cs:=cs) fun x hx=>h x (ah _ hx)
  obtain ⟨x,y,z⟩:=h c av
  refine ⟨?_, ?_, ?_⟩
  ·simp only [wA]; exact ⟨x,a⟩
  ·simp only [yx]; omega
  ·simp only [yy,aD,Nat.mul_add,Nat.mul_one]; omega
theorem jw:∀ (d:Nat) (t:T),isK d t=true->Fit (2*d+2) (15*4 ^ d) t
 | 0,_,h=>by cases h
 | d+1,t,h=>by
  have hpow:4 ^ (d+1)=4*4 ^ d:=by rw [dI,bG]
  have hone:1<=4 ^ d:=Nat.pow_pos (by omega)
  have h:Yk (isK d) t=true:=h
  unfold Yk at h
  split at h
  ·rename_i hd r
   split at h
   ·rename_i e
    rw [Wr e]
    unfold Wq at h
    split at h
    ·obtain ⟨i,j,rfl,rfl⟩:=Ws h
     refine ⟨by simp only [sOk,wA,and_true]; decide,by simp only [dep,yx]; omega,by simp only [siz,yy]; omega⟩
    ·cases h
   ·split at h
    ·rename_i e
     rw [Wr e]
     unfold Yi at h
     split at h
     ·rename_i c
      unfold UP at h
      split at h
      ·rename_i cs
       rw [am,am,am,decide_eq_true_eq,decide_eq_true_eq] at h
       obtain ⟨a,b,z⟩:=km (D:=2) (S:=3) (cs:=cs) fun c hc=>uk (aX.mp h.1.2 c hc)
       refine ⟨by simp only [sOk,wA,and_true]; exact ⟨by decide,a⟩,by simp only [dep,yx]; omega,by simp only [siz,yy]; omega⟩
      ·cases h
     ·cases h
    ·split at h
     ·rename_i e
      rw [Wr e]
      unfold xO at h
      split at h
      ·rename_i c
       unfold Jw at h
       split at h
       ·rename_i cs
        rw [am,am,decide_eq_true_eq,decide_eq_true_eq] at h
        obtain ⟨a,b,z⟩:=km (D:=2*d+2) (S:=15*4 ^ d) (cs:=cs) fun c hc=>jw d c (aX.mp h.2 c hc)
        have:15*4 ^ d*cs.length<=15*4 ^ d*3:=Nat.mul_le_mul_left _ h.1.2
        refine ⟨by simp only [sOk,wA,and_true]; exact ⟨by decide,a⟩,by simp only [dep,yx]; omega,by simp only [siz,yy]; omega⟩
       ·cases h
      ·cases h
     ·split at h
      ·rename_i e
       rw [Wr e]
       unfold Yj at h
       split at h
       ·rename_i c a b
        rw [am] at h
        obtain ⟨i,j,rfl,rfl⟩:=Ws h.1
        obtain ⟨x,y,z⟩:=jw d c h.2
        refine ⟨by simp only [sOk,wA,and_true]; exact ⟨by decide,x⟩,by simp only [dep,yx]; omega,by simp only [siz,yy]; omega⟩
       ·cases h
      ·cases h
  ·cases h
theorem UT {xs:List T} {j:Nat} {x:T} (h:xs[j]? =some x):ixT (.lst xs) (.int (j:Int))= .ok x:=by
 show atT xs j=_
 unfold atT
 rw [Zw h]
inductive Kd where
 | whole (lo hi:Int)
 | pick (cs:List (Str×Int))
 | row (ks:List Kd)
 | many (k:Kd) (lo hi:Nat)
def wB (c:Str×Int):T:= .tup [.str c.1, .int c.2]
mutual
def Kd.t:Kd->T
 | .whole lo hi=> .tup [.str "whole", .int lo, .int hi]
 | .pick cs=> .tup [.str "pick", .tup (cs.map wB)]
 | .row ks=> .tup [.str "row", .tup (Kd.ts ks)]
 | .many k lo hi=> .tup [.str "many",k.t, .int (lo:Int), .int (hi:Int)]
def Kd.ts:List Kd->List T
 | []=>[]
 | k :: ks=>k.t :: Kd.ts ks
end
theorem Kd.ts_map:∀ ks:List Kd,Kd.ts ks=ks.map Kd.t
 | []=>by simp only [Kd.ts,aT]
 | k :: ks=>by simp only [Kd.ts,au,Kd.ts_map ks]
def Kd.Ok:Nat->Kd->Prop
 | 0,_=>False
 | _+1, .whole lo hi=> -20<=lo/\lo<=hi/\hi<=20
 | _+1, .pick cs=>1<=cs.length/\cs.length<=4/\(∀ c∈cs,ZN (.str c.1)=true/\1<=c.2/\c.2<=20)/\Dst (cs.map (·.1))
 | d+1, .row ks=>1<=ks.length/\ks.length<=3/\∀ k∈ks,Kd.Ok d k
 | d+1, .many k lo hi=>lo<=hi/\hi<=3/\Kd.Ok d k
def zx (made:List (List T)):List (List T)->List (List T)
 | []=>made
 | ls :: r=>zx (made.flatMap fun a=>ls.map fun x=>a++[x]) r
abbrev YS (ls:List (List T)):List T:=(zx [[]] ls).map T.tup
mutual
def Kd.all:Kd->List T
 | .whole lo hi=>(aY (hi+1 - lo).toNat).map fun (i:Nat)=>T.int (lo+(i:Int))
 | .pick cs=>cs.map fun c=>T.str c.1
 | .row ks=>YS (Kd.alls ks)
 | .many k lo hi=>(aY (hi+1 - lo)).flatMap fun i=>YS (ad (lo+i) k.all)
def Kd.alls:List Kd->List (List T)
 | []=>[]
 | k :: ks=>k.all :: Kd.alls ks
end
theorem Kd.alls_map:∀ ks:List Kd,Kd.alls ks=ks.map Kd.all
 | []=>by simp only [Kd.alls,aT]
 | k :: ks=>by simp only [Kd.alls,au,Kd.alls_map ks]
def prd:List Nat->Nat
 | []=>1
 | n :: r=>n*prd r
theorem Jx:∀ {ns:List Nat},(∀ n∈ns,1<=n)->1<=prd ns
 | [],_=>ag _
 | n :: ns,h=>fU (h n av) (Jx fun m hm=>h m (ah _ hm))
theorem Wt {α β:Type} (f:α->List β) (n:Nat):∀ as:List α,(∀ a∈as,(f a).length=n)->(as.flatMap f).length=as.length*n
 | [],_=>by simp
 | a :: as,h=>by
  rw [cB,aF,h a av,Wt f n as fun b hb=>h b (ah _ hb),aD,Nat.add_mul,ck,Nat.add_comm]
theorem jF:∀ (ls:List (List T)) (made:List (List T)),(zx made ls).length=made.length*prd (ls.map (·.length))
 | [],made=>by simp [zx,prd]
 | l :: ls,made=>by
  rw [zx,jF ls,Wt _ l.length made fun a _=>ao ..,au,prd,cN]
theorem ZW (n:Nat):∀ m:Nat,prd (ad m n)=n ^ m
 | 0=>rfl
 | m+1=>by rw [aL,prd,ZW n m,dI,bG]
theorem Jy (ls:List (List T)):(YS ls).length=prd (ls.map (·.length)):=by
 unfold YS
 rw [ao,jF,aJ,ck]
def pw (n lo hi:Nat):Nat:=((aY (hi+1 - lo)).map fun i=>n ^ (lo+i)).sum
theorem ZI (k:Kd) (lo hi:Nat):(Kd.many k lo hi).all.length=pw k.all.length lo hi:=by
 rw [Kd.all,List.length_flatMap,pw]
 congr 1
 refine bP fun i _=> ?_
 rw [Jy,aQ,ZW]
theorem ZX (ks:List Kd):(Kd.row ks).all.length=prd (ks.map fun k=>k.all.length):=by
 rw [Kd.all,Jy,Kd.alls_map,br]; rfl
theorem Z8 (lo hi:Int):(Kd.whole lo hi).all.length=(hi+1 - lo).toNat:=by
 rw [Kd.all,ao,dj]
theorem Jz (cs:List (Str×Int)):(Kd.pick cs).all.length=cs.length:=by
 rw [Kd.all,ao]
theorem QB {lo hi:Nat} (h:lo<=hi) (h3:hi<=3):(lo=0/\hi=0)\/(lo=0/\hi=1)\/(lo=0/\hi=2)\/(lo=0/\hi=3)\/(lo=1/\hi=1)\/(lo=1/\hi=2)\/(lo=1/\hi=3)\/(lo=2/\hi=2)\/(lo=2/\hi=3)\/(lo=3/\hi=3):=by omega
def iv (b:Bool):Nat:=if b then 1 else 0
theorem xb (n:Nat) {lo hi:Nat} (h:lo<=hi) (h3:hi<=3):pw n lo hi=iv (lo == 0)+n*iv (decide (lo<=1) && decide (1<=hi))+n*n*iv (decide (lo<=2) && decide (2<=hi))+n*n*n*iv (hi == 3):=by
 rcases QB h h3 with ⟨rfl,rfl⟩ | ⟨rfl,rfl⟩ | ⟨rfl,rfl⟩ | ⟨rfl,rfl⟩ | ⟨rfl,rfl⟩ | ⟨rfl,rfl⟩ | ⟨rfl,rfl⟩ | ⟨rfl,rfl⟩ | ⟨rfl,rfl⟩ | ⟨rfl,rfl⟩ <;>
  simp [pw,gT,iv,dI]
 all_goals omega
theorem xg {n:Nat} (hn:1<=n) {lo hi:Nat} (h:lo<=hi) (h3:hi<=3):1<=pw n lo hi:=by
 have h2:1<=n*n:=fU hn hn
 have h1:1<=n*n*n:=fU h2 hn
 rw [xb n h h3]
 rcases QB h h3 with ⟨rfl,rfl⟩ | ⟨rfl,rfl⟩ | ⟨rfl,rfl⟩ | ⟨rfl,rfl⟩ | ⟨rfl,rfl⟩ | ⟨rfl,rfl⟩ | ⟨rfl,rfl⟩ | ⟨rfl,rfl⟩ | ⟨rfl,rfl⟩ | ⟨rfl,rfl⟩ <;>
  simp [iv] <;> omega
theorem kn {n N:Nat} (hn:n<=N) {lo hi:Nat} (h:lo<=hi) (h3:hi<=3):pw n lo hi<=1+N+N*N+N*N*N:=by
 have h2:n*n<=N*N:=eZ hn hn
 have h1:n*n*n<=N*N*N:=eZ h2 hn
 rw [xb n h h3]
 rcases QB h h3 with ⟨rfl,rfl⟩ | ⟨rfl,rfl⟩ | ⟨rfl,rfl⟩ | ⟨rfl,rfl⟩ | ⟨rfl,rfl⟩ | ⟨rfl,rfl⟩ | ⟨rfl,rfl⟩ | ⟨rfl,rfl⟩ | ⟨rfl,rfl⟩ | ⟨rfl,rfl⟩ <;>
  simp [iv] <;> omega
theorem YT {N:Nat} (hN:1<=N):∀ (ns:List Nat),(∀ n∈ns,n<=N)->prd ns<=N ^ ns.length
 | [],_=>ag _
 | n :: ns,h=>by
  rw [prd,aD,dI,bG]
  exact eZ (YT hN ns fun m hm=>h m (ah _ hm)) (h n av)
theorem Zl:∀ (d:Nat) (k:Kd),k.Ok d->1<=k.all.length
 | 0,_,h=>h.elim
 | d+1, .whole lo hi,h=>by
  obtain ⟨_,h2,_⟩:=h
  rw [Z8]; omega
 | d+1, .pick cs,h=>by
  rw [Jz]; exact h.1
 | d+1, .row ks,h=>by
  rw [ZX]
  refine Jx fun n hn=> ?_
  obtain ⟨k,hk,rfl⟩:=aO.mp hn
  exact Zl d k (h.2.2 k hk)
 | d+1, .many k lo hi,h=>by
  rw [ZI]
  exact xg (Zl d k h.2.2) h.1 h.2.1
def mx:Nat->Nat
 | 0=>0
 | 1=>41
 | d+1=>1+mx d+mx d*mx d+mx d*mx d*mx d
theorem YU (d:Nat):41<=mx (d+1):=by
 induction d with
 | zero=>exact ag _
 | succ d ih=>
  show 41<=1+mx (d+1)+mx (d+1)*mx (d+1)+mx (d+1)*mx (d+1)*mx (d+1)
  omega
theorem UU (d:Nat) (n:Nat) (h:n<=41):n<=mx (d+1):=aE h (YU d)
theorem QC {N m:Nat} (hN:1<=N) (h:m<=3):N ^ m<=1+N+N*N+N*N*N:=by
 have:m=0\/m=1\/m=2\/m=3:=by omega
 rcases this with rfl | rfl | rfl | rfl <;> simp [dI] <;> omega
theorem jG:∀ (d:Nat) (k:Kd),k.Ok d->k.all.length<=mx d
 | 0,_,h=>h.elim
 | d+1, .whole lo hi,h=>by
  obtain ⟨h1,h2,h3⟩:=h
  rw [Z8]; exact UU d _ (by omega)
 | d+1, .pick cs,h=>by
  rw [Jz]; exact UU d _ (aE h.2.1 (by omega))
 | 1, .row ks,h=>by
  obtain ⟨h1,h2,h3⟩:=h
  match ks,h1,h3 with
  | k :: _,_,h3=>exact (h3 k av).elim
 | d+2, .row ks,h=>by
  obtain ⟨h1,h2,h3⟩:=h
  rw [ZX]
  have hp:=aE (by omega:1<=41) (YU d)
  have:=YT hp (ks.map fun k=>k.all.length) fun n hn=>by
   obtain ⟨k,hk,rfl⟩:=aO.mp hn
   exact jG (d+1) k (h3 k hk)
  rw [ao] at this
  exact aE this (QC hp h2)
 | 1, .many k lo hi,h=>h.2.2.elim
 | d+2, .many k lo hi,h=>by
  rw [ZI]
  exact kn (jG (d+1) k h.2.2) h.1 h.2.1
theorem zg {f g:En->RS} {ρ ρ' :En} (h:f ρ= .nx ρ'):zo f g ρ=g ρ' :=by rw [wg,h]
theorem cs0 {x w:Str} {r:List T} {ρ:En}:zJ eqC (zf ixT (vE 0) (cE (.int 0))) (cE (.str w)) (.vl (.tup (.str x :: r)) :: ρ)= .ok (x == w):=by
 rw [zO,zk,v0,bOk,Zt,bOk,at0,bOk,Zt,bOk,eqS]; rfl
theorem yz {a b:T} {r:List T} {ρ:En}:zf ixT (vE 0) (cE (.int 1)) (.vl (.tup (a :: b :: r)) :: ρ)= .ok b:=by
 rw [zk,v0,bOk,Zt,bOk,at1]
theorem Kk {a b c:T} {r:List T} {ρ:En}:zf ixT (vE 0) (cE (.int 2)) (.vl (.tup (a :: b :: c :: r)) :: ρ)= .ok c:=by
 rw [zk,v0,bOk,Zt,bOk,at2]
theorem Kl {a b c d:T} {r:List T} {ρ:En}:zf ixT (vE 0) (cE (.int 3)) (.vl (.tup (a :: b :: c :: d :: r)) :: ρ)= .ok d:=by
 rw [zk,v0,bOk,Zt,bOk,at3]
theorem QD {f:En->R T} {ρ:En} {i:Int} (h:f ρ= .ok (.int i)):zf zQ f (cE (.int 1)) ρ= .ok (.int (i+1)):=by
 rw [zk,h,bOk,Zt,bOk,ZO]
theorem UV {f g:En->R T} {ρ:En} {i j:Int} (hf:f ρ= .ok (.int i)) (hg:g ρ= .ok (.int j)) (h: -1000000 < i/\i < 1000000/\ -1000000 < j/\j < 1000000):jq f g ρ= .ok (rng i (j - i).toNat):=by
 unfold jq
 rw [hf,bOk,hg,bOk]
 exact if_pos h
theorem Wu {x:T} {m:Nat} (h:m<=3):Zn (.lst [x]) (.int (m:Int))= .ok (.lst (ad m [x]).flatten):=by
 unfold Zn
 dsimp only
 have c:0<=(m:Int)/\(m:Int) < 1000000/\[x].length*(m:Int).toNat<=bnd:=by
  have hb:3<=bnd:=by decide
  refine ⟨by omega,by omega, ?_⟩
  rw [aJ,bZ,ck]
  exact aE h hb
 rw [if_pos c,bZ]
theorem j8 {α:Type} (x:α):∀ m:Nat,(ad m [x]).flatten=ad m x
 | 0=>rfl
 | m+1=>by rw [aL,aL,bN,j8 x m]; rfl
theorem xP {f:En->R T} {ρ:En} {x:T} (hf:f ρ= .ok x):jt (z9 f zc) ρ= .ok (.lst [x]):=by
 unfold jt z9 zc
 rw [hf]; rfl
theorem QE {g:En->R Bool} {f1 f2:En->RS} {ρ:En} (h:g ρ= .ok true):ifS g f1 f2 ρ=f1 ρ:=by rw [uh,h,jC,if_pos rfl]
theorem gX {g:En->R Bool} {f1 f2:En->RS} {ρ:En} (h:g ρ= .ok false):ifS g f1 f2 ρ=f2 ρ:=by rw [uh,h,jC,if_neg aB]
theorem ZK {g:En->R Bool} {f1:En->RS} {ρ:En} (h:g ρ= .ok false):ifS g f1 nxS ρ= .nx ρ:=by rw [gX h]; rfl
theorem Z9 {i:Nat} {f:En->R T} {ρ:En} {t:T} (h:f ρ= .ok t):zF i f ρ= .nx (ρ.set i (.vl t)):=by rw [UO,h,jC]
theorem zu {f:En->R T} {ρ:En} {t:T} (h:f (frz ρ)= .ok t):zv f ρ= .rt t:=by rw [J6,h,jC]
theorem wn {g:T->En->R En} {fb:En->RS} {t:T} {ts:List T} {ρ ρ1 ρ2:En} (hg:g t ρ= .ok ρ1) (hb:fb ρ1= .nx ρ2):ZZ g fb (t :: ts) ρ=ZZ g fb ts ρ2:=by
 rw [ZZ,hg]
 dsimp only
 rw [hb]
theorem Zr {f g:En->RS} {ρ:En} {t:T} (h:f ρ= .rt t):zo f g ρ= .rt t:=by rw [wg,h]
theorem UW {i j:Nat} (h:i < 2 ^ 60):Zn (.int (i:Int)) (.int (j:Int))= .ok (.int ((i*j:Nat):Int)):=by
 rw [xa _ _ (.inl ⟨by omega,by omega⟩),fY]
theorem xh {d n:Nat} (h:n<=mx d) (hd:d<=3):n < 2 ^ 60:=by
 have:d=0\/d=1\/d=2\/d=3:=by omega
 have h3:mx 3 < 2 ^ 60:=by decide
 have h2:mx 2 < 2 ^ 60:=by decide
 have h1:mx 1 < 2 ^ 60:=by decide
 have h0:mx 0 < 2 ^ 60:=by decide
 rcases this with rfl | rfl | rfl | rfl <;> omega
theorem xi (a b:Nat):decide ((a:Int)<=(b:Int))=decide (a<=b):=by
 by_cases h:a<=b
 ·rw [decide_eq_true h]; exact decide_eq_true (by omega)
 ·rw [decide_eq_false h]; exact decide_eq_false (by omega)
abbrev mt (t:T) (lo hi:Nat):T:= .tup [.str "many",t, .int (lo:Int), .int (hi:Int)]
mutual
def Kd.has:Kd->T->Bool
 | .whole lo hi=>fun t=>inR lo hi t
 | .pick cs=>fun t=>match t with | .str x=>cs.any fun c=>c.1 == x | _=>false
 | .row ks=>fun t=>match t with | .tup xs=>xs.length == ks.length && Kd.hass ks xs | _=>false
 | .many k lo hi=>fun t=>match t with | .tup xs=>decide (lo<=xs.length) && decide (xs.length<=hi) && xs.all k.has | _=>false
def Kd.hass:List Kd->List T->Bool
 | []=>fun _=>true
 | k :: ks=>fun xs=>match xs with | []=>true | x :: xs=>k.has x && Kd.hass ks xs
end
theorem Wv:∀ (ks:List Kd) (xs:List T),Kd.hass ks xs=(ks.zip xs).all fun q=>q.1.has q.2
 | [],_=>by simp [Kd.hass]
 | k :: ks,[]=>by simp [Kd.hass]
 | k :: ks,x :: xs=>by simp [Kd.hass,Wv ks xs]
def ul:List (List T)->List T->Prop
 | [],[]=>True
 | l :: ls,x :: xs=>x∈l/\ul ls xs
 | _,_=>False
theorem jH:∀ (ls made:List (List T)) (xs:List T),xs∈zx made ls↔∃ a∈made,∃ b,ul ls b/\xs=a++b
 | [],made,xs=>by
  rw [zx]
  constructor
  ·exact fun h=>⟨xs,h,[],trivial,by simp⟩
  ·rintro ⟨a,ha,b,hb,rfl⟩
   cases b with
   | nil=>simpa using ha
   | cons=>exact hb.elim
 | l :: ls,made,xs=>by
  rw [zx,jH ls]
  constructor
  ·rintro ⟨a',ha',b,hb,rfl⟩
   obtain ⟨a,ha,hx⟩:=cF.mp ha'
   obtain ⟨x,hl,e⟩:=aO.mp hx
   exact ⟨a,ha,x :: b,⟨hl,hb⟩,by rw [← e]; simp⟩
  ·rintro ⟨a,ha,b,hb,rfl⟩
   cases b with
   | nil=>exact hb.elim
   | cons x b=>exact ⟨a++[x],cF.mpr ⟨a,ha,aO.mpr ⟨x,hb.1,rfl⟩⟩,b,hb.2,by simp⟩
theorem JA (ls:List (List T)) (t:T):t∈YS ls↔∃ xs,ul ls xs/\t= .tup xs:=by
 unfold YS
 rw [aO]
 constructor
 ·rintro ⟨xs,h,rfl⟩
  obtain ⟨a,ha,b,hb,rfl⟩:=(jH ls [[]] xs).mp h
  rw [a_.mp ha]
  exact ⟨b,hb,rfl⟩
 ·rintro ⟨xs,h,rfl⟩
  exact ⟨xs,(jH ls [[]] xs).mpr ⟨[],a_.mpr rfl,xs,h,rfl⟩,rfl⟩
theorem JB (l:List T):∀ (m:Nat) (xs:List T),ul (ad m l) xs↔xs.length=m/\∀ x∈xs,x∈l
 | 0,[]=>by simp [ul]
 | 0,x :: xs=>by simp [ul]
 | m+1,[]=>by simp [ul,aL]
 | m+1,x :: xs=>by
  rw [aL]
  show x∈l/\ul _ xs↔_
  rw [JB l m xs]
  simp
  constructor
  ·rintro ⟨a,b,c⟩; exact ⟨b,a,c⟩
  ·rintro ⟨a,b,c⟩; exact ⟨b,a,c⟩
theorem wo:∀ (ks:List Kd),(∀ k∈ks,∀ x,x∈k.all↔k.has x=true)->∀ xs,ul (ks.map Kd.all) xs↔(xs.length == ks.length && Kd.hass ks xs)=true
 | [],_,[]=>by simp [ul,Kd.hass]
 | [],_,x :: xs=>by simp [ul]
 | k :: ks,h,[]=>by simp [ul]
 | k :: ks,h,x :: xs=>by
  show x∈k.all/\ul (ks.map Kd.all) xs↔_
  rw [wo ks (fun k' hk' =>h k' (ah _ hk')) xs,h k av x]
  simp [Kd.hass]
  constructor
  ·rintro ⟨a,b,c⟩; exact ⟨b,a,c⟩
  ·rintro ⟨a,b,c⟩; exact ⟨b,a,c⟩
mutual
theorem jj:∀ (k:Kd) (x:T),x∈k.all↔k.has x=true
 | .whole lo hi,x=>by
  rw [Kd.all,Kd.has,aO]
  constructor
  ·rintro ⟨i,hi',rfl⟩
   rw [aW] at hi'
   simp [inR]; omega
  ·intro h
   obtain ⟨i,rfl⟩:=US h
   simp [inR] at h
   exact ⟨(i - lo).toNat,by rw [aW]; omega,by congr 1; omega⟩
 | .pick cs,x=>by
  rw [Kd.all,Kd.has,aO]
  constructor
  ·rintro ⟨c,hc,rfl⟩
   simp only [fS]
   exact ⟨c,hc,by simp⟩
  ·intro h
   dsimp only at h
   split at h
   ·rw [fS] at h
    obtain ⟨c,hc,e⟩:=h
    exact ⟨c,hc,by rw [eq_of_beq e]⟩
   ·cases h
 | .row ks,x=>by
  rw [Kd.all,Kd.has,JA,Kd.alls_map]
  have:=wo ks (Ww ks)
  constructor
  ·rintro ⟨xs,h,rfl⟩
   exact (this xs).mp h
  ·intro h
   dsimp only at h
   split at h
   ·rename_i xs
    exact ⟨xs,(this xs).mpr h,rfl⟩
   ·cases h
 | .many k lo hi,x=>by
  rw [Kd.all,Kd.has,cF]
  constructor
  ·rintro ⟨i,hi',h⟩
   rw [JA] at h
   obtain ⟨xs,h,rfl⟩:=h
   rw [JB] at h
   rw [aW] at hi'
   simp only [am,decide_eq_true_eq,aX]
   exact ⟨⟨by omega,by omega⟩,fun y hy=>(jj k y).mp (h.2 y hy)⟩
  ·intro h
   dsimp only at h
   split at h
   ·rename_i xs
    simp only [am,decide_eq_true_eq,aX] at h
    refine ⟨xs.length - lo,by rw [aW]; omega, ?_⟩
    rw [JA]
    exact ⟨xs,(JB _ _ _).mpr ⟨by omega,fun y hy=>(jj k y).mpr (h.2 y hy)⟩,rfl⟩
   ·cases h
theorem Ww:∀ (ks:List Kd),∀ k∈ks,∀ x,x∈k.all↔k.has x=true
 | [],_,h=>nomatch h
 | k :: ks,k',h=>by
  rcases ax.mp h with e | h
  ·intro x
   rw [e]
   exact jj k x
  ·exact Ww ks k' h
end
theorem J9 {c:List T->R T}:∀ (qs:List (Kd×T)) (x y:Sl),(∀ q∈qs,c [q.1.t,q.2]= .ok (.bl (q.1.has q.2)))->zR (Z6 0 1) Zz (zb 2 c (z9 (vE 0) (z9 (vE 1) (zc)))) (qs.map fun q=>T.tup [q.1.t,q.2]) [x,y]= .ok (qs.map fun q=>T.bl (q.1.has q.2))
 | [],_,_,_=>rfl
 | q :: qs,x,y,h=>by
  have e:zb 2 c (z9 (vE 0) (z9 (vE 1) (zc))) [.vl q.1.t, .vl q.2]= .ok (.bl (q.1.has q.2)):=by
   rw [zp,v0,bOk,v1,bOk,h q av]
  have ih:=J9 qs (.vl q.1.t) (.vl q.2) fun r hr=>h r (ah _ hr)
  have e0:zR (Z6 0 1) Zz (zb 2 c (z9 (vE 0) (z9 (vE 1) (zc)))) ((q :: qs).map fun q=>T.tup [q.1.t,q.2]) [x,y]=
   (zb 2 c (z9 (vE 0) (z9 (vE 1) (zc))) [.vl q.1.t, .vl q.2]).bind fun v=>(zR (Z6 0 1) Zz (zb 2 c (z9 (vE 0) (z9 (vE 1) (zc)))) (qs.map fun q=>T.tup [q.1.t,q.2]) [.vl q.1.t, .vl q.2]).bind fun vs=> .ok (v :: vs):=rfl
  rw [e0,e,bOk,ih,bOk,au]
theorem Wx {α:Type} (p:α->Bool):∀ qs:List α,wy (qs.map fun q=>T.bl (p q))=some (qs.all p)
 | []=>rfl
 | q :: qs=>by
  have e:wy ((q :: qs).map fun q=>T.bl (p q))=match wy (qs.map fun q=>T.bl (p q)) with | some j=>some (p q && j) | none=>none:=rfl
  rw [e,Wx p qs]
  rfl
theorem xj (ks:List Kd) (xs:List T):yv (ks.map Kd.t) xs=(ks.zip xs).map fun q=>T.tup [q.1.t,q.2]:=by
 unfold yv
 rw [List.zip_map_left,br]
 rfl
theorem Wy {c:List T->R T} {s:T} (ks:List Kd) (xs:List T) (hs:je s= .ok (ks.map Kd.t)) (hl:ks.length<=3) (H:∀ q∈ks.zip xs,c [q.1.t,q.2]= .ok (.bl (q.1.has q.2))):
  zh (b_t c (en0 2 [s, .tup xs]))= .ok (.bl ((ks.zip xs).all fun q=>q.1.has q.2)):=by
 have e:en0 2 [s, .tup xs]=[.vl s, .vl (.tup xs)]:=rfl
 have ez:Vl (vE 0) (vE 1) [.vl s, .vl (.tup xs)]= .ok ((ks.zip xs).map fun q=>T.tup [q.1.t,q.2]):=by
  show (je s).bind _=_
  rw [hs,bOk,← xj]
  rfl
 have hb:((ks.zip xs).map fun q=>T.tup [q.1.t,q.2]).length<=bnd:=by
  rw [ao,List.length_zip]
  exact aE (Nat.min_le_left _ _) (aE hl (by decide))
 have ec:Zi (Z6 0 1) Zz (zb 2 c (z9 (vE 0) (z9 (vE 1) (zc)))) 2 [] [.vl s, .vl (.tup xs)] ((ks.zip xs).map fun q=>T.tup [q.1.t,q.2])= .ok ((ks.zip xs).map fun q=>T.bl (q.1.has q.2)):=by
  unfold Zi
  rw [if_pos hb]
  show quiet (zR _ _ _ _ [.un, .un])=_
  rw [J9 _ _ _ H]
  rfl
 rw [e,b_t,zu (t:= .bl ((ks.zip xs).all fun q=>q.1.has q.2))]
 ·rfl
 ·show ap1 _ _ [.vl s, .vl (.tup xs)]=_
  rw [ZV,ZC,ez,bOk,ec,bOk,bOk]
  show (match wy ((ks.zip xs).map fun q=>T.bl (q.1.has q.2)) with | some k=>_ | none=>_)=_
  rw [Wx]
theorem JC (cs:List (Str×Int)) (h:cs.length<=4):f_b [(Kd.pick cs).t]= .ok (.lst (cs.map fun c=>T.str c.1)):=by
 have e:f_b [(Kd.pick cs).t]=zh (b_b [.vl (.tup [.str "pick", .tup (cs.map wB)])]):=by rw [Kd.t]; rfl
 have hb:(cs.map wB).length<=bnd:=by rw [ao]; exact aE h (by decide)
 have ec:Zi (zY 0) Zz (zf ixT (vE 0) (cE (.int 0))) 1 [] [.vl (.tup [.str "pick", .tup (cs.map wB)])] (cs.map wB)= .ok ((cs.map wB).map fun c=>match c with | .tup (w :: _)=>w | _=>c):=
  zX _ hb fun t ht=>by
   obtain ⟨c,_,rfl⟩:=aO.mp ht
   rfl
 rw [e,b_b,zu (t:= .lst (cs.map fun c=>T.str c.1))]
 ·rfl
 ·show zZ _ _ _ _ _ _ [.vl (.tup [.str "pick", .tup (cs.map wB)])]=_
  rw [ZC,wk,yz,bOk]
  show ((Zi _ _ _ _ _ _ (cs.map wB)).bind _)=_
  rw [ec,bOk,br]
  rfl
theorem Wz (t:T):∀ cs:List (Str×Int),yt (fun y=>eqF 30 y t) (cs.map fun c=>T.str c.1)=some ((Kd.pick cs).has t)
 | []=>by rw [Kd.has]; cases t <;> rfl
 | c :: cs=>by
  have ih:=Wz t cs
  rw [Kd.has] at ih ⊢
  have e:yt (fun y=>eqF 30 y t) ((c :: cs).map fun c=>T.str c.1)=match eqF 30 (.str c.1) t with
   | none=>none
   | some b=>match yt (fun y=>eqF 30 y t) (cs.map fun c=>T.str c.1) with
    | none=>none
    | some d=>some (b || d):=rfl
  rw [e,ih]
  cases t <;> rfl
abbrev en2 (a b:T):En:=[.vl a, .vl b]
theorem uy {x w:Str} {r:List T} {b:T} (h:(x == w)=false) {f:En->RS}:ifS (zJ eqC (zf ixT (vE 0) (cE (.int 0))) (cE (.str w))) f nxS (en2 (.tup (.str x :: r)) b)= .nx (en2 (.tup (.str x :: r)) b):=
 ZK (by rw [cs0,h])
theorem QU {x:Str} {r:List T} {b:T} {f:En->RS}:ifS (zJ eqC (zf ixT (vE 0) (cE (.int 0))) (cE (.str x))) f nxS (en2 (.tup (.str x :: r)) b)=f (en2 (.tup (.str x :: r)) b):=
 QE (by rw [cs0,beq_self_eq_true])
theorem UX {cp:List T->R T} (lo hi:Int) (x:T):zh (b_8 f_d f_7 f_b cp (en0 2 [(Kd.whole lo hi).t,x]))= .ok (.bl ((Kd.whole lo hi).has x)):=by
 have e:en0 2 [(Kd.whole lo hi).t,x]=en2 (.tup [.str "whole", .int lo, .int hi]) x:=by rw [Kd.t]; rfl
 rw [e,b_8,Zr (t:= .bl (inR lo hi x))]
 ·rw [Kd.has]; rfl
 ·rw [QU,zu]
  show jO _ _ (en2 _ x)=_
  rw [jE,Z4,v1,bOk,Wo,zV]
  cases x with
  | int i=>
   rw [show isW (T.int i)=true from rfl,if_pos rfl,x5,yz,bOk,w1,bOk,Qy,bOk,Kk,bOk,Qy,bOk]
   show _=R.ok (T.bl (decide (lo<=i) && decide (i<=hi)))
   cases decide (lo<=i) <;> rfl
  | _=>rfl
theorem Yl {cp:List T->R T} (cs:List (Str×Int)) (h4:cs.length<=4) (x:T):zh (b_8 f_d f_7 f_b cp (en0 2 [(Kd.pick cs).t,x]))= .ok (.bl ((Kd.pick cs).has x)):=by
 have e:en0 2 [(Kd.pick cs).t,x]=en2 (.tup [.str "pick", .tup (cs.map wB)]) x:=by rw [Kd.t]; rfl
 have hw:=JC cs h4
 rw [Kd.t] at hw
 rw [e,b_8,zg (uy (by decide)),Zr (t:= .bl ((Kd.pick cs).has x))]
 ·rfl
 ·rw [QU,zu]
  show U1 _ _ _ (en2 _ x)=_
  rw [Ju,w1,bOk,Z4,v0,bOk,hw,bOk]
  show ((match yt (fun y=>eqF 30 y x) (cs.map fun (c:Str×Int)=>T.str c.1) with | some b=>R.ok b | none=> .bad).bind _)=_
  rw [Wz]
  rfl
theorem QF {cp:List T->R T} (ks:List Kd) (h3:ks.length<=3) (x:T) (H:∀ xs,x= .tup xs->cp [.tup (ks.map Kd.t),x]= .ok (.bl ((ks.zip xs).all fun q=>q.1.has q.2))):zh (b_8 f_d f_7 f_b cp (en0 2 [(Kd.row ks).t,x]))= .ok (.bl ((Kd.row ks).has x)):=by
 have e:en0 2 [(Kd.row ks).t,x]=en2 (.tup [.str "row", .tup (ks.map Kd.t)]) x:=by rw [Kd.t,Kd.ts_map]; rfl
 rw [e,b_8,zg (uy (by decide)),zg (uy (by decide)),Zr (t:= .bl ((Kd.row ks).has x))]
 ·rfl
 ·rw [QU,zu]
  show jO _ _ (en2 _ x)=_
  have el:ap1 Zc (zf ixT (vE 0) (cE (.int 1))) (en2 (.tup [.str "row", .tup (ks.map Kd.t)]) x)= .ok (.int (ks.length:Nat)):=by
   rw [ZV,yz,bOk,ug,ao]
  rw [jE,jD,v1,bOk,el,bOk,bOk,Z7,zV,zp,yz,bOk,v1,bOk,Kd.has]
  cases x with
  | tup xs=>
   rw [H xs rfl]
   show (if (decide (ks.length<=xs.length) && decide (xs.length<=ks.length))=true then _ else _)=R.ok (T.bl (xs.length == ks.length && Kd.hass ks xs))
   rw [Wv]
   by_cases h:xs.length=ks.length
   ·rw [if_pos (by simp [h])]
    simp [h]
   ·rw [if_neg (by simp; omega)]
    simp [h]
  | _=>rfl
theorem UY (k:Kd):∀ xs:List T,((ad xs.length k).zip xs).all (fun q=>q.1.has q.2)=xs.all k.has
 | []=>rfl
 | x :: xs=>by
  rw [aD,aL,List.zip_cons_cons,cL,cL,UY k xs]
theorem Ym {cp:List T->R T} (k:Kd) (lo hi:Nat) (h3:hi<=3) (x:T) (H:∀ xs,x= .tup xs->xs.length<=3->cp [.lst ((ad xs.length k).map Kd.t),x]= .ok (.bl (((ad xs.length k).zip xs).all fun q=>q.1.has q.2))):zh (b_8 f_d f_7 f_b cp (en0 2 [(Kd.many k lo hi).t,x]))= .ok (.bl ((Kd.many k lo hi).has x)):=by
 have e:en0 2 [(Kd.many k lo hi).t,x]=en2 (.tup [.str "many",k.t, .int (lo:Int), .int (hi:Int)]) x:=by rw [Kd.t]; rfl
 rw [e,b_8,zg (uy (by decide)),zg (uy (by decide)),zg (uy (by decide)),zu (t:= .bl ((Kd.many k lo hi).has x))]
 ·rfl
 ·show jO _ _ (en2 _ x)=_
  rw [jE,jD,v1,bOk,Kk,bOk,Kl,bOk,Z7,zV,Kd.has]
  cases x with
  | tup xs=>
   show (if (decide (lo<=xs.length) && decide (xs.length<=hi))=true then _ else _)=R.ok (T.bl (decide (lo<=xs.length) && decide (xs.length<=hi) && xs.all k.has))
   cases hh:(decide (lo<=xs.length) && decide (xs.length<=hi)) with
   | false=>rfl
   | true=>
    rw [am,decide_eq_true_eq,decide_eq_true_eq] at hh
    have hx:xs.length<=3:=by omega
    have em:zf Zn (jt (z9 (zf ixT (vE 0) (cE (.int 1))) (zc))) (ap1 Zc (vB 1)) (en2 (.tup [.str "many",k.t, .int (lo:Int), .int (hi:Int)]) (.tup xs))= .ok (.lst ((ad xs.length k).map Kd.t)):=by
     rw [zk,xP yz,bOk,ZV,w1,bOk,ug,bOk,Wu hx,j8,aQ]
    rw [if_pos rfl,zp,em,bOk,v1,bOk,H xs rfl hx,UY]
    rfl
  | _=>rfl
theorem YV:∀ (d n:Nat),2*d<=n->∀ (k:Kd) (x:T),k.Ok d->S_8 n 0 [k.t,x]= .ok (.bl (k.has x))
 | 0,_,_,_,_,h=>h.elim
 | d+1,n+2,hn,k,x,h=>by
  have ih:=YV d n (by omega)
  have e:S_8 (n+2) 0 [k.t,x]=zh (b_8 f_d f_7 f_b (S_8 (n+1) 1) (en0 2 [k.t,x])):=by rw [S_8]
  have e1:∀ s y,S_8 (n+1) 1 [s,y]=zh (b_t (S_8 n 0) (en0 2 [s,y])):=fun s y=>by rw [S_8]; intro h; cases h
  rw [e]
  cases k with
  | whole lo hi=>exact UX lo hi x
  | pick cs=>exact Yl cs h.2.1 x
  | row ks=>
   refine QF ks h.2.1 x fun xs hx=> ?_
   rw [e1,hx,Wy ks xs rfl h.2.1 fun q hq=>ih q.1 q.2 (h.2.2 q.1 (cy hq).1)]
  | many k lo hi=>
   refine Ym k lo hi h.2.1 x fun xs hx h3=> ?_
   rw [e1,hx,Wy (ad xs.length k) xs rfl (by rw [aU]; exact h3) fun q hq=>ih q.1 q.2 (by
    rw [bK (cy hq).1]; exact h.2.2)]
theorem WA:∀ (d:Nat) (k:Kd),k.Ok d->isK d k.t=true
 | 0,_,h=>h.elim
 | d+1, .whole lo hi,h=>by
  have e:isK (d+1) (Kd.whole lo hi).t=(decide (-20<=lo) && decide (lo<=hi) && decide (hi<=20)):=by rw [Kd.t]; rfl
  obtain ⟨h1,h2,h3⟩:=h
  rw [e]; simp; omega
 | d+1, .pick cs,h=>by
  have e:isK (d+1) (Kd.pick cs).t=(decide (1<=(cs.map wB).length) && decide ((cs.map wB).length<=4) && (cs.map wB).all zw && decide ((dd [] ((cs.map wB).map zT)).length=(cs.map wB).length)):=by rw [Kd.t]; rfl
  obtain ⟨h1,h2,h3,h4⟩:=h
  have e1:(cs.map wB).map zT=cs.map (·.1):=by rw [br]; rfl
  have e2:=(UR (cs.map (·.1)) []).mpr fun k w hw=>by simpa using h4 k w hw
  rw [e,e1,e2,ao,ao]
  simp only [am,decide_eq_true_eq,aX]
  refine ⟨⟨⟨h1,h2⟩,fun c hc=> ?_⟩,by simp⟩
  obtain ⟨p,hp,rfl⟩:=aO.mp hc
  obtain ⟨a,b,c⟩:=h3 p hp
  show (ZN (.str p.1) && decide (1<=p.2) && decide (p.2<=20))=true
  rw [a]; simp; omega
 | d+1, .row ks,h=>by
  have e:isK (d+1) (Kd.row ks).t=(decide (1<=(ks.map Kd.t).length) && decide ((ks.map Kd.t).length<=3) && (ks.map Kd.t).all (isK d)):=by rw [Kd.t,Kd.ts_map]; rfl
  obtain ⟨h1,h2,h3⟩:=h
  rw [e,ao]
  simp only [am,decide_eq_true_eq,aX]
  refine ⟨⟨h1,h2⟩,fun c hc=> ?_⟩
  obtain ⟨k,hk,rfl⟩:=aO.mp hc
  exact WA d k (h3 k hk)
 | d+1, .many k lo hi,h=>by
  have e:isK (d+1) (Kd.many k lo hi).t=((decide ((0:Int)<=(lo:Int)) && decide ((lo:Int)<=(hi:Int)) && decide ((hi:Int)<=3)) && isK d k.t):=by rw [Kd.t]; rfl
  obtain ⟨h1,h2,h3⟩:=h
  rw [e,WA d k h3]; simp; omega
theorem WB:∀ (ks:List Kd) (xs:List T),xs.length=ks.length->Kd.hass ks xs=true->∀ x∈xs,∃ k∈ks,k.has x=true
 | [],[],_,_,_,h=>nomatch h
 | k :: ks,[],h,_,_,_=>by cases h
 | [],x :: xs,h,_,_,_=>by cases h
 | k :: ks,x :: xs,hl,h,y,hy=>by
  rw [Kd.hass] at h
  have h:(k.has x && Kd.hass ks xs)=true:=h
  rw [am] at h
  rcases ax.mp hy with rfl | hy
  ·exact ⟨k,av,h.1⟩
  ·obtain ⟨k',hk,hh⟩:=WB ks xs (by simpa using hl) h.2 y hy
   exact ⟨k',ah _ hk,hh⟩
theorem jo (t:T) (ht:sOk t):f_9 [t]=if isK 3 t=true then .ok .non else .ex 0:=by
 have e:f_9 [t]=zh (b_9 f_2 [.vl t]):=rfl
 have ec:JY (Jl (zb 1 f_2 (z9 (vE 0) (zc)))) [.vl t]= .ok (!isK 3 t):=by
  rw [J7,Wp,Z4,v0,bOk,uj t ht,bOk,wj,bOk]
 rw [e,b_9,uh,ec,jC]
 cases isK 3 t <;> rfl
theorem wT (k:Kd) (hk:k.Ok 3) (x:T):f_q [k.t,x]= .ok (.bl (k.has x)):=by
 have hi:=WA 3 k hk
 have e:f_q [k.t,x]=zh (b_q f_9 (f_8 20) (en2 k.t x)):=rfl
 have e1:jd (zb 1 f_9 (z9 (vE 0) (zc))) (en2 k.t x)= .nx (en2 k.t x):=by
  show (zb 1 _ _ _).s _=_
  rw [Z4,v0,bOk,jo _ (jw 3 _ hi).so,hi,if_pos rfl,jC]
 have hh:f_8 20 [k.t,x]= .ok (.bl (k.has x)):=YV 3 20 (by omega) k x hk
 rw [e,b_q,zg e1,zu (t:= .bl (k.has x))]
 ·rfl
 ·show zb 2 _ _ (en2 k.t x)=_
  rw [zp,v0,bOk,v1,bOk,hh]
theorem xk {f g:En->RS} {ρ:En} {c:Nat} (h:f ρ= .ex c):zo f g ρ= .ex c:=by rw [wg,h]
theorem WC {α β:Type} (f:α->List β) (m:Nat):∀ (as:List α) (i j:Nat),(∀ a∈as,(f a).length=m)->j < m->(as.flatMap f)[i*m+j]? =(as[i]?).bind fun a=>(f a)[j]?
 | [],i,j,_,_=>by simp
 | a :: as,0,j,h,hj=>by
  have ha:=h a av
  rw [cB,Nat.zero_mul,fG,aS (by omega)]
  rfl
 | a :: as,i+1,j,h,hj=>by
  have ha:=h a av
  have e:(i+1)*m=i*m+m:=by rw [Nat.add_mul,ck]
  rw [cB,aP (by omega),ha,e,show i*m+m+j - m=i*m+j by omega,WC f m as i j (fun b hb=>h b (ah _ hb)) hj]
  rfl
theorem wp {α β:Type} (f:α->List β):∀ (as:List α) (q j:Nat) (a:α),as[q]? =some a->j < (f a).length->(as.flatMap f)[((as.take q).map fun b=>(f b).length).sum+j]? =(f a)[j]?
 | [],q,j,a,h,_=>by simp at h
 | b :: as,0,j,a,h,hj=>by
  have e:b=a:=by simpa using h
  subst e
  rw [cB,List.take_zero,aT,List.sum_nil,fG,aS hj]
 | b :: as,q+1,j,a,h,hj=>by
  rw [cB,List.take_succ_cons,au,f9,Nat.add_assoc,aP (by omega),Nat.add_sub_cancel_left]
  exact wp f as q j a (by simpa using h) hj
theorem Ja:∀ (ls made:List (List T)) (l:List T),zx made (ls++[l])=(zx made ls).flatMap fun a=>l.map fun x=>a++[x]
 | [],made,l=>rfl
 | _ :: ls,made,l=>by
  rw [dq,zx,zx,Ja ls]
theorem Zu {ls:List (List T)} {l:List T} {i j:Nat} {xs:List T} {x:T} (h:(zx [[]] ls)[i]? =some xs) (hx:l[j]? =some x):(zx [[]] (ls++[l]))[i*l.length+j]? =some (xs++[x]):=by
 have hj:j < l.length:=(ak.mp hx).1
 rw [Ja,WC _ l.length _ i j (fun a _=>ao ..) hj,h]
 show (l.map fun x=>xs++[x])[j]? =_
 rw [aj,hx]
 rfl
theorem JD:∀ (ns:List Nat) (n:Nat),prd (ns++[n])=prd ns*n
 | [],n=>by simp [prd]
 | m :: ns,n=>by rw [dq,prd,prd,JD ns n,cN]
theorem Z5 (ls:List (List T)):(zx [[]] ls).length=prd (ls.map (·.length)):=by rw [jF,aJ,ck]
theorem Zs {α:Type} {xs:List α} {i:Nat} (h:i < xs.length):∃ x,xs[i]? =some x:=⟨_,aw h⟩
theorem xn {xs:List T} {j:Nat} {v:T} (h:xs[j]? =some v):atT xs (j:Int)= .ok v:=by unfold atT; rw [Zw h]
def shr (c lo q:Nat):Nat:=((aY q).map fun i=>c ^ (lo+i)).sum
theorem WD (c lo q:Nat):shr c lo (q+1)=shr c lo q+c ^ (lo+q):=by
 unfold shr
 rw [gT,cP,List.sum_append]
 simp
theorem WF (c lo hi:Nat):pw c lo hi=shr c lo (hi+1 - lo):=rfl
theorem UZ {k:Kd} {lo hi q j:Nat} {xs:List T} (hq:q < hi+1 - lo) (h:(zx [[]] (ad (lo+q) k.all))[j]? =some xs):(Kd.many k lo hi).all[shr k.all.length lo q+j]? =some (.tup xs):=by
 have hj:=(ak.mp h).1
 have e:=wp (fun i=>YS (ad (lo+i) k.all)) (aY (hi+1 - lo)) q j q (by rw [c7 hq]) (by rw [ao]; exact hj)
 have e2:(((aY (hi+1 - lo)).take q).map fun b=>(YS (ad (lo+b) k.all)).length).sum=shr k.all.length lo q:=by
  rw [List.take_range,Nat.min_eq_left (eL hq),shr]
  congr 1
  refine bP fun i _=> ?_
  rw [Jy,aQ,ZW]
 rw [e2] at e
 rw [Kd.all,e]
 show (List.map T.tup _)[j]? =_
 rw [aj,h]
 rfl
abbrev cpB (c:List T->R T):En->RS:=zF 1 (zf Zn (vE 1) (zb 1 c (z9 (vE 2) (zc))))
theorem y3 {c:List T->R T} {S:Sl}:∀ (ks:List Kd) (m:Nat) (x:Sl),(∀ k∈ks,c [k.t]= .ok (.int (k.all.length:Int))/\1<=k.all.length)->m*prd (ks.map fun k=>k.all.length) < 2 ^ 60->
  ∃ y,ZZ (zY 2) (cpB c) (ks.map Kd.t) [S, .vl (.int (m:Int)),x]= .nx [S, .vl (.int ((m*prd (ks.map fun k=>k.all.length):Nat):Int)),y]
 | [],m,x,_,_=>⟨x,by simp [ZZ,prd]⟩
 | k :: ks,m,x,H,hb=>by
  obtain ⟨hc,h1⟩:=H k av
  have hp:1<=prd (ks.map fun k=>k.all.length):=Jx fun n hn=>by
   obtain ⟨k',hk',rfl⟩:=aO.mp hn
   exact (H k' (ah _ hk')).2
  rw [au,prd,← cN] at hb
  have hm:m < 2 ^ 60:=by
   have h2:m<=m*k.all.length:=ci _ h1
   have h3:m*k.all.length<=m*k.all.length*prd (ks.map fun k=>k.all.length):=ci _ hp
   omega
  have eb:cpB c [S, .vl (.int (m:Int)), .vl k.t]= .nx [S, .vl (.int ((m*k.all.length:Nat):Int)), .vl k.t]:=by
   rw [cpB,Z9 (t:= .int ((m*k.all.length:Nat):Int))]
   ·rfl
   ·rw [zk,v1,bOk,Z4,v2,bOk,hc,bOk,UW hm]
  obtain ⟨y,ih⟩:=y3 (c:=c) (S:=S) ks (m*k.all.length) (.vl k.t) (fun k' hk' =>H k' (ah _ hk')) hb
  refine ⟨y, ?_⟩
  rw [au,wn (ρ1:=[S, .vl (.int (m:Int)), .vl k.t]) rfl eb,ih,au,prd,cN]
theorem jI {c:List T->R T} {s:T} (ks:List Kd) (hs:jl s= .ok (ks.map Kd.t)) (H:∀ k∈ks,c [k.t]= .ok (.int (k.all.length:Int))/\1<=k.all.length) (hb:prd (ks.map fun k=>k.all.length) < 2 ^ 60):
  zh (b_i c (en0 3 [s]))= .ok (.int ((prd (ks.map fun k=>k.all.length):Nat):Int)):=by
 obtain ⟨y,e⟩:=y3 (c:=c) (S:= .vl s) ks 1 .un H (by rw [ck]; exact hb)
 rw [ck] at e
 have e0:zF 1 (cE (.int 1)) [.vl s, .un, .un]= .nx [.vl s, .vl (.int 1), .un]:=rfl
 have e1:W7 (jR (vE 0)) (zY 2) (cpB c) [.vl s, .vl (.int 1), .un]= .nx [.vl s, .vl (.int ((prd (ks.map fun k=>k.all.length):Nat):Int)),y]:=by
  show ((jl s).s fun ts=>ZZ (zY 2) (cpB c) ts [.vl s, .vl (.int 1), .un])=_
  rw [hs,jC]
  exact e
 show zh (b_i c [.vl s, .un, .un])=_
 rw [b_i,zg e0,zg e1]
 rfl
theorem y4 {α:Type} (g:α->Nat):∀ l:List α,jm (l.map fun a=>T.int ((g a:Nat):Int))=some (l.map fun a=>((g a:Nat):Int))
 | []=>rfl
 | a :: l=>by
  show (match jm (l.map fun a=>T.int ((g a:Nat):Int)) with | some l=>some (_ :: l) | none=>none)=_
  rw [y4 g l]; rfl
theorem WG {α:Type} (g:α->Nat):∀ l:List α,(l.map fun a=>((g a:Nat):Int)).sum=(((l.map g).sum:Nat):Int)
 | []=>rfl
 | a :: l=>by rw [au,f9,au,f9,WG g l]; omega
theorem xo {α:Type} (g:α->Nat) (l:List α):xL (.lst (l.map fun a=>T.int ((g a:Nat):Int)))= .ok (.int (((l.map g).sum:Nat):Int)):=by
 unfold xL
 dsimp only
 rw [y4,← WG]
theorem jb (k:Kd) (m:Nat):((ad m k).map fun k=>k.all.length)=ad m k.all.length:=by rw [aQ]
theorem y6 {c:List T->R T} {t:T} {n lo hi q:Nat} (h4:lo+q<=4) (H:∀ m,m<=3->c [.lst (ad m t)]= .ok (.int ((n ^ m:Nat):Int))):
  zh (b_a c (en0 2 [mt t lo hi, .int ((lo+q:Nat):Int)]))= .ok (.int ((shr n lo q:Nat):Int)):=by
 show zh (b_a c [.vl (mt t lo hi), .vl (.int ((lo+q:Nat):Int))])=_
 have er:jq (zf ixT (vE 0) (cE (.int 2))) (vE 1) [.vl (mt t lo hi), .vl (.int ((lo+q:Nat):Int))]= .ok (rng (lo:Int) q):=by
  rw [UV (i:=(lo:Int)) (j:=((lo+q:Nat):Int)) rfl rfl ⟨by omega,by omega,by omega,by omega⟩]
  congr 2; omega
 have ec:Zi (zY 0) Zz (zb 1 c (z9 (zf Zn (jt (z9 (zf ixT (vE 1) (cE (.int 1))) (zc))) (vE 0)) (zc))) 1 [0] [.vl (mt t lo hi), .vl (.int ((lo+q:Nat):Int))] (rng (lo:Int) q)= .ok ((rng (lo:Int) q).map fun x=>match x with | .int i=>T.int ((n ^ i.toNat:Nat):Int) | y=>y):=
  zX _ (by unfold rng; rw [ao,dj]; have:bnd=16777216:=rfl; omega) fun x hx=>by
   unfold rng at hx
   obtain ⟨i,hi',rfl⟩:=aO.mp hx
   have hi2:=aW.mp hi'
   show zb 1 c _ [.vl (.int ((lo:Int)+(i:Int))), .vl (mt t lo hi)]=_
   have e1:zf Zn (jt (z9 (zf ixT (vE 1) (cE (.int 1))) (zc))) (vE 0) [.vl (.int ((lo:Int)+(i:Int))), .vl (mt t lo hi)]= .ok (.lst (ad (lo+i) t)):=by
    have e0:zf ixT (vE 1) (cE (.int 1)) [.vl (.int ((lo:Int)+(i:Int))), .vl (mt t lo hi)]= .ok t:=rfl
    rw [zk,xP e0,bOk,v0,bOk,show (lo:Int)+(i:Int)=((lo+i:Nat):Int) by omega,Wu (by omega),j8]
   rw [Z4,e1,bOk,H (lo+i) (by omega)]
   show _=R.ok (T.int ((n ^ ((lo:Int)+(i:Int)).toNat:Nat):Int))
   rw [show ((lo:Int)+(i:Int)).toNat=lo+i by omega]
 rw [b_a,zu (t:= .int ((shr n lo q:Nat):Int))]
 ·rfl
 ·show ap1 _ _ [.vl (mt t lo hi), .vl (.int ((lo+q:Nat):Int))]=_
  rw [ZV,ZC,er,bOk,ec,bOk,bOk]
  have e2:((rng (lo:Int) q).map fun x=>match x with | .int i=>T.int ((n ^ i.toNat:Nat):Int) | y=>y)=(aY q).map fun i=>T.int ((n ^ (lo+i):Nat):Int):=by
   unfold rng
   rw [br]
   refine bP fun i _=> ?_
   show T.int ((n ^ ((lo:Int)+(i:Int)).toNat:Nat):Int)=_
   rw [show ((lo:Int)+(i:Int)).toNat=lo+i by omega]
  rw [e2,xo (fun i=>n ^ (lo+i))]
  rfl
theorem YW {d n m:Nat} (h:n<=mx d) (hd:d<=2) (hm:m<=3):n ^ m < 2 ^ 60:=by
 have h2:mx d<=70644:=by
  have:d=0\/d=1\/d=2:=by omega
  rcases this with rfl | rfl | rfl <;> decide
 have h3:n ^ m<=70644 ^ 3:=aE (Nat.pow_le_pow_left (aE h h2) m) (Nat.pow_le_pow_right (by omega) hm)
 have:70644 ^ 3 < 2 ^ 60:=by decide
 omega
theorem WH:∀ (d n:Nat),3*d<=n->d<=3->∀ k:Kd,k.Ok d->S_1 n 0 [k.t]= .ok (.int (k.all.length:Int))
 | 0,_,_,_,_,h=>h.elim
 | d+1,n+3,hn,hd,k,h=>by
  have ih:=WH d n (by omega) (by omega)
  have ih1:=WH d (n+1) (by omega) (by omega)
  have e:S_1 (n+3) 0 [k.t]=zh (b_1 (S_1 (n+2) 1) (S_1 (n+2) 2) [.vl k.t]):=rfl
  have e1:∀ s,S_1 (n+2) 1 [s]=zh (b_i (S_1 (n+1) 0) (en0 3 [s])):=fun s=>rfl
  have e1' :∀ s,S_1 (n+1) 1 [s]=zh (b_i (S_1 n 0) (en0 3 [s])):=fun s=>rfl
  have e2:∀ s u,S_1 (n+2) 2 [s,u]=zh (b_a (S_1 (n+1) 1) (en0 2 [s,u])):=fun s u=>rfl
  rw [e,b_1]
  cases k with
  | whole lo hi=>
   obtain ⟨h1,h2,h3⟩:=h
   rw [Z8]
   simp only [Kd.t]
   rw [Zr (t:= .int ((hi+1 - lo).toNat:Int))]
   ·rfl
   ·rw [QE (by rw [cs0,beq_self_eq_true]),zu]
    show R.ok (T.int (hi - lo+1))=_
    congr 2; omega
  | pick cs=>
   rw [Jz]
   simp only [Kd.t]
   rw [zg (ZK (by rw [cs0]; rfl)),Zr (t:= .int (cs.length:Int))]
   ·rfl
   ·rw [QE (by rw [cs0,beq_self_eq_true]),zu]
    show R.ok (T.int ((cs.map wB).length:Int))=_
    rw [ao]
  | row ks=>
   obtain ⟨h1,h2,h3⟩:=h
   rw [ZX]
   simp only [Kd.t]
   rw [Kd.ts_map,zg (ZK (by rw [cs0]; rfl)),zg (ZK (by rw [cs0]; rfl)),Zr (t:= .int ((prd (ks.map fun k=>k.all.length):Nat):Int))]
   ·rfl
   ·rw [QE (by rw [cs0,beq_self_eq_true]),zu]
    show zb 1 _ _ [.vl (.tup [.str "row", .tup (ks.map Kd.t)])]=_
    rw [Z4,yz,bOk,e1]
    have hl:=jG (d+1) (.row ks) ⟨h1,h2,h3⟩
    rw [ZX] at hl
    exact jI ks rfl (fun k hk=>⟨ih1 k (h3 k hk),Zl d k (h3 k hk)⟩) (xh hl hd)
  | many k lo hi=>
   obtain ⟨h1,h2,h3⟩:=h
   rw [ZI,WF]
   simp only [Kd.t]
   rw [zg (ZK (by rw [cs0]; rfl)),zg (ZK (by rw [cs0]; rfl)),zg (ZK (by rw [cs0]; rfl)),zu (t:= .int ((shr k.all.length lo (hi+1 - lo):Nat):Int))]
   ·rfl
   ·show zb 2 _ _ [.vl (mt k.t lo hi)]=_
    rw [zp,v0,bOk,QD Kl,bOk,e2,show (hi:Int)+1=((lo+(hi+1 - lo):Nat):Int) by omega]
    refine y6 (by omega) fun m hm=> ?_
    have hp:prd ((ad m k).map fun k=>k.all.length)=k.all.length ^ m:=by rw [jb,ZW]
    rw [e1',← hp]
    have hd1:1<=d:=by
     cases d with
     | zero=>exact h3.elim
     | succ d=>omega
    refine jI (ad m k) (by rw [aQ]; rfl) (fun k' hk' => ?_) (by rw [hp]; exact YW (jG d k h3) (by omega) hm)
    rw [bK hk']
    exact ⟨ih k h3,Zl d k h3⟩
theorem Z3 {d:Nat} (hd:d<=3) {k:Kd} (h:k.Ok d):f_1 20 [k.t]= .ok (.int (k.all.length:Int)):=WH d 20 (by omega) hd k h
theorem JE {d:Nat} (hd:d<=2) {k:Kd} (h:k.Ok d) {lo hi q:Nat} (h4:lo+q<=4):f_a 20 [mt k.t lo hi, .int ((lo+q:Nat):Int)]= .ok (.int ((shr k.all.length lo q:Nat):Int)):=by
 have e:f_a 20 [mt k.t lo hi, .int ((lo+q:Nat):Int)]=zh (b_a (S_1 19 1) (en0 2 [mt k.t lo hi, .int ((lo+q:Nat):Int)])):=rfl
 rw [e]
 refine y6 h4 fun m hm=> ?_
 have hp:prd ((ad m k).map fun k=>k.all.length)=k.all.length ^ m:=by rw [jb,ZW]
 have e1:∀ s,S_1 19 1 [s]=zh (b_i (S_1 18 0) (en0 3 [s])):=fun s=>rfl
 rw [e1,← hp]
 refine jI (ad m k) (by rw [aQ]; rfl) (fun k' hk' => ?_) (by rw [hp]; exact YW (jG d k h) hd hm)
 rw [bK hk']
 exact ⟨WH d 18 (by omega) (by omega) k h,Zl d k h⟩
abbrev paB (cc cw:List T->R T):En->RS:=zo (zF 5 (zb 1 cc (z9 (vE 4) (zc))))
  (zo (uv 2 (zb 2 cw (z9 (vE 4) (z9 (zf jc (vE 3) (vE 5)) (zc)))))
  (zF 3 (zf Zy (vE 3) (vE 5))))
structure Km (cc cw:List T->R T) (k:Kd):Prop where
 cnt:cc [k.t]= .ok (.int (k.all.length:Int))
 at_:∀ (i:Nat) x,k.all[i]? =some x->cw [k.t, .int (i:Int)]= .ok x
 pos:1<=k.all.length
 le:k.all.length < 1000000
theorem v5' {t:T} {a b c d e:Sl} {ρ:En}:vE 5 (a :: b :: c :: d :: e :: .vl t :: ρ)= .ok t:=rfl
theorem YX {n c:Nat} (h:1<=c):jc (.int (n:Int)) (.int (c:Int))= .ok (.int ((n % c:Nat):Int)):=by
 unfold jc; dsimp only; rw [if_pos (by omega)]; rfl
theorem JF {n c:Nat} (h:1<=c) (h' :c < 1000000):Zy (.int (n:Int)) (.int (c:Int))= .ok (.int ((n / c:Nat):Int)):=by
 unfold Zy; dsimp only; rw [if_pos (by omega)]; rfl
theorem YY {i:Nat} {f:En->R T} {ρ:En} {ts:List T} {t:T} (hi:ρ[i]? =some (.ow ts)) (hl:ts.length < bnd) (h:f ρ= .ok t):uv i f ρ= .nx (ρ.set i (.ow (ts++[t]))):=by
 unfold uv; rw [hi]; dsimp only; rw [h,jC,if_pos hl]
theorem y7 {cc cw:List T->R T} {S N:Sl}:∀ (rs:List Kd) (acc:List T) (n:Nat) (x y:Sl),(∀ k∈rs,Km cc cw k)->n < prd (rs.map fun k=>k.all.length)->acc.length+rs.length<=1000->
  ∃ xs r x' y',(zx [[]] (rs.reverse.map Kd.all))[n]? =some xs/\ZZ (zY 4) (paB cc cw) (rs.map Kd.t) [S,N, .ow acc, .vl (.int (n:Int)),x,y]= .nx [S,N, .ow (acc++xs.reverse),r,x',y']
 | [],acc,n,x,y,_,hn,_=>⟨[], .vl (.int (n:Int)),x,y,by
   have:n=0:=by simp [prd] at hn; exact hn
   subst this; rfl,by simp [ZZ]⟩
 | k :: rs,acc,n,x,y,H,hn,hl=>by
  obtain ⟨hc,hw,h1,hle⟩:=H k av
  rw [au,prd] at hn
  rw [aD] at hl
  have hb:bnd=16777216:=rfl
  have hmod:n % k.all.length < k.all.length:=hZ _ h1
  obtain ⟨v,hv⟩:=Zs hmod
  have hdiv:n / k.all.length < prd (rs.map fun k=>k.all.length):=dw hn
  obtain ⟨xs,r,x',y',e1,e2⟩:=y7 (cc:=cc) (cw:=cw) (S:=S) (N:=N) rs (acc++[v]) (n / k.all.length) (.vl k.t) (.vl (.int (k.all.length:Int))) (fun k' hk' =>H k' (ah _ hk')) hdiv (by rw [aF,aJ]; omega)
  have b1:zF 5 (zb 1 cc (z9 (vE 4) (zc))) [S,N, .ow acc, .vl (.int (n:Int)), .vl k.t,y]= .nx [S,N, .ow acc, .vl (.int (n:Int)), .vl k.t, .vl (.int (k.all.length:Int))]:=by
   rw [Z9 (t:= .int (k.all.length:Int))]
   ·rfl
   ·rw [Z4,v4,bOk,hc]
  have b2:uv 2 (zb 2 cw (z9 (vE 4) (z9 (zf jc (vE 3) (vE 5)) (zc)))) [S,N, .ow acc, .vl (.int (n:Int)), .vl k.t, .vl (.int (k.all.length:Int))]= .nx [S,N, .ow (acc++[v]), .vl (.int (n:Int)), .vl k.t, .vl (.int (k.all.length:Int))]:=by
   rw [YY (ts:=acc) (t:=v) rfl (by omega)]
   ·rfl
   ·rw [zp,v4,bOk,zk,v3,bOk,v5',bOk,YX h1,bOk,hw _ v hv]
  have b3:zF 3 (zf Zy (vE 3) (vE 5)) [S,N, .ow (acc++[v]), .vl (.int (n:Int)), .vl k.t, .vl (.int (k.all.length:Int))]= .nx [S,N, .ow (acc++[v]), .vl (.int ((n / k.all.length:Nat):Int)), .vl k.t, .vl (.int (k.all.length:Int))]:=by
   rw [Z9 (t:= .int ((n / k.all.length:Nat):Int))]
   ·rfl
   ·rw [zk,v3,bOk,v5',bOk,JF h1 hle]
  have eb:paB cc cw [S,N, .ow acc, .vl (.int (n:Int)), .vl k.t,y]= .nx [S,N, .ow (acc++[v]), .vl (.int ((n / k.all.length:Nat):Int)), .vl k.t, .vl (.int (k.all.length:Int))]:=by
   rw [paB,zg b1,zg b2,b3]
  refine ⟨xs++[v],r,x',y', ?_, ?_⟩
  ·have:=Zu e1 hv
   rw [bG,dD] at this
   rw [bv,cP]
   exact this
  ·rw [au,wn (ρ1:=[S,N, .ow acc, .vl (.int (n:Int)), .vl k.t,y]) rfl eb,e2,f7]
   simp
theorem wU:∀ ns:List Nat,prd ns.reverse=prd ns
 | []=>rfl
 | n :: ns=>by rw [bv,JD,wU ns,prd,bG]
theorem jJ {cc cw:List T->R T} {s:T} (ks:List Kd) (hs:je s= .ok (ks.map Kd.t)) (hl:ks.length<=3) (H:∀ k∈ks,Km cc cw k) {n:Nat} {xs:List T} (hx:(zx [[]] (ks.map Kd.all))[n]? =some xs):
  zh (b_k cc cw (en0 6 [s, .int (n:Int)]))= .ok (.tup xs):=by
 have hn:=(ak.mp hx).1
 rw [Z5,br] at hn
 have hr:(ks.reverse.map fun k=>k.all.length)=(ks.map fun k=>k.all.length).reverse:=by rw [dt]
 obtain ⟨ys,r,x',y',e1,e2⟩:=y7 (cc:=cc) (cw:=cw) (S:= .vl s) (N:= .vl (.int (n:Int))) ks.reverse [] n .un .un (fun k hk=>H k (eK.mp hk)) (by rw [hr,wU]; exact hn) (by rw [bc,g_]; omega)
 rw [bM,hx] at e1
 cases e1
 rw [bA] at e2
 have e0:QO 2 (zc) [.vl s, .vl (.int (n:Int)), .un, .un, .un, .un]= .nx [.vl s, .vl (.int (n:Int)), .ow [], .un, .un, .un]:=rfl
 have e3:zF 3 (vE 1) [.vl s, .vl (.int (n:Int)), .ow [], .un, .un, .un]= .nx [.vl s, .vl (.int (n:Int)), .ow [], .vl (.int (n:Int)), .un, .un]:=rfl
 have e4:W7 (XX (vE 0)) (zY 4) (paB cc cw) [.vl s, .vl (.int (n:Int)), .ow [], .vl (.int (n:Int)), .un, .un]= .nx [.vl s, .vl (.int (n:Int)), .ow xs.reverse,r,x',y']:=by
  show (((je s).bind fun xs=>R.ok xs.reverse).s fun ts=>ZZ (zY 4) (paB cc cw) ts [.vl s, .vl (.int (n:Int)), .ow [], .vl (.int (n:Int)), .un, .un])=_
  rw [hs,bOk,jC,← dt]
  exact e2
 have hlen:xs.reverse.length<=bnd:=by
  have:∀ (ls made:List (List T)) (m:Nat),(∀ a∈made,a.length<=m)->∀ a∈zx made ls,a.length<=m+ls.length:=by
   intro ls
   induction ls with
   | nil=>intro made m h a ha; exact h a ha
   | cons l ls ih=>
    intro made m h a ha
    have:=ih (made.flatMap fun a=>l.map fun x=>a++[x]) (m+1) (fun b hb=>by
     obtain ⟨c,hc,hb⟩:=cF.mp hb
     obtain ⟨z,_,rfl⟩:=aO.mp hb
     have:=h c hc
     rw [aF,aJ]; omega) a ha
    rw [aD]; omega
  have h1:=this (ks.map Kd.all) [[]] 0 (fun a ha=>by rw [a_.mp ha]; exact ag _) xs (bF hx)
  rw [ao] at h1
  rw [bc]
  have hb:bnd=16777216:=rfl
  omega
 show zh (b_k cc cw [.vl s, .vl (.int (n:Int)), .un, .un, .un, .un])=_
 rw [b_k,zg e0,zg e3,zg e4,zu (t:= .tup xs)]
 ·rfl
 ·show Yb (.lst xs.reverse)=_
  unfold Yb
  dsimp only
  rw [if_pos hlen,bM]
abbrev mtT:En->R Bool:=zJ leC (zb 2 (f_a 20) (z9 (vE 0) (z9 (zf zQ (vE 2) (cE (.int 1))) (zc)))) (vB 1)
abbrev mtB:En->RS:=zF 2 (zf zQ (vE 2) (cE (.int 1)))
theorem w1n {t:T} {a:Sl} {ρ:En}:vB 1 (a :: .vl t :: ρ)= .ok t:=rfl
theorem y8 {d:Nat} (hd:d<=2) {k:Kd} (h:k.Ok d) {lo hi n:Nat} (h1:lo<=hi) (h3:hi<=3) (hn:n < shr k.all.length lo (hi+1 - lo)):∀ (f q:Nat),q<=hi - lo->hi - lo - q < f->shr k.all.length lo q<=n->
  ∃ q',q' <=hi - lo/\shr k.all.length lo q' <=n/\n < shr k.all.length lo (q' +1)/\Zo mtT mtB f [.vl (mt k.t lo hi), .vl (.int (n:Int)), .vl (.int ((lo+q:Nat):Int))]= .nx [.vl (mt k.t lo hi), .vl (.int (n:Int)), .vl (.int ((lo+q' :Nat):Int))]
 | 0,q,_,hf,_=>by omega
 | f+1,q,hq,hf,hs=>by
  have et:mtT [.vl (mt k.t lo hi), .vl (.int (n:Int)), .vl (.int ((lo+q:Nat):Int))]= .ok (decide (shr k.all.length lo (q+1)<=n)):=by
   rw [mtT,zO,zp,v0,bOk,QD v2,bOk,show ((lo+q:Nat):Int)+1=((lo+(q+1):Nat):Int) by omega,JE hd h (by omega),bOk,w1n,bOk,Qy,xi]
  have eu:Zo mtT mtB (f+1) [.vl (mt k.t lo hi), .vl (.int (n:Int)), .vl (.int ((lo+q:Nat):Int))]=(mtT [.vl (mt k.t lo hi), .vl (.int (n:Int)), .vl (.int ((lo+q:Nat):Int))]).s fun k' =>if k' =true then match mtB [.vl (mt k.t lo hi), .vl (.int (n:Int)), .vl (.int ((lo+q:Nat):Int))] with
    | .nx ρ2=>Zo mtT mtB f ρ2
    | .ct ρ2=>Zo mtT mtB f ρ2
    | .bk ρ2=> .nx ρ2
    | r=>r
   else .nx [.vl (mt k.t lo hi), .vl (.int (n:Int)), .vl (.int ((lo+q:Nat):Int))]:=rfl
  rw [eu,et,jC]
  by_cases hc:shr k.all.length lo (q+1)<=n
  ·rw [if_pos (decide_eq_true hc)]
   have hq2:q+1<=hi - lo:=by
    rcases Nat.lt_or_ge q (hi - lo) with z | z
    ·exact z
    ·have:q=hi - lo:=by omega
     rw [this,show hi - lo+1=hi+1 - lo by omega] at hc
     omega
   have eb:mtB [.vl (mt k.t lo hi), .vl (.int (n:Int)), .vl (.int ((lo+q:Nat):Int))]= .nx [.vl (mt k.t lo hi), .vl (.int (n:Int)), .vl (.int ((lo+(q+1):Nat):Int))]:=by
    rw [mtB,Z9 (t:= .int ((lo+(q+1):Nat):Int))]
    ·rfl
    ·rw [QD v2,show ((lo+q:Nat):Int)+1=((lo+(q+1):Nat):Int) by omega]
   rw [eb]
   exact y8 hd h h1 h3 hn f (q+1) hq2 (by omega) hc
  ·rw [if_neg (by simpa using hc)]
   exact ⟨q,hq,hs,by omega,rfl⟩
theorem xp {i j:Nat} (h:j<=i):ju (.int (i:Int)) (.int (j:Int))= .ok (.int ((i - j:Nat):Int)):=by
 rw [Zq]; congr 2; omega
theorem um {d:Nat} (hd:d<=2) {k:Kd} (h:k.Ok d) {cp:List T->R T} {lo hi n:Nat} (h1:lo<=hi) (h3:hi<=3) (hn:n < shr k.all.length lo (hi+1 - lo))
  (H:∀ (m:Nat),m<=3->∀ (j:Nat) (xs:List T),(zx [[]] (ad m k.all))[j]? =some xs->cp [.lst (ad m k.t), .int (j:Int)]= .ok (.tup xs)):
  ∃ x,(Kd.many k lo hi).all[n]? =some x/\zh (QT (f_a 20) cp (en0 3 [mt k.t lo hi, .int (n:Int)]))= .ok x:=by
 obtain ⟨q,hq,hs,hs',e⟩:=y8 hd h h1 h3 hn 8 0 (by omega) (by omega) (by unfold shr; simp)
 rw [WD] at hs'
 have hj:n - shr k.all.length lo q < (zx [[]] (ad (lo+q) k.all)).length:=by
  rw [Z5,aQ,ZW]; omega
 obtain ⟨xs,hx⟩:=Zs hj
 have ha:=UZ (k:=k) (lo:=lo) (hi:=hi) (by omega) hx
 rw [show shr k.all.length lo q+(n - shr k.all.length lo q)=n by omega] at ha
 refine ⟨_,ha, ?_⟩
 have e0:zF 2 (zf ixT (vE 0) (cE (.int 2))) [.vl (mt k.t lo hi), .vl (.int (n:Int)), .un]= .nx [.vl (mt k.t lo hi), .vl (.int (n:Int)), .vl (.int ((lo+0:Nat):Int))]:=rfl
 show zh (QT (f_a 20) cp [.vl (mt k.t lo hi), .vl (.int (n:Int)), .un])=_
 rw [QT,zg e0,zg e,zu (t:= .tup xs)]
 ·rfl
 ·show zb 2 cp _ [.vl (mt k.t lo hi), .vl (.int (n:Int)), .vl (.int ((lo+q:Nat):Int))]=_
  have em:zf Zn (jt (z9 (zf ixT (vE 0) (cE (.int 1))) (zc))) (vE 2) [.vl (mt k.t lo hi), .vl (.int (n:Int)), .vl (.int ((lo+q:Nat):Int))]= .ok (.lst (ad (lo+q) k.t)):=by
   rw [zk,xP yz,bOk,v2,bOk,Wu (by omega),j8]
  rw [zp,em,bOk,zk,v1,bOk,zp,v0,bOk,v2,bOk,JE hd h (by omega),bOk,xp hs,bOk,H (lo+q) (by omega) _ xs hx]
theorem y9 {d:Nat} (hd:d<=2) {k:Kd} (h:k.Ok d):k.all.length < 1000000:=by
 have h1:=jG d k h
 have h2:mx d<=70644:=by
  have:d=0\/d=1\/d=2:=by omega
  rcases this with rfl | rfl | rfl <;> decide
 omega
theorem ZY:∀ (d n:Nat),3*d<=n->d<=3->∀ k:Kd,k.Ok d->∀ (i:Nat) (x:T),k.all[i]? =some x->S_4 n 0 [k.t, .int (i:Int)]= .ok x
 | 0,_,_,_,_,h=>h.elim
 | d+1,n+3,hn,hd,k,h=>by
  intro i x hx
  have ih:=ZY d n (by omega) (by omega)
  have ih1:=ZY d (n+1) (by omega) (by omega)
  have e:S_4 (n+3) 0 [k.t, .int (i:Int)]=zh (b_4 f_b (S_4 (n+2) 1) (S_4 (n+2) 2) (en2 k.t (.int (i:Int)))):=rfl
  have e2:∀ s u,S_4 (n+2) 2 [s,u]=zh (b_k (f_1 20) (S_4 (n+1) 0) (en0 6 [s,u])):=fun s u=>rfl
  have e2' :∀ s u,S_4 (n+1) 2 [s,u]=zh (b_k (f_1 20) (S_4 n 0) (en0 6 [s,u])):=fun s u=>rfl
  have e1:∀ s u,S_4 (n+2) 1 [s,u]=zh (QT (f_a 20) (S_4 (n+1) 2) (en0 3 [s,u])):=fun s u=>rfl
  have hi' :=(ak.mp hx).1
  rw [e,b_4]
  cases k with
  | whole lo hi=>
   rw [Kd.all,aj] at hx
   rw [Z8] at hi'
   rw [c7 hi'] at hx
   cases hx
   simp only [Kd.t]
   rw [Zr (t:= .int (lo+(i:Int)))]
   ·rfl
   ·rw [QU,zu]; rfl
  | pick cs=>
   have hw:=JC cs h.2.1
   rw [Kd.all] at hx
   simp only [Kd.t] at hw ⊢
   rw [zg (uy (by decide)),Zr (t:=x)]
   ·rfl
   ·rw [QU,zu]
    show zf ixT _ _ (en2 _ _)=_
    rw [zk,Z4,v0,bOk,hw,bOk,v1,bOk]
    exact xn hx
  | row ks=>
   obtain ⟨h1,h2,h3⟩:=h
   rw [Kd.all,Kd.alls_map,aj] at hx
   cases hr:(zx [[]] (ks.map Kd.all))[i]? with
   | none=>rw [hr] at hx; cases hx
   | some xs=>
    rw [hr] at hx
    cases hx
    simp only [Kd.t]
    rw [Kd.ts_map,zg (uy (by decide)),zg (uy (by decide)),Zr (t:= .tup xs)]
    ·rfl
    ·rw [QU,zu]
     show zb 2 _ _ (en2 _ _)=_
     rw [zp,yz,bOk,v1,bOk,e2]
     refine jJ ks rfl h2 (fun k hk=>⟨Z3 (by omega) (h3 k hk),ih1 k (h3 k hk),Zl d k (h3 k hk),y9 (by omega) (h3 k hk)⟩) hr
  | many k lo hi=>
   obtain ⟨h1,h2,h3⟩:=h
   rw [ZI,WF] at hi'
   obtain ⟨x',hx',hv⟩:=um (cp:=S_4 (n+1) 2) (by omega:d<=2) h3 h1 h2 hi' (fun m hm j xs hr=>by
    rw [e2']
    refine jJ (ad m k) (by rw [aQ]; rfl) (by rw [aU]; exact hm) (fun k' hk' => ?_) (by rw [aQ]; exact hr)
    rw [bK hk']
    exact ⟨Z3 (by omega) h3,ih k h3,Zl d k h3,y9 (by omega) h3⟩)
   rw [hx] at hx'
   cases hx'
   simp only [Kd.t]
   rw [zg (uy (by decide)),zg (uy (by decide)),zg (uy (by decide)),zu (t:=x)]
   ·rfl
   ·show zb 2 _ _ (en2 _ _)=_
    rw [zp,v0,bOk,v1,bOk,e1]
    exact hv
theorem ya {k:Kd} (h:k.Ok 3) {i:Nat} {x:T} (hx:k.all[i]? =some x):f_4 20 [k.t, .int (i:Int)]= .ok x:=ZY 3 20 (by omega) (by omega) k h i x hx
theorem Jb:∀ (ls made:List (List T)) (m:Nat),(∀ a∈made,a.length=m)->∀ a∈zx made ls,a.length=m+ls.length
 | [],made,m,h,a,ha=>h a ha
 | l :: ls,made,m,h,a,ha=>by
  have:=Jb ls (made.flatMap fun a=>l.map fun x=>a++[x]) (m+1) (fun b hb=>by
   obtain ⟨c,hc,hb⟩:=cF.mp hb
   obtain ⟨z,_,rfl⟩:=aO.mp hb
   rw [aF,aJ,h c hc]) a ha
  rw [aD]; omega
theorem jK {ls:List (List T)} {n:Nat} {xs:List T} (h:(zx [[]] ls)[n]? =some xs):xs.length=ls.length:=by
 have:=Jb ls [[]] 0 (fun a ha=>by rw [a_.mp ha]; rfl) xs (bF h)
 omega
theorem uo {ls:List (List T)} {l:List T} {n:Nat} {xs:List T} (hl:1<=l.length) (h:(zx [[]] (ls++[l]))[n]? =some xs):∃ ys y,(zx [[]] ls)[n / l.length]? =some ys/\l[n % l.length]? =some y/\xs=ys++[y]:=by
 have hn:=(ak.mp h).1
 rw [Z5,cP,fq,JD,← Z5] at hn
 obtain ⟨ys,hy⟩:=Zs (xs:=zx [[]] ls) (i:=n / l.length) (dw (by rw [bG]; exact hn))
 obtain ⟨y,hy'⟩:=Zs (hZ n hl)
 refine ⟨ys,y,hy,hy', ?_⟩
 have:=Zu hy hy'
 rw [bG,dD,h] at this
 exact aI this
theorem wV {g:T->En->R En} {fb:En->RS} (hb:∀ ρ ρ',fb ρ ≠ .bk ρ'):∀ (as bs:List T) (ρ ρ' :En),ZZ g fb as ρ= .nx ρ' ->ZZ g fb (as++bs) ρ=ZZ g fb bs ρ'
 | [],bs,ρ,ρ',h=>by cases h; rfl
 | a :: as,bs,ρ,ρ',h=>by
  have e:∀ cs,ZZ g fb (a :: cs) ρ=match g a ρ with
   | .ok ρ1=>match fb ρ1 with
    | .nx ρ2=>ZZ g fb cs ρ2
    | .ct ρ2=>ZZ g fb cs ρ2
    | .bk ρ2=> .nx ρ2
    | r=>r
   | .ex c=> .bad
   | .bad=> .bad:=fun cs=>rfl
  rw [dq,e]
  rw [e] at h
  cases hg:g a ρ with
  | bad=>rw [hg] at h; cases h
  | ex c=>rw [hg] at h; cases h
  | ok ρ1=>
   rw [hg] at h
   dsimp only at h ⊢
   cases hf:fb ρ1 with
   | nx ρ2=>rw [hf] at h; exact wV hb as bs ρ2 ρ' h
   | ct ρ2=>rw [hf] at h; exact wV hb as bs ρ2 ρ' h
   | bk ρ2=>exact absurd hf (hb _ _)
   | rt t=>rw [hf] at h; cases h
   | ex c=>rw [hf] at h; cases h
   | bad=>rw [hf] at h; cases h
   | rf t=>rw [hf] at h; cases h
theorem QG {i:Nat} {f:En->R T} (ρ ρ' :En):zF i f ρ ≠ .bk ρ' :=by
 rw [UO]; cases f ρ <;> exact fun h=>nomatch h
abbrev ppB (cc cl:List T->R T):En->RS:=zF 2 (zf zQ (zf Zn (vE 2) (zb 1 cc (z9 (vE 3) (zc)))) (zb 2 cl (z9 (vE 3) (z9 (vE 4) (zc)))))
structure Kn (cc cl:List T->R T) (k:Kd):Prop where
 cnt:cc [k.t]= .ok (.int (k.all.length:Int))
 pl:∀ (i:Nat) x,k.all[i]? =some x->cl [k.t,x]= .ok (.int (i:Int))
 pos:1<=k.all.length
abbrev zpT (q:Kd×T):T:=T.tup [q.1.t,q.2]
theorem yb {cc cl:List T->R T} {S P:Sl}:∀ (rs:List Kd) (n:Nat) (xs:List T) (a b:Sl),(∀ k∈rs,Kn cc cl k)->n < 2 ^ 60->(zx [[]] (rs.reverse.map Kd.all))[n]? =some xs->
  ∃ x y,ZZ (Z6 3 4) (ppB cc cl) ((rs.reverse.zip xs).map zpT) [S,P, .vl (.int 0),a,b]= .nx [S,P, .vl (.int (n:Int)),x,y]
 | [],n,xs,a,b,_,_,h=>by
  have hn:=(ak.mp h).1
  have:n=0:=by
   have e:(zx [[]] (([]:List Kd).reverse.map Kd.all)).length=1:=rfl
   omega
  subst this
  exact ⟨a,b,by simp [ZZ]⟩
 | k :: rs,n,xs,a,b,H,hb,h=>by
  obtain ⟨hc,hp,h1⟩:=H k av
  rw [bv,cP,fq] at h
  obtain ⟨ys,y,hy,hy',rfl⟩:=uo h1 h
  have hdiv:n / k.all.length<=n:=Nat.div_le_self ..
  obtain ⟨x',y',e⟩:=yb (cc:=cc) (cl:=cl) (S:=S) (P:=P) rs (n / k.all.length) ys a b (fun k' hk' =>H k' (ah _ hk')) (by omega) hy
  have hl:rs.reverse.length=ys.length:=by rw [jK hy,ao]
  refine ⟨.vl k.t, .vl y, ?_⟩
  rw [bv,List.zip_append hl,cP,wV QG _ _ _ _ e]
  have eb:ppB cc cl [S,P, .vl (.int ((n / k.all.length:Nat):Int)), .vl k.t, .vl y]= .nx [S,P, .vl (.int (n:Int)), .vl k.t, .vl y]:=by
   rw [ppB,Z9 (t:= .int (n:Int))]
   ·rfl
   ·rw [zk,zk,v2,bOk,Z4,v3,bOk,hc,bOk,UW (by omega),bOk,zp,v3,bOk,v4,bOk,hp _ y hy',bOk,ZO]
    congr 2
    have:=dD n k.all.length
    rw [bG] at this
    omega
  show ZZ (Z6 3 4) (ppB cc cl) [T.tup [k.t,y]] [S,P, .vl (.int ((n / k.all.length:Nat):Int)),x',y']=_
  rw [wn (ρ1:=[S,P, .vl (.int ((n / k.all.length:Nat):Int)), .vl k.t, .vl y]) rfl eb]
  rfl
theorem wq {cc cl:List T->R T} {s:T} (ks:List Kd) (hs:je s= .ok (ks.map Kd.t)) (H:∀ k∈ks,Kn cc cl k) {n:Nat} {xs:List T} (hn:n < 2 ^ 60) (hx:(zx [[]] (ks.map Kd.all))[n]? =some xs):
  zh (b_w cc cl (en0 5 [s, .tup xs]))= .ok (.int (n:Int)):=by
 obtain ⟨x,y,e⟩:=yb (cc:=cc) (cl:=cl) (S:= .vl s) (P:= .vl (.tup xs)) ks.reverse n xs .un .un (fun k hk=>H k (eK.mp hk)) hn (by rw [bM]; exact hx)
 rw [bM] at e
 have e0:zF 2 (cE (.int 0)) [.vl s, .vl (.tup xs), .un, .un, .un]= .nx [.vl s, .vl (.tup xs), .vl (.int 0), .un, .un]:=rfl
 have e1:W7 (Vl (vE 0) (vE 1)) (Z6 3 4) (ppB cc cl) [.vl s, .vl (.tup xs), .vl (.int 0), .un, .un]= .nx [.vl s, .vl (.tup xs), .vl (.int (n:Int)),x,y]:=by
  show (((je s).bind fun xs' =>R.ok (yv xs' xs)).s fun ts=>ZZ (Z6 3 4) (ppB cc cl) ts [.vl s, .vl (.tup xs), .vl (.int 0), .un, .un])=_
  rw [hs,bOk,jC,xj]
  exact e
 show zh (b_w cc cl [.vl s, .vl (.tup xs), .un, .un, .un])=_
 rw [b_w,zg e0,zg e1]
 rfl
theorem WI (c lo:Nat):∀ (m n:Nat),n < shr c lo m->∃ q,q < m/\shr c lo q<=n/\n < shr c lo (q+1)
 | 0,n,h=>by simp [shr] at h
 | m+1,n,h=>by
  by_cases hc:shr c lo m<=n
  ·exact ⟨m,by omega,hc,h⟩
  ·obtain ⟨q,h1,h2,h3⟩:=WI c lo m n (by omega)
   exact ⟨q,by omega,h2,h3⟩
theorem yc (x:Str):∀ cs:List (Str×Int),eqs (.str x) (cs.map fun c=>T.str c.1)=some (cs.map fun c=>c.1 == x)
 | []=>rfl
 | c :: cs=>by
  show (match eqF 30 (.str c.1) (.str x) with
   | none=>none
   | some b=>match eqs (.str x) (cs.map fun (c:Str×Int)=>T.str c.1) with
    | none=>none
    | some bs=>some (b :: bs))=_
  rw [yc x cs]; rfl
theorem wt:∀ (bs:List Bool) (i:Nat),bs[i]? =some true->(∀ j,j < i->bs[j]? =some false)->bs.idxOf true=i
 | [],i,h,_=>by simp at h
 | b :: bs,0,h,_=>by
  have:b=true:=by simpa using h
  subst this; rfl
 | b :: bs,i+1,h,hj=>by
  have h0:b=false:=by simpa using hj 0 (by omega)
  subst h0
  have:=wt bs i (by simpa using h) fun j h' =>by simpa using hj (j+1) (by omega)
  rw [List.idxOf_cons,this]; rfl
theorem Yn {cs:List (Str×Int)} (hd:Dst (cs.map (·.1))) {i:Nat} {c:Str×Int} (h:cs[i]? =some c):Qc (.str c.1) (cs.map fun c=>T.str c.1)= .ok (.int (i:Int)):=by
 unfold Qc
 rw [yc]
 dsimp only
 have hi:=(ak.mp h).1
 have h1:(cs.map fun d=>d.1 == c.1)[i]? =some true:=by rw [aj,h]; simp
 rw [if_pos (bF h1),wt _ i h1 fun j hj=> ?_]
 rw [aj]
 cases hc:cs[j]? with
 | none=>rw [List.getElem?_eq_none_iff] at hc; omega
 | some d=>
  have hw:=hd i c.1 (by rw [aj,h]; rfl)
  have:d.1 ≠ c.1:=fun e=>hw (by
   rw [← e]
   refine bF (i:=j) ?_
   rw [cJ hj,aj,hc]; rfl)
  show some (d.1 == c.1)=some false
  rw [beq_eq_false_iff_ne.mpr this]
abbrev en3 (a b:T) (c:Sl):En:=[.vl a, .vl b,c]
theorem QV {x w:Str} {r:List T} {b:T} {c:Sl} (h:(x == w)=false) {f:En->RS}:ifS (zJ eqC (zf ixT (vE 0) (cE (.int 0))) (cE (.str w))) f nxS (en3 (.tup (.str x :: r)) b c)= .nx (en3 (.tup (.str x :: r)) b c):=
 ZK (by rw [cs0,h])
theorem ko {x:Str} {r:List T} {b:T} {c:Sl} {f:En->RS}:ifS (zJ eqC (zf ixT (vE 0) (cE (.int 0))) (cE (.str x))) f nxS (en3 (.tup (.str x :: r)) b c)=f (en3 (.tup (.str x :: r)) b c):=
 QE (by rw [cs0,beq_self_eq_true])
theorem xr {d:Nat} (hd:d<=3) {k:Kd} (h:k.Ok d):k.all.length < 2 ^ 60:=xh (jG d k h) hd
theorem WJ:∀ (d n:Nat),2*d<=n->d<=3->∀ k:Kd,k.Ok d->∀ (i:Nat) (x:T),k.all[i]? =some x->S_3 n 0 [k.t,x]= .ok (.int (i:Int))
 | 0,_,_,_,_,h=>h.elim
 | d+1,n+2,hn,hd,k,h=>by
  intro i x hx
  have ih:=WJ d n (by omega) (by omega)
  have e:S_3 (n+2) 0 [k.t,x]=zh (b_3 f_b (f_a 20) (S_3 (n+1) 1) (en3 k.t x .un)):=rfl
  have e1:∀ s u,S_3 (n+1) 1 [s,u]=zh (b_w (f_1 20) (S_3 n 0) (en0 5 [s,u])):=fun s u=>rfl
  have hi' :=(ak.mp hx).1
  have h60:=xr hd h
  rw [e,b_3]
  cases k with
  | whole lo hi=>
   rw [Kd.all,aj] at hx
   rw [Z8] at hi'
   rw [c7 hi'] at hx
   cases hx
   simp only [Kd.t]
   rw [Zr (t:= .int (i:Int))]
   ·rfl
   ·rw [ko,zu]
    show R.ok (T.int (lo+(i:Int) - lo))=_
    congr 2; omega
  | pick cs=>
   have hw:=JC cs h.2.1
   rw [Kd.all,aj] at hx
   cases hc:cs[i]? with
   | none=>rw [hc] at hx; cases hx
   | some c=>
    rw [hc] at hx
    cases hx
    simp only [Kd.t] at hw ⊢
    rw [zg (QV (by decide)),Zr (t:= .int (i:Int))]
    ·rfl
    ·rw [ko,zu]
     show ((zb 1 f_b (z9 (vE 0) (zc)) (en3 _ _ _)).bind _)=_
     rw [Z4,v0,bOk,hw,bOk]
     show Qc (.str c.1) (cs.map fun (c:Str×Int)=>T.str c.1)=_
     exact Yn h.2.2.2 hc
  | row ks=>
   obtain ⟨h1,h2,h3⟩:=h
   rw [Kd.all,Kd.alls_map,aj] at hx
   cases hr:(zx [[]] (ks.map Kd.all))[i]? with
   | none=>rw [hr] at hx; cases hx
   | some xs=>
    rw [hr] at hx
    cases hx
    simp only [Kd.t]
    rw [Kd.ts_map,zg (QV (by decide)),zg (QV (by decide)),Zr (t:= .int (i:Int))]
    ·rfl
    ·rw [ko,zu]
     show zb 2 _ _ (en3 _ _ _)=_
     rw [zp,yz,bOk,v1,bOk,e1]
     exact wq ks rfl (fun k hk=>⟨Z3 (by omega) (h3 k hk),ih k (h3 k hk),Zl d k (h3 k hk)⟩) (by omega) hr
  | many k lo hi=>
   obtain ⟨h1,h2,h3⟩:=h
   rw [ZI,WF] at hi'
   obtain ⟨q,hq,hs,hs'⟩:=WI _ _ _ _ hi'
   rw [WD] at hs'
   have hj:i - shr k.all.length lo q < (zx [[]] (ad (lo+q) k.all)).length:=by
    rw [Z5,aQ,ZW]; omega
   obtain ⟨xs,hr⟩:=Zs hj
   have ha:=UZ (k:=k) (lo:=lo) (hi:=hi) hq hr
   rw [show shr k.all.length lo q+(i - shr k.all.length lo q)=i by omega,hx] at ha
   cases ha
   have hl:=jK hr
   rw [aU] at hl
   simp only [Kd.t]
   have e3:zF 2 (ap1 Zc (vB 1)) (en3 (mt k.t lo hi) (.tup xs) .un)= .nx (en3 (mt k.t lo hi) (.tup xs) (.vl (.int ((lo+q:Nat):Int)))):=by
    rw [← hl]; rfl
   rw [zg (QV (by decide)),zg (QV (by decide)),zg (QV (by decide)),zg e3,zu (t:= .int (i:Int))]
   ·rfl
   ·show zf zQ _ _ (en3 (mt k.t lo hi) (.tup xs) (.vl (.int ((lo+q:Nat):Int))))=_
    have em:zf Zn (jt (z9 (zf ixT (vE 0) (cE (.int 1))) (zc))) (vE 2) (en3 (mt k.t lo hi) (.tup xs) (.vl (.int ((lo+q:Nat):Int))))= .ok (.lst (ad (lo+q) k.t)):=by
     rw [zk,xP yz,bOk,v2,bOk,Wu (by omega),j8]
    have ep:S_3 (n+1) 1 [.lst (ad (lo+q) k.t), .tup xs]= .ok (.int ((i - shr k.all.length lo q:Nat):Int)):=by
     rw [e1]
     refine wq (ad (lo+q) k) (by rw [aQ]; rfl) (fun k' hk' => ?_) (by
      rw [ZI,WF] at h60; omega) (by rw [aQ]; exact hr)
     rw [bK hk']
     exact ⟨Z3 (by omega) h3,ih k h3,Zl d k h3⟩
    rw [zk,zp,v0,bOk,v2,bOk,JE (by omega) h3 (by omega),bOk,zp,em,bOk,v1,bOk,ep,bOk,ZO]
    have hz:((shr k.all.length lo q:Nat):Int)+((i - shr k.all.length lo q:Nat):Int)=(i:Int):=by clear h60; omega
    rw [hz]
theorem uq {k:Kd} (h:k.Ok 3) {i:Nat} {x:T} (hx:k.all[i]? =some x):f_3 20 [k.t,x]= .ok (.int (i:Int)):=WJ 3 20 (by omega) (by omega) k h i x hx
def Pl:Nat->T->Prop
 | 0,_=>False
 | n+1, .tup xs=>∀ x∈xs,Pl n x
 | n+1, .lst xs=>∀ x∈xs,Pl n x
 | _+1, .fz _=>False
 | _+1,_=>True
theorem zW {f:T->T->Option Bool}:∀ (xs:List T),(∀ x∈xs,f x x=some true)->eqL f xs xs=some true
 | [],_=>rfl
 | x :: xs,h=>by
  unfold eqL
  rw [h x av,zW xs fun z hz=>h z (ah _ hz)]
  rfl
theorem zK:∀ (n:Nat) (y:T),Pl n y->eqF n y y=some true
 | 0,_,h=>h.elim
 | n+1,y,h=>by
  cases y with
  | tup xs=>rw [eqF]; exact zW xs fun z hz=>zK n z ((show ∀ x∈xs,Pl n x from h) z hz)
  | lst xs=>rw [eqF]; exact zW xs fun z hz=>zK n z ((show ∀ x∈xs,Pl n x from h) z hz)
  | fz xs=>exact h.elim
  | non=>rfl
  | bl b=>show some (b == b)=_; simp
  | int i=>show some (i == i)=_; simp
  | str i=>show some (i == i)=_; simp
theorem Pl.up:∀ (n:Nat) (y:T),Pl n y->Pl (n+1) y
 | 0,_,h=>h.elim
 | n+1,y,h=>by
  cases y with
  | tup xs=>exact fun z hz=>Pl.up n z ((show ∀ x∈xs,Pl n x from h) z hz)
  | lst xs=>exact fun z hz=>Pl.up n z ((show ∀ x∈xs,Pl n x from h) z hz)
  | fz xs=>exact h.elim
  | _=>exact trivial
theorem Pl.le {n m:Nat} {y:T} (hm:n<=m) (h:Pl n y):Pl m y:=by
 obtain ⟨j,rfl⟩:∃ j,m=n+j:=⟨m - n,by omega⟩
 clear hm
 induction j with
 | zero=>exact h
 | succ j ih=>exact Pl.up _ _ ih
theorem Yo:∀ (d:Nat) (k:Kd) (x:T),k.Ok d->k.has x=true->Pl d x
 | 0,_,_,h,_=>h.elim
 | d+1, .whole lo hi,x,h,hx=>by
  rw [Kd.has] at hx
  obtain ⟨i,rfl⟩:=US hx
  trivial
 | d+1, .pick cs,x,h,hx=>by
  rw [Kd.has] at hx
  dsimp only at hx
  split at hx
  ·trivial
  ·cases hx
 | d+1, .row ks,x,h,hx=>by
  rw [Kd.has] at hx
  dsimp only at hx
  split at hx
  ·rename_i xs
   rw [am,beq_iff_eq] at hx
   intro y hy
   obtain ⟨k,hk,hh⟩:=WB ks xs hx.1 hx.2 y hy
   exact Yo d k y (h.2.2 k hk) hh
  ·cases hx
 | d+1, .many k lo hi,x,h,hx=>by
  rw [Kd.has] at hx
  dsimp only at hx
  split at hx
  ·rename_i xs
   rw [am,aX] at hx
   exact fun y hy=>Yo d k y h.2.2 (hx.2 y hy)
  ·cases hx
theorem yd {t:T} (h:Pl 30 t):neC t t= .ok false:=by unfold neC; rw [zK 30 t h]; rfl
theorem ye {k:Kd} (hk:k.Ok 3):f_9 [k.t]= .ok .non:=by
 have hi:=WA 3 k hk
 rw [jo _ (jw 3 _ hi).so,if_pos hi]
theorem ZD {f:En->R T} {ρ:En} {t:T} (h:f ρ= .ok t):jd f ρ= .nx ρ:=by unfold jd; rw [h,jC]
theorem xt {k:Kd} (hk:k.Ok 3):f_u [k.t]= .ok (.int (k.all.length:Int)):=by
 show zh (b_u f_9 (f_1 20) [.vl k.t])=_
 rw [b_u,zg (ZD (t:= .non) (by rw [Z4,v0,bOk,ye hk])),zu (t:= .int (k.all.length:Int))]
 ·rfl
 ·show zb 1 _ _ [.vl k.t]=_
  rw [Z4,v0,bOk,Z3 (by omega) hk]
theorem JG {k:Kd} (hk:k.Ok 3) (x:T):f_c [k.t,x]=if k.has x=true then .ok .non else .ex 1:=by
 show zh (b_c f_q (en2 k.t x))=_
 have ec:JY (Jl (zb 2 f_q (z9 (vE 0) (z9 (vE 1) (zc))))) (en2 k.t x)= .ok (!k.has x):=by
  rw [J7,Wp,zp,v0,bOk,v1,bOk,wT k hk x,bOk,wj,bOk]
 rw [b_c,uh,ec,jC]
 cases k.has x <;> rfl
theorem QH {i j:Int}:gtC (.int i) (.int j)= .ok (decide (j < i)):=rfl
theorem xu {i:Int}:neC (.int i) (.int i)= .ok false:=by show R.ok (!(i == i))=_; simp
theorem kq {i:Str}:neC (.str i) (.str i)= .ok false:=by show R.ok (!(i == i))=_; simp
theorem yf {k:Kd} (hk:k.Ok 3) {i:Nat} {x:T} (hx:k.all[i]? =some x):f_g [k.t, .int (i:Int)]= .ok x:=by
 have hi:=(ak.mp hx).1
 have e:chT leC ltC (cE (.int 0)) (vB 1) (zb 1 (f_1 20) (z9 (vE 0) (zc))) (en2 k.t (.int (i:Int)))= .ok true:=by
  have e0:chT leC ltC (cE (.int 0)) (vB 1) (zb 1 (f_1 20) (z9 (vE 0) (zc))) (en2 k.t (.int (i:Int)))=(if decide (0<=(i:Int))=true then (zb 1 (f_1 20) (z9 (vE 0) (zc)) (en2 k.t (.int (i:Int)))).bind fun z=>ltC (.int (i:Int)) z else .ok false):=rfl
  rw [e0,Z4,v0,bOk,Z3 (by omega) hk,bOk,if_pos (decide_eq_true (by omega))]
  show R.ok (decide ((i:Int) < (k.all.length:Int)))=_
  rw [decide_eq_true (by omega)]
 show zh (b_g (f_1 20) (f_4 20) (en2 k.t (.int (i:Int))))=_
 rw [b_g,zg (ZK (by rw [J7,e,bOk]; rfl)),zu (t:=x)]
 ·rfl
 ·show zb 2 _ _ (en2 _ _)=_
  rw [zp,v0,bOk,v1,bOk,ya hk hx]
theorem yg {k:Kd} (hk:k.Ok 3) {i:Int} (hi:i < 0\/(k.all.length:Int)<=i):f_g [k.t, .int i]= .ok .non:=by
 have e:chT leC ltC (cE (.int 0)) (vB 1) (zb 1 (f_1 20) (z9 (vE 0) (zc))) (en2 k.t (.int i))= .ok false:=by
  have e0:chT leC ltC (cE (.int 0)) (vB 1) (zb 1 (f_1 20) (z9 (vE 0) (zc))) (en2 k.t (.int i))=(if decide (0<=i)=true then (zb 1 (f_1 20) (z9 (vE 0) (zc)) (en2 k.t (.int i))).bind fun z=>ltC (.int i) z else .ok false):=rfl
  rw [e0,Z4,v0,bOk,Z3 (by omega) hk,bOk]
  show (if decide (0<=i)=true then R.ok (decide (i < (k.all.length:Int))) else .ok false)=_
  rcases hi with h | h
  ·rw [if_neg (by simp; omega)]
  ·split
   ·rw [decide_eq_false (by omega)]
   ·rfl
 show zh (b_g (f_1 20) (f_4 20) (en2 k.t (.int i)))=_
 rw [b_g,Zr (t:= .non)]
 ·rfl
 ·rw [QE (by rw [J7,e,bOk]; rfl)]; rfl
theorem ur {k:Kd} (hk:k.Ok 3) {i:Nat} {x:T} (hx:k.all[i]? =some x):f_c [k.t,x]= .ok .non:=by
 rw [JG hk,if_pos ((jj k x).mp (bF hx))]
theorem wW {k:Kd} (hk:k.Ok 3) {i:Nat} {x:T} (hx:k.all[i]? =some x):f_j [k.t,x]=f_g [k.t, .int ((i:Int)+1)]:=by
 show zh (b_j f_c (f_3 20) f_g (en2 k.t x))=_
 rw [b_j,zg (ZD (t:= .non) (by rw [zp,v0,bOk,v1,bOk,ur hk hx]))]
 show zh ((zb 2 f_g _ (en2 k.t x)).s fun t=> .rt t)=_
 rw [J4,zp,v0,bOk,zk,zp,v0,bOk,v1,bOk,uq hk hx,bOk,Zt,bOk,ZO,bOk]
theorem WK {k:Kd} (hk:k.Ok 3) {i:Nat} {x:T} (hx:k.all[i]? =some x):f_p [k.t,x]=f_g [k.t, .int ((i:Int) - 1)]:=by
 show zh (b_p f_c (f_3 20) f_g (en2 k.t x))=_
 rw [b_p,zg (ZD (t:= .non) (by rw [zp,v0,bOk,v1,bOk,ur hk hx]))]
 show zh ((zb 2 f_g _ (en2 k.t x)).s fun t=> .rt t)=_
 rw [J4,zp,v0,bOk,zk,zp,v0,bOk,v1,bOk,uq hk hx,bOk,Zt,bOk,Zq,bOk]
theorem yh {k:Kd} (hk:k.Ok 3) {x:T} (hx:k.all[(k.all.length - 1) / 2]? =some x):f_v [k.t]= .ok x:=by
 have hpos:=Zl 3 k hk
 show zh (b_v f_9 (f_1 20) (f_4 20) [.vl k.t])=_
 rw [b_v,zg (ZD (t:= .non) (by rw [Z4,v0,bOk,ye hk])),zu (t:=x)]
 ·rfl
 ·show zb 2 _ _ [.vl k.t]=_
  rw [zp,v0,bOk,zk,zk,Z4,v0,bOk,Z3 (by omega) hk,bOk,Zt,bOk,Zq,bOk,Zt,bOk,show (k.all.length:Int) - 1=((k.all.length - 1:Nat):Int) by omega,show (2:Int)=((2:Nat):Int) from rfl,JF (by omega) (by omega),bOk,ya hk hx]
theorem wu (xs:List T) (a n:Nat) (h:a+n<=xs.length):((rng (a:Int) n).map fun t=>match t with | .int i=>(xs[i.toNat]?).getD .non | y=>y)=(xs.drop a).take n:=by
 unfold rng
 rw [br]
 refine dU fun i=> ?_
 rw [aj]
 by_cases hi:i < n
 ·rw [c7 hi,cJ hi,List.getElem?_drop]
  show some ((xs[((a:Int)+(i:Int)).toNat]?).getD .non)=_
  rw [show ((a:Int)+(i:Int)).toNat=a+i by omega]
  obtain ⟨x,hx⟩:=Zs (xs:=xs) (i:=a+i) (by omega)
  rw [hx]; rfl
 ·rw [aV (by simpa using hi),aV (by rw [dm]; omega)]; rfl
abbrev btE (a:T) (b c d e:Sl):En:=[.vl a,b,c,d,e]
theorem jk {k:Kd} (hk:k.Ok 3) (hm:k.all.length < 900000) {a b:Nat} (h5:b+1<=a+500) {x y:T} (hx:k.all[a]? =some x) (hy:k.all[b]? =some y):f_5 [k.t,x,y]= .ok (.lst ((k.all.drop a).take (b+1 - a))):=by
 have ha:=(ak.mp hx).1
 have hb:=(ak.mp hy).1
 show zh (b_5 f_c (f_4 20) (f_3 20) (btE k.t (.vl x) (.vl y) .un .un))=_
 have e1:zF 3 (zb 2 (f_3 20) (z9 (vE 0) (z9 (vE 1) (zc)))) (btE k.t (.vl x) (.vl y) .un .un)= .nx (btE k.t (.vl x) (.vl y) (.vl (.int (a:Int))) .un):=by
  rw [Z9 (t:= .int (a:Int))]
  ·rfl
  ·rw [zp,v0,bOk,v1,bOk,uq hk hx]
 have e2:zF 4 (zb 2 (f_3 20) (z9 (vE 0) (z9 (vE 2) (zc)))) (btE k.t (.vl x) (.vl y) (.vl (.int (a:Int))) .un)= .nx (btE k.t (.vl x) (.vl y) (.vl (.int (a:Int))) (.vl (.int (b:Int)))):=by
  rw [Z9 (t:= .int (b:Int))]
  ·rfl
  ·rw [zp,v0,bOk,v2,bOk,uq hk hy]
 have e3:zJ gtC (zf zQ (zf ju (vE 4) (vE 3)) (cE (.int 1))) (cE (.int 500)) (btE k.t (.vl x) (.vl y) (.vl (.int (a:Int))) (.vl (.int (b:Int))))= .ok false:=by
  rw [zO,zk,zk,v4,bOk,v3,bOk,Zq,bOk,Zt,bOk,ZO,bOk,Zt,bOk,QH,decide_eq_false (by omega)]
 have er:jq (vE 3) (zf zQ (vE 4) (cE (.int 1))) (btE k.t (.vl x) (.vl y) (.vl (.int (a:Int))) (.vl (.int (b:Int))))= .ok (rng (a:Int) (b+1 - a)):=by
  rw [UV (i:=(a:Int)) (j:=(b:Int)+1) rfl rfl ⟨by omega,by omega,by omega,by omega⟩]
  congr 2; omega
 have ec:Zi (zY 0) Zz (zb 2 (f_4 20) (z9 (vE 1) (z9 (vE 0) (zc)))) 1 [0] (btE k.t (.vl x) (.vl y) (.vl (.int (a:Int))) (.vl (.int (b:Int)))) (rng (a:Int) (b+1 - a))= .ok ((rng (a:Int) (b+1 - a)).map fun t=>match t with | .int i=>(k.all[i.toNat]?).getD .non | y=>y):=
  zX _ (by unfold rng; rw [ao,dj]; have:bnd=16777216:=rfl; omega) fun t ht=>by
   unfold rng at ht
   obtain ⟨i,hi,rfl⟩:=aO.mp ht
   have hi2:=aW.mp hi
   obtain ⟨z,hz⟩:=Zs (xs:=k.all) (i:=a+i) (by omega)
   show zb 2 _ _ (en2 (.int ((a:Int)+(i:Int))) k.t)=R.ok ((k.all[((a:Int)+(i:Int)).toNat]?).getD .non)
   rw [show ((a:Int)+(i:Int))=((a+i:Nat):Int) by omega,zp,v1,bOk,v0,bOk,ya hk hz,bZ,hz]
   rfl
 rw [b_5,zg (ZD (t:= .non) (by rw [zp,v0,bOk,v1,bOk,ur hk hx])),zg (ZD (t:= .non) (by rw [zp,v0,bOk,v2,bOk,ur hk hy])),zg e1,zg e2,zg (ZK e3),zu (t:= .lst ((k.all.drop a).take (b+1 - a)))]
 ·rfl
 ·show zZ _ _ _ _ _ _ (btE k.t (.vl x) (.vl y) (.vl (.int (a:Int))) (.vl (.int (b:Int))))=_
  rw [ZC,er,bOk,ec,bOk]
  by_cases hab:a<=b+1
  ·rw [wu k.all a (b+1 - a) (by omega)]
  ·rw [show b+1 - a=0 by omega]; rfl
theorem ut {k:Kd} (hk:k.Ok 3) {a b:Nat} (h5:a+500 < b+1) {x y:T} (hx:k.all[a]? =some x) (hy:k.all[b]? =some y):f_5 [k.t,x,y]= .ex 3:=by
 show zh (b_5 f_c (f_4 20) (f_3 20) (btE k.t (.vl x) (.vl y) .un .un))=_
 have e1:zF 3 (zb 2 (f_3 20) (z9 (vE 0) (z9 (vE 1) (zc)))) (btE k.t (.vl x) (.vl y) .un .un)= .nx (btE k.t (.vl x) (.vl y) (.vl (.int (a:Int))) .un):=by
  rw [Z9 (t:= .int (a:Int))]
  ·rfl
  ·rw [zp,v0,bOk,v1,bOk,uq hk hx]
 have e2:zF 4 (zb 2 (f_3 20) (z9 (vE 0) (z9 (vE 2) (zc)))) (btE k.t (.vl x) (.vl y) (.vl (.int (a:Int))) .un)= .nx (btE k.t (.vl x) (.vl y) (.vl (.int (a:Int))) (.vl (.int (b:Int)))):=by
  rw [Z9 (t:= .int (b:Int))]
  ·rfl
  ·rw [zp,v0,bOk,v2,bOk,uq hk hy]
 have e3:zJ gtC (zf zQ (zf ju (vE 4) (vE 3)) (cE (.int 1))) (cE (.int 500)) (btE k.t (.vl x) (.vl y) (.vl (.int (a:Int))) (.vl (.int (b:Int))))= .ok true:=by
  rw [zO,zk,zk,v4,bOk,v3,bOk,Zq,bOk,Zt,bOk,ZO,bOk,Zt,bOk,QH,decide_eq_true (by omega)]
 rw [b_5,zg (ZD (t:= .non) (by rw [zp,v0,bOk,v1,bOk,ur hk hx])),zg (ZD (t:= .non) (by rw [zp,v0,bOk,v2,bOk,ur hk hy])),zg e1,zg e2,xk (c:=3)]
 ·rfl
 ·rw [QE e3]; rfl
abbrev lwB:En->RS:=zo (uv 2 (zf ixT (vE 3) (zf jc (vE 1) (ap1 Zc (vB 3))))) (zF 1 (zf Zy (vE 1) (ap1 Zc (vB 3))))
theorem yi {S:Sl}:∀ (rs:List (List T)) (acc:List T) (n:Nat) (x:Sl),(∀ l∈rs,1<=l.length/\l.length < 1000)->n < prd (rs.map (·.length))->acc.length+rs.length<=1000->
  ∃ xs r x',(zx [[]] rs.reverse)[n]? =some xs/\ZZ (zY 3) lwB (rs.map T.lst) [S, .vl (.int (n:Int)), .ow acc,x]= .nx [S,r, .ow (acc++xs.reverse),x']
 | [],acc,n,x,_,hn,_=>⟨[], .vl (.int (n:Int)),x,by
   have:n=0:=by simp [prd] at hn; exact hn
   subst this; rfl,by simp [ZZ]⟩
 | l :: rs,acc,n,x,H,hn,hl=>by
  obtain ⟨h1,hle⟩:=H l av
  rw [au,prd] at hn
  rw [aD] at hl
  have hb:bnd=16777216:=rfl
  have hmod:n % l.length < l.length:=hZ _ h1
  obtain ⟨v,hv⟩:=Zs hmod
  have hdiv:n / l.length < prd (rs.map (·.length)):=dw hn
  obtain ⟨xs,r,x',e1,e2⟩:=yi (S:=S) rs (acc++[v]) (n / l.length) (.vl (.lst l)) (fun k' hk' =>H k' (ah _ hk')) hdiv (by rw [aF,aJ]; omega)
  have w3:∀ a b,vB 3 [S,a,b, .vl (.lst l)]= .ok (.lst l):=fun _ _=>rfl
  have u3:∀ a b,vE 3 [S,a,b, .vl (.lst l)]= .ok (.lst l):=fun _ _=>rfl
  have u1:∀ a b c,vE 1 [S, .vl a,b,c]= .ok a:=fun _ _ _=>rfl
  have b2:uv 2 (zf ixT (vE 3) (zf jc (vE 1) (ap1 Zc (vB 3)))) [S, .vl (.int (n:Int)), .ow acc, .vl (.lst l)]= .nx [S, .vl (.int (n:Int)), .ow (acc++[v]), .vl (.lst l)]:=by
   rw [YY (ts:=acc) (t:=v) rfl (by omega)]
   ·rfl
   ·rw [zk,u3,bOk,zk,u1,bOk,ZV,w3,bOk,UL,bOk,YX h1,bOk,UT hv]
  have b3:zF 1 (zf Zy (vE 1) (ap1 Zc (vB 3))) [S, .vl (.int (n:Int)), .ow (acc++[v]), .vl (.lst l)]= .nx [S, .vl (.int ((n / l.length:Nat):Int)), .ow (acc++[v]), .vl (.lst l)]:=by
   rw [Z9 (t:= .int ((n / l.length:Nat):Int))]
   ·rfl
   ·rw [zk,u1,bOk,ZV,w3,bOk,UL,bOk,JF h1 (by omega)]
  refine ⟨xs++[v],r,x', ?_, ?_⟩
  ·have:=Zu e1 hv
   rw [bG,dD] at this
   rw [bv]
   exact this
  ·rw [au,wn (ρ1:=[S, .vl (.int (n:Int)), .ow acc, .vl (.lst l)]) rfl (by rw [lwB,zg b2,b3]),e2,f7]
   simp
theorem yj {ls:List (List T)} (hl:ls.length<=3) (H:∀ l∈ls,1<=l.length/\l.length < 1000) {n:Nat} {xs:List T} (hx:(zx [[]] ls)[n]? =some xs):f_e [.lst (ls.map T.lst), .int (n:Int)]= .ok (.tup xs):=by
 have hn:=(ak.mp hx).1
 rw [Z5] at hn
 have hb:bnd=16777216:=rfl
 obtain ⟨ys,r,x',e1,e2⟩:=yi (S:= .vl (.lst (ls.map T.lst))) ls.reverse [] n .un (fun l hl=>H l (eK.mp hl)) (by rw [dt,wU]; exact hn) (by rw [bc,g_]; omega)
 rw [bM,hx] at e1
 cases e1
 rw [bA] at e2
 have hlen:xs.reverse.length<=bnd:=by rw [bc,jK hx]; omega
 have e0:QO 2 (zc) [.vl (.lst (ls.map T.lst)), .vl (.int (n:Int)), .un, .un]= .nx [.vl (.lst (ls.map T.lst)), .vl (.int (n:Int)), .ow [], .un]:=rfl
 have e4:W7 (jR (ap1 YJ (vE 0))) (zY 3) lwB [.vl (.lst (ls.map T.lst)), .vl (.int (n:Int)), .ow [], .un]= .nx [.vl (.lst (ls.map T.lst)),r, .ow xs.reverse,x']:=by
  unfold W7
  rw [wk,ZV,v0,bOk]
  unfold YJ
  dsimp only
  rw [if_pos (by rw [ao]; omega),bOk]
  show ZZ _ _ (ls.map T.lst).reverse _=_
  rw [← dt]
  exact e2
 show zh (b_e [.vl (.lst (ls.map T.lst)), .vl (.int (n:Int)), .un, .un])=_
 rw [b_e,zg e0,zg e4,zu (t:= .tup xs)]
 ·rfl
 ·show ap1 qO (ap1 YJ (vE 2)) (frz [.vl (.lst (ls.map T.lst)),r, .ow xs.reverse,x'])=_
  rw [ZV,ZV]
  show ((R.ok (T.lst xs.reverse)).bind YJ).bind qO=_
  rw [bOk]
  unfold YJ
  dsimp only
  rw [if_pos hlen,bOk,bM]; rfl
mutual
def tEq:T->T->Bool
 | .non, .non=>true
 | .bl a, .bl b=>a == b
 | .int a, .int b=>a == b
 | .str a, .str b=>a == b
 | .tup a, .tup b=>QI a b
 | .lst a, .lst b=>QI a b
 | _,_=>false
def QI:List T->List T->Bool
 | [],[]=>true
 | a :: as,b :: bs=>tEq a b && QI as bs
 | _,_=>false
end
mutual
theorem YZ:∀ x y:T,tEq x y=true->x=y
 | .non,y,h=>by cases y <;> simp [tEq] at h ⊢
 | .bl a,y,h=>by cases y <;> simp [tEq] at h ⊢; exact h
 | .int a,y,h=>by cases y <;> simp [tEq] at h ⊢; exact h
 | .str a,y,h=>by cases y <;> simp [tEq] at h ⊢; exact h
 | .tup a,y,h=>by cases y <;> simp [tEq] at h ⊢; exact wX _ _ h
 | .lst a,y,h=>by cases y <;> simp [tEq] at h ⊢; exact wX _ _ h
 | .fz a,y,h=>by cases y <;> simp [tEq] at h
theorem wX:∀ x y:List T,QI x y=true->x=y
 | [],y,h=>by cases y <;> simp [QI] at h ⊢
 | a :: as,y,h=>by
  cases y with
  | nil=>simp [QI] at h
  | cons b bs=>
   rw [QI,am] at h
   rw [YZ a b h.1,wX as bs h.2]
end
def okB (r:R T) (t:T):Bool:=match r with
 | .ok u=>tEq u t
 | _=>false
theorem jL {r:R T} {t:T} (h:okB r t=true):r= .ok t:=by
 unfold okB at h
 split at h
 ·rw [YZ _ _ h]
 ·cases h
def Lk:Kd:= .whole (-20) 20
def Wk:Kd:= .pick [("a",1),("b",2),("cab",20)]
abbrev Lt:T:= .tup [.str "whole", .int (-20), .int 20]
abbrev Wt' :T:= .tup [.str "pick", .tup [.tup [.str "a", .int 1], .tup [.str "b", .int 2], .tup [.str "cab", .int 20]]]
theorem qa:Lk.t=Lt:=by rw [Lk,Kd.t]
theorem QW:Wk.t=Wt' :=by rw [Wk,Kd.t]; rfl
abbrev Wl:List T:=[.str "a", .str "b", .str "cab"]
theorem WL:Lk.all=rng (-20) 41:=by rw [Lk,Kd.all]; rfl
theorem yk:Wk.all=Wl:=by rw [Wk,Kd.all]; rfl
theorem kr (d:Nat):Lk.Ok (d+1):=(show (-20:Int)<= -20/\(-20:Int)<=20/\(20:Int)<=20 by decide)
theorem kt (d:Nat):Wk.Ok (d+1):=by
 refine ⟨by decide,by decide,fun c hc=> ?_,fun k w hw=> ?_⟩
 ·simp only [ax,bq,or_false] at hc
  rcases hc with rfl | rfl | rfl <;> exact ⟨by decide+kernel,by decide,by decide⟩
 ·match k with
  | 0=>cases hw; decide
  | 1=>cases hw; decide
  | 2=>cases hw; decide
  | k+3=>cases hw
def Gk (ks:List Kd):Prop:=ks=[Lk,Lk,Lk]\/ks=[Lk,Wk,Lk]\/ks=[Wk,Lk,Lk]
def lsT (ks:List Kd):T:= .lst ((ks.map Kd.all).map T.lst)
structure Ko (ks:List Kd):Prop where
 ok:(Kd.row ks).Ok 3
 lo:5043<=(Kd.row ks).all.length
 hi:(Kd.row ks).all.length<=68921
 l3:ks.length<=3
 ls:∀ l∈ks.map Kd.all,1<=l.length/\l.length < 1000
theorem ku {ks:List Kd} (h:Gk ks):Ko ks:=by
 have hm:∀ k∈ks,k=Lk\/k=Wk:=by
  rcases h with rfl | rfl | rfl <;> (intro k hk; simp only [ax,bq,or_false] at hk; rcases hk with rfl | rfl | rfl <;> first | exact .inl rfl | exact .inr rfl)
 have h3:ks.length=3:=by rcases h with rfl | rfl | rfl <;> rfl
 have hL:Lk.all.length=41:=by rw [WL]; rfl
 have hW:Wk.all.length=3:=by rw [yk]; rfl
 have hn:(Kd.row ks).all.length=68921\/(Kd.row ks).all.length=5043:=by
  rw [ZX]
  rcases h with rfl | rfl | rfl <;> simp only [au,aT,hL,hW,prd] <;> decide
 refine ⟨⟨by omega,by omega,fun k hk=> ?_⟩,by omega,by omega,by omega,fun l hl=> ?_⟩
 ·rcases hm k hk with rfl | rfl
  ·exact kr 1
  ·exact kt 1
 ·obtain ⟨k,hk,rfl⟩:=aO.mp hl
  rcases hm k hk with rfl | rfl <;> omega
section
variable {ks:List Kd} (g:Ko ks)
include g
theorem JH {n:Nat} {x:T} (hx:(Kd.row ks).all[n]? =some x):f_e [lsT ks, .int (n:Int)]= .ok x:=by
 rw [Kd.all,Kd.alls_map] at hx
 have hx:((zx [[]] (ks.map Kd.all)).map T.tup)[n]? =some x:=hx
 rw [aj] at hx
 cases e:(zx [[]] (ks.map Kd.all))[n]? with
 | none=>rw [e] at hx; cases hx
 | some xs=>
  rw [e] at hx; cases hx
  exact yj (by rw [ao]; exact g.l3) g.ls e
end
abbrev E13 (ns:List Int) (ks:List Kd) (M:Nat) (x7:Sl) (n:Nat) (a b c d:Sl):En:=[.vl (scr ns), .vl Lt, .vl Wt', .vl (.tup (ks.map Kd.t)), .vl (Kd.row ks).t, .vl (.int (M:Int)), .vl (lsT ks),x7, .vl (.int (n:Int)),a,b,c,d]
def WdK:Kd:= .row [.whole 0 19, .whole (-4) 20]
abbrev kv:T:= .tup [.str "row", .tup [.tup [.str "whole", .int 0, .int 19], .tup [.str "whole", .int (-4), .int 20]]]
theorem xv:WdK.t=kv:=by rw [WdK,Kd.t,Kd.ts_map]; simp only [au,aT,Kd.t]
theorem QJ:WdK.Ok 3:=by
 refine ⟨by decide,by decide,fun k hk=> ?_⟩
 simp only [ax,bq,or_false] at hk
 rcases hk with rfl | rfl
 ·exact (show (-20:Int)<=0/\(0:Int)<=19/\(19:Int)<=20 by decide)
 ·exact (show (-20:Int)<= -4/\(-4:Int)<=20/\(20:Int)<=20 by decide)
theorem QK:WdK.all[0]? =some (.tup [.int 0, .int (-4)])/\WdK.all[499]? =some (.tup [.int 19, .int 20])/\WdK.all.length=500:=by
 have e:WdK.all=(zx [[]] [(Kd.whole 0 19).all,(Kd.whole (-4) 20).all]).map T.tup:=by
  show (Kd.row [Kd.whole 0 19,Kd.whole (-4) 20]).all=_
  rw [Kd.all.eq_3,Kd.alls_map]; rfl
 have l2:(Kd.whole (-4) 20).all.length=25:=by rw [Z8]; rfl
 have a0:(Kd.whole 0 19).all[0]? =some (.int 0):=by rw [Kd.all]; rfl
 have a1:(Kd.whole 0 19).all[19]? =some (.int 19):=by rw [Kd.all]; rfl
 have b0:(Kd.whole (-4) 20).all[0]? =some (.int (-4)):=by rw [Kd.all]; rfl
 have b1:(Kd.whole (-4) 20).all[24]? =some (.int 20):=by rw [Kd.all]; rfl
 have c0:(zx [[]] ([]:List (List T)))[0]? =some []:=rfl
 have d0:=Zu (Zu c0 a0) b0
 have d1:=Zu (Zu c0 a1) b1
 rw [l2] at d0 d1
 refine ⟨?_, ?_, ?_⟩
 ·rw [e,aj]
  have d0:(zx [[]] [(Kd.whole 0 19).all,(Kd.whole (-4) 20).all])[0]? =some [.int 0, .int (-4)]:=by simpa using d0
  rw [d0]; rfl
 ·rw [e,aj]
  have d1:(zx [[]] [(Kd.whole 0 19).all,(Kd.whole (-4) 20).all])[499]? =some [.int 19, .int 20]:=by simpa using d1
  rw [d1]; rfl
 ·rw [WdK,ZX]
  simp only [au,aT,Z8,prd]
  rfl
theorem yl {ks:List Kd} (h:Gk ks):∃ x,f_z [(Kd.row ks).t]= .ok x/\VZ [x]= .ok (Kd.row ks).t:=by
 rw [Kd.t,Kd.ts_map]
 rcases h with rfl | rfl | rfl <;> simp only [au,aT,qa,QW]
 ·exact ⟨.str "(-20..20 -20..20 -20..20)",jL (by decide+kernel),jL (by decide+kernel)⟩
 ·exact ⟨.str "(-20..20 {a:1 b:2 cab:20} -20..20)",jL (by decide+kernel),jL (by decide+kernel)⟩
 ·exact ⟨.str "({a:1 b:2 cab:20} -20..20 -20..20)",jL (by decide+kernel),jL (by decide+kernel)⟩
abbrev E0 (ns:List Int) (ks:List Kd) (m x:Sl):En:=[.vl (scr ns), .vl Lt, .vl Wt', .vl (.tup (ks.map Kd.t)), .vl (Kd.row ks).t,m, .vl (lsT ks),x, .un, .un, .un, .un, .un]
theorem ym {ns:List Int} {ks:List Kd}:∀ (ls:List (List T)) (m:Nat) (x:Sl),(∀ l∈ls,1<=l.length)->m*prd (ls.map (·.length)) < 2 ^ 60->
  ∃ x',ZZ (zY 7) (zF 5 (zf Zn (vE 5) (ap1 Zc (vB 7)))) (ls.map T.lst) (E0 ns ks (.vl (.int (m:Int))) x)= .nx (E0 ns ks (.vl (.int ((m*prd (ls.map (·.length)):Nat):Int))) x')
 | [],m,x,_,_=>⟨x,by simp [ZZ,prd]⟩
 | l :: ls,m,x,H,h=>by
  rw [au,prd,← cN] at h
  have hp:=Jx (ns:=ls.map (·.length)) fun n hn=>by
   obtain ⟨l',hl',rfl⟩:=aO.mp hn
   exact H l' (ah _ hl')
  have h1:m*l.length < 2 ^ 60:=dN (ci _ hp) h
  have h0:m < 2 ^ 60:=dN (ci _ (H l av)) h1
  obtain ⟨x',e⟩:=ym (ns:=ns) (ks:=ks) ls (m*l.length) (.vl (.lst l)) (fun l' hl' =>H l' (ah _ hl')) h
  refine ⟨x', ?_⟩
  have u5:vE 5 (E0 ns ks (.vl (.int (m:Int))) (.vl (.lst l)))= .ok (.int (m:Int)):=rfl
  have u7:vB 7 (E0 ns ks (.vl (.int (m:Int))) (.vl (.lst l)))= .ok (.lst l):=rfl
  have eb:zF 5 (zf Zn (vE 5) (ap1 Zc (vB 7))) (E0 ns ks (.vl (.int (m:Int))) (.vl (.lst l)))= .nx (E0 ns ks (.vl (.int ((m*l.length:Nat):Int))) (.vl (.lst l))):=by
   rw [Z9 (t:= .int ((m*l.length:Nat):Int))]
   ·rfl
   ·rw [zk,u5,bOk,ZV,u7,bOk,UL,bOk,UW h0]
  rw [au,au,prd,← cN,wn (ρ1:=E0 ns ks (.vl (.int (m:Int))) (.vl (.lst l))) rfl eb,e]
theorem yn:wP okX f_s (.ex 3)= .ok (.str "too many"):=jL (by decide+kernel)
theorem yo (ns:List Int) {ks:List Kd} (hks:Gk ks) (he2:zF 3 (zf ixT (jt (z9 (Z0 (z9 (vE 1) (z9 (vE 1) (z9 (vE 1) (zc))))) (z9 (Z0 (z9 (vE 1) (z9 (vE 2) (z9 (vE 1) (zc))))) (z9 (Z0 (z9 (vE 2) (z9 (vE 1) (z9 (vE 1) (zc))))) (zc))))) (zb 3 f_n (z9 (vE 0) (z9 (cE (.int 0)) (z9 (cE (.int 3)) (zc)))))) [.vl (scr ns), .vl Lt, .vl Wt', .un, .un, .un, .un, .un, .un, .un, .un, .un, .un]= .nx [.vl (scr ns), .vl Lt, .vl Wt', .vl (.tup (ks.map Kd.t)), .un, .un, .un, .un, .un, .un, .un, .un, .un])
  (he4:zZ (jR (vE 3)) (zY 0) (Zz) (ifE (zJ eqC (vB 0) (vB 1)) (jt (z9 (cE (.str "a")) (z9 (cE (.str "b")) (z9 (cE (.str "cab")) (zc))))) (Vm (jq (WW (cE (.int 20))) (cE (.int 21))))) 1 [2] [.vl (scr ns), .vl Lt, .vl Wt', .vl (.tup (ks.map Kd.t)), .vl (Kd.row ks).t, .vl (.int 1), .un, .un, .un, .un, .un, .un, .un]= .ok (lsT ks)):f_0 [.fz (ns.map T.int)]= .ok (.bl true):=by
 have g:=ku hks
 have hk:=g.ok
 have hhi:=g.hi
 have hlo:=g.lo
 obtain ⟨M,hM⟩:∃ M,M=(Kd.row ks).all.length:=⟨_,rfl⟩
 have hlen:(Kd.row ks).all.length=prd ((ks.map Kd.all).map (·.length)):=by rw [ZX,br]; rfl
 rw [← hM] at hhi hlo
 show zh (b_0 f_u f_n f_s f_z VZ f_j f_p f_5 f_v f_e [.vl (scr ns), .un, .un, .un, .un, .un, .un, .un, .un, .un, .un, .un, .un])=_
 have e1:YI (Z0 (z9 (Z0 (z9 (cE (.str "whole")) (z9 (WW (cE (.int 20))) (z9 (cE (.int 20)) (zc))))) (z9 (Z0 (z9 (cE (.str "pick")) (z9 (Z0 (z9 (Z0 (z9 (cE (.str "a")) (z9 (cE (.int 1)) (zc)))) (z9 (Z0 (z9 (cE (.str "b")) (z9 (cE (.int 2)) (zc)))) (z9 (Z0 (z9 (cE (.str "cab")) (z9 (cE (.int 20)) (zc)))) (zc))))) (zc)))) (zc)))) (Z6 1 2) [.vl (scr ns), .un, .un, .un, .un, .un, .un, .un, .un, .un, .un, .un, .un]= .nx [.vl (scr ns), .vl Lt, .vl Wt', .un, .un, .un, .un, .un, .un, .un, .un, .un, .un]:=rfl
 have hrow:(Kd.row ks).t= .tup [.str "row", .tup (ks.map Kd.t)]:=by rw [Kd.t,Kd.ts_map]
 have e3:YI (Z0 (z9 (Z0 (z9 (cE (.str "row")) (z9 (vE 3) (zc)))) (z9 (cE (.int 1)) (zc)))) (Z6 4 5) [.vl (scr ns), .vl Lt, .vl Wt', .vl (.tup (ks.map Kd.t)), .un, .un, .un, .un, .un, .un, .un, .un, .un]= .nx [.vl (scr ns), .vl Lt, .vl Wt', .vl (.tup (ks.map Kd.t)), .vl (Kd.row ks).t, .vl (.int 1), .un, .un, .un, .un, .un, .un, .un]:=by rw [hrow]; rfl
 have e4:zF 6 (zZ (jR (vE 3)) (zY 0) (Zz) (ifE (zJ eqC (vB 0) (vB 1)) (jt (z9 (cE (.str "a")) (z9 (cE (.str "b")) (z9 (cE (.str "cab")) (zc))))) (Vm (jq (WW (cE (.int 20))) (cE (.int 21))))) 1 [2]) [.vl (scr ns), .vl Lt, .vl Wt', .vl (.tup (ks.map Kd.t)), .vl (Kd.row ks).t, .vl (.int 1), .un, .un, .un, .un, .un, .un, .un]= .nx (E0 ns ks (.vl (.int ((1:Nat):Int))) .un):=by
  rw [Z9 he4]; rfl
 obtain ⟨x7,e5⟩:=ym (ns:=ns) (ks:=ks) (ks.map Kd.all) 1 .un (fun l hl=>(g.ls l hl).1) (by rw [ck,← hlen]; omega)
 rw [ck,← hlen,← hM] at e5
 have e5:W7 (jR (vE 6)) (zY 7) (zF 5 (zf Zn (vE 5) (ap1 Zc (vB 7)))) (E0 ns ks (.vl (.int ((1:Nat):Int))) .un)= .nx (E0 ns ks (.vl (.int (M:Int))) x7):=by
  unfold W7
  show ((R.ok (lsT ks)).bind jl).s _=_
  rw [bOk]
  exact e5
 obtain ⟨r,er,r0,r1⟩:=UH ns 1 99991 (by omega) (by omega)
 obtain ⟨n,hn⟩:∃ n:Nat,(n:Int)=r*7919 % ((M:Int) - 600):=by
  have:=dC (r*7919) (show (M:Int) - 600 ≠ 0 by omega)
  exact ⟨(r*7919 % ((M:Int) - 600)).toNat,by omega⟩
 have hnM:n+600 < M:=by
  have:=cR (r*7919) (show 0 < (M:Int) - 600 by omega)
  omega
 have e6:zF 8 (zf jc (zf Zn (zb 3 f_n (z9 (vE 0) (z9 (cE (.int 1)) (z9 (cE (.int 99991)) (zc))))) (cE (.int 7919))) (zf ju (vE 5) (cE (.int 600)))) (E0 ns ks (.vl (.int (M:Int))) x7)= .nx (E13 ns ks M x7 n .un .un .un .un):=by
  rw [Z9 (t:= .int (n:Int))]
  ·rfl
  ·have u5:vE 5 (E0 ns ks (.vl (.int (M:Int))) x7)= .ok (.int (M:Int)):=rfl
   rw [zk,zk,jD,v0,bOk,Zt,bOk,Zt,bOk,er,bOk,Zt,bOk,xa _ _ (.inr ⟨by decide,by decide⟩),bOk,zk,u5,bOk,Zt,bOk,Zq,bOk,hn]
   exact if_pos (by omega)
 have at_:∀ i,i<=600->∃ x,(Kd.row ks).all[n+i]? =some x:=fun i hi=>Zs (by omega)
 obtain ⟨x0,h0⟩:=at_ 0 (by omega)
 obtain ⟨x1,h1⟩:=at_ 1 (by omega)
 obtain ⟨x9,h9⟩:=at_ 9 (by omega)
 obtain ⟨y0,k0⟩:=at_ 499 (by omega)
 obtain ⟨y1,k1⟩:=at_ 500 (by omega)
 rw [Nat.add_zero] at h0
 have pl:∀ {i:Nat} {x:T},(Kd.row ks).all[i]? =some x->neC x x= .ok false:=fun hx=>yd ((Yo 3 _ _ hk ((jj _ _).mp (bF hx))).le (by omega))
 have W0:=JH g h0
 have W1:=JH g h1
 have W9:=JH g h9
 have WY:=JH g k0
 have c1:((n+1:Nat):Int)=(n:Int)+1:=by omega
 have c9:((n+9:Nat):Int)=(n:Int)+9:=by omega
 have cY:((n+499:Nat):Int)=(n:Int)+499:=by omega
 rw [c1] at W1; rw [c9] at W9; rw [cY] at WY
 have u4:∀ a b c d,vE 4 (E13 ns ks M x7 n a b c d)= .ok (Kd.row ks).t:=fun _ _ _ _=>rfl
 have q4:∀ a b c d,vB 4 (E13 ns ks M x7 n a b c d)= .ok (Kd.row ks).t:=fun _ _ _ _=>rfl
 have u5:∀ a b c d,vE 5 (E13 ns ks M x7 n a b c d)= .ok (.int (M:Int)):=fun _ _ _ _=>rfl
 have q5:∀ a b c d,vB 5 (E13 ns ks M x7 n a b c d)= .ok (.int (M:Int)):=fun _ _ _ _=>rfl
 have u6:∀ a b c d,vE 6 (E13 ns ks M x7 n a b c d)= .ok (lsT ks):=fun _ _ _ _=>rfl
 have u8:∀ a b c d,vE 8 (E13 ns ks M x7 n a b c d)= .ok (.int (n:Int)):=fun _ _ _ _=>rfl
 have q8:∀ a b c d,vB 8 (E13 ns ks M x7 n a b c d)= .ok (.int (n:Int)):=fun _ _ _ _=>rfl
 have u9:∀ b c d,vE 9 (E13 ns ks M x7 n (.vl x0) b c d)= .ok x0:=fun _ _ _=>rfl
 have u11:∀ a b d,vE 11 (E13 ns ks M x7 n a b (.vl x9) d)= .ok x9:=fun _ _ _=>rfl
 have e7:YI (Z0 (z9 (zb 2 f_e (z9 (vE 6) (z9 (vE 8) (zc)))) (z9 (zb 2 f_e (z9 (vE 6) (z9 (zf zQ (vE 8) (cE (.int 499))) (zc)))) (zc)))) (Z6 9 10) (E13 ns ks M x7 n .un .un .un .un)= .nx (E13 ns ks M x7 n (.vl x0) (.vl y0) .un .un):=by
  unfold YI
  rw [kj (x:=x0) (y:=y0) (by rw [zp,u6,bOk,u8,bOk,W0]) (by rw [zp,u6,bOk,zk,u8,bOk,Zt,bOk,ZO,bOk,WY])]
  rfl
 have e8:orT (zJ neC (zb 1 f_u (z9 (vE 4) (zc))) (vB 5)) (zJ neC (zb 2 f_j (z9 (vE 4) (z9 (vE 9) (zc)))) (zb 2 f_e (z9 (vE 6) (z9 (zf zQ (vE 8) (cE (.int 1))) (zc))))) (E13 ns ks M x7 n (.vl x0) (.vl y0) .un .un)= .ok false:=by
  rw [UN,zO,Z4,u4,bOk,xt hk,bOk,q5,bOk,hM,xu,bOk,if_neg aB,← hM,zO,zp,u4,bOk,u9,bOk,wW hk h0,← c1,yf hk h1,bOk,zp,u6,bOk,zk,u8,bOk,Zt,bOk,ZO,bOk,W1,bOk,pl h1]
 have e9:vR (zJ gtC (vB 8) (cE (.int 0))) (zJ neC (zb 2 f_p (z9 (vE 4) (z9 (vE 9) (zc)))) (zb 2 f_e (z9 (vE 6) (z9 (zf ju (vE 8) (cE (.int 1))) (zc))))) (E13 ns ks M x7 n (.vl x0) (.vl y0) .un .un)= .ok false:=by
  rw [QA,zO,q8,bOk,Zt,bOk,QH,bOk]
  by_cases hz:n=0
  ·subst hz; rfl
  ·obtain ⟨z,hz'⟩:=Zs (xs:=(Kd.row ks).all) (i:=n - 1) (by omega)
   have c:((n - 1:Nat):Int)=(n:Int) - 1:=by omega
   have WZ:=JH g hz'
   rw [c] at WZ
   rw [if_pos (decide_eq_true (by omega)),zO,zp,u4,bOk,u9,bOk,WK hk h0,← c,yf hk hz',bOk,zp,u6,bOk,zk,u8,bOk,Zt,bOk,Zq,bOk,WZ,bOk,pl hz']
 have e10:zF 11 (zb 2 f_e (z9 (vE 6) (z9 (zf zQ (vE 8) (cE (.int 9))) (zc)))) (E13 ns ks M x7 n (.vl x0) (.vl y0) .un .un)= .nx (E13 ns ks M x7 n (.vl x0) (.vl y0) (.vl x9) .un):=by
  rw [Z9 (t:=x9)]
  ·rfl
  ·rw [zp,u6,bOk,zk,u8,bOk,Zt,bOk,ZO,bOk,W9]
 have ec:zZ (yP (cE (.int 10))) (zY 0) (Zz) (zb 2 f_e (z9 (vE 1) (z9 (zf zQ (vE 2) (vE 0)) (zc)))) 1 [6,8] (E13 ns ks M x7 n (.vl x0) (.vl y0) (.vl x9) .un)= .ok (.lst (((Kd.row ks).all.drop n).take 10)):=by
  rw [ZC]
  show (R.ok (rng 0 10)).bind _=_
  rw [bOk,zX (h:=fun t=>match t with | .int i=>((Kd.row ks).all[((n:Int)+i).toNat]?).getD .non | y=>y) (rng 0 10) (by decide) fun t ht=> ?_,bOk]
  ·rw [← wu _ n 10 (by omega)]
   unfold rng
   rw [br,br]
   refine congrArg R.ok (congrArg T.lst (bP fun i _=> ?_))
   show ((Kd.row ks).all[((n:Int)+(0+(i:Int))).toNat]?).getD .non=((Kd.row ks).all[((n:Int)+(i:Int)).toNat]?).getD .non
   rw [Int.zero_add]
  ·unfold rng at ht
   obtain ⟨i,hi,rfl⟩:=aO.mp ht
   have hi:=aW.mp hi
   obtain ⟨z,hz⟩:=at_ i (by omega)
   have c:((n+i:Nat):Int)=(n:Int)+(0+(i:Int)):=by omega
   have WZ:=JH g hz
   show zb 2 f_e _ [.vl (.int (0+(i:Int))), .vl (lsT ks), .vl (.int (n:Int))]=R.ok (((Kd.row ks).all[((n:Int)+(0+(i:Int))).toNat]?).getD .non)
   rw [zp,v1,bOk,zk,v2,bOk,v0,bOk,ZO,bOk,← c,WZ,bZ,hz]; rfl
 have plL:∀ a m:Nat,Pl 30 (.lst (((Kd.row ks).all.drop a).take m)):=fun a m=>Pl.le (n:=4) (by omega) fun y hy=>Yo 3 _ y hk ((jj _ _).mp (List.mem_of_mem_drop (List.mem_of_mem_take hy)))
 have e11:zJ neC (zb 3 f_5 (z9 (vE 4) (z9 (vE 9) (z9 (vE 11) (zc))))) (zZ (yP (cE (.int 10))) (zY 0) (Zz) (zb 2 f_e (z9 (vE 1) (z9 (zf zQ (vE 2) (vE 0)) (zc)))) 1 [6,8]) (E13 ns ks M x7 n (.vl x0) (.vl y0) (.vl x9) .un)= .ok false:=by
  rw [zO,jD,u4,bOk,u9,bOk,u11,bOk,jk hk (by omega) (by omega) h0 h9,bOk,ec,bOk,show n+9+1 - n=10 by omega,yd (plL n 10)]
 have ct:Yh [4,9,10] okX f_s (zb 3 f_5 (z9 (vE 0) (z9 (vE 1) (z9 (zb 2 f_j (z9 (vE 0) (z9 (vE 2) (zc)))) (zc))))) (E13 ns ks M x7 n (.vl x0) (.vl y0) (.vl x9) .un)= .ok (.str "too many"):=by
  show wP okX f_s (zb 3 f_5 _ [.vl (Kd.row ks).t, .vl x0, .vl y0])=_
  rw [jD,v0,bOk,v1,bOk,zp,v0,bOk,v2,bOk,wW hk k0,show ((n+499:Nat):Int)+1=((n+500:Nat):Int) by omega,yf hk k1,bOk,ut hk (by omega) h0 k1]
  exact yn
 have e12:orT (zJ neC (zb 3 f_5 (z9 (vE 4) (z9 (vE 11) (z9 (vE 9) (zc))))) (jt (zc))) (zJ neC (Yh [4,9,10] okX f_s (zb 3 f_5 (z9 (vE 0) (z9 (vE 1) (z9 (zb 2 f_j (z9 (vE 0) (z9 (vE 2) (zc)))) (zc)))))) (cE (.str "too many"))) (E13 ns ks M x7 n (.vl x0) (.vl y0) (.vl x9) .un)= .ok false:=by
  rw [UN,zO,jD,u4,bOk,u11,bOk,u9,bOk,jk hk (by omega) (by omega) h9 h0,bOk,show n+1 - (n+9)=0 by omega,List.take_zero]
  show (R.ok false).bind _=_
  rw [bOk,if_neg aB,zO,ct,bOk,Zt,bOk,kq]
 obtain ⟨xm,hm⟩:=Zs (xs:=(Kd.row ks).all) (i:=(M - 1) / 2) (by omega)
 have Wm:=JH g hm
 obtain ⟨tx,t1,t2⟩:=yl hks
 have plk:neC (Kd.row ks).t (Kd.row ks).t= .ok false:=by
  rw [hrow]
  rcases hks with rfl | rfl | rfl <;> simp only [au,aT,qa,QW] <;> rfl
 have e13:orT (zJ neC (zb 1 f_v (z9 (vE 4) (zc))) (zb 2 f_e (z9 (vE 6) (z9 (zf Zy (zf ju (vE 5) (cE (.int 1))) (cE (.int 2))) (zc))))) (zJ neC (zb 1 VZ (z9 (zb 1 f_z (z9 (vE 4) (zc))) (zc))) (vB 4)) (E13 ns ks M x7 n (.vl x0) (.vl y0) (.vl x9) .un)= .ok false:=by
  rw [UN,zO,Z4,u4,bOk,yh hk (by rw [← hM]; exact hm),bOk,zp,u6,bOk,zk,zk,u5,bOk,Zt,bOk,Zq,bOk,Zt,bOk,show (M:Int) - 1=((M - 1:Nat):Int) by omega,show (2:Int)=((2:Nat):Int) from rfl,JF (by omega) (by omega),bOk,Wm,bOk,pl hm,bOk,if_neg aB,zO,Z4,Z4,u4,bOk,t1,bOk,t2,bOk,q4,bOk,plk]
 have e14:zF 12 (Z0 (z9 (cE (.str "row")) (z9 (Z0 (z9 (Z0 (z9 (cE (.str "whole")) (z9 (cE (.int 0)) (z9 (cE (.int 19)) (zc))))) (z9 (Z0 (z9 (cE (.str "whole")) (z9 (WW (cE (.int 4))) (z9 (cE (.int 20)) (zc))))) (zc)))) (zc)))) (E13 ns ks M x7 n (.vl x0) (.vl y0) (.vl x9) .un)= .nx (E13 ns ks M x7 n (.vl x0) (.vl y0) (.vl x9) (.vl WdK.t)):=by rw [xv]; rfl
 obtain ⟨w1,w2,w3⟩:=QK
 have u12:vE 12 (E13 ns ks M x7 n (.vl x0) (.vl y0) (.vl x9) (.vl WdK.t))= .ok WdK.t:=rfl
 have e15:zJ neC (ap1 Zc (zb 3 f_5 (z9 (vE 12) (z9 (Z0 (z9 (cE (.int 0)) (z9 (WW (cE (.int 4))) (zc)))) (z9 (Z0 (z9 (cE (.int 19)) (z9 (cE (.int 20)) (zc)))) (zc)))))) (cE (.int 500)) (E13 ns ks M x7 n (.vl x0) (.vl y0) (.vl x9) (.vl WdK.t))= .ok false:=by
  rw [zO,ZV,jD,u12,bOk]
  show ((((R.ok (T.tup [.int 0, .int (-4)])).bind fun y=>(R.ok (T.tup [.int 19, .int 20])).bind fun z=>f_5 [WdK.t,y,z]).bind Zc).bind _)=_
  rw [bOk,bOk,jk QJ (by omega) (by omega) w1 w2,bOk,UL,bOk,Zt,bOk,dm,fJ,w3]
  exact xu (i:=500)
 obtain ⟨xl,hl⟩:=Zs (xs:=(Kd.row ks).all) (i:=M - 1) (by omega)
 obtain ⟨xf,hf⟩:=Zs (xs:=(Kd.row ks).all) (i:=0) (by omega)
 have Wlast:=JH g hl
 have Wf:=JH g hf
 have u4' :vE 4 (frz (E13 ns ks M x7 n (.vl x0) (.vl y0) (.vl x9) (.vl WdK.t)))= .ok (Kd.row ks).t:=rfl
 have u5' :vE 5 (frz (E13 ns ks M x7 n (.vl x0) (.vl y0) (.vl x9) (.vl WdK.t)))= .ok (.int (M:Int)):=rfl
 have u6' :vE 6 (frz (E13 ns ks M x7 n (.vl x0) (.vl y0) (.vl x9) (.vl WdK.t)))= .ok (lsT ks):=rfl
 have isn:yu .non .non= .ok true:=rfl
 rw [b_0,zg e1,zg he2,zg e3,zg e4,zg e5,zg e6,zg e7,zg (ZK e8),zg (ZK e9),zg e10,zg (ZK e11),zg (ZK e12),zg (ZK e13),zg e14,zg (ZK e15),zu (t:= .bl true)]
 ·rfl
 ·rw [jE,Ju,zp,u4',bOk,zp,u6',bOk,zk,u5',bOk,Zt,bOk,Zq,bOk,show (M:Int) - 1=((M - 1:Nat):Int) by omega,Wlast,bOk,wW hk hl,yg hk (.inr (by omega)),bOk,Zt,bOk,isn,bOk,zV,if_pos rfl,Ju,zp,u4',bOk,zp,u6',bOk,Zt,bOk,show (0:Int)=((0:Nat):Int) from rfl,Wf,bOk,WK hk hf,yg hk (.inl (by omega)),bOk,Zt,bOk,isn,bOk]
theorem Kp (ns:List Int) (h:ns.length<=63):f_0 [.fz (ns.map T.int)]= .ok (.bl true):=by
 obtain ⟨p,ep,p0,p3⟩:=UH ns 0 3 (by omega) (by omega)
 have hm:∀ ks:List Kd,(Kd.row ks).t=(Kd.row ks).t:=fun _=>rfl
 have key:∀ (i:Nat) (t:T),p=(i:Int)->([T.tup [Lt,Lt,Lt], .tup [Lt,Wt',Lt], .tup [Wt',Lt,Lt]]:List T)[i]? =some t->zF 3 (zf ixT (jt (z9 (Z0 (z9 (vE 1) (z9 (vE 1) (z9 (vE 1) (zc))))) (z9 (Z0 (z9 (vE 1) (z9 (vE 2) (z9 (vE 1) (zc))))) (z9 (Z0 (z9 (vE 2) (z9 (vE 1) (z9 (vE 1) (zc))))) (zc))))) (zb 3 f_n (z9 (vE 0) (z9 (cE (.int 0)) (z9 (cE (.int 3)) (zc)))))) [.vl (scr ns), .vl Lt, .vl Wt', .un, .un, .un, .un, .un, .un, .un, .un, .un, .un]= .nx [.vl (scr ns), .vl Lt, .vl Wt', .vl t, .un, .un, .un, .un, .un, .un, .un, .un, .un]:=fun i t hi ht=>by
  rw [Z9 (t:=t)]
  ·rfl
  ·rw [zk]
   show (R.ok (T.lst [.tup [Lt,Lt,Lt], .tup [Lt,Wt',Lt], .tup [Wt',Lt,Lt]])).bind _=_
   rw [bOk,jD,v0,bOk,Zt,bOk,Zt,bOk,ep,bOk,hi,UT ht]
 have ls:∀ ks:List Kd,lsT ks= .lst ((ks.map Kd.all).map T.lst):=fun _=>rfl
 rcases (show p=0\/p=1\/p=2 by omega) with hp | hp | hp
 ·refine yo ns (ks:=[Lk,Lk,Lk]) (.inl rfl) ?_ ?_
  ·simp only [au,aT,qa]
   exact key 0 _ (by omega) rfl
  ·rw [ls]
   simp only [au,aT,qa,WL]
   rfl
 ·refine yo ns (ks:=[Lk,Wk,Lk]) (.inr (.inl rfl)) ?_ ?_
  ·simp only [au,aT,qa,QW]
   exact key 1 _ (by omega) rfl
  ·rw [ls]
   simp only [au,aT,qa,QW,WL,yk]
   rfl
 ·refine yo ns (ks:=[Wk,Lk,Lk]) (.inr (.inr rfl)) ?_ ?_
  ·simp only [au,aT,qa,QW]
   exact key 2 _ (by omega) rfl
  ·rw [ls]
   simp only [au,aT,qa,QW,WL,yk]
   rfl
end G
namespace G
open PySem PySem.Spec PyProof.Rows L2 PV
def top (i:Nat):Stmt:=PySem.Challenge.pw_worthkinds_k76_whole_great_kinds.main.body.getD i (.Pass ⟨0,0,0,0⟩)
abbrev s_e:Stmt:=top 62
abbrev N_e:List Str:=["_law_lists","_law_number","_law_made","_law_some"]
theorem Kq:zd N_e ["_law_lists","_law_number"] (za s_e):=by refine ⟨rfl,rfl,rfl, ?_,rfl, ?_, ?_⟩ <;> decide+kernel
abbrev s_y:Stmt:=top 58
abbrev N_y:List Str:=["_law_script","_law_k"]
theorem Kr:zd N_y ["_law_script","_law_k"] (za s_y):=by refine ⟨rfl,rfl,rfl, ?_,rfl, ?_, ?_⟩ <;> decide+kernel
abbrev s_n:Stmt:=top 59
abbrev N_n:List Str:=["_law_script","_law_k","_law_many","_law_drawn"]
theorem Ks:zd N_n ["_law_script","_law_k","_law_many"] (za s_n):=by refine ⟨rfl,rfl,rfl, ?_,rfl, ?_, ?_⟩ <;> decide+kernel
abbrev s_d:Stmt:=top 15
abbrev N_d:List Str:=["thing"]
theorem Kt:zd N_d ["thing"] (za s_d):=by refine ⟨rfl,rfl,rfl, ?_,rfl, ?_, ?_⟩ <;> decide+kernel
abbrev Ku:Stmt:=top 18
abbrev gY:List Str:=["low","high","least","most"]
theorem xw:zd gY ["low","high","least","most"] (za Ku):=by refine ⟨rfl,rfl,rfl, ?_,rfl, ?_, ?_⟩ <;> decide+kernel
abbrev s_7:Stmt:=top 16
abbrev N_7:List Str:=["thing","least","most"]
theorem Kv:zd N_7 ["thing","least","most"] (za s_7):=by refine ⟨rfl,rfl,rfl, ?_,rfl, ?_, ?_⟩ <;> decide+kernel
abbrev s_r:Stmt:=top 17
abbrev N_r:List Str:=["thing"]
theorem Kw:zd N_r ["thing"] (za s_r):=by refine ⟨rfl,rfl,rfl, ?_,rfl, ?_, ?_⟩ <;> decide+kernel
abbrev s_o:Stmt:=top 21
abbrev N_o:List Str:=["thing"]
theorem Kx:zd N_o ["thing"] (za s_o):=by refine ⟨rfl,rfl,rfl, ?_,rfl, ?_, ?_⟩ <;> decide+kernel
abbrev s_l:Stmt:=top 20
abbrev N_l:List Str:=["thing","words"]
theorem kw:zd N_l ["thing"] (za s_l):=by refine ⟨rfl,rfl,rfl, ?_,rfl, ?_, ?_⟩ <;> decide+kernel
abbrev s_6:Stmt:=top 19
abbrev N_6:List Str:=["thing","levels"]
theorem Ky:zd N_6 ["thing","levels"] (za s_6):=by refine ⟨rfl,rfl,rfl, ?_,rfl, ?_, ?_⟩ <;> decide+kernel
abbrev s_x:Stmt:=top 22
abbrev N_x:List Str:=["thing","levels"]
theorem Kz:zd N_x ["thing","levels"] (za s_x):=by refine ⟨rfl,rfl,rfl, ?_,rfl, ?_, ?_⟩ <;> decide+kernel
abbrev s_2:Stmt:=top 11
abbrev N_2:List Str:=["thing"]
theorem KA:zd N_2 ["thing"] (za s_2):=by refine ⟨rfl,rfl,rfl, ?_,rfl, ?_, ?_⟩ <;> decide+kernel
abbrev s_9:Stmt:=top 13
abbrev N_9:List Str:=["kind"]
theorem KC:zd N_9 ["kind"] (za s_9):=by refine ⟨rfl,rfl,rfl, ?_,rfl, ?_, ?_⟩ <;> decide+kernel
abbrev s_b:Stmt:=top 23
abbrev N_b:List Str:=["kind"]
theorem KD:zd N_b ["kind"] (za s_b):=by refine ⟨rfl,rfl,rfl, ?_,rfl, ?_, ?_⟩ <;> decide+kernel
abbrev s_8:Stmt:=top 24
abbrev N_8:List Str:=["kind","thing"]
theorem KG:zd N_8 ["kind","thing"] (za s_8):=by refine ⟨rfl,rfl,rfl, ?_,rfl, ?_, ?_⟩ <;> decide+kernel
abbrev s_t:Stmt:=top 25
abbrev N_t:List Str:=["kinds","parts"]
theorem KH:zd N_t ["kinds","parts"] (za s_t):=by refine ⟨rfl,rfl,rfl, ?_,rfl, ?_, ?_⟩ <;> decide+kernel
abbrev s_q:Stmt:=top 12
abbrev N_q:List Str:=["kind","thing"]
theorem KI:zd N_q ["kind","thing"] (za s_q):=by refine ⟨rfl,rfl,rfl, ?_,rfl, ?_, ?_⟩ <;> decide+kernel
abbrev s_c:Stmt:=top 14
abbrev N_c:List Str:=["kind","worth"]
theorem KJ:zd N_c ["kind","worth"] (za s_c):=by refine ⟨rfl,rfl,rfl, ?_,rfl, ?_, ?_⟩ <;> decide+kernel
abbrev s_1:Stmt:=top 29
abbrev N_1:List Str:=["kind"]
theorem KK:zd N_1 ["kind"] (za s_1):=by refine ⟨rfl,rfl,rfl, ?_,rfl, ?_, ?_⟩ <;> decide+kernel
abbrev s_i:Stmt:=top 30
abbrev N_i:List Str:=["kinds","count","kind"]
theorem KL:zd N_i ["kinds"] (za s_i):=by refine ⟨rfl,rfl,rfl, ?_,rfl, ?_, ?_⟩ <;> decide+kernel
abbrev s_a:Stmt:=top 31
abbrev N_a:List Str:=["kind","length"]
theorem KM:zd N_a ["kind","length"] (za s_a):=by refine ⟨rfl,rfl,rfl, ?_,rfl, ?_, ?_⟩ <;> decide+kernel
abbrev s_3:Stmt:=top 35
abbrev N_3:List Str:=["kind","worth","length"]
theorem KN:zd N_3 ["kind","worth"] (za s_3):=by refine ⟨rfl,rfl,rfl, ?_,rfl, ?_, ?_⟩ <;> decide+kernel
abbrev s_w:Stmt:=top 36
abbrev N_w:List Str:=["kinds","parts","place","kind","part"]
theorem KO:zd N_w ["kinds","parts"] (za s_w):=by refine ⟨rfl,rfl,rfl, ?_,rfl, ?_, ?_⟩ <;> decide+kernel
abbrev s_4:Stmt:=top 32
abbrev N_4:List Str:=["kind","number"]
theorem KP:zd N_4 ["kind","number"] (za s_4):=by refine ⟨rfl,rfl,rfl, ?_,rfl, ?_, ?_⟩ <;> decide+kernel
abbrev KQ:Stmt:=top 33
abbrev gZ:List Str:=["kind","number","length"]
theorem xx:zd gZ ["kind","number"] (za KQ):=by refine ⟨rfl,rfl,rfl, ?_,rfl, ?_, ?_⟩ <;> decide+kernel
abbrev s_k:Stmt:=top 34
abbrev N_k:List Str:=["kinds","number","parts","rest","kind","count"]
theorem KR:zd N_k ["kinds","number"] (za s_k):=by refine ⟨rfl,rfl,rfl, ?_,rfl, ?_, ?_⟩ <;> decide+kernel
abbrev s_5:Stmt:=top 40
abbrev N_5:List Str:=["kind","one","other","first","last"]
theorem KS:zd N_5 ["kind","one","other"] (za s_5):=by refine ⟨rfl,rfl,rfl, ?_,rfl, ?_, ?_⟩ <;> decide+kernel
abbrev s_u:Stmt:=top 28
abbrev N_u:List Str:=["kind"]
theorem KT:zd N_u ["kind"] (za s_u):=by refine ⟨rfl,rfl,rfl, ?_,rfl, ?_, ?_⟩ <;> decide+kernel
abbrev s_g:Stmt:=top 42
abbrev N_g:List Str:=["kind","number"]
theorem KU:zd N_g ["kind","number"] (za s_g):=by refine ⟨rfl,rfl,rfl, ?_,rfl, ?_, ?_⟩ <;> decide+kernel
abbrev s_j:Stmt:=top 38
abbrev N_j:List Str:=["kind","worth"]
theorem KW:zd N_j ["kind","worth"] (za s_j):=by refine ⟨rfl,rfl,rfl, ?_,rfl, ?_, ?_⟩ <;> decide+kernel
abbrev s_p:Stmt:=top 39
abbrev N_p:List Str:=["kind","worth"]
theorem KY:zd N_p ["kind","worth"] (za s_p):=by refine ⟨rfl,rfl,rfl, ?_,rfl, ?_, ?_⟩ <;> decide+kernel
abbrev s_s:Stmt:=top 60
abbrev N_s:List Str:=["_law_kept","_law_kinds"]
theorem KZ:zd N_s ["_law_kept"] (za s_s):=by refine ⟨rfl,rfl,rfl, ?_,rfl, ?_, ?_⟩ <;> decide+kernel
abbrev jM:Stmt:=top 61
abbrev wY:List Str:=["_law_deed","e"]
theorem wv:zd wY ["_law_deed"] (za jM):=by refine ⟨rfl,rfl,rfl, ?_,rfl, ?_, ?_⟩ <;> decide+kernel
abbrev s_v:Stmt:=top 41
abbrev N_v:List Str:=["kind"]
theorem g6:zd N_v ["kind"] (za s_v):=by refine ⟨rfl,rfl,rfl, ?_,rfl, ?_, ?_⟩ <;> decide+kernel
abbrev g9:Stmt:=top 44
abbrev G1:List Str:=["thing"]
theorem xy:zd G1 ["thing"] (za g9):=by refine ⟨rfl,rfl,rfl, ?_,rfl, ?_, ?_⟩ <;> decide+kernel
abbrev gc:Stmt:=top 46
abbrev G2:List Str:=["text","mark","pieces","begin","depth","place","sign"]
theorem xz:zd G2 ["text","mark"] (za gc):=by refine ⟨rfl,rfl,rfl, ?_,rfl, ?_, ?_⟩ <;> decide+kernel
abbrev s_m:Stmt:=top 56
abbrev N_m:List Str:=["text","number"]
theorem gf:zd N_m ["text"] (za s_m):=by refine ⟨rfl,rfl,rfl, ?_,rfl, ?_, ?_⟩ <;> decide+kernel
abbrev gh:Stmt:=top 55
abbrev G4:List Str:=["text","halves"]
theorem xA:zd G4 ["text"] (za gh):=by refine ⟨rfl,rfl,rfl, ?_,rfl, ?_, ?_⟩ <;> decide+kernel
abbrev gi:Stmt:=top 45
abbrev G5:List Str:=["text","opening","closing"]
theorem xB:zd G5 ["text","opening","closing"] (za gi):=by refine ⟨rfl,rfl,rfl, ?_,rfl, ?_, ?_⟩ <;> decide+kernel
abbrev gj:Stmt:=top 54
abbrev G6:List Str:=["text","halves"]
theorem xC:zd G6 ["text"] (za gj):=by refine ⟨rfl,rfl,rfl, ?_,rfl, ?_, ?_⟩ <;> decide+kernel
abbrev s_h:Stmt:=top 53
abbrev N_h:List Str:=["text","levels","pieces","halves"]
theorem gm:zd N_h ["text","levels"] (za s_h):=by refine ⟨rfl,rfl,rfl, ?_,rfl, ?_, ?_⟩ <;> decide+kernel
abbrev gp:Stmt:=top 50
abbrev G7:List Str:=["text","kind"]
theorem xD:zd G7 ["text"] (za gp):=by refine ⟨rfl,rfl,rfl, ?_,rfl, ?_, ?_⟩ <;> decide+kernel
abbrev gq:Stmt:=top 52
abbrev G8:List Str:=["low","high"]
theorem xE:zd G8 ["low","high"] (za gq):=by refine ⟨rfl,rfl,rfl, ?_,rfl, ?_, ?_⟩ <;> decide+kernel
abbrev s_f:Stmt:=top 51
abbrev N_f:List Str:=["kind"]
theorem gr:zd N_f ["kind"] (za s_f):=by refine ⟨rfl,rfl,rfl, ?_,rfl, ?_, ?_⟩ <;> decide+kernel
abbrev s_z:Stmt:=top 49
abbrev N_z:List Str:=["kind"]
theorem gs:zd N_z ["kind"] (za s_z):=by refine ⟨rfl,rfl,rfl, ?_,rfl, ?_, ?_⟩ <;> decide+kernel
abbrev s_0:Stmt:=top 63
abbrev N_0:List Str:=["_law_script","_law_line","_law_words","_law_kinds","_law_kind","_law_many","_law_lists","_law_some","_law_number","_law_one","_law_other","_law_short","_law_wide"]
theorem gu:zd N_0 ["_law_script"] (za s_0):=by refine ⟨rfl,rfl,rfl, ?_,rfl, ?_, ?_⟩ <;> decide+kernel
structure Fn (K:ac) (mg:Str->Option Value) (x:Str) (st:Stmt) (ps:List Str) (f:Addr) (fd:FuncData):Prop where
 F:Fun K x x st f fd
 b:L2.Binds K fd ps []
 m:mg x=some (.ref f)
abbrev qb:List Value:=[.type "ValueError", .type "Exception", .type "BaseException", .type "object"]
set_option genInjectivity false in
set_option genSizeOf false in
structure Tx (K:ac) (mg:Str->Option Value) where
 a_e:Addr
 d_e:FuncData
 C_e:Fn K mg "_law_worth" s_e ["_law_lists","_law_number"] a_e d_e
 a_y:Addr
 d_y:FuncData
 C_y:Fn K mg "_law_cell" s_y ["_law_script","_law_k"] a_y d_y
 a_n:Addr
 d_n:FuncData
 C_n:Fn K mg "_law_pick" s_n ["_law_script","_law_k","_law_many"] a_n d_n
 a_d:Addr
 d_d:FuncData
 C_d:Fn K mg "is_whole" s_d ["thing"] a_d d_d
 a_11:Addr
 d_11:FuncData
 C_11:Fn K mg "is_span" Ku ["low","high","least","most"] a_11 d_11
 a_7:Addr
 d_7:FuncData
 C_7:Fn K mg "is_tuple_of" s_7 ["thing","least","most"] a_7 d_7
 a_r:Addr
 d_r:FuncData
 C_r:Fn K mg "is_word" s_r ["thing"] a_r d_r
 a_o:Addr
 d_o:FuncData
 C_o:Fn K mg "is_choice" s_o ["thing"] a_o d_o
 a_l:Addr
 d_l:FuncData
 C_l:Fn K mg "are_choices" s_l ["thing"] a_l d_l
 a_6:Addr
 d_6:FuncData
 C_6:Fn K mg "is_kind_within" s_6 ["thing","levels"] a_6 d_6
 a_x:Addr
 d_x:FuncData
 C_x:Fn K mg "are_kinds_within" s_x ["thing","levels"] a_x d_x
 a_2:Addr
 d_2:FuncData
 C_2:Fn K mg "is_kind" s_2 ["thing"] a_2 d_2
 a_9:Addr
 d_9:FuncData
 C_9:Fn K mg "need_kind" s_9 ["kind"] a_9 d_9
 a_b:Addr
 d_b:FuncData
 C_b:Fn K mg "words_of_pick" s_b ["kind"] a_b d_b
 a_8:Addr
 d_8:FuncData
 C_8:Fn K mg "has_worth" s_8 ["kind","thing"] a_8 d_8
 a_t:Addr
 d_t:FuncData
 C_t:Fn K mg "have_parts" s_t ["kinds","parts"] a_t d_t
 a_q:Addr
 d_q:FuncData
 C_q:Fn K mg "is_worth" s_q ["kind","thing"] a_q d_q
 a_c:Addr
 d_c:FuncData
 C_c:Fn K mg "need_worth" s_c ["kind","worth"] a_c d_c
 a_1:Addr
 d_1:FuncData
 C_1:Fn K mg "count_of" s_1 ["kind"] a_1 d_1
 a_i:Addr
 d_i:FuncData
 C_i:Fn K mg "count_of_parts" s_i ["kinds"] a_i d_i
 a_a:Addr
 d_a:FuncData
 C_a:Fn K mg "count_shorter" s_a ["kind","length"] a_a d_a
 a_3:Addr
 d_3:FuncData
 C_3:Fn K mg "place_of" s_3 ["kind","worth"] a_3 d_3
 a_w:Addr
 d_w:FuncData
 C_w:Fn K mg "place_of_parts" s_w ["kinds","parts"] a_w d_w
 a_4:Addr
 d_4:FuncData
 C_4:Fn K mg "worth_at" s_4 ["kind","number"] a_4 d_4
 a_12:Addr
 d_12:FuncData
 C_12:Fn K mg "many_at" KQ ["kind","number"] a_12 d_12
 a_k:Addr
 d_k:FuncData
 C_k:Fn K mg "parts_at" s_k ["kinds","number"] a_k d_k
 a_5:Addr
 d_5:FuncData
 C_5:Fn K mg "between" s_5 ["kind","one","other"] a_5 d_5
 a_u:Addr
 d_u:FuncData
 C_u:Fn K mg "how_many" s_u ["kind"] a_u d_u
 a_g:Addr
 d_g:FuncData
 C_g:Fn K mg "worth_if_any" s_g ["kind","number"] a_g d_g
 a_j:Addr
 d_j:FuncData
 C_j:Fn K mg "next_worth" s_j ["kind","worth"] a_j d_j
 a_p:Addr
 d_p:FuncData
 C_p:Fn K mg "worth_ahead" s_p ["kind","worth"] a_p d_p
 a_s:Addr
 d_s:FuncData
 C_s:Fn K mg "_law_class" s_s ["_law_kept"] a_s d_s
 a__law_told:Addr
 d__law_told:FuncData
 C__law_told:Fn K mg "_law_told" jM ["_law_deed"] a__law_told d__law_told
 a_v:Addr
 d_v:FuncData
 C_v:Fn K mg "middle" s_v ["kind"] a_v d_v
 a_18:Addr
 d_18:FuncData
 C_18:Fn K mg "need_text" g9 ["thing"] a_18 d_18
 a_16:Addr
 d_16:FuncData
 C_16:Fn K mg "pieces_between" gc ["text","mark"] a_16 d_16
 a_m:Addr
 d_m:FuncData
 C_m:Fn K mg "number_in" s_m ["text"] a_m d_m
 a_15:Addr
 d_15:FuncData
 C_15:Fn K mg "span_in" gh ["text"] a_15 d_15
 a_14:Addr
 d_14:FuncData
 C_14:Fn K mg "text_inside" gi ["text","opening","closing"] a_14 d_14
 a_17:Addr
 d_17:FuncData
 C_17:Fn K mg "choice_in" gj ["text"] a_17 d_17
 a_h:Addr
 d_h:FuncData
 C_h:Fn K mg "kind_in" s_h ["text","levels"] a_h d_h
 a_10:Addr
 d_10:FuncData
 C_10:Fn K mg "read_kind" gp ["text"] a_10 d_10
 a_13:Addr
 d_13:FuncData
 C_13:Fn K mg "span_written" gq ["low","high"] a_13 d_13
 a_f:Addr
 d_f:FuncData
 C_f:Fn K mg "kind_written" s_f ["kind"] a_f d_f
 a_z:Addr
 d_z:FuncData
 C_z:Fn K mg "kind_text" s_z ["kind"] a_z d_z
 a_0:Addr
 d_0:FuncData
 C_0:Fn K mg "law" s_0 ["_law_script"] a_0 d_0
 k_law:Addr
 P_law:Addr
 e_law:d_0.code= .ref k_law
 h_law:du K k_law P_law=true
 n_law:K.lookup P_law=none
 z_ValueError:mg "ValueError"=none
 z_all:mg "all"=none
 z_bool:mg "bool"=none
 z_enumerate:mg "enumerate"=none
 z_int:mg "int"=none
 z_isinstance:mg "isinstance"=none
 z_len:mg "len"=none
 z_list:mg "list"=none
 z_range:mg "range"=none
 z_reversed:mg "reversed"=none
 z_set:mg "set"=none
 z_str:mg "str"=none
 z_sum:mg "sum"=none
 z_tuple:mg "tuple"=none
 z_zip:mg "zip"=none
 c_DEEPEST:∃ u,mg "DEEPEST"=some u/\∃ t,u=Value.int 3 t
 c_LONGEST_NUMBER:∃ u,mg "LONGEST_NUMBER"=some u/\∃ t,u=Value.int 3 t
 c_MOST_TOLD:∃ u,mg "MOST_TOLD"=some u/\∃ t,u=Value.int 500 t
set_option genInjectivity false in
set_option genSizeOf false in
structure Tq (K:ac) (mg:Str->Option Value) (base:Heap) (cl:Nat->Value) where
 q_Ended:Addr
 q_NoBack:Addr
 q_NoKind:Addr
 q_NoRule:Addr
 q_NoText:Addr
 q_NoWorth:Addr
 q_TooMany:Addr
 q_WorthError:Addr
 X_k:XK1 K cl okX
 e_WorthError:∀ c,okX c=true->PySem.W.exmOne K (cl c) (.ref q_WorthError)=some true
 l_NoKind:cl 0= .ref q_NoKind
 l_NoText:cl 5= .ref q_NoText
 l_NoWorth:cl 1= .ref q_NoWorth
 l_TooMany:cl 3= .ref q_TooMany
 m_Ended:mg "Ended"=some (.ref q_Ended)
 m_NoBack:mg "NoBack"=some (.ref q_NoBack)
 m_NoKind:mg "NoKind"=some (.ref q_NoKind)
 m_NoRule:mg "NoRule"=some (.ref q_NoRule)
 m_NoText:mg "NoText"=some (.ref q_NoText)
 m_NoWorth:mg "NoWorth"=some (.ref q_NoWorth)
 m_TooMany:mg "TooMany"=some (.ref q_TooMany)
 m_WorthError:mg "WorthError"=some (.ref q_WorthError)
 o_NoKind:OwnCls "NoKind" q_NoKind qb "ValueError.__new__" mg base
 o_NoText:OwnCls "NoText" q_NoText qb "ValueError.__new__" mg base
 o_NoWorth:OwnCls "NoWorth" q_NoWorth qb "ValueError.__new__" mg base
 o_TooMany:OwnCls "TooMany" q_TooMany qb "ValueError.__new__" mg base
 t_Ended:∀ c,okX c=true->aA K (cl c) (.ref q_Ended)=some (jA c)
 t_NoBack:∀ c,okX c=true->aA K (cl c) (.ref q_NoBack)=some (ji c)
 t_NoKind:∀ c,okX c=true->aA K (cl c) (.ref q_NoKind)=some (jf c)
 t_NoRule:∀ c,okX c=true->aA K (cl c) (.ref q_NoRule)=some (jg c)
 t_NoText:∀ c,okX c=true->aA K (cl c) (.ref q_NoText)=some (jh c)
 t_NoWorth:∀ c,okX c=true->aA K (cl c) (.ref q_NoWorth)=some (ZT c)
 t_TooMany:∀ c,okX c=true->aA K (cl c) (.ref q_TooMany)=some (ZU c)
 t_ValueError:∀ c,okX c=true->aA K (cl c) (.type "ValueError")=some (Zk c)
section
variable (P:Program) (w:World) {K:ac} {mg:Str->Option Value} (base:Heap) (cl:Nat->Value) (tx:Tx K mg) (k:Nat) (c:List T->R T)
abbrev Q_e:Prop:=zG P w K mg base CX0 k tx.a_e tx.d_e ["_law_lists","_law_number"] (spP cl 2 c)
abbrev Q_y:Prop:=zG P w K mg base CX0 k tx.a_y tx.d_y ["_law_script","_law_k"] (spP cl 2 c)
abbrev Q_n:Prop:=zG P w K mg base CX0 k tx.a_n tx.d_n ["_law_script","_law_k","_law_many"] (spP cl 3 c)
abbrev Q_d:Prop:=zG P w K mg base CX0 k tx.a_d tx.d_d ["thing"] (spP cl 1 c)
abbrev kx:Prop:=zG P w K mg base CX0 k tx.a_11 tx.d_11 ["low","high","least","most"] (spP cl 4 c)
abbrev Q_7:Prop:=zG P w K mg base CX0 k tx.a_7 tx.d_7 ["thing","least","most"] (spP cl 3 c)
abbrev Q_r:Prop:=zG P w K mg base CX0 k tx.a_r tx.d_r ["thing"] (spP cl 1 c)
abbrev Q_o:Prop:=zG P w K mg base CX0 k tx.a_o tx.d_o ["thing"] (spP cl 1 c)
abbrev Q_l:Prop:=zG P w K mg base CX0 k tx.a_l tx.d_l ["thing"] (spP cl 1 c)
abbrev Q_6:Prop:=zG P w K mg base CX0 k tx.a_6 tx.d_6 ["thing","levels"] (spP cl 2 c)
abbrev Q_x:Prop:=zG P w K mg base CX0 k tx.a_x tx.d_x ["thing","levels"] (spP cl 2 c)
abbrev Q_2:Prop:=zG P w K mg base CX0 k tx.a_2 tx.d_2 ["thing"] (spP cl 1 c)
abbrev Q_9:Prop:=zG P w K mg base (CX1 P w) k tx.a_9 tx.d_9 ["kind"] (spP cl 1 c)
abbrev Q_b:Prop:=zG P w K mg base CX0 k tx.a_b tx.d_b ["kind"] (spP cl 1 c)
abbrev Q_8:Prop:=zG P w K mg base CX0 k tx.a_8 tx.d_8 ["kind","thing"] (spP cl 2 c)
abbrev Q_t:Prop:=zG P w K mg base CX0 k tx.a_t tx.d_t ["kinds","parts"] (spP cl 2 c)
abbrev Q_q:Prop:=zG P w K mg base (CX1 P w) k tx.a_q tx.d_q ["kind","thing"] (spP cl 2 c)
abbrev Q_c:Prop:=zG P w K mg base (CX1 P w) k tx.a_c tx.d_c ["kind","worth"] (spP cl 2 c)
abbrev Q_1:Prop:=zG P w K mg base CX0 k tx.a_1 tx.d_1 ["kind"] (spP cl 1 c)
abbrev Q_i:Prop:=zG P w K mg base CX0 k tx.a_i tx.d_i ["kinds"] (spP cl 1 c)
abbrev Q_a:Prop:=zG P w K mg base CX0 k tx.a_a tx.d_a ["kind","length"] (spP cl 2 c)
abbrev Q_3:Prop:=zG P w K mg base CX0 k tx.a_3 tx.d_3 ["kind","worth"] (spP cl 2 c)
abbrev Q_w:Prop:=zG P w K mg base CX0 k tx.a_w tx.d_w ["kinds","parts"] (spP cl 2 c)
abbrev Q_4:Prop:=zG P w K mg base CX0 k tx.a_4 tx.d_4 ["kind","number"] (spP cl 2 c)
abbrev xQ:Prop:=zG P w K mg base CX0 k tx.a_12 tx.d_12 ["kind","number"] (spP cl 2 c)
abbrev Q_k:Prop:=zG P w K mg base CX0 k tx.a_k tx.d_k ["kinds","number"] (spP cl 2 c)
abbrev Q_5:Prop:=zG P w K mg base (CX1 P w) k tx.a_5 tx.d_5 ["kind","one","other"] (spP cl 3 c)
abbrev Q_u:Prop:=zG P w K mg base (CX1 P w) k tx.a_u tx.d_u ["kind"] (spP cl 1 c)
abbrev Q_g:Prop:=zG P w K mg base CX0 k tx.a_g tx.d_g ["kind","number"] (spP cl 2 c)
abbrev Q_j:Prop:=zG P w K mg base (CX1 P w) k tx.a_j tx.d_j ["kind","worth"] (spP cl 2 c)
abbrev Q_p:Prop:=zG P w K mg base (CX1 P w) k tx.a_p tx.d_p ["kind","worth"] (spP cl 2 c)
abbrev Q_s (c:Nat->R T):Prop:=FnM P w K mg base k tx.a_s tx.d_s ["_law_kept"] (spC cl c)
abbrev jN (c:Nat->R T):Prop:=UF P w K mg cl okX c k tx.a__law_told tx.d__law_told "_law_deed"
abbrev Q_v:Prop:=zG P w K mg base (CX1 P w) k tx.a_v tx.d_v ["kind"] (spP cl 1 c)
abbrev ky:Prop:=zG P w K mg base (CX1 P w) k tx.a_18 tx.d_18 ["thing"] (spP cl 1 c)
abbrev kz:Prop:=zG P w K mg base CX0 k tx.a_16 tx.d_16 ["text","mark"] (spP cl 2 c)
abbrev Q_m:Prop:=zG P w K mg base (CX1 P w) k tx.a_m tx.d_m ["text"] (spP cl 1 c)
abbrev kA:Prop:=zG P w K mg base (CX1 P w) k tx.a_15 tx.d_15 ["text"] (spP cl 1 c)
abbrev kB:Prop:=zG P w K mg base (CX1 P w) k tx.a_14 tx.d_14 ["text","opening","closing"] (spP cl 3 c)
abbrev kC:Prop:=zG P w K mg base (CX1 P w) k tx.a_17 tx.d_17 ["text"] (spP cl 1 c)
abbrev Q_h:Prop:=zG P w K mg base (CX1 P w) k tx.a_h tx.d_h ["text","levels"] (spP cl 2 c)
abbrev kD:Prop:=zG P w K mg base (CX1 P w) k tx.a_10 tx.d_10 ["text"] (spP cl 1 c)
abbrev kF:Prop:=zG P w K mg base CX0 k tx.a_13 tx.d_13 ["low","high"] (spP cl 2 c)
abbrev Q_f:Prop:=zG P w K mg base CX0 k tx.a_f tx.d_f ["kind"] (spP cl 1 c)
abbrev Q_z:Prop:=zG P w K mg base (CX1 P w) k tx.a_z tx.d_z ["kind"] (spP cl 1 c)
abbrev qL:Str:="law"++".<locals>."++"<lambda>"
abbrev Q_0:Prop:=zG P w K mg base (CX1 P w) k tx.a_0 tx.d_0 ["_law_script"] (QS cl 1 c tx.P_law qL)
end
theorem cZ {X:Cx} {Y:Fx} {cl:Nat->Value} {k j n:Nat} {f:Addr} {fd:FuncData} {ps:List Str} {g:List T->R T} {x:Str} {st:Stmt} {a:Expr} {es:List Expr} {ga:En->R (List T)} {p pos:Pos} (hy:Y.cl=cl) (F:zG X.prog X.w X.K X.mg X.base CX0 j f fd ps (spP cl n g)) (hr:ZJ k X.A) (C:Fn X.K X.mg x st ps f fd) (ha:wI X Y (a :: es) ga) (hj:j<=k:=by omega) (gl:Gl X x:=by rfl) (hd:(x == ("__debug__":Str))=false:=by decide)
  (hs:starEach (a :: es) X.env=(false,eval a X.env) :: starEach es X.env:=by exact zD rfl) (hz:((backTo pos (starEach es X.env)).any fun x=>x.fst)=false:=by exact Z2 rfl):Snd X Y (.Call (.Name x p) (a :: es) [] pos) (zb n g ga):=qY hy F hr hj gl C.m C.F.kp C.b ha hd hs hz
theorem cX {X:Cx} {Y:Fx} {cl:Nat->Value} {k j n:Nat} {f:Addr} {fd:FuncData} {ps:List Str} {g:List T->R T} {x:Str} {st:Stmt} {a:Expr} {es:List Expr} {ga:En->R (List T)} {p pos:Pos} (hy:Y.cl=cl) (hp:Zb (CX1 X.prog X.w) X Y.E) (F:zG X.prog X.w X.K X.mg X.base (CX1 X.prog X.w) j f fd ps (spP cl n g)) (hr:ZJ k X.A) (C:Fn X.K X.mg x st ps f fd) (ha:wI X Y (a :: es) ga) (hj:j<=k:=by omega) (gl:Gl X x:=by rfl) (hd:(x == ("__debug__":Str))=false:=by decide)
  (hs:starEach (a :: es) X.env=(false,eval a X.env) :: starEach es X.env:=by exact zD rfl) (hz:((backTo pos (starEach es X.env)).any fun x=>x.fst)=false:=by exact Z2 rfl):Snd X Y (.Call (.Name x p) (a :: es) [] pos) (zb n g ga):=qZ hy hp F hr hj gl C.m C.F.kp C.b ha hd hs hz
section
variable {P:Program} {w:World} {K:ac} {mg:Str->Option Value} {base:Heap} {cl:Nat->Value} {tx:Tx K mg}
set_option hygiene false
local macro_rules | `(tactic| gp_on)=> `(tactic| first
  | (show wI _ _ _ _; first
   | refine Yw ?_ ?_
   | exact vH)
  | (show Snd _ _ (.Name ..) _; first
   | exact Xg _ (pv _)
   | exact wL (by rfl) c_DEEPEST.1 c_DEEPEST.2
   | exact wL (by rfl) c_MOST_TOLD.1 c_MOST_TOLD.2
   | exact wL (by rfl) c_LONGEST_NUMBER.1 c_LONGEST_NUMBER.2)
  | (show wz _ _ _ _; first
   | refine vW ?_ ?_
   | exact XI
   | refine XJ ?_)
  | (show Snd _ _ (.Constant ..) _; first
   | exact Xh
   | exact vG
   | exact gN
   | exact Xi)
  | (show JZ _ _ _ _; first
   | refine XL ?_
   | refine XM ?_ ?_ ?_
   | refine vX nd (by rfl) (.inl (by rfl)) ?_
   | refine vZ ?_
   | exact Jq (c:=_) xq.o_NoText aR (by decide) aR hE (by rw [hy]; exact xq.l_NoText) (by rfl)
   | refine V7 hJ (by rfl) ?_ ?_ ?_
   | refine XN (pv _) ?_
   | refine vY nd (by rfl) (.inl (by rfl)) ?_
   | refine vX nd (by rfl) (.inr (by rfl)) ?_
   | exact Jq (c:=_) xq.o_NoKind aR (by decide) aR hE (by rw [hy]; exact xq.l_NoKind) (by rfl)
   | exact Jq (c:=_) xq.o_NoWorth aR (by decide) aR hE (by rw [hy]; exact xq.l_NoWorth) (by rfl)
   | refine qT (n:=_) hJ ?_ ?_
   | exact Jq (c:=_) xq.o_TooMany aR (by decide) aR hE (by rw [hy]; exact xq.l_TooMany) (by rfl)
   | refine Uy ?_ (W6 (by rfl) nd (by rfl) (by rfl) (.inl (by rfl)) (.inr (by rfl)))
   | refine Uy ?_ (W6 (by rfl) nd (by rfl) (by rfl) (.inr (by rfl)) (.inl (by rfl)))
   | refine V7 PassesOwn.leaving (by rfl) ?_ ?_ ?_
   | refine Uy ?_ (W6 (by rfl) nd (by rfl) (by rfl) (.inr (by rfl)) (.inr (by rfl))))
  | (show ZQ _ _ _ _; first
   | exact vF _ (pv _)
   | refine Snd.b ?_)
  | (show Snd _ _ (.Call ..) _; first
   | refine XD (by rfl) tx.z_len ?_
   | refine XH hr.hd (by rfl) tx.z_all ?_
   | refine k7 ?_ ?_
   | refine qP (by rfl) tx.z_tuple ?_
   | refine yO (n:="tuple") (U7 _) (by rfl) tx.z_isinstance (by rfl) tx.z_tuple PyProof.Rows.Boot.«tuple» ?_
   | refine yO (n:="str") (qR _) (by rfl) tx.z_isinstance (by rfl) tx.z_str PyProof.Rows.Boot.«str» ?_
   | refine Qe hr.units ?_ ?_
   | refine k9 ?_ ?_
   | refine Vd ?_
   | refine yO (n:="int") (qQ _) (by rfl) tx.z_isinstance (by rfl) tx.z_int PyProof.Rows.Boot.«int» ?_
   | refine yO (n:="bool") (yN _) (by rfl) tx.z_isinstance (by rfl) tx.z_bool PyProof.Rows.Boot.«bool» ?_
   | refine Ve hr.hd (by rfl) tx.z_len (by rfl) tx.z_set ?_
   | refine XU hr.hd (by rfl) tx.z_sum ?_
   | refine Vx hr.hd (by rfl) tx.z_tuple (by rfl) tx.z_reversed ?_
   | exact ZS (hy ▸ xq.X_k) (hy ▸ xq.t_Ended) (by rfl) tx.z_isinstance (pv _) (by rfl) xq.m_Ended
   | exact ZS (hy ▸ xq.X_k) (hy ▸ xq.t_NoBack) (by rfl) tx.z_isinstance (pv _) (by rfl) xq.m_NoBack
   | exact ZS (hy ▸ xq.X_k) (hy ▸ xq.t_NoKind) (by rfl) tx.z_isinstance (pv _) (by rfl) xq.m_NoKind
   | exact ZS (hy ▸ xq.X_k) (hy ▸ xq.t_NoRule) (by rfl) tx.z_isinstance (pv _) (by rfl) xq.m_NoRule
   | exact ZS (hy ▸ xq.X_k) (hy ▸ xq.t_NoText) (by rfl) tx.z_isinstance (pv _) (by rfl) xq.m_NoText
   | exact ZS (hy ▸ xq.X_k) (hy ▸ xq.t_NoWorth) (by rfl) tx.z_isinstance (pv _) (by rfl) xq.m_NoWorth
   | exact ZS (hy ▸ xq.X_k) (hy ▸ xq.t_TooMany) (by rfl) tx.z_isinstance (pv _) (by rfl) xq.m_TooMany
   | refine Qd hr.units ?_ ?_
   | exact Q2 (n:="ValueError") (hy ▸ xq.X_k) (hy ▸ xq.t_ValueError) (by rfl) tx.z_isinstance (pv _) (by rfl) tx.z_ValueError PyProof.Rows.Boot.«ValueError»
   | refine VH ?_ ?_ ?_
   | refine VP (by rfl) tx.z_int ?_
   | refine VO (by rfl) tx.z_str ?_
   | refine k8 ?_ ?_
   | refine kb ?_ ?_
   | refine ka ?_ ?_
   | refine Qb hr.hd (by rfl) tx.z_list (by rfl) tx.z_range ?_ ?_
   | refine cZ hy (O_e _ KB) hr tx.C_e ?_
   | refine cZ hy O_1 hr tx.C_1 ?_
   | refine cZ hy O_7 hr tx.C_7 ?_
   | refine cZ hy O_3 hr tx.C_3 ?_
   | refine cZ hy O_d hr tx.C_d ?_
   | refine cX hy (hE ▸ ZP) O_9 hr tx.C_9 ?_
   | refine cZ hy O_a hr tx.C_a ?_
   | refine cX hy (hE ▸ ZP) O_c hr tx.C_c ?_
   | refine cZ hy O_b hr tx.C_b ?_
   | refine cZ hy O_4 hr tx.C_4 ?_
   | refine cX hy (hE ▸ ZP) O_m hr tx.C_m ?_
   | refine cX hy (hE ▸ ZP) (O_5 _ KB) hr tx.C_5 ?_
   | refine cZ hy O_11 hr tx.C_11 ?_
   | refine cZ hy O_6 hr tx.C_6 ?_
   | refine cZ hy O_2 hr tx.C_2 ?_
   | refine cZ hy O_t hr tx.C_t ?_
   | refine cZ hy O_w hr tx.C_w ?_
   | refine cZ hy O_k hr tx.C_k ?_
   | refine cZ hy O_g hr tx.C_g ?_
   | refine cX hy (hE ▸ ZP) O_14 hr tx.C_14 ?_
   | refine cX hy (hE ▸ ZP) O_h hr tx.C_h ?_
   | refine cX hy (hE ▸ ZP) O_15 hr tx.C_15 ?_
   | refine cZ hy O_13 hr tx.C_13 ?_
   | refine cZ hy O_f hr tx.C_f ?_
   | refine cZ hy (O_n _ KB) hr tx.C_n ?_
   | refine cX hy (hE ▸ ZP) (O_j _ KB) hr tx.C_j ?_
   | refine cX hy (hE ▸ ZP) (O_p _ KB) hr tx.C_p ?_
   | refine cZ hy O_y hr tx.C_y ?_
   | refine cZ hy O_r hr tx.C_r ?_
   | refine cZ (hy'.trans hy) O_o hr tx.C_o ?_
   | refine cZ hy O_l hr tx.C_l ?_
   | refine cZ hy O_x hr tx.C_x ?_
   | refine cZ (hy'.trans hy) O_6 hr tx.C_6 ?_
   | refine cZ (hy'.trans hy) O_8 hr tx.C_8 ?_
   | refine cZ hy O_8 hr tx.C_8 ?_
   | refine cX hy (hE ▸ ZP) O_q hr tx.C_q ?_
   | refine cZ hy O_i hr tx.C_i ?_
   | refine cZ (hy'.trans hy) O_i hr tx.C_i ?_
   | refine cZ hy O_12 hr tx.C_12 ?_
   | refine cZ (hy'.trans hy) O_4 hr tx.C_4 ?_
   | refine cZ (hy'.trans hy) (noex O_17) hr tx.C_17 ?_
   | refine cZ hy O_16 hr tx.C_16 ?_
   | refine cZ (hy'.trans hy) (noex O_h) hr tx.C_h ?_
   | refine cX hy (hE ▸ ZP) O_18 hr tx.C_18 ?_
   | refine cZ (hy'.trans hy) O_f hr tx.C_f ?_
   | refine cX hy (hE ▸ ZP) (O_u _ KB) hr tx.C_u ?_
   | refine cZ (hy'.trans hy) (O_e _ KB) hr tx.C_e ?_
   | refine cX hy (hE ▸ VT) (O_5 _ KB) hr tx.C_5 ?_
   | refine cX hy (hE ▸ VT) (O_j _ KB) hr tx.C_j ?_
   | refine cX hy (hE ▸ ZP) (O_v _ KB) hr tx.C_v ?_
   | refine cX hy (hE ▸ ZP) (O_10 _ KB) hr tx.C_10 ?_
   | refine cX hy (hE ▸ ZP) (O_z _ KB) hr tx.C_z ?_)
  | (show wx _ _ _ _; first
   | refine WX vJ (Yx hr.units) ?_ ?_ (jx _)
   | refine Xz ?_
   | refine WX Xr (vK hr.units) ?_ ?_ (jx _)
   | refine WX Xs vM ?_ ?_ (jx _)
   | refine WX Vz Qi ?_ ?_ (by rfl)
   | refine WX vL Yy ?_ ?_ (jx _)
   | refine U3 Jk Jk j4 j4 ?_ ?_ ?_
   | refine WX Jk j4 ?_ ?_ (jx _)
   | refine U3 Jk vL j4 Yy ?_ ?_ ?_
   | refine XA ?_
   | refine uu.t ?_)
  | (show Snd _ _ (.Subscript ..) _; first
   | refine gQ ?_ ?_
   | refine ke ?_ ?_ ?_
   | refine XZ ?_)
  | (show Snd _ _ (.BinOp ..) _; first
   | refine Xm ?_ ?_
   | refine Xn ?_ ?_
   | refine Xp ?_ ?_
   | refine Xo ?_ ?_
   | refine vI ?_ ?_)
  | (show Snd _ _ (.BoolOp ..) _; first
   | refine Xv ?_ ?_
   | refine Xu ?_)
  | (show Snd _ _ (.Tuple ..) _; first
   | refine Xj ?_)
  | (show uu _ _ _ _; first
   | refine gO ?_ ?_
   | refine Xy ?_ ?_
   | refine Xx ?_
   | refine vS ?_)
  | (show uw _ _ _ _ _; first
   | refine XS (by rfl) tx.z_zip ?_ ?_
   | refine V4 (by rfl) tx.z_range ?_ ?_
   | refine XY (by rfl) tx.z_reversed ?_
   | refine Qk (by rfl) tx.z_enumerate ?_
   | refine V3 (by rfl) tx.z_range ?_
   | refine XR ?_)
  | (show u0 _ _ _ _; first
   | exact Va)
  | (show Snd _ _ (.Compare ..) _; first
   | refine qH vJ (Yx hr.units) ?_ ?_ (jx _)
   | refine qM Jk Jk j4 j4 ?_ ?_ ?_
   | refine qH vP vQ ?_ ?_ (jx _)
   | refine yL Jk Jk Jk j4 j4 j4 ?_ ?_ ?_ ?_
   | refine qH vN (vO hr.units) ?_ ?_ (by rfl))
  | (show Snd _ _ (.List ..) _; first
   | refine Xk ?_)
  | (show qS _ _ _ _; first
   | refine vU ?_
   | exact vT)
  | (show Snd _ _ (.UnaryOp ..) _; first
   | refine Xq ?_
   | refine Xw ?_)
  | (show V5 _ _ _ _; first
   | exact V6 nd (by rfl) (.inl (by rfl))
   | exact W6 (by rfl) nd (by rfl) (by rfl) (.inl (by rfl)) (.inl (by rfl)))
  | (show Snd _ _ (.JoinedStr ..) _; first
   | refine gU ?_ ?_)
  | (show Snd _ _ (.IfExp ..) _; first
   | refine gP ?_ ?_ ?_)
  )
theorem G9:Q_e P w base cl tx 1 (fun ts=>zh (b_e  (en0 4 ts))):=by
 refine zU tx.C_e.F Kq rfl (fun cdv A outer s H E Y hy hr=> ?_) (fun ts h=>rfl)
 have nd:=Kq.nd
 repeat' gp_on
theorem Ga:Q_y P w base cl tx 1 (fun ts=>zh (b_y  (en0 2 ts))):=by
 refine zU tx.C_y.F Kr rfl (fun cdv A outer s H E Y hy hr=> ?_) (fun ts h=>rfl)
 have nd:=Kr.nd
 repeat' gp_on
theorem Gb {c_y:List T->R T} (O_y:Q_y P w base cl tx 1 c_y):Q_n P w base cl tx 2 (fun ts=>zh (b_n c_y (en0 4 ts))):=by
 refine zU tx.C_n.F Ks rfl (fun cdv A outer s H E Y hy hr=> ?_) (fun ts h=>rfl)
 have nd:=Ks.nd
 repeat' gp_on
theorem Gc:Q_d P w base cl tx 1 (fun ts=>zh (b_d  (en0 1 ts))):=by
 refine zU tx.C_d.F Kt rfl (fun cdv A outer s H E Y hy hr=> ?_) (fun ts h=>rfl)
 have nd:=Kt.nd
 repeat' gp_on
theorem kG {c_d:List T->R T} (O_d:Q_d P w base cl tx 1 c_d):kx P w base cl tx 2 (fun ts=>zh (K5 c_d (en0 4 ts))):=by
 refine zU tx.C_11.F xw rfl (fun cdv A outer s H E Y hy hr=> ?_) (fun ts h=>rfl)
 have nd:=xw.nd
 repeat' gp_on
theorem Ge:Q_7 P w base cl tx 1 (fun ts=>zh (b_7  (en0 3 ts))):=by
 refine zU tx.C_7.F Kv rfl (fun cdv A outer s H E Y hy hr=> ?_) (fun ts h=>rfl)
 have nd:=Kv.nd
 repeat' gp_on
theorem Gf:Q_r P w base cl tx 1 (fun ts=>zh (b_r  (en0 1 ts))):=by
 refine zU tx.C_r.F Kw rfl (fun cdv A outer s H E Y hy hr=> ?_) (fun ts h=>rfl)
 have nd:=Kw.nd
 repeat' gp_on
 refine Zp (Zd ["sign"] N_r (za s_r) (by rfl) (by rfl) (by decide+kernel) (by rfl) ?_ (fun _ _ _ _ _ _=>zz (show bE (["sign"]:List Str) by decide+kernel) (by rfl) (.inl (by rfl)) (.inr (by rfl))) (zL 0) (zM 0) (fun Y' hy' _ _ _ _ _ _=> ?_) (fun Y' hy' _ _ _ _ _ _ _ hp' => ?_))
 repeat' gp_on
theorem Gg {c_d c_7 c_r:List T->R T} (O_d:Q_d P w base cl tx 1 c_d) (O_7:Q_7 P w base cl tx 1 c_7) (O_r:Q_r P w base cl tx 1 c_r):Q_o P w base cl tx 2 (fun ts=>zh (b_o c_d c_7 c_r (en0 1 ts))):=by
 refine zU tx.C_o.F Kx rfl (fun cdv A outer s H E Y hy hr=> ?_) (fun ts h=>rfl)
 have nd:=Kx.nd
 repeat' gp_on
theorem Gh {c_7 c_o:List T->R T} (O_7:Q_7 P w base cl tx 1 c_7) (O_o:Q_o P w base cl tx 2 c_o):Q_l P w base cl tx 3 (fun ts=>zh (b_l c_7 c_o (en0 2 ts))):=by
 refine zU tx.C_l.F kw rfl (fun cdv A outer s H E Y hy hr=> ?_) (fun ts h=>rfl)
 have nd:=kw.nd
 repeat' gp_on
 refine Zp (Zd ["part"] N_l (za s_l) (by rfl) (by rfl) (by decide+kernel) (by rfl) ?_ (fun _ _ _ _ _ _=>zz (show bE (["part"]:List Str) by decide+kernel) (by rfl) (.inl (by rfl)) (.inr (by rfl))) (zL 0) (zM 0) (fun Y' hy' _ _ _ _ _ _=> ?_) (fun Y' hy' _ _ _ _ _ _ _ hp' => ?_))
 repeat' gp_on
 refine Vb (i:=1) (Zd ["choice"] N_l (za s_l) (by rfl) (by rfl) (by decide+kernel) (by rfl) ?_ (fun _ _ _ _ _ _=>zz (show bE (["choice"]:List Str) by decide+kernel) (by rfl) (.inl (by rfl)) (.inr (by rfl))) (zL 0) (zM 0) (fun Y' hy' _ _ _ _ _ _=> ?_) (fun Y' hy' _ _ _ _ _ _ _ hp' => ?_)) kw.nd (by rfl) (.inl (by rfl)) (by rfl)
 repeat' gp_on
theorem Gi {j:Nat} (hj:3<=j) {c_11 c_6 c_l c_x:List T->R T} (O_11:kx P w base cl tx 2 c_11) (O_6:Q_6 P w base cl tx j c_6) (O_l:Q_l P w base cl tx 3 c_l) (O_x:Q_x P w base cl tx j c_x):Q_6 P w base cl tx (j+1) (fun ts=>zh (b_6 c_11 c_6 c_l c_x (en0 2 ts))):=by
 refine zU tx.C_6.F Ky rfl (fun cdv A outer s H E Y hy hr=> ?_) (fun ts h=>rfl)
 have nd:=Ky.nd
 repeat' gp_on
theorem Gj {j:Nat} (hj:3<=j) {c_7 c_6:List T->R T} (O_7:Q_7 P w base cl tx 1 c_7) (O_6:Q_6 P w base cl tx j c_6):Q_x P w base cl tx (j+1) (fun ts=>zh (b_x c_7 c_6 (en0 2 ts))):=by
 refine zU tx.C_x.F Kz rfl (fun cdv A outer s H E Y hy hr=> ?_) (fun ts h=>rfl)
 have nd:=Kz.nd
 repeat' gp_on
 refine Zp (Zd ["part","levels"] N_x (za s_x) (by rfl) (by rfl) (by decide+kernel) (by rfl) ?_ (fun _ _ _ _ _ _=>zz (show bE (["part","levels"]:List Str) by decide+kernel) (by rfl) (.inl (by rfl)) (.inr (by rfl))) (zL 0) (zM 0) (fun Y' hy' _ _ _ _ _ _=> ?_) (fun Y' hy' _ _ _ _ _ _ _ hp' => ?_))
 repeat' gp_on
theorem Gm {c_6:List T->R T} (O_6:Q_6 P w base cl tx 23 c_6):Q_2 P w base cl tx 24 (fun ts=>zh (b_2 c_6 (en0 1 ts))):=by
 obtain ⟨u_DEEPEST,c_DEEPEST⟩:=tx.c_DEEPEST
 refine zU tx.C_2.F KA rfl (fun cdv A outer s H E Y hy hr=> ?_) (fun ts h=>rfl)
 have nd:=KA.nd
 repeat' gp_on
theorem Gn {c_2:List T->R T} (xq:Tq K mg base cl) (O_2:Q_2 P w base cl tx 24 c_2):Q_9 P w base cl tx 25 (fun ts=>zh (b_9 c_2 (en0 1 ts))):=by
 refine Z1 tx.C_9.F KC rfl (fun cdv A outer s H E Y hy hE hr=> ?_) (fun ts h=>rfl)
 have nd:=KC.nd
 repeat' gp_on
theorem Go:Q_b P w base cl tx 1 (fun ts=>zh (b_b  (en0 1 ts))):=by
 refine zU tx.C_b.F KD rfl (fun cdv A outer s H E Y hy hr=> ?_) (fun ts h=>rfl)
 have nd:=KD.nd
 repeat' gp_on
 refine Zp (Zd ["choice"] N_b (za s_b) (by rfl) (by rfl) (by decide+kernel) (by rfl) ?_ (fun _ _ _ _ _ _=>zz (show bE (["choice"]:List Str) by decide+kernel) (by rfl) (.inl (by rfl)) (.inr (by rfl))) (zL 0) (zM 0) (fun Y' hy' _ _ _ _ _ _=> ?_) (fun Y' hy' _ _ _ _ _ _ _ hp' => ?_))
 repeat' gp_on
theorem Gp {j:Nat} (hj:1<=j) {c_d c_7 c_b c_t:List T->R T} (O_d:Q_d P w base cl tx 1 c_d) (O_7:Q_7 P w base cl tx 1 c_7) (O_b:Q_b P w base cl tx 1 c_b) (O_t:Q_t P w base cl tx j c_t):Q_8 P w base cl tx (j+1) (fun ts=>zh (b_8 c_d c_7 c_b c_t (en0 2 ts))):=by
 refine zU tx.C_8.F KG rfl (fun cdv A outer s H E Y hy hr=> ?_) (fun ts h=>rfl)
 have nd:=KG.nd
 repeat' gp_on
theorem Gq {j:Nat} (hj:1<=j) {c_8:List T->R T} (O_8:Q_8 P w base cl tx j c_8):Q_t P w base cl tx (j+1) (fun ts=>zh (b_t c_8 (en0 2 ts))):=by
 refine zU tx.C_t.F KH rfl (fun cdv A outer s H E Y hy hr=> ?_) (fun ts h=>rfl)
 have nd:=KH.nd
 repeat' gp_on
 refine Zp (Zd ["kind","part"] N_t (za s_t) (by rfl) (by rfl) (by decide+kernel) (by rfl) ?_ (fun _ _ _ _ _ _=>uH (by rfl) (ZE (zz (show bE (["kind","part"]:List Str) by decide+kernel) (by rfl) (.inl (by rfl)) (.inr (by rfl))) (ZE (zz (show bE (["kind","part"]:List Str) by decide+kernel) (by rfl) (.inl (by rfl)) (.inr (by rfl))) wD))) (Wd _ 0 1) (We 0 1) (fun Y' hy' _ _ _ _ _ _=> ?_) (fun Y' hy' _ _ _ _ _ _ _ hp' => ?_))
 repeat' gp_on
theorem Gr {c_9 c_8:List T->R T} (O_9:Q_9 P w base cl tx 25 c_9) (O_8:Q_8 P w base cl tx 21 c_8):Q_q P w base cl tx 26 (fun ts=>zh (b_q c_9 c_8 (en0 2 ts))):=by
 refine Z1 tx.C_q.F KI rfl (fun cdv A outer s H E Y hy hE hr=> ?_) (fun ts h=>rfl)
 have nd:=KI.nd
 repeat' gp_on
theorem Gs {c_q:List T->R T} (xq:Tq K mg base cl) (O_q:Q_q P w base cl tx 26 c_q):Q_c P w base cl tx 27 (fun ts=>zh (b_c c_q (en0 2 ts))):=by
 refine Z1 tx.C_c.F KJ rfl (fun cdv A outer s H E Y hy hE hr=> ?_) (fun ts h=>rfl)
 have nd:=KJ.nd
 repeat' gp_on
theorem Gu {j:Nat} (hj:0<=j) {c_i c_a:List T->R T} (O_i:Q_i P w base cl tx j c_i) (O_a:Q_a P w base cl tx j c_a):Q_1 P w base cl tx (j+1) (fun ts=>zh (b_1 c_i c_a (en0 1 ts))):=by
 refine zU tx.C_1.F KK rfl (fun cdv A outer s H E Y hy hr=> ?_) (fun ts h=>rfl)
 have nd:=KK.nd
 repeat' gp_on
theorem Gv {j:Nat} (hj:0<=j) {c_1:List T->R T} (O_1:Q_1 P w base cl tx j c_1):Q_i P w base cl tx (j+1) (fun ts=>zh (b_i c_1 (en0 3 ts))):=by
 refine zU tx.C_i.F KL rfl (fun cdv A outer s H E Y hy hr=> ?_) (fun ts h=>rfl)
 have nd:=KL.nd
 repeat' gp_on
theorem Gw {j:Nat} (hj:0<=j) {c_i:List T->R T} (O_i:Q_i P w base cl tx j c_i):Q_a P w base cl tx (j+1) (fun ts=>zh (b_a c_i (en0 2 ts))):=by
 refine zU tx.C_a.F KM rfl (fun cdv A outer s H E Y hy hr=> ?_) (fun ts h=>rfl)
 have nd:=KM.nd
 repeat' gp_on
 refine Zp (Zd ["each","kind"] N_a (za s_a) (by rfl) (by rfl) (by decide+kernel) (by rfl) ?_ (fun _ _ _ _ _ _=>zz (show bE (["each","kind"]:List Str) by decide+kernel) (by rfl) (.inl (by rfl)) (.inr (by rfl))) (zL 0) (zM 0) (fun Y' hy' _ _ _ _ _ _=> ?_) (fun Y' hy' _ _ _ _ _ _ _ hp' => ?_))
 repeat' gp_on
theorem Gx {j:Nat} (hj:20<=j) {c_b c_a c_w:List T->R T} (O_b:Q_b P w base cl tx 1 c_b) (O_a:Q_a P w base cl tx 20 c_a) (O_w:Q_w P w base cl tx j c_w):Q_3 P w base cl tx (j+1) (fun ts=>zh (b_3 c_b c_a c_w (en0 3 ts))):=by
 refine zU tx.C_3.F KN rfl (fun cdv A outer s H E Y hy hr=> ?_) (fun ts h=>rfl)
 have nd:=KN.nd
 repeat' gp_on
theorem Gy {j:Nat} (hj:20<=j) {c_1 c_3:List T->R T} (O_1:Q_1 P w base cl tx 20 c_1) (O_3:Q_3 P w base cl tx j c_3):Q_w P w base cl tx (j+1) (fun ts=>zh (b_w c_1 c_3 (en0 5 ts))):=by
 refine zU tx.C_w.F KO rfl (fun cdv A outer s H E Y hy hr=> ?_) (fun ts h=>rfl)
 have nd:=KO.nd
 repeat' gp_on
theorem Gz {j:Nat} (hj:20<=j) {c_b c_12 c_k:List T->R T} (O_b:Q_b P w base cl tx 1 c_b) (O_12:xQ P w base cl tx j c_12) (O_k:Q_k P w base cl tx j c_k):Q_4 P w base cl tx (j+1) (fun ts=>zh (b_4 c_b c_12 c_k (en0 2 ts))):=by
 refine zU tx.C_4.F KP rfl (fun cdv A outer s H E Y hy hr=> ?_) (fun ts h=>rfl)
 have nd:=KP.nd
 repeat' gp_on
theorem kH {j:Nat} (hj:20<=j) {c_a c_k:List T->R T} (O_a:Q_a P w base cl tx 20 c_a) (O_k:Q_k P w base cl tx j c_k):xQ P w base cl tx (j+1) (fun ts=>zh (QT c_a c_k (en0 3 ts))):=by
 refine zU tx.C_12.F xx rfl (fun cdv A outer s H E Y hy hr=> ?_) (fun ts h=>rfl)
 have nd:=xx.nd
 repeat' gp_on
theorem GA {j:Nat} (hj:20<=j) {c_1 c_4:List T->R T} (O_1:Q_1 P w base cl tx 20 c_1) (O_4:Q_4 P w base cl tx j c_4):Q_k P w base cl tx (j+1) (fun ts=>zh (b_k c_1 c_4 (en0 6 ts))):=by
 refine zU tx.C_k.F KR rfl (fun cdv A outer s H E Y hy hr=> ?_) (fun ts h=>rfl)
 have nd:=KR.nd
 repeat' gp_on
theorem GB {c_c c_4 c_3:List T->R T} (xq:Tq K mg base cl) (O_c:Q_c P w base cl tx 27 c_c) (O_4:Q_4 P w base cl tx 40 c_4) (O_3:Q_3 P w base cl tx 40 c_3):Q_5 P w base cl tx 41 (fun ts=>zh (b_5 c_c c_4 c_3 (en0 5 ts))):=by
 obtain ⟨u_MOST_TOLD,c_MOST_TOLD⟩:=tx.c_MOST_TOLD
 refine Z1 tx.C_5.F KS rfl (fun cdv A outer s H E Y hy hE hr=> ?_) (fun ts h=>rfl)
 have nd:=KS.nd
 repeat' gp_on
 refine Zp (Zd ["number","kind"] N_5 (za s_5) (by rfl) (by rfl) (by decide+kernel) (by rfl) ?_ (fun _ _ _ _ _ _=>zz (show bE (["number","kind"]:List Str) by decide+kernel) (by rfl) (.inl (by rfl)) (.inr (by rfl))) (zL 0) (zM 0) (fun Y' hy' _ _ _ _ _ _=> ?_) (fun Y' hy' _ _ _ _ _ _ _ hp' => ?_))
 repeat' gp_on
theorem GC {c_9 c_1:List T->R T} (O_9:Q_9 P w base cl tx 25 c_9) (O_1:Q_1 P w base cl tx 20 c_1):Q_u P w base cl tx 26 (fun ts=>zh (b_u c_9 c_1 (en0 1 ts))):=by
 refine Z1 tx.C_u.F KT rfl (fun cdv A outer s H E Y hy hE hr=> ?_) (fun ts h=>rfl)
 have nd:=KT.nd
 repeat' gp_on
theorem GD {c_1 c_4:List T->R T} (O_1:Q_1 P w base cl tx 20 c_1) (O_4:Q_4 P w base cl tx 40 c_4):Q_g P w base cl tx 41 (fun ts=>zh (b_g c_1 c_4 (en0 2 ts))):=by
 refine zU tx.C_g.F KU rfl (fun cdv A outer s H E Y hy hr=> ?_) (fun ts h=>rfl)
 have nd:=KU.nd
 repeat' gp_on
theorem GE {c_c c_3 c_g:List T->R T} (O_c:Q_c P w base cl tx 27 c_c) (O_3:Q_3 P w base cl tx 40 c_3) (O_g:Q_g P w base cl tx 41 c_g):Q_j P w base cl tx 42 (fun ts=>zh (b_j c_c c_3 c_g (en0 2 ts))):=by
 refine Z1 tx.C_j.F KW rfl (fun cdv A outer s H E Y hy hE hr=> ?_) (fun ts h=>rfl)
 have nd:=KW.nd
 repeat' gp_on
theorem GF {c_c c_3 c_g:List T->R T} (O_c:Q_c P w base cl tx 27 c_c) (O_3:Q_3 P w base cl tx 40 c_3) (O_g:Q_g P w base cl tx 41 c_g):Q_p P w base cl tx 42 (fun ts=>zh (b_p c_c c_3 c_g (en0 2 ts))):=by
 refine Z1 tx.C_p.F KY rfl (fun cdv A outer s H E Y hy hE hr=> ?_) (fun ts h=>rfl)
 have nd:=KY.nd
 repeat' gp_on
theorem GG (xq:Tq K mg base cl):Q_s P w base cl tx 1 (fun c=>zh (b_s  (enC 2 c))):=by
 refine Qu tx.C_s.F KZ (by decide) (fun cdv A outer s H Y hy hr=> ?_) (fun c=>rfl)
 have nd:=KZ.nd
 repeat' gp_on
theorem GH {c_9 c_1 c_4:List T->R T} (O_9:Q_9 P w base cl tx 25 c_9) (O_1:Q_1 P w base cl tx 20 c_1) (O_4:Q_4 P w base cl tx 40 c_4):Q_v P w base cl tx 41 (fun ts=>zh (b_v c_9 c_1 c_4 (en0 1 ts))):=by
 refine Z1 tx.C_v.F g6 rfl (fun cdv A outer s H E Y hy hE hr=> ?_) (fun ts h=>rfl)
 have nd:=g6.nd
 repeat' gp_on
theorem kI (xq:Tq K mg base cl):ky P w base cl tx 1 (fun ts=>zh (K6  (en0 1 ts))):=by
 refine Z1 tx.C_18.F xy rfl (fun cdv A outer s H E Y hy hE hr=> ?_) (fun ts h=>rfl)
 have nd:=xy.nd
 repeat' gp_on
theorem kJ:kz P w base cl tx 1 (fun ts=>zh (K8  (en0 7 ts))):=by
 refine zU tx.C_16.F xz rfl (fun cdv A outer s H E Y hy hr=> ?_) (fun ts h=>rfl)
 have nd:=xz.nd
 repeat' gp_on
theorem GI (xq:Tq K mg base cl):Q_m P w base cl tx 1 (fun ts=>zh (b_m  (en0 2 ts))):=by
 obtain ⟨u_LONGEST_NUMBER,c_LONGEST_NUMBER⟩:=tx.c_LONGEST_NUMBER
 refine Z1 tx.C_m.F gf rfl (fun cdv A outer s H E Y hy hE hr=> ?_) (fun ts h=>rfl)
 have nd:=gf.nd
 repeat' gp_on
 refine VQ (fun pn xe=> ?_)
 repeat' gp_on
theorem kK {c_m:List T->R T} (O_m:Q_m P w base cl tx 1 c_m):kA P w base cl tx 2 (fun ts=>zh (Ka c_m (en0 2 ts))):=by
 refine Z1 tx.C_15.F xA rfl (fun cdv A outer s H E Y hy hE hr=> ?_) (fun ts h=>rfl)
 have nd:=xA.nd
 repeat' gp_on
theorem kL (xq:Tq K mg base cl):kB P w base cl tx 1 (fun ts=>zh (Kc  (en0 3 ts))):=by
 refine Z1 tx.C_14.F xB rfl (fun cdv A outer s H E Y hy hE hr=> ?_) (fun ts h=>rfl)
 have nd:=xB.nd
 repeat' gp_on
theorem kM {c_m:List T->R T} (O_m:Q_m P w base cl tx 1 c_m):kC P w base cl tx 2 (fun ts=>zh (Kf c_m (en0 2 ts))):=by
 refine Z1 tx.C_17.F xC rfl (fun cdv A outer s H E Y hy hE hr=> ?_) (fun ts h=>rfl)
 have nd:=xC.nd
 repeat' gp_on
theorem GJ {j:Nat} (hj:2<=j) {c_14 c_16 c_h c_17 c_15:List T->R T} (xq:Tq K mg base cl) (O_14:kB P w base cl tx 1 c_14) (O_16:kz P w base cl tx 1 c_16) (O_h:Q_h P w base cl tx j c_h) (O_17:kC P w base cl tx 2 c_17) (O_15:kA P w base cl tx 2 c_15):Q_h P w base cl tx (j+1) (fun ts=>zh (b_h c_14 c_16 c_h c_17 c_15 (en0 4 ts))):=by
 refine Z1 tx.C_h.F gm rfl (fun cdv A outer s H E Y hy hE hr=> ?_) (fun ts h=>rfl)
 have nd:=gm.nd
 repeat' gp_on
 refine Zp (Zd ["piece"] N_h (za s_h) (by rfl) (by rfl) (by decide+kernel) (by rfl) ?_ (fun _ _ _ _ _ _=>zz (show bE (["piece"]:List Str) by decide+kernel) (by rfl) (.inl (by rfl)) (.inr (by rfl))) (zL 0) (zM 0) (fun Y' hy' _ _ _ _ _ _=> ?_) (fun Y' hy' _ _ _ _ _ _ _ hp' => ?_))
 repeat' gp_on
 refine Zp (Zd ["piece","levels"] N_h (za s_h) (by rfl) (by rfl) (by decide+kernel) (by rfl) ?_ (fun _ _ _ _ _ _=>zz (show bE (["piece","levels"]:List Str) by decide+kernel) (by rfl) (.inl (by rfl)) (.inr (by rfl))) (zL 0) (zM 0) (fun Y' hy' _ _ _ _ _ _=> ?_) (fun Y' hy' _ _ _ _ _ _ _ hp' => ?_))
 repeat' gp_on
theorem kN {c_2 c_18 c_h:List T->R T} (xq:Tq K mg base cl) (O_2:Q_2 P w base cl tx 24 c_2) (O_18:ky P w base cl tx 1 c_18) (O_h:Q_h P w base cl tx 22 c_h):kD P w base cl tx 25 (fun ts=>zh (Kh c_2 c_18 c_h (en0 2 ts))):=by
 obtain ⟨u_DEEPEST,c_DEEPEST⟩:=tx.c_DEEPEST
 refine Z1 tx.C_10.F xD rfl (fun cdv A outer s H E Y hy hE hr=> ?_) (fun ts h=>rfl)
 have nd:=xD.nd
 repeat' gp_on
theorem kO:kF P w base cl tx 1 (fun ts=>zh (Ki  (en0 2 ts))):=by
 refine zU tx.C_13.F xE rfl (fun cdv A outer s H E Y hy hr=> ?_) (fun ts h=>rfl)
 have nd:=xE.nd
 repeat' gp_on
theorem GK {j:Nat} (hj:1<=j) {c_f c_13:List T->R T} (O_f:Q_f P w base cl tx j c_f) (O_13:kF P w base cl tx 1 c_13):Q_f P w base cl tx (j+1) (fun ts=>zh (b_f c_f c_13 (en0 1 ts))):=by
 refine zU tx.C_f.F gr rfl (fun cdv A outer s H E Y hy hr=> ?_) (fun ts h=>rfl)
 have nd:=gr.nd
 repeat' gp_on
 refine Zp (Zd ["word","weight"] N_f (za s_f) (by rfl) (by rfl) (by decide+kernel) (by rfl) ?_ (fun _ _ _ _ _ _=>uH (by rfl) (ZE (zz (show bE (["word","weight"]:List Str) by decide+kernel) (by rfl) (.inl (by rfl)) (.inr (by rfl))) (ZE (zz (show bE (["word","weight"]:List Str) by decide+kernel) (by rfl) (.inl (by rfl)) (.inr (by rfl))) wD))) (Wd _ 0 1) (We 0 1) (fun Y' hy' _ _ _ _ _ _=> ?_) (fun Y' hy' _ _ _ _ _ _ _ hp' => ?_))
 repeat' gp_on
 refine Zp (Zd ["part"] N_f (za s_f) (by rfl) (by rfl) (by decide+kernel) (by rfl) ?_ (fun _ _ _ _ _ _=>zz (show bE (["part"]:List Str) by decide+kernel) (by rfl) (.inl (by rfl)) (.inr (by rfl))) (zL 0) (zM 0) (fun Y' hy' _ _ _ _ _ _=> ?_) (fun Y' hy' _ _ _ _ _ _ _ hp' => ?_))
 repeat' gp_on
theorem GL {c_9 c_f:List T->R T} (O_9:Q_9 P w base cl tx 25 c_9) (O_f:Q_f P w base cl tx 21 c_f):Q_z P w base cl tx 26 (fun ts=>zh (b_z c_9 c_f (en0 1 ts))):=by
 refine Z1 tx.C_z.F gs rfl (fun cdv A outer s H E Y hy hE hr=> ?_) (fun ts h=>rfl)
 have nd:=gs.nd
 repeat' gp_on
theorem GM {c_u c_n c_z c_10 c_j c_p c_5 c_v c_e:List T->R T} {c_s:Nat->R T} (KB:K.In base) (hBT:base.BuiltinsAt mg tx.P_law) (O_u:∀ base,K.In base->Q_u P w base cl tx 26 c_u) (O_n:∀ base,K.In base->Q_n P w base cl tx 2 c_n) (O_z:∀ base,K.In base->Q_z P w base cl tx 26 c_z) (O_10:∀ base,K.In base->kD P w base cl tx 25 c_10) (O_j:∀ base,K.In base->Q_j P w base cl tx 42 c_j) (O_p:∀ base,K.In base->Q_p P w base cl tx 42 c_p) (O_5:∀ base,K.In base->Q_5 P w base cl tx 41 c_5) (O_v:∀ base,K.In base->Q_v P w base cl tx 41 c_v) (O_e:∀ base,K.In base->Q_e P w base cl tx 1 c_e) (O__law_told:jN P w cl tx 42 c_s):Q_0 P w base cl tx 45 (fun ts=>zh (b_0 c_u c_n c_s c_z c_10 c_j c_p c_5 c_v c_e (en0 13 ts))):=by
 refine VY tx.C_0.F tx.e_law gu rfl (fun A outer s H E Y hy hE hT hr=> ?_) (fun ts h=>rfl)
 have nd:=gu.nd
 repeat' gp_on
 refine Zp (Zd ["_law_one","_law_words"] N_0 (za s_0) (by rfl) (by rfl) (by decide+kernel) (by rfl) ?_ (fun _ _ _ _ _ _=>zz (show bE (["_law_one","_law_words"]:List Str) by decide+kernel) (by rfl) (.inl (by rfl)) (.inr (by rfl))) (zL 0) (zM 0) (fun Y' hy' _ _ _ _ _ _=> ?_) (fun Y' hy' _ _ _ _ _ _ _ hp' => ?_))
 repeat' gp_on
 refine Zp (Zd ["_law_k","_law_lists","_law_number"] N_0 (za s_0) (by rfl) (by rfl) (by decide+kernel) (by rfl) ?_ (fun _ _ _ _ _ _=>zz (show bE (["_law_k","_law_lists","_law_number"]:List Str) by decide+kernel) (by rfl) (.inl (by rfl)) (.inr (by rfl))) (zL 0) (zM 0) (fun Y' hy' _ _ _ _ _ _=> ?_) (fun Y' hy' _ _ _ _ _ _ _ hp' => ?_))
 repeat' gp_on
 refine VX hy ⟨rfl,tx.h_law,hBT,rfl⟩ hT (fun _=>rfl) O__law_told hr (by omega) (by rfl) tx.C__law_told.m tx.C__law_told.F.kp tx.C__law_told.b ["_law_kind","_law_one","_law_other"] N_0 (za s_0) (by rfl) (by rfl) (by decide+kernel) (by rfl) (by rfl) (fun base A outer s H E f c' clos Y' KB hy hE hr=> ?_)
 repeat' gp_on
end
theorem Ze {P:Program} {w:World} {K:ac} {mg:Str->Option Value} {base:Heap} {CX:CXT} {cl:Nat->Value} {k n:Nat} {f:Addr} {fd:FuncData} {ps:List Str} (hn:n=ps.length):zG P w K mg base CX k f fd ps (spP cl n (fun _=> .bad)):=
 ⟨fun vs H Q E h=>by rw [← hn]; exact spP.len vs H Q E h,fun A outer s H args us vs Q E _ _ _ _ ⟨B,ts,_,_,_,q⟩=>q.elim⟩
section
variable {P:Program} {w:World} {K:ac} {mg:Str->Option Value} {base:Heap} {cl:Nat->Value} {tx:Tx K mg}
theorem xF (xqA:∀ base,K.In base->Tq K mg base cl) (KB:K.In base) (hBT:base.BuiltinsAt mg tx.P_law):Q_0 P w base cl tx 45 f_0:=by
 have O_e:∀ base,K.In base->Q_e P w base cl tx 1 f_e:=fun _ KB=>G9
 have O_y:∀ base,K.In base->Q_y P w base cl tx 1 f_y:=fun _ KB=>Ga
 have O_n:∀ base,K.In base->Q_n P w base cl tx 2 f_n:=fun _ KB=>Gb (O_y _ KB)
 have O_d:∀ base,K.In base->Q_d P w base cl tx 1 f_d:=fun _ KB=>Gc
 have O_11:∀ base,K.In base->kx P w base cl tx 2 xM:=fun _ KB=>kG (O_d _ KB)
 have O_7:∀ base,K.In base->Q_7 P w base cl tx 1 f_7:=fun _ KB=>Ge
 have O_r:∀ base,K.In base->Q_r P w base cl tx 1 f_r:=fun _ KB=>Gf
 have O_o:∀ base,K.In base->Q_o P w base cl tx 2 f_o:=fun _ KB=>Gg (O_d _ KB) (O_7 _ KB) (O_r _ KB)
 have O_l:∀ base,K.In base->Q_l P w base cl tx 3 f_l:=fun _ KB=>Gh (O_7 _ KB) (O_o _ KB)
 have R_6:∀ base,K.In base->∀ n:Nat,Q_6 P w base cl tx (3+n) (S_6 n 0)/\Q_x P w base cl tx (3+n) (S_6 n 1):=by
  intro base KB n
  induction n with
  | zero=>exact ⟨Ze rfl,Ze rfl⟩
  | succ n ih=>
   exact ⟨Gi (j:=3+n) (by omega) (O_11 _ KB) ih.1 (O_l _ KB) ih.2,Gj (j:=3+n) (by omega) (O_7 _ KB) ih.1⟩
 have O_6:∀ base,K.In base->Q_6 P w base cl tx 23 (f_6 20):=fun _ KB=>(R_6 _ KB 20).1
 have O_x:∀ base,K.In base->Q_x P w base cl tx 23 (f_x 20):=fun _ KB=>(R_6 _ KB 20).2
 have O_2:∀ base,K.In base->Q_2 P w base cl tx 24 f_2:=fun _ KB=>Gm (O_6 _ KB)
 have O_9:∀ base,K.In base->Q_9 P w base cl tx 25 f_9:=fun _ KB=>Gn (xqA _ KB) (O_2 _ KB)
 have O_b:∀ base,K.In base->Q_b P w base cl tx 1 f_b:=fun _ KB=>Go
 have R_8:∀ base,K.In base->∀ n:Nat,Q_8 P w base cl tx (1+n) (S_8 n 0)/\Q_t P w base cl tx (1+n) (S_8 n 1):=by
  intro base KB n
  induction n with
  | zero=>exact ⟨Ze rfl,Ze rfl⟩
  | succ n ih=>
   exact ⟨Gp (j:=1+n) (by omega) (O_d _ KB) (O_7 _ KB) (O_b _ KB) ih.2,Gq (j:=1+n) (by omega) ih.1⟩
 have O_8:∀ base,K.In base->Q_8 P w base cl tx 21 (f_8 20):=fun _ KB=>(R_8 _ KB 20).1
 have O_t:∀ base,K.In base->Q_t P w base cl tx 21 (f_t 20):=fun _ KB=>(R_8 _ KB 20).2
 have O_q:∀ base,K.In base->Q_q P w base cl tx 26 f_q:=fun _ KB=>Gr (O_9 _ KB) (O_8 _ KB)
 have O_c:∀ base,K.In base->Q_c P w base cl tx 27 f_c:=fun _ KB=>Gs (xqA _ KB) (O_q _ KB)
 have R_1:∀ base,K.In base->∀ n:Nat,Q_1 P w base cl tx (0+n) (S_1 n 0)/\Q_i P w base cl tx (0+n) (S_1 n 1)/\Q_a P w base cl tx (0+n) (S_1 n 2):=by
  intro base KB n
  induction n with
  | zero=>exact ⟨Ze rfl,Ze rfl,Ze rfl⟩
  | succ n ih=>
   exact ⟨Gu (j:=0+n) (by omega) ih.2.1 ih.2.2,Gv (j:=0+n) (by omega) ih.1,Gw (j:=0+n) (by omega) ih.2.1⟩
 have O_1:∀ base,K.In base->Q_1 P w base cl tx 20 (f_1 20):=fun _ KB=>(R_1 _ KB 20).1
 have O_i:∀ base,K.In base->Q_i P w base cl tx 20 (f_i 20):=fun _ KB=>(R_1 _ KB 20).2.1
 have O_a:∀ base,K.In base->Q_a P w base cl tx 20 (f_a 20):=fun _ KB=>(R_1 _ KB 20).2.2
 have R_3:∀ base,K.In base->∀ n:Nat,Q_3 P w base cl tx (20+n) (S_3 n 0)/\Q_w P w base cl tx (20+n) (S_3 n 1):=by
  intro base KB n
  induction n with
  | zero=>exact ⟨Ze rfl,Ze rfl⟩
  | succ n ih=>
   exact ⟨Gx (j:=20+n) (by omega) (O_b _ KB) (O_a _ KB) ih.2,Gy (j:=20+n) (by omega) (O_1 _ KB) ih.1⟩
 have O_3:∀ base,K.In base->Q_3 P w base cl tx 40 (f_3 20):=fun _ KB=>(R_3 _ KB 20).1
 have O_w:∀ base,K.In base->Q_w P w base cl tx 40 (f_w 20):=fun _ KB=>(R_3 _ KB 20).2
 have R_4:∀ base,K.In base->∀ n:Nat,Q_4 P w base cl tx (20+n) (S_4 n 0)/\xQ P w base cl tx (20+n) (S_4 n 1)/\Q_k P w base cl tx (20+n) (S_4 n 2):=by
  intro base KB n
  induction n with
  | zero=>exact ⟨Ze rfl,Ze rfl,Ze rfl⟩
  | succ n ih=>
   exact ⟨Gz (j:=20+n) (by omega) (O_b _ KB) ih.2.1 ih.2.2,kH (j:=20+n) (by omega) (O_a _ KB) ih.2.2,GA (j:=20+n) (by omega) (O_1 _ KB) ih.1⟩
 have O_4:∀ base,K.In base->Q_4 P w base cl tx 40 (f_4 20):=fun _ KB=>(R_4 _ KB 20).1
 have O_12:∀ base,K.In base->xQ P w base cl tx 40 (gW 20):=fun _ KB=>(R_4 _ KB 20).2.1
 have O_k:∀ base,K.In base->Q_k P w base cl tx 40 (f_k 20):=fun _ KB=>(R_4 _ KB 20).2.2
 have O_5:∀ base,K.In base->Q_5 P w base cl tx 41 f_5:=fun _ KB=>GB (xqA _ KB) (O_c _ KB) (O_4 _ KB) (O_3 _ KB)
 have O_u:∀ base,K.In base->Q_u P w base cl tx 26 f_u:=fun _ KB=>GC (O_9 _ KB) (O_1 _ KB)
 have O_g:∀ base,K.In base->Q_g P w base cl tx 41 f_g:=fun _ KB=>GD (O_1 _ KB) (O_4 _ KB)
 have O_j:∀ base,K.In base->Q_j P w base cl tx 42 f_j:=fun _ KB=>GE (O_c _ KB) (O_3 _ KB) (O_g _ KB)
 have O_p:∀ base,K.In base->Q_p P w base cl tx 42 f_p:=fun _ KB=>GF (O_c _ KB) (O_3 _ KB) (O_g _ KB)
 have O_s:∀ base,K.In base->Q_s P w base cl tx 1 f_s:=fun _ KB=>GG (xqA _ KB)
 have O__law_told:jN P w cl tx 42 f_s:=Qt (i:=1) tx.C__law_told.F wv rfl rfl rfl rfl rfl (by decide) rfl (xqA _ KB).m_WorthError (xqA _ KB).e_WorthError rfl tx.C_s.m tx.C_s.F.kp tx.C_s.b O_s (by decide)
 have O_v:∀ base,K.In base->Q_v P w base cl tx 41 f_v:=fun _ KB=>GH (O_9 _ KB) (O_1 _ KB) (O_4 _ KB)
 have O_18:∀ base,K.In base->ky P w base cl tx 1 K7:=fun _ KB=>kI (xqA _ KB)
 have O_16:∀ base,K.In base->kz P w base cl tx 1 K9:=fun _ KB=>kJ
 have O_m:∀ base,K.In base->Q_m P w base cl tx 1 f_m:=fun _ KB=>GI (xqA _ KB)
 have O_15:∀ base,K.In base->kA P w base cl tx 2 Kb:=fun _ KB=>kK (O_m _ KB)
 have O_14:∀ base,K.In base->kB P w base cl tx 1 Ke:=fun _ KB=>kL (xqA _ KB)
 have O_17:∀ base,K.In base->kC P w base cl tx 2 Kg:=fun _ KB=>kM (O_m _ KB)
 have R_h:∀ base,K.In base->∀ n:Nat,Q_h P w base cl tx (2+n) (S_h n 0):=by
  intro base KB n
  induction n with
  | zero=>exact Ze rfl
  | succ n ih=>
   exact GJ (j:=2+n) (by omega) (xqA _ KB) (O_14 _ KB) (O_16 _ KB) ih (O_17 _ KB) (O_15 _ KB)
 have O_h:∀ base,K.In base->Q_h P w base cl tx 22 (f_h 20):=fun _ KB=>(R_h _ KB 20)
 have O_10:∀ base,K.In base->kD P w base cl tx 25 VZ:=fun _ KB=>kN (xqA _ KB) (O_2 _ KB) (O_18 _ KB) (O_h _ KB)
 have O_13:∀ base,K.In base->kF P w base cl tx 1 Kj:=fun _ KB=>kO
 have R_f:∀ base,K.In base->∀ n:Nat,Q_f P w base cl tx (1+n) (S_f n 0):=by
  intro base KB n
  induction n with
  | zero=>exact Ze rfl
  | succ n ih=>
   exact GK (j:=1+n) (by omega) ih (O_13 _ KB)
 have O_f:∀ base,K.In base->Q_f P w base cl tx 21 (f_f 20):=fun _ KB=>(R_f _ KB 20)
 have O_z:∀ base,K.In base->Q_z P w base cl tx 26 f_z:=fun _ KB=>GL (O_9 _ KB) (O_f _ KB)
 exact GM KB hBT O_u O_n O_z O_10 O_j O_p O_5 O_v O_e O__law_told
end
def qc:List Str:=["NoKind","NoWorth","NoRule","TooMany","Ended","NoText","NoBack"]
def clK (K:ac) (c:Nat):Value:=match bL K mainGlobals (qc.getD c "") with
 | some (some v)=>v
 | _=> .none
theorem WM {K:ac} {c:Nat} {x:Str} {q:Addr} (hx:qc.getD c ""=x) (h:bL K mainGlobals x=some (some (.ref q))):clK K c= .ref q:=by unfold clK; rw [hx,h]
def kP:List Nat:=[0,1,2,3,4,5,6]
def yq (p:Nat->Bool):Bool:=kP.all p
theorem xG {c:Nat} (h:okX c=true):c∈kP:=by
 unfold okX at h; unfold kP; simpa using h
theorem Zm {p:Nat->Bool} (h:yq p=true) {c:Nat} (hc:okX c=true):p c=true:=aX.mp h c (xG hc)
def QL (K:ac) (v:Value):Bool:=match v with
 | .ref C=>c_ K (.ref C) "__getattribute__" == some (some (.builtin "BaseException.__getattribute__")) && (c_ K (.ref C) "__getattr__" == some none && (c_ K (.ref C) "__class__" == some (some (.builtin "object.__class__")) && (fu K (.builtin "object.__class__") "__get__" == some (some (.builtin "getset_descriptor.__get__")) && (fV K (.builtin "object.__class__") == some true && (f8 K C (.type "object") == some true && (f8 K C (.type "BaseException") == some true && (PySem.W.clsIn K C).isSome))))))
 | _=>false
theorem Yp {K:ac} {v:Value} (h:QL K v=true):∃ C,v= .ref C/\PySem.W.XCls K C:=by
 unfold QL at h
 split at h
 ·rename_i C
  simp only [am,beq_iff_eq] at h
  obtain ⟨h1,h2,h3,h4,h5,h6,h7,h8⟩:=h
  exact ⟨C,rfl,h1,h2,h3,h4,h5,h6,h7,h8⟩
 ·cases h
theorem WN {K:ac} {base:Heap} {mg:Str->Option Value} {x:Str} {C:Addr} {bmB:List Value} {newId:String} (KB:K.In base) (hb:mg x=some (.ref C)) (h:cO K C bmB newId=true):OwnCls x C bmB newId mg base:=by
 unfold cO at h
 split at h
 ·rename_i dd cd sl hC
  split at h
  ·rename_i C1 bm a0 a1 a2 a3 m a5 hm hs
   simp only [am,beq_iff_eq,Bool.not_eq_true'] at h
   obtain ⟨⟨⟨⟨⟨h1,h2⟩,h3⟩,h4⟩,h5⟩,h6⟩:=h
   subst h1 h2
   cases cd with
   | mk nm bs mro ns qn hd sn sub ab col del=>
    dsimp only at hm h3 h5 h6
    subst hm h3
    obtain rfl:sl= #[a0,a1,a2,a3,some (.builtin m),a5]:=by
     cases sl; simp only at hs; rw [hs]
    exact ⟨hb,bm,ns,nm,qn,bs,hd,sn,sub,ab,col,dd,a0,a1,a2,a3,a5,_,KB _ _ hC, .of_isNs (PySem.W.isNs_of_in KB h5),PySem.W.nsMap_none_of_in KB h5 h6,PySem.W.tail_of_in KB h4⟩
  ·cases h
 ·cases h
theorem fn1 {K:ac} {h:Heap} {mg:Str->Option Value} {f:Addr} {od an:Option Addr} {sl:Array (Option Value)} {oc kV dc pm cd ct:Value} {x:Str} {st:Stmt} {ps:List Str} (X:K.In h) (G:h.Ns mainGlobals mg) (e:bL K mainGlobals x=some (some (.ref f))) (l:K.lookup f=some ⟨oc,od, .func (bQ x x (Zx st) (zE st) (za st) .none kV dc pm an cd ct),sl⟩) (g:dL K cd x=true) (k:c8 K (.ref f)=true)
  (hb:∀ F:Fun K x x st f (bQ x x (Zx st) (zE st) (za st) .none kV dc pm an cd ct),L2.Binds K (bQ x x (Zx st) (zE st) (za st) .none kV dc pm an cd ct) ps []):Fn K mg x st ps f (bQ x x (Zx st) (zE st) (za st) .none kV dc pm an cd ct):=
 have F:=vC (st:=st) l g k
 ⟨F,hb F,bo X G e⟩
theorem fin_ {l:PySem.W.OpenLaw} {w:World} {K:ac} {h:Heap} {mg:Str->Option Value} {fa:Addr} (X:K.In h) (G:h.Ns mainGlobals mg) (hfa:mg "law"=some (.ref fa)) (tx:Tx K mg) (hB:∀ (s:Shared) (v:Value),BindsTo s tx.d_0 ⟨[v],[]⟩ [("_law_script",v)]) (hts:h.get? tx.P_law=some (dk #[])) {q_Ended q_NoBack q_NoKind q_NoRule q_NoText q_NoWorth q_TooMany q_WorthError:Addr} (n_Ended:bL K mainGlobals "Ended"=some (some (.ref q_Ended))) (n_NoBack:bL K mainGlobals "NoBack"=some (some (.ref q_NoBack))) (n_NoKind:bL K mainGlobals "NoKind"=some (some (.ref q_NoKind))) (n_NoRule:bL K mainGlobals "NoRule"=some (some (.ref q_NoRule))) (n_NoText:bL K mainGlobals "NoText"=some (some (.ref q_NoText))) (n_NoWorth:bL K mainGlobals "NoWorth"=some (some (.ref q_NoWorth))) (n_TooMany:bL K mainGlobals "TooMany"=some (some (.ref q_TooMany))) (n_WorthError:bL K mainGlobals "WorthError"=some (some (.ref q_WorthError))) (b_K:yq (fun c=>QL K (clK K c))=true) (b_e_WorthError:yq (fun c=>PySem.W.exmOne K (clK K c) (.ref q_WorthError) == some true)=true) (b_o_NoKind:cO K q_NoKind qb "ValueError.__new__"=true) (b_o_NoText:cO K q_NoText qb "ValueError.__new__"=true) (b_o_NoWorth:cO K q_NoWorth qb "ValueError.__new__"=true) (b_o_TooMany:cO K q_TooMany qb "ValueError.__new__"=true) (b_t_Ended:yq (fun c=>aA K (clK K c) (.ref q_Ended) == some (jA c))=true) (b_t_NoBack:yq (fun c=>aA K (clK K c) (.ref q_NoBack) == some (ji c))=true) (b_t_NoKind:yq (fun c=>aA K (clK K c) (.ref q_NoKind) == some (jf c))=true) (b_t_NoRule:yq (fun c=>aA K (clK K c) (.ref q_NoRule) == some (jg c))=true) (b_t_NoText:yq (fun c=>aA K (clK K c) (.ref q_NoText) == some (jh c))=true) (b_t_NoWorth:yq (fun c=>aA K (clK K c) (.ref q_NoWorth) == some (ZT c))=true) (b_t_TooMany:yq (fun c=>aA K (clK K c) (.ref q_TooMany) == some (ZU c))=true) (b_t_ValueError:yq (fun c=>aA K (clK K c) (.type "ValueError") == some (Zk c))=true):∃ (fd:FuncData) (c Pt:Addr),(∀ (s:Shared) (v:Value),BindsTo s fd ⟨[v],[]⟩ [("_law_script",v)])/\h.get? Pt=some (dk #[])/\K.lookup Pt=none/\du K c Pt=true/\∀ base:Heap,K.In base->base.BuiltinsAt mg Pt->zG l.prog w K mg base (CX1 l.prog w) 45 fa fd ["_law_script"] (QS (clK K) 1 f_0 Pt qL):=by
 have e:=hfa.symm.trans tx.C_0.m
 cases e
 exact ⟨tx.d_0,tx.k_law,tx.P_law,hB,hts,tx.n_law,tx.h_law,fun base KB hBT=>xF (fun base KB=>⟨q_Ended,q_NoBack,q_NoKind,q_NoRule,q_NoText,q_NoWorth,q_TooMany,q_WorthError,⟨fun c hc=>Yp (Zm b_K hc)⟩,(fun c hc=>beq_iff_eq.mp (Zm b_e_WorthError hc)),(WM (x:="NoKind") rfl n_NoKind),(WM (x:="NoText") rfl n_NoText),(WM (x:="NoWorth") rfl n_NoWorth),(WM (x:="TooMany") rfl n_TooMany),(bo X G n_Ended),(bo X G n_NoBack),(bo X G n_NoKind),(bo X G n_NoRule),(bo X G n_NoText),(bo X G n_NoWorth),(bo X G n_TooMany),(bo X G n_WorthError),(WN KB (bo X G n_NoKind) b_o_NoKind),(WN KB (bo X G n_NoText) b_o_NoText),(WN KB (bo X G n_NoWorth) b_o_NoWorth),(WN KB (bo X G n_TooMany) b_o_TooMany),(fun c hc=>beq_iff_eq.mp (Zm b_t_Ended hc)),(fun c hc=>beq_iff_eq.mp (Zm b_t_NoBack hc)),(fun c hc=>beq_iff_eq.mp (Zm b_t_NoKind hc)),(fun c hc=>beq_iff_eq.mp (Zm b_t_NoRule hc)),(fun c hc=>beq_iff_eq.mp (Zm b_t_NoText hc)),(fun c hc=>beq_iff_eq.mp (Zm b_t_NoWorth hc)),(fun c hc=>beq_iff_eq.mp (Zm b_t_TooMany hc)),(fun c hc=>beq_iff_eq.mp (Zm b_t_ValueError hc))⟩) KB hBT⟩
def yr (K:ac):Bool:=K.all fun p=> !(p.2.cls == Value.type "list")
theorem QM {K:ac} (h:yr K=true) {a:Addr} {o:Obj} (e:K.lookup a=some o) (c:o.cls=Value.type "list"):False:=by
 have hm:(a,o)∈K:=by
  clear h
  induction K with
  | nil=>cases e
  | cons p r ih=>
   obtain ⟨b,u⟩:=p
   by_cases hb:a=b
   ·subst hb
    have e' :some u=some o:=by simpa [aK] using e
    cases e'; exact av
   ·have e' :r.lookup a=some o:=by rw [aK,(beq_eq_false_iff_ne.mpr hb)] at e; exact e
    exact ah _ (ih e')
 have:=aX.mp h _ hm
 rw [c] at this
 simp at this
def GN (o:Obj):Option Addr:=match o.data with
 | .fields vs=>(match (vs[11]? :Option Value) with | some (.ref P)=>some P | _=>none)
 | _=>none
structure kQ (K:ac) (c P:Addr) (o:Obj):Prop where
 t:K.lookup c=some o
 u:GN o=some P
 h:du K c P=true
 n:K.lookup P=none
abbrev gv {K:ac} {h:Heap} (_:K.In h) (c P:Addr) (o:Obj):Prop:=kQ K c P o
theorem xH {cl:Nat->Value} {H:Hp} {a Pt:Addr} {o:Obj} {q:Str} {ns:List Int} (hL:f_0 [.fz (ns.map T.int)]= .ok (.bl true)) (h:H a=some (.frz o (.lst (ns.map V.int)))) (h2:H Pt=some (.tbl #[] q)):QS cl 1 f_0 Pt q [.ref a] H (fun v _=>v= .bl true) fun _ _ _=>False:=by
 have scrR:∀ ns:List Int,zq H (ns.map V.int) (ns.map T.int):=fun ns=>by
  induction ns with
  | nil=>exact .nil
  | cons n r ih=>exact .cons (.int n) ih
 refine ⟨h2,H,[.fz (ns.map T.int)],rfl,zm.refl H, .cons (.fz h (scrR ns)) .nil, ?_⟩
 rw [hL]
 intro v H' _ r
 cases r; rfl
theorem walk {l:PySem.W.OpenLaw} {q:Program} {loose:List Str} {XP:(Str->Option Value)->Heap->Prop} {YP:World->Heap->Prop} {d:DefRec} {K:Params->ac} {ts:List Addr} (hn:l.most=some 63) (hdf:d.params.defaults=[])
  (hL:∀ ns:List Int,ns.length<=63->f_0 [.fz (ns.map T.int)]= .ok (.bl true)) (hK:∀ p,yr (K p)=true)
  (hY:∀ (w:World) (h:Heap),YP w h->(K w.params).In h/\∀ P∈ts,h.get? P=some (dk #[]))
  (F:∀ (w:World) (mg:Str->Option Value) (fa:Addr) (h:Heap),(K w.params).In h->h.Ns mainGlobals mg->mg d.name=some (.ref fa)->(∀ P∈ts,h.get? P=some (dk #[]))->
   ∃ (fd:FuncData) (c Pt:Addr),(∀ (s:Shared) (u:Value),BindsTo s fd ⟨[u],[]⟩ [("_law_script",u)])/\h.get? Pt=some (dk #[])/\(K w.params).lookup Pt=none/\du (K w.params) c Pt=true/\∀ base:Heap,(K w.params).In base->base.BuiltinsAt mg Pt->zG l.prog w (K w.params) mg base (CX1 l.prog w) 45 fa fd ["_law_script"] (QS (clK (K w.params)) 1 f_0 Pt qL)):
  PySem.W.WalkO q loose XP YP l.row.toRowW d [] (fun f vs=>hU f vs):=
 L2.walk_ofT (n:=63) (k:=45) (x:="_law_script") (nm:=qL) (CX:=fun w=>(CX1 l.prog w)) (sp:=fun w Pt=>QS (clK (K w.params)) 1 f_0 Pt qL) hn (by decide) hdf ⟨rfl,by decide,by decide,rfl⟩ hY (fun w a o e c=>QM (hK w.params) e c) F (fun w H a Pt o ns hl h1 h2=>xH (hL ns hl) h1 h2) fun _ _ _ _ _ ⟨_,_,_,_,_,_,_,z⟩=>z
end G
namespace PySem.W.Fast
def tw17342545137176874246:=0
def tw89362603436420277:=0
def tw16096970263329113071:=0
def tw4963940544176547727:=0
def tw9983800776526962896:=0
def tw13662482575166906331:=0
def tw13044344340253142536:=0
def tw1191909614397151036:=0
def tw6327420073951050916:=0
def tw710317780409119462:=0
def tw3865056330541245693:=0
def tw6086283587244402347:=0
def tw15202249390179092330:=0
def tw7911644750372164391:=0
def tw5778585965653151800:=0
def tw6404865116447314643:=0
def tw14525548773077567912:=0
def tw828429650722752803:=0
def tw15259906495819594:=0
def tw6548340508297316980:=0
def tw4766379367766257377:=0
def tw15222927761084284726:=0
def tw14982099762098860327:=0
def tw5102791304732650226:=0
def tw14164819683013819810:=0
def tw5925267225116126765:=0
def tw15270586188462521361:=0
def tw16010726268085118887:=0
def tw13366379502211052951:=0
def tw13771272507225816270:=0
def tw1095937562682762350:=0
def tw15546716267485018311:=0
def tw11770041108084809524:=0
def tw7983245157394271699:=0
def tw786630102950508877:=0
def tw14510912557668149937:=0
def tw17512572425954403653:=0
def tw10113473725270504406:=0
def tw6004192311882872718:=0
def tw12403051704198173043:=0
def tw9514259642012121268:=0
def tw5402408671159529760:=0
def tw11833885418023317641:=0
def tw6139292451811722528:=0
def tw1420893456403571648:=0
def tw14628391535995858785:=0
def tw17706429418892668374:=0
def tw14051491777579250739:=0
def tw10622866410796588155:=0
def tw15858485750537775047:=0
def tw722439529968598823:=0
def tw5016205503316387654:=0
def tw15689310389606924448:=0
def tw1789401172953196568:=0
def tw14572015050219528546:=0
def tw4782125759893773911:=0
def tw5142158099124147124:=0
def tw14022498839338431298:=0
def tw8645701056639091279:=0
def tw16515980030880640959:=0
def tw12653180892253227128:=0
def tw10118929403821919264:=0
def tw14639507268400110001:=0
def tw12944708210825058223:=0
def tw16045398867427679816:=0
def tw13285316923883613487:=0
def tw15061711973180747551:=0
def tw7075713080284925517:=0
def tw9159574288139099641:=0
def tw9298095051288047022:=0
def tw13434217177844347089:=0
def tw6390570845769786924:=0
def tw2898455036559960348:=0
def tw14658444229612710190:=0
def tw18190538205173474920:=0
def tw17946924596787353061:=0
def tw16731943335530899238:=0
def tw15093591001905142241:=0
def tw11087828518680430828:=0
def tw8528258490275937557:=0
def tw3376018849316702019:=0
def tw1225965572507234899:=0
def tw3532209816986907353:=0
def tw2024093628184770718:=0
def tw3748170891029641513:=0
def tw2761727235336520240:=0
def tw11224485836741956480:=0
def tw13866382374751957258:=0
def tw18005159262406476839:=0
def tw16274685558137676520:=0
def tw17546005488934806882:=0
def tw14541537499194545150:=0
def tw4072410885983916585:=0
def tw569402453756128242:=0
def tw3054558700642135147:=0
def tw15216400422316053387:=0
def tw1479870800995048275:=0
def tw7968784247170758424:=0
def tw10696552440601695794:=0
def tw5992860098576647024:=0
def tw1291656320876394487:=0
def tw7368195126148508740:=0
def tw15252791640081693976:=0
def tw6637408135922981874:=0
def tw10284134207953210738:=0
def tw12974218698779980266:=0
def tw1857262900277379234:=0
def tw3275889949536567099:=0
def tw10229183199722113565:=0
def tw18354313155229951820:=0
def tw13067664644951945971:=0
def tw13118733486991641879:=0
def tw14229652125597637765:=0
def tw17963702066440119008:=0
def tw15619544742725931444:=0
def tw14927967192612877182:=0
def tw17004009090462598587:=0
def tw8879629329995985889:=0
def tw3256887992204393113:=0
def tw11241043316242949049:=0
def tw13147996205010592014:=0
def tw58492861119893473:=0
end PySem.W.Fast
open PySem PySem.W PyProof.Rows
set_option maxRecDepth 100000 in
set_option maxHeartbeats 0 in
theorem PySem.Challenge.cw_worthkinds_k76_whole_great_kinds_holds : PySem.Challenge.rw_worthkinds_k76_whole_great_kinds.Holds := by
 w_on; o_law; k_head; (case hw=>w_witness2)
 k_fill
 refine G.walk (l:=PySem.Challenge.rw_worthkinds_k76_whole_great_kinds) rfl rfl G.Kp ?nl (fun w h Y=>⟨PySem.W.km_in_of Y,PySem.W.km_tabs_of Y⟩) ?F
 case nl=>intro p; kernel_rfl
 case F=>
  intro w mg fa h KX G0 hmg hT
  obtain ⟨a0,d0,C0⟩:∃ a d,G.Fn _ mg "_law_worth" G.s_e ["_law_lists","_law_number"] a d:=by
   refine' ⟨_,_,G.fn1 KX G0 ?e ?l ?g ?k (fun F=>F.binds (ps:=["_law_lists","_law_number"]) fun _ _ _ _ _ _ us hl=>match us,hl with | [_,_],_=>rfl)⟩
   (case e=>k_is)
   (case l=>k_is)
   (case g=>k_is)
   (case k=>k_is)
  obtain ⟨a1,d1,C1⟩:∃ a d,G.Fn _ mg "_law_cell" G.s_y ["_law_script","_law_k"] a d:=by
   refine' ⟨_,_,G.fn1 KX G0 ?e ?l ?g ?k (fun F=>F.binds (ps:=["_law_script","_law_k"]) fun _ _ _ _ _ _ us hl=>match us,hl with | [_,_],_=>rfl)⟩
   (case e=>k_is)
   (case l=>k_is)
   (case g=>k_is)
   (case k=>k_is)
  obtain ⟨a2,d2,C2⟩:∃ a d,G.Fn _ mg "_law_pick" G.s_n ["_law_script","_law_k","_law_many"] a d:=by
   refine' ⟨_,_,G.fn1 KX G0 ?e ?l ?g ?k (fun F=>F.binds (ps:=["_law_script","_law_k","_law_many"]) fun _ _ _ _ _ _ us hl=>match us,hl with | [_,_,_],_=>rfl)⟩
   (case e=>k_is)
   (case l=>k_is)
   (case g=>k_is)
   (case k=>k_is)
  obtain ⟨a3,d3,C3⟩:∃ a d,G.Fn _ mg "is_whole" G.s_d ["thing"] a d:=by
   refine' ⟨_,_,G.fn1 KX G0 ?e ?l ?g ?k (fun F=>F.binds (ps:=["thing"]) fun _ _ _ _ _ _ us hl=>match us,hl with | [_],_=>rfl)⟩
   (case e=>k_is)
   (case l=>k_is)
   (case g=>k_is)
   (case k=>k_is)
  obtain ⟨a4,d4,C4⟩:∃ a d,G.Fn _ mg "is_span" G.Ku ["low","high","least","most"] a d:=by
   refine' ⟨_,_,G.fn1 KX G0 ?e ?l ?g ?k (fun F=>F.binds (ps:=["low","high","least","most"]) fun _ _ _ _ _ _ us hl=>match us,hl with | [_,_,_,_],_=>rfl)⟩
   (case e=>k_is)
   (case l=>k_is)
   (case g=>k_is)
   (case k=>k_is)
  obtain ⟨a5,d5,C5⟩:∃ a d,G.Fn _ mg "is_tuple_of" G.s_7 ["thing","least","most"] a d:=by
   refine' ⟨_,_,G.fn1 KX G0 ?e ?l ?g ?k (fun F=>F.binds (ps:=["thing","least","most"]) fun _ _ _ _ _ _ us hl=>match us,hl with | [_,_,_],_=>rfl)⟩
   (case e=>k_is)
   (case l=>k_is)
   (case g=>k_is)
   (case k=>k_is)
  obtain ⟨a6,d6,C6⟩:∃ a d,G.Fn _ mg "is_word" G.s_r ["thing"] a d:=by
   refine' ⟨_,_,G.fn1 KX G0 ?e ?l ?g ?k (fun F=>F.binds (ps:=["thing"]) fun _ _ _ _ _ _ us hl=>match us,hl with | [_],_=>rfl)⟩
   (case e=>k_is)
   (case l=>k_is)
   (case g=>k_is)
   (case k=>k_is)
  obtain ⟨a7,d7,C7⟩:∃ a d,G.Fn _ mg "is_choice" G.s_o ["thing"] a d:=by
   refine' ⟨_,_,G.fn1 KX G0 ?e ?l ?g ?k (fun F=>F.binds (ps:=["thing"]) fun _ _ _ _ _ _ us hl=>match us,hl with | [_],_=>rfl)⟩
   (case e=>k_is)
   (case l=>k_is)
   (case g=>k_is)
   (case k=>k_is)
  obtain ⟨a8,d8,C8⟩:∃ a d,G.Fn _ mg "are_choices" G.s_l ["thing"] a d:=by
   refine' ⟨_,_,G.fn1 KX G0 ?e ?l ?g ?k (fun F=>F.binds (ps:=["thing"]) fun _ _ _ _ _ _ us hl=>match us,hl with | [_],_=>rfl)⟩
   (case e=>k_is)
   (case l=>k_is)
   (case g=>k_is)
   (case k=>k_is)
  obtain ⟨a9,d9,C9⟩:∃ a d,G.Fn _ mg "is_kind_within" G.s_6 ["thing","levels"] a d:=by
   refine' ⟨_,_,G.fn1 KX G0 ?e ?l ?g ?k (fun F=>F.binds (ps:=["thing","levels"]) fun _ _ _ _ _ _ us hl=>match us,hl with | [_,_],_=>rfl)⟩
   (case e=>k_is)
   (case l=>k_is)
   (case g=>k_is)
   (case k=>k_is)
  obtain ⟨a10,d10,C10⟩:∃ a d,G.Fn _ mg "are_kinds_within" G.s_x ["thing","levels"] a d:=by
   refine' ⟨_,_,G.fn1 KX G0 ?e ?l ?g ?k (fun F=>F.binds (ps:=["thing","levels"]) fun _ _ _ _ _ _ us hl=>match us,hl with | [_,_],_=>rfl)⟩
   (case e=>k_is)
   (case l=>k_is)
   (case g=>k_is)
   (case k=>k_is)
  obtain ⟨a11,d11,C11⟩:∃ a d,G.Fn _ mg "is_kind" G.s_2 ["thing"] a d:=by
   refine' ⟨_,_,G.fn1 KX G0 ?e ?l ?g ?k (fun F=>F.binds (ps:=["thing"]) fun _ _ _ _ _ _ us hl=>match us,hl with | [_],_=>rfl)⟩
   (case e=>k_is)
   (case l=>k_is)
   (case g=>k_is)
   (case k=>k_is)
  obtain ⟨a12,d12,C12⟩:∃ a d,G.Fn _ mg "need_kind" G.s_9 ["kind"] a d:=by
   refine' ⟨_,_,G.fn1 KX G0 ?e ?l ?g ?k (fun F=>F.binds (ps:=["kind"]) fun _ _ _ _ _ _ us hl=>match us,hl with | [_],_=>rfl)⟩
   (case e=>k_is)
   (case l=>k_is)
   (case g=>k_is)
   (case k=>k_is)
  obtain ⟨a13,d13,C13⟩:∃ a d,G.Fn _ mg "words_of_pick" G.s_b ["kind"] a d:=by
   refine' ⟨_,_,G.fn1 KX G0 ?e ?l ?g ?k (fun F=>F.binds (ps:=["kind"]) fun _ _ _ _ _ _ us hl=>match us,hl with | [_],_=>rfl)⟩
   (case e=>k_is)
   (case l=>k_is)
   (case g=>k_is)
   (case k=>k_is)
  obtain ⟨a14,d14,C14⟩:∃ a d,G.Fn _ mg "has_worth" G.s_8 ["kind","thing"] a d:=by
   refine' ⟨_,_,G.fn1 KX G0 ?e ?l ?g ?k (fun F=>F.binds (ps:=["kind","thing"]) fun _ _ _ _ _ _ us hl=>match us,hl with | [_,_],_=>rfl)⟩
   (case e=>k_is)
   (case l=>k_is)
   (case g=>k_is)
   (case k=>k_is)
  obtain ⟨a15,d15,C15⟩:∃ a d,G.Fn _ mg "have_parts" G.s_t ["kinds","parts"] a d:=by
   refine' ⟨_,_,G.fn1 KX G0 ?e ?l ?g ?k (fun F=>F.binds (ps:=["kinds","parts"]) fun _ _ _ _ _ _ us hl=>match us,hl with | [_,_],_=>rfl)⟩
   (case e=>k_is)
   (case l=>k_is)
   (case g=>k_is)
   (case k=>k_is)
  obtain ⟨a16,d16,C16⟩:∃ a d,G.Fn _ mg "is_worth" G.s_q ["kind","thing"] a d:=by
   refine' ⟨_,_,G.fn1 KX G0 ?e ?l ?g ?k (fun F=>F.binds (ps:=["kind","thing"]) fun _ _ _ _ _ _ us hl=>match us,hl with | [_,_],_=>rfl)⟩
   (case e=>k_is)
   (case l=>k_is)
   (case g=>k_is)
   (case k=>k_is)
  obtain ⟨a17,d17,C17⟩:∃ a d,G.Fn _ mg "need_worth" G.s_c ["kind","worth"] a d:=by
   refine' ⟨_,_,G.fn1 KX G0 ?e ?l ?g ?k (fun F=>F.binds (ps:=["kind","worth"]) fun _ _ _ _ _ _ us hl=>match us,hl with | [_,_],_=>rfl)⟩
   (case e=>k_is)
   (case l=>k_is)
   (case g=>k_is)
   (case k=>k_is)
  obtain ⟨a18,d18,C18⟩:∃ a d,G.Fn _ mg "count_of" G.s_1 ["kind"] a d:=by
   refine' ⟨_,_,G.fn1 KX G0 ?e ?l ?g ?k (fun F=>F.binds (ps:=["kind"]) fun _ _ _ _ _ _ us hl=>match us,hl with | [_],_=>rfl)⟩
   (case e=>k_is)
   (case l=>k_is)
   (case g=>k_is)
   (case k=>k_is)
  obtain ⟨a19,d19,C19⟩:∃ a d,G.Fn _ mg "count_of_parts" G.s_i ["kinds"] a d:=by
   refine' ⟨_,_,G.fn1 KX G0 ?e ?l ?g ?k (fun F=>F.binds (ps:=["kinds"]) fun _ _ _ _ _ _ us hl=>match us,hl with | [_],_=>rfl)⟩
   (case e=>k_is)
   (case l=>k_is)
   (case g=>k_is)
   (case k=>k_is)
  obtain ⟨a20,d20,C20⟩:∃ a d,G.Fn _ mg "count_shorter" G.s_a ["kind","length"] a d:=by
   refine' ⟨_,_,G.fn1 KX G0 ?e ?l ?g ?k (fun F=>F.binds (ps:=["kind","length"]) fun _ _ _ _ _ _ us hl=>match us,hl with | [_,_],_=>rfl)⟩
   (case e=>k_is)
   (case l=>k_is)
   (case g=>k_is)
   (case k=>k_is)
  obtain ⟨a21,d21,C21⟩:∃ a d,G.Fn _ mg "place_of" G.s_3 ["kind","worth"] a d:=by
   refine' ⟨_,_,G.fn1 KX G0 ?e ?l ?g ?k (fun F=>F.binds (ps:=["kind","worth"]) fun _ _ _ _ _ _ us hl=>match us,hl with | [_,_],_=>rfl)⟩
   (case e=>k_is)
   (case l=>k_is)
   (case g=>k_is)
   (case k=>k_is)
  obtain ⟨a22,d22,C22⟩:∃ a d,G.Fn _ mg "place_of_parts" G.s_w ["kinds","parts"] a d:=by
   refine' ⟨_,_,G.fn1 KX G0 ?e ?l ?g ?k (fun F=>F.binds (ps:=["kinds","parts"]) fun _ _ _ _ _ _ us hl=>match us,hl with | [_,_],_=>rfl)⟩
   (case e=>k_is)
   (case l=>k_is)
   (case g=>k_is)
   (case k=>k_is)
  obtain ⟨a23,d23,C23⟩:∃ a d,G.Fn _ mg "worth_at" G.s_4 ["kind","number"] a d:=by
   refine' ⟨_,_,G.fn1 KX G0 ?e ?l ?g ?k (fun F=>F.binds (ps:=["kind","number"]) fun _ _ _ _ _ _ us hl=>match us,hl with | [_,_],_=>rfl)⟩
   (case e=>k_is)
   (case l=>k_is)
   (case g=>k_is)
   (case k=>k_is)
  obtain ⟨a24,d24,C24⟩:∃ a d,G.Fn _ mg "many_at" G.KQ ["kind","number"] a d:=by
   refine' ⟨_,_,G.fn1 KX G0 ?e ?l ?g ?k (fun F=>F.binds (ps:=["kind","number"]) fun _ _ _ _ _ _ us hl=>match us,hl with | [_,_],_=>rfl)⟩
   (case e=>k_is)
   (case l=>k_is)
   (case g=>k_is)
   (case k=>k_is)
  obtain ⟨a25,d25,C25⟩:∃ a d,G.Fn _ mg "parts_at" G.s_k ["kinds","number"] a d:=by
   refine' ⟨_,_,G.fn1 KX G0 ?e ?l ?g ?k (fun F=>F.binds (ps:=["kinds","number"]) fun _ _ _ _ _ _ us hl=>match us,hl with | [_,_],_=>rfl)⟩
   (case e=>k_is)
   (case l=>k_is)
   (case g=>k_is)
   (case k=>k_is)
  obtain ⟨a26,d26,C26⟩:∃ a d,G.Fn _ mg "between" G.s_5 ["kind","one","other"] a d:=by
   refine' ⟨_,_,G.fn1 KX G0 ?e ?l ?g ?k (fun F=>F.binds (ps:=["kind","one","other"]) fun _ _ _ _ _ _ us hl=>match us,hl with | [_,_,_],_=>rfl)⟩
   (case e=>k_is)
   (case l=>k_is)
   (case g=>k_is)
   (case k=>k_is)
  obtain ⟨a27,d27,C27⟩:∃ a d,G.Fn _ mg "how_many" G.s_u ["kind"] a d:=by
   refine' ⟨_,_,G.fn1 KX G0 ?e ?l ?g ?k (fun F=>F.binds (ps:=["kind"]) fun _ _ _ _ _ _ us hl=>match us,hl with | [_],_=>rfl)⟩
   (case e=>k_is)
   (case l=>k_is)
   (case g=>k_is)
   (case k=>k_is)
  obtain ⟨a28,d28,C28⟩:∃ a d,G.Fn _ mg "worth_if_any" G.s_g ["kind","number"] a d:=by
   refine' ⟨_,_,G.fn1 KX G0 ?e ?l ?g ?k (fun F=>F.binds (ps:=["kind","number"]) fun _ _ _ _ _ _ us hl=>match us,hl with | [_,_],_=>rfl)⟩
   (case e=>k_is)
   (case l=>k_is)
   (case g=>k_is)
   (case k=>k_is)
  obtain ⟨a29,d29,C29⟩:∃ a d,G.Fn _ mg "next_worth" G.s_j ["kind","worth"] a d:=by
   refine' ⟨_,_,G.fn1 KX G0 ?e ?l ?g ?k (fun F=>F.binds (ps:=["kind","worth"]) fun _ _ _ _ _ _ us hl=>match us,hl with | [_,_],_=>rfl)⟩
   (case e=>k_is)
   (case l=>k_is)
   (case g=>k_is)
   (case k=>k_is)
  obtain ⟨a30,d30,C30⟩:∃ a d,G.Fn _ mg "worth_ahead" G.s_p ["kind","worth"] a d:=by
   refine' ⟨_,_,G.fn1 KX G0 ?e ?l ?g ?k (fun F=>F.binds (ps:=["kind","worth"]) fun _ _ _ _ _ _ us hl=>match us,hl with | [_,_],_=>rfl)⟩
   (case e=>k_is)
   (case l=>k_is)
   (case g=>k_is)
   (case k=>k_is)
  obtain ⟨a31,d31,C31⟩:∃ a d,G.Fn _ mg "_law_class" G.s_s ["_law_kept"] a d:=by
   refine' ⟨_,_,G.fn1 KX G0 ?e ?l ?g ?k (fun F=>F.binds (ps:=["_law_kept"]) fun _ _ _ _ _ _ us hl=>match us,hl with | [_],_=>rfl)⟩
   (case e=>k_is)
   (case l=>k_is)
   (case g=>k_is)
   (case k=>k_is)
  obtain ⟨a32,d32,C32⟩:∃ a d,G.Fn _ mg "_law_told" G.jM ["_law_deed"] a d:=by
   refine' ⟨_,_,G.fn1 KX G0 ?e ?l ?g ?k (fun F=>F.binds (ps:=["_law_deed"]) fun _ _ _ _ _ _ us hl=>match us,hl with | [_],_=>rfl)⟩
   (case e=>k_is)
   (case l=>k_is)
   (case g=>k_is)
   (case k=>k_is)
  obtain ⟨a33,d33,C33⟩:∃ a d,G.Fn _ mg "middle" G.s_v ["kind"] a d:=by
   refine' ⟨_,_,G.fn1 KX G0 ?e ?l ?g ?k (fun F=>F.binds (ps:=["kind"]) fun _ _ _ _ _ _ us hl=>match us,hl with | [_],_=>rfl)⟩
   (case e=>k_is)
   (case l=>k_is)
   (case g=>k_is)
   (case k=>k_is)
  obtain ⟨a34,d34,C34⟩:∃ a d,G.Fn _ mg "need_text" G.g9 ["thing"] a d:=by
   refine' ⟨_,_,G.fn1 KX G0 ?e ?l ?g ?k (fun F=>F.binds (ps:=["thing"]) fun _ _ _ _ _ _ us hl=>match us,hl with | [_],_=>rfl)⟩
   (case e=>k_is)
   (case l=>k_is)
   (case g=>k_is)
   (case k=>k_is)
  obtain ⟨a35,d35,C35⟩:∃ a d,G.Fn _ mg "pieces_between" G.gc ["text","mark"] a d:=by
   refine' ⟨_,_,G.fn1 KX G0 ?e ?l ?g ?k (fun F=>F.binds (ps:=["text","mark"]) fun _ _ _ _ _ _ us hl=>match us,hl with | [_,_],_=>rfl)⟩
   (case e=>k_is)
   (case l=>k_is)
   (case g=>k_is)
   (case k=>k_is)
  obtain ⟨a36,d36,C36⟩:∃ a d,G.Fn _ mg "number_in" G.s_m ["text"] a d:=by
   refine' ⟨_,_,G.fn1 KX G0 ?e ?l ?g ?k (fun F=>F.binds (ps:=["text"]) fun _ _ _ _ _ _ us hl=>match us,hl with | [_],_=>rfl)⟩
   (case e=>k_is)
   (case l=>k_is)
   (case g=>k_is)
   (case k=>k_is)
  obtain ⟨a37,d37,C37⟩:∃ a d,G.Fn _ mg "span_in" G.gh ["text"] a d:=by
   refine' ⟨_,_,G.fn1 KX G0 ?e ?l ?g ?k (fun F=>F.binds (ps:=["text"]) fun _ _ _ _ _ _ us hl=>match us,hl with | [_],_=>rfl)⟩
   (case e=>k_is)
   (case l=>k_is)
   (case g=>k_is)
   (case k=>k_is)
  obtain ⟨a38,d38,C38⟩:∃ a d,G.Fn _ mg "text_inside" G.gi ["text","opening","closing"] a d:=by
   refine' ⟨_,_,G.fn1 KX G0 ?e ?l ?g ?k (fun F=>F.binds (ps:=["text","opening","closing"]) fun _ _ _ _ _ _ us hl=>match us,hl with | [_,_,_],_=>rfl)⟩
   (case e=>k_is)
   (case l=>k_is)
   (case g=>k_is)
   (case k=>k_is)
  obtain ⟨a39,d39,C39⟩:∃ a d,G.Fn _ mg "choice_in" G.gj ["text"] a d:=by
   refine' ⟨_,_,G.fn1 KX G0 ?e ?l ?g ?k (fun F=>F.binds (ps:=["text"]) fun _ _ _ _ _ _ us hl=>match us,hl with | [_],_=>rfl)⟩
   (case e=>k_is)
   (case l=>k_is)
   (case g=>k_is)
   (case k=>k_is)
  obtain ⟨a40,d40,C40⟩:∃ a d,G.Fn _ mg "kind_in" G.s_h ["text","levels"] a d:=by
   refine' ⟨_,_,G.fn1 KX G0 ?e ?l ?g ?k (fun F=>F.binds (ps:=["text","levels"]) fun _ _ _ _ _ _ us hl=>match us,hl with | [_,_],_=>rfl)⟩
   (case e=>k_is)
   (case l=>k_is)
   (case g=>k_is)
   (case k=>k_is)
  obtain ⟨a41,d41,C41⟩:∃ a d,G.Fn _ mg "read_kind" G.gp ["text"] a d:=by
   refine' ⟨_,_,G.fn1 KX G0 ?e ?l ?g ?k (fun F=>F.binds (ps:=["text"]) fun _ _ _ _ _ _ us hl=>match us,hl with | [_],_=>rfl)⟩
   (case e=>k_is)
   (case l=>k_is)
   (case g=>k_is)
   (case k=>k_is)
  obtain ⟨a42,d42,C42⟩:∃ a d,G.Fn _ mg "span_written" G.gq ["low","high"] a d:=by
   refine' ⟨_,_,G.fn1 KX G0 ?e ?l ?g ?k (fun F=>F.binds (ps:=["low","high"]) fun _ _ _ _ _ _ us hl=>match us,hl with | [_,_],_=>rfl)⟩
   (case e=>k_is)
   (case l=>k_is)
   (case g=>k_is)
   (case k=>k_is)
  obtain ⟨a43,d43,C43⟩:∃ a d,G.Fn _ mg "kind_written" G.s_f ["kind"] a d:=by
   refine' ⟨_,_,G.fn1 KX G0 ?e ?l ?g ?k (fun F=>F.binds (ps:=["kind"]) fun _ _ _ _ _ _ us hl=>match us,hl with | [_],_=>rfl)⟩
   (case e=>k_is)
   (case l=>k_is)
   (case g=>k_is)
   (case k=>k_is)
  obtain ⟨a44,d44,C44⟩:∃ a d,G.Fn _ mg "kind_text" G.s_z ["kind"] a d:=by
   refine' ⟨_,_,G.fn1 KX G0 ?e ?l ?g ?k (fun F=>F.binds (ps:=["kind"]) fun _ _ _ _ _ _ us hl=>match us,hl with | [_],_=>rfl)⟩
   (case e=>k_is)
   (case l=>k_is)
   (case g=>k_is)
   (case k=>k_is)
  obtain ⟨a45,d45,C45,hB,kl,Pl,el,ol,tl,gl⟩:∃ a d,G.Fn _ mg "law" G.s_0 ["_law_script"] a d/\(∀ (s:PySem.Shared) (v:PySem.Value),BindsTo s d ⟨[v],[]⟩ [("_law_script",v)])/\∃ c P,d.code= .ref c/\∃ o,G.gv KX c P o/\h.get? P=some (PySem.W.tabObj #[]):=by
   refine' ⟨_,_,G.fn1 KX G0 ?e ?l ?g ?k (fun F=>F.binds (ps:=["_law_script"]) fun _ _ _ _ _ _ us hl=>match us,hl with | [_],_=>rfl),fun s v=> .of_eq rfl,_,_,rfl,_,⟨?t, ?u, ?h, ?n⟩, ?m⟩
   (case e=>k_is)
   (case l=>k_is)
   (case g=>k_is)
   (case k=>k_is)
   (case t=>k_is)
   (case u=>exact rfl)
   (case h=>kernel_rfl)
   (case n=>kernel_rfl)
   (case m=>exact hT _ (by decide))
  refine' G.fin_ KX G0 hmg ⟨a0,d0,C0,a1,d1,C1,a2,d2,C2,a3,d3,C3,a4,d4,C4,a5,d5,C5,a6,d6,C6,a7,d7,C7,a8,d8,C8,a9,d9,C9,a10,d10,C10,a11,d11,C11,a12,d12,C12,a13,d13,C13,a14,d14,C14,a15,d15,C15,a16,d16,C16,a17,d17,C17,a18,d18,C18,a19,d19,C19,a20,d20,C20,a21,d21,C21,a22,d22,C22,a23,d23,C23,a24,d24,C24,a25,d25,C25,a26,d26,C26,a27,d27,C27,a28,d28,C28,a29,d29,C29,a30,d30,C30,a31,d31,C31,a32,d32,C32,a33,d33,C33,a34,d34,C34,a35,d35,C35,a36,d36,C36,a37,d37,C37,a38,d38,C38,a39,d39,C39,a40,d40,C40,a41,d41,C41,a42,d42,C42,a43,d43,C43,a44,d44,C44,a45,d45,C45,kl,Pl,el,tl.h,tl.n,PySem.W.mg_none_of KX G0 (by k_is),PySem.W.mg_none_of KX G0 (by k_is),PySem.W.mg_none_of KX G0 (by k_is),PySem.W.mg_none_of KX G0 (by k_is),PySem.W.mg_none_of KX G0 (by k_is),PySem.W.mg_none_of KX G0 (by k_is),PySem.W.mg_none_of KX G0 (by k_is),PySem.W.mg_none_of KX G0 (by k_is),PySem.W.mg_none_of KX G0 (by k_is),PySem.W.mg_none_of KX G0 (by k_is),PySem.W.mg_none_of KX G0 (by k_is),PySem.W.mg_none_of KX G0 (by k_is),PySem.W.mg_none_of KX G0 (by k_is),PySem.W.mg_none_of KX G0 (by k_is),PySem.W.mg_none_of KX G0 (by k_is),⟨_,PySem.W.mg_of KX G0 (by k_is),_,rfl⟩,⟨_,PySem.W.mg_of KX G0 (by k_is),_,rfl⟩,⟨_,PySem.W.mg_of KX G0 (by k_is),_,rfl⟩⟩ hB gl ?n0 ?n1 ?n2 ?n3 ?n4 ?n5 ?n6 ?n7 ?b0 ?b1 ?b2 ?b3 ?b4 ?b5 ?b6 ?b7 ?b8 ?b9 ?b10 ?b11 ?b12 ?b13
  (case n0=>k_is)
  (case n1=>k_is)
  (case n2=>k_is)
  (case n3=>k_is)
  (case n4=>k_is)
  (case n5=>k_is)
  (case n6=>k_is)
  (case n7=>k_is)
  (case b0=>kernel_rfl)
  (case b1=>kernel_rfl)
  (case b2=>kernel_rfl)
  (case b3=>kernel_rfl)
  (case b4=>kernel_rfl)
  (case b5=>kernel_rfl)
  (case b6=>kernel_rfl)
  (case b7=>kernel_rfl)
  (case b8=>kernel_rfl)
  (case b9=>kernel_rfl)
  (case b10=>kernel_rfl)
  (case b11=>kernel_rfl)
  (case b12=>kernel_rfl)
  (case b13=>kernel_rfl)
