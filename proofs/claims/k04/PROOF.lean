import PyProof.Rows.All
import Wide.All
import OpenK.AllK
import Wide.FinOn
import Lean
import PyProof.EqAt
import PyProof.EqKinds
import PyProof.TupleCall
import PyProof.NeKinds
import PyProof.WalksEnum
import PyProof.StrWalks
import PyProof.ExcAttrAll.ValueError
import PyProof.ZipIter
import KE.KRevIter
import PyProof.ListNew
import PyProof.WalksMore
import PyProof.ReprLoop
import PyProof.FactsAll.list
import PyProof.CollectIter
import PyProof.TupleOfGen
import PyProof.Draws
import PyProof.EnumMake
import PyProof.SeqI3
import KE.KMinBuiltin
import PyProof.SetRoads
import PyProof.CollectWalk
import KE.KDictSum
import PyProof.AttrMiss
import PyProof.IsiH_tuple
import KE.KDictOf
import PyProof.FitsBits
import PyProof.SliceList
import PyProof.InstFacts
import PyProof.Rows.StrNews2
import PyProof.StrBlockH
import PyProof.CallStr
import KE.KIntText
import PyProof.Rows.RuleB_pow
import KE.KSortTup
import PyProof.ReprRoads
import PySem.Challenge.RW_worthkinds_k04_whole_mirrored
open PySem renaming wpAny_bind->aa,wpAny_pure->ai,wpAny_newObj_type->aJ,codeAny_builtin->aM,builtinLookup_eq_fast->aO,wpAny_setField_rec->aR,plainId_quiet->a_,wpAny_of_eq->bb,wpAny_setState_of->bi,wpAny_field->bm,typeLookup_type->bn,wpAny_truthy_bool->br,wpAny_seqItems->bF,wpAny_call_entry->bH,sizeLine_eq->bI,wpAny_holding->bQ,isSubtype_type->bV,wpAny_Call_Name_kw->bZ,wpAny_callSpecial?_slot->c6,wpAny_ite_split->cb,codeAny_mono->cj,wpAny_specialOf->cy,mem_of_lookup->cz,wpAny_isInstance->cC,wpAny_rule->cF,wpAny_passesOwn->cH,wpAny_updateSeq->cJ,wpAny_mono->de,wpAny_typeOf->df,wpAny_attempt->dj,wpAny_tryCatch->dz,call_meets->dL,wpAny_letGo->dP,typeIs_int->eh,seqSlot_of->iU,call->ll
open List renaming mem_cons_of_mem->ab,getElem?_eq_getElem->ac,mem_cons_self->ae,length_map->af,replicate->ag,mem_cons->ak,mem_map->aq,map_cons->ar,getElem?_eq_some_iff->au,length_cons->av,getElem?_map->ax,size_toArray->az,length_append->aA,mem_singleton->aC,getElem?_eq_none->aD,map_map->aF,length_singleton->aG,all_eq_true->aI,lookup_cons->aK,Nodup->aL,map_replicate->aS,replicate_succ->aU,getElem?_set_ne->aV,length_replicate->aW,range->aX,getElem?_append_right->aY,getElem?_replicate->aZ,pairwise_cons->b7,getElem?_append_left->b8,map_congr_left->bc,map_reverse->be,mem_append_right->bf,eq_of_mem_replicate->bj,not_mem_nil->bp,length_range->bu,reverse_cons->bv,flatMap_cons->bx,mem_of_getElem?->bz,getElem?_set_self->bB,mem_range->bE,length_reverse->bJ,nil_append->bP,append_assoc->bS,of_mem_zip->bX,length_nil->bY,all_cons->c9,getElem?_zip_eq_some->ce,pairwise_iff_getElem->cf,mem_flatMap->cg,mem_reverse->ci,flatten_cons->cq,ext_getElem?->cu,length_set->cx,getElem?_range->cA,append_nil->cI,map_append->cK,map_nil->cN,mem_iff_getElem->cO,length_take->cT,length_eq_zero_iff->cU,any_eq_true->cY,mem_append->dh,sum_cons->dl,getElem?_reverse->dr,mem_iff_getElem?->dt,pairwise_map->du,reverse_reverse->dA,mem_filter->dH,nodup_cons->dI,length_zip->dJ,range_succ_eq_map->dS,foldl->eA,cons_append->eC,mem_append_left->eG,count_eq_zero_of_not_mem->eI,forIn_cons->eK,filterMap_cons->eO,length_eraseIdx_of_lt->f6,drop_eq_getElem_cons->f9,range'->fk,getElem_take->fm,getElem_inj->fB,getElem_mem->fJ,nodup_range->fM,sum_reverse->fO,range_succ->fZ,pairwise_flatMap->hJ,getElem?_range'->hV,nodup_iff_count->i6,mem_map_of_mem->ia,any_cons->ib,mem_filterMap->ic,zip_cons_cons->iu,getElem?_take->iw,mem_replicate->ix,count_pos_iff->iy,all_map->iC,drop_length->iV,range'_succ->iX,zipIdx_cons->i_,le_antisymm->j_,getElem_map->k_,length->l5,not_lt->l8,zipIdx_nil->lb,find?_cons->lg,sum_append->lh
open PySem.Heap renaming get?_push_of_some->ad,get?_push_size->ah,lt_size->ao,get?_update_other->aP,size_push->bo,get?_update_self->bK,SameBut->bL,ExtBut->hX
open Bool renaming and_eq_true->aj,false_ne_true->ay,false_eq_true->aB,and_eq_true_iff->c7,eq_false_iff->cv,true_and->dG,eq_iff_iff->eN,not_true->fr,or_eq_false_iff->h_,or_eq_true->la
open PySem.W renaming Frag->al,kia_one->bO,fnOf->cB,kitOne->cR,keepIn->cS,codeIn->eX,methodObj->fg,cellsFrom_some->fP,instObj->fW,lookIn->hU,kitx_list->iz,kitx_dict->iA,plainGet->iR
open Nat renaming le_refl->am,le_trans->ap,ne_of_lt->aw,lt_of_lt_of_le->aH,zero_le->b9,lt_irrefl->bg,mul_le_mul->bG,lt_of_le_of_lt->bN,lt_succ_of_lt->bT,one_mul->cn,ne_of_gt->cL,mul_comm->cM,pow_le_pow_right->cP,lt_succ_self->cV,le_mul_of_pos_right->c_,mul_pos->db,pow_succ->dg,mul_assoc->dk,mul_le_mul_right->dB,le_add_right->dC,le_succ->dO,add_mul->dQ,pow_add->eH,add_le_add_left->eP,le_of_lt->eR,pos_of_ne_zero->e_,gcd->fq,lt_trans->fT,pow_lt_pow_right->i4,eq_zero_or_pos->io,mod_lt->ip,add_comm->iB,zero_add->iO,gcd_comm->iP,gcd_one_right->iQ,min_le_left->li,div_le_self->lj
open PySem.Around renaming under_plainId->aE,under_plain->ik
open PyProof.Rows renaming callWith_type1->aN
open PySem.Str renaming ofString->aQ
open Array renaming length_toList->aT,getElem?_eq_getElem->bA,getElem?_eq_none->bR,getD_eq_getD_getElem?->eT,getD->ir,toList_push->iK,ext->lr
open Option.some renaming inj->b6
open Int renaming toNat_natCast->bh,le_trans->dD,natAbs_natCast->dM,natCast_mul->eJ,fdiv_eq_ediv_of_nonneg->eV,emod_lt_of_pos->f8,eq_ofNat_of_zero_le->fN,zero_sub->fV,le_antisymm->fY,emod_nonneg->f_,natAbs_mul->i3,mul_neg->i5,le_of_lt->iJ,le_refl->l7,not_lt->lm
open Ne renaming symm->bq
open PySem.F renaming called_set->bC,plain_max_loop->cD,slot_tuple_getattribute->cG,slot_int_rmul->di,slot_zip_next->dq,called_tuple->dy,args_tuple_add_2->dF,entry_tuple_add->dN,slot_tuple_add->dR,slot_tuple_iterator_next->dW,plain_list_iadd->dX,plain_tuple_new->dY,slot_tuple_mul->eB,plain_extend_loop->eQ,plain_extend_loop->ff,args_int_rmul_2->fj,slot_dict_values->fv,slot_int_index->fE,entry_int_rmul->fF,plainAttrs_list->fG,args_zip_next_1->fH,entry_max_loop->fI,plain_list_iadd->fK,entry_zip_next->fS,fills_int_mul->fX,entry_proto_collect->h7,plain_proto_collect->h9,sub_list_frozenset->hW,args_object_init_2->hZ,entry_object_init->i8,args_tuple_mul_2->ig,typeCall_tuple_1->im,slot_tuple_rmul->iD,entry_tuple_mul->iE,entry_type_call->iF,entry_list_iadd->iG,newCall_tuple_1->iH,entry_tuple_new->iI,typeCall_set_1->iY,entry_set_init->iZ,slot_set_iter->ld,plain_set_new->lf
open PySem.Builtin.List renaming listExtendWith->bM,listTooLong->bU,listSameRef->bW,listLengthHint->c8,listFitsIndex->f7
open PyProof.Rows.F renaming plain_set_update_loop->b_,entry_set_update_loop->cW
open PySem.Builtin.Tuple renaming tupleExact->ck,tupleTooMany->eZ
open False renaming elim->cQ
open PySem.SetTable renaming grown->cX,below->dZ
open PySem.SeqAt renaming EqAt->dw,RcNeAt->dU,RcAt->fR
open PySem.Heap.SameBut renaming update->dE
open List.Pairwise renaming imp->d_
open PySem.Shared renaming TypeIs->eD
open PySem.Builtin.Frozenset renaming updateFrom->eM
open PySem.Builtin.Builtins renaming bindParams->eS
open PySem.Calls renaming Name_function_global->eU,spliced_cons->eW,spliced_nil->fh,callWith_builtin->fQ
open PySem.Obj renaming mapSeq->eY,data_mapFields->il,putSet->lq
open PySem.Builtin.Dict renaming selfAndRest->fu,updateFrom->fL
open PyProof.Rows.KeyOrd renaming klt_of_klt_of_kle->fw,kle_of_klt->iN
open Option renaming isNone->fx,map_eq_some_iff->fU,map->iq,getD_none->iS,map_some->lc
open Rat renaming num_mkRat->fy,den_mkRat->fA
open PySem.Builtin.Range renaming rangeSize->fD
open PySem.PassesOwn renaming never->g_
open PySem.Value renaming isStrOf_shape->i7
open PySem.Builtin.Int renaming intBits->i9
open PySem.SeqAt.EqAt renaming of_refs->ie,same->l9
open PySem.Walks renaming list->ii
open PySem.Code renaming quiet_builtin->ij
open PySem.pickOrder renaming go->iL
open PySem.SetTable.below renaming go->iM
open PySem.AutoSeq1 renaming idx_int->iT
open PySem.WalksT renaming enumerate->iW
open Classical renaming skolem->l0
open PySem.ItemsOf renaming nil->l6
noncomputable section
set_option maxHeartbeats 4000000
set_option Elab.async false
set_option linter.all false
set_option maxRecDepth 100000
namespace L2
open PySem PySem.Spec PyProof.Rows
abbrev Key:=Sum Int Str
def Qk:Key->Value->Bool
 | .inl k,v=>Value.isInt k v
 | .inr x,v=>Value.isStrOf x v
def keyH (w:World):Key->Int
 | .inl k=>hashInt k
 | .inr x=>hashStr w x
theorem zY:∀{k:Key} {v:Value},Qk k v=true->(∃i t,k=Sum.inl i/\v=Value.int i t)\/(∃x t,k=Sum.inr x/\v=Value.str x t)
 | .inl i,v,h=>by
  obtain⟨t,e⟩:=Value.isInt_shape (k:=i) (v:=v) h;exact .inl ⟨i,t,rfl,e⟩
 | .inr x,v,h=>by
  obtain⟨t,e⟩:=i7 (x:=x) (v:=v) h;exact .inr ⟨x,t,rfl,e⟩
theorem yr (x:Str)(t:Tok):Qk (.inr x) (.str x t)=true:=by simp[Qk,Value.isStrOf]
theorem km (a b:Int):decide ((Sum.inl a:Key)=Sum.inl b)=(a == b):=by
 by_cases e:a=b
 ·subst e;simp
 ·have h:¬ (Sum.inl a:Key)=Sum.inl b:=λq=>e (Sum.inl.inj q);rw[decide_eq_false h];exact(beq_eq_false_iff_ne.mpr e).symm
theorem kn (a b:Str):decide ((Sum.inr a:Key)=Sum.inr b)=decide (a=b):=by
 by_cases e:a=b
 ·subst e;simp
 ·have h:¬ (Sum.inr a:Key)=Sum.inr b:=λq=>e (Sum.inr.inj q);rw[decide_eq_false h,decide_eq_false e]
theorem ko (a:Int)(b:Str):decide ((Sum.inl a:Key)=Sum.inr b)=false:=decide_eq_false (λq=>nomatch q)
theorem kr (a:Str)(b:Int):decide ((Sum.inr a:Key)=Sum.inl b)=false:=decide_eq_false (λq=>nomatch q)
def Zg (prog:Program)(w:World):PySem.KeyKind prog w Key where
 is:=Qk
 hash:=keyH w
 inj:=λv a b ha hb=>by
  rcases zY ha with ⟨i,t,rfl,rfl⟩ | ⟨x,t,rfl,rfl⟩
  ·rcases zY hb with ⟨j,u,rfl,e⟩ | ⟨y,u,rfl,e⟩
   ·injection e with e1 _;rw[e1]
   ·exact nomatch e
  ·rcases zY hb with ⟨j,u,rfl,e⟩ | ⟨y,u,rfl,e⟩
   ·exact nomatch e
   ·injection e with e1 _;rw[e1]
 byValue:=λk v h=>by
  rcases zY h with ⟨i,t,rfl,rfl⟩ | ⟨x,t,rfl,rfl⟩ <;> rfl
 pyHash:=λhv h=>by
  rcases zY hv with ⟨i,t,rfl,rfl⟩ | ⟨x,t,rfl,rfl⟩
  ·exact wpAny_pyHash_int h
  ·exact wpAny_pyHash_str h
 eqBool:=λhu hv h=>by
  rcases zY hu with ⟨i,t,rfl,rfl⟩ | ⟨x,t,rfl,rfl⟩
  ·rcases zY hv with ⟨j,u,rfl,rfl⟩ | ⟨y,u,rfl,rfl⟩
   ·rw[km]at h;exact wpAny_eqBool_int h
   ·rw[ko]at h;exact dw.int_str i t y u _ _ _ _ h
  ·rcases zY hv with ⟨j,u,rfl,rfl⟩ | ⟨y,u,rfl,rfl⟩
   ·rw[kr]at h;exact dw.str_int x t j u _ _ _ _ h
   ·rw[kn]at h;exact wpAny_eqBool_str h
 «strs»:=λk x t v h=>by
  rcases zY h with ⟨i,u,rfl,e⟩ | ⟨y,u,rfl,e⟩
  ·exact nomatch e
  ·injection e with e1 _;subst e1;cases v <;> rfl
theorem Jo (prog:Program)(w:World)(x:Str)(t:Tok):(Zg prog w).is (.inr x) (.str x t)=true:=yr x t
end L2
namespace L2
open PySem PySem.Spec PyProof.Rows
inductive V where
 | non | bl (b:Bool) | int (i:Int) | str (x:Str) | byt (b:Array UInt8) | flt (b:UInt64) | ref (a:Addr) | ty (n:String)
 deriving DecidableEq
def Zf:V->Value->Prop
 | .non,u=>u=Value.none
 | .bl b,u=>u=Value.bool b
 | .int i,u=>∃t,u=Value.int i t
 | .str x,u=>∃t,u=Value.str x t
 | .byt b,u=>∃t,u=Value.bytes b t
 | .flt b,u=>∃t,u=Value.float b t
 | .ref a,u=>u=Value.ref a
 | .ty n,u=>u=Value.type n
abbrev Z1:List V->List Value->Prop:=Paired Zf
theorem Z1.length {xs:List V}{us:List Value}(r:Z1 xs us):xs.length=us.length:=Paired.length r
theorem Z1.get:∀{xs:List V} {us:List Value} {i:Nat} {x:V},Z1 xs us->xs[i]? =some x->∃u,us[i]? =some u/\Zf x u
 | _,_,_,_,.nil,e=>by simp at e
 | _,_,0,_,.cons r _,e=>by simp at e;subst e;exact⟨_,rfl,r⟩
 | _,_,i+1,x,.cons _ t,e=>by
  obtain⟨u,h1,h2⟩:=Z1.get (i:=i) (x:=x) t (by simpa using e)
  exact⟨u,by simpa using h1,h2⟩
theorem Z1.append:∀{xs ys:List V} {us ws:List Value},Z1 xs us->Z1 ys ws->Z1 (xs++ys) (us++ws)
 | _,_,_,_,.nil,s=>s
 | _,_,_,_,.cons r t,s=> .cons r (Z1.append t s)
theorem Z1.take:∀{xs:List V} {us:List Value} (n:Nat),Z1 xs us->Z1 (xs.take n) (us.take n)
 | _,_,0,_=> .nil
 | _,_,_+1,.nil=> .nil
 | _,_,n+1,.cons r t=> .cons r (Z1.take n t)
theorem Z1.drop:∀{xs:List V} {us:List Value} (n:Nat),Z1 xs us->Z1 (xs.drop n) (us.drop n)
 | _,_,0,r=>r
 | _,_,_+1,.nil=> .nil
 | _,_,n+1,.cons _ t=>Z1.drop n t
def z0G:Option V->Option Value->Prop
 | some v,some u=>Zf v u
 | none,none=>True
 | _,_=>False
def KV {κ:Type}:List (κ×V)->List (κ×Value)->Prop:=Paired λ(p:κ×V) (q:κ×Value)=>p.1=q.1/\Zf p.2 q.2
def kV:Key->V
 | .inl i=> .int i
 | .inr x=> .str x
inductive HO where
 | lst (xs:List V)
 | tup (xs:List V)
 | dK (kvs:List (Key×V)) | dT (kvs:List (List Key×V))
 | set (S:Int->Bool) (n:Nat)
 | ins (C dx:Addr) (fs:List (Str×V))
 | own (x:Addr)
 | xd (fs:List (Str×V))
 | met (f x:Addr)
 | rng (lo hi:Int)
 | frz (o:Obj) (u:HO)
 | tbl (ps:Array Value)
 | ext (φ:Heap->Prop)
abbrev Hp:=Addr->Option HO
def upd (H:Hp)(a:Addr)(o:HO):Hp:=λb=>if b=a then some o else H b
theorem zv {H:Hp}{a:Addr}{o:HO}:upd H a o a=some o:=by unfold upd;rw[if_pos rfl]
theorem zr {H:Hp}{a b:Addr}{o:HO}(h:b ≠ a):upd H a o b=H b:=by unfold upd;rw[if_neg h]
theorem zM {H:Hp}{a b:Addr}{o:HO}(h:H a=some o)(h' :H b=none):a ≠ b:=by
 intro e;subst e;rw[h]at h';cases h'
def ITN (h:Heap)(a:Addr)(its:Array Value):Prop:=IsTup h a its/\((∃i t,its[0]? =some (Value.int i t))\/∃o,h.get? a=some o/\o.dict=none)
theorem ITN.new (h:Heap)(its:Array Value):ITN (h.push { cls:= .type "tuple",data:= .seq its }) h.objs.size its:=⟨IsTup.new h its,.inr ⟨_,ah _ rfl,rfl⟩⟩
section
variable (P:Program)(w:World)
def Z7 (H:Hp)(h:Heap)(a:Addr):HO->Prop
 | .lst xs=>xs.length<=sizeLine/\∃(its:List Value) (n:Nat),Z1 xs its/\h.get? a=some { cls:= .type "list",data:= .seq its.toArray n }
 | .tup xs=>xs.length<=sizeLine/\∃its:List Value,Z1 xs its/\ITN h a its.toArray
 | .dK kvs=>kvs.length<=sizeLine/\(a == sysModules)=false/\∃vs,KV kvs vs/\h.DictOf (Zg P w) a vs
 | .dT kvs=>kvs.length<=sizeLine/\(a == sysModules)=false/\∃xs:List (List Key×Addr×Value),
   Paired (λ(p:List Key×V) (q:List Key×Addr×Value)=>p.1=q.1/\H q.2.1=some (.tup (p.1.map kV))/\Zf p.2 q.2.2) kvs xs/\
   ∃o es ep,h.get? a=some o/\o.ExactDict/\o.data= .dict es ep/\es.toList=xs.map (entryOfKey (tupleKind (Zg P w)))/\(xs.map (·.1)).Nodup
 | .set S n=>h.SetOf (intKind P w) a S n
 | .ins C dx fs=>H dx=some (.own a)/\fs.length<=1000/\dx ≠ a/\h.get? a=some (fW C dx)/\
   ∃mA,h.Ns1 dx mA/\(∀f,z0G (fs.lookup f) (mA f))/\PySem.Within mA (fs.map (·.1))
 | .own _=>∃o,h.get? a=some o
 | .xd fs=>∃mA,h.Ns1 a mA/\∀f,z0G (fs.lookup f) (mA f)
 | .rng lo hi=>∃t u v,h.get? a=some { cls:= .type "range",data:= .fields #[.int lo t,.int hi u,.int 1 v] }
 | .frz o u=>h.get? a=some o/\Z7 H h a u
 | .tbl ps=>h.get? a=some { cls:= .none,data:= .fields ps }
 | .met f x=>h.get? a=some (fg (.ref f) (.ref x))
 | .ext φ=>φ h/\(∃o,h.get? a=some o)/\∀h1 h2:Heap,φ h1->(∀o,h1.get? a=some o->h2.get? a=some o)->φ h2
def HOk (H:Hp)(h:Heap):Prop:=∀a o,H a=some o->Z7 P w H h a o
end
section
variable {P:Program}{w:World}{H H' :Hp}{h h' :Heap}{a:Addr}{o:HO}
theorem Z7.lt (x:Z7 P w H h a o):a < h.objs.size:=by
 cases o with
 | lst xs=>obtain⟨_,_,_,_,e⟩:=x;exact ao e
 | tup xs=>obtain⟨_,_,_,p,_⟩:=x;exact p.lt
 | dK kvs=>obtain⟨_,_,_,_,o,_,_,e,_⟩:=x;exact ao e
 | dT kvs=>obtain⟨_,_,_,_,o,_,_,e,_⟩:=x;exact ao e
 | set S n=>obtain⟨o,_,_,_,e,_⟩:=x;exact ao e
 | ins C dx fs=>obtain⟨_,_,_,e,_⟩:=x;exact ao e
 | own y=>obtain⟨_,e⟩:=x;exact ao e
 | xd fs=>obtain⟨_,⟨_,_,_,e,_⟩,_⟩:=x;exact ao e
 | rng lo hi=>obtain⟨_,_,_,e⟩:=x;exact ao e
 | frz ob u=>obtain⟨e,_⟩:=x;exact ao e
 | tbl ps=>exact ao (show h.get? a=some _ from x)
 | met f y=>exact ao (show h.get? a=some _ from x)
 | ext φ=>obtain⟨_,⟨_,e⟩,_⟩:=x;exact ao e
theorem Paired.mapP {α β:Type}{F G:α->β->Prop}:∀{l₁:List α} {l₂:List β},Paired F l₁ l₂->(∀a b,F a b->G a b)->Paired G l₁ l₂
 | _,_,.nil,_=> .nil
 | _,_,.cons r t,f=> .cons (f _ _ r) (Paired.mapP t f)
theorem Z7.stay (x:Z7 P w H h a o)(k:∀b u,(b=a\/H b=some (.own a))->h.get? b=some u->h'.get? b=some u)
  (ho:∀b,H b=some (.own a)->H' b=some (.own a)) (ht:∀b xs,H b=some (.tup xs)->H' b=some (.tup xs)):Z7 P w H' h' a o:=by
 induction o with
 | lst xs=>obtain⟨z,its,n,r,e⟩:=x;exact⟨z,its,n,r,k _ _ (.inl rfl) e⟩
 | tup xs=>obtain⟨z,its,r,⟨ob,e,c⟩,q⟩:=x;exact⟨z,its,r,⟨ob,k _ _ (.inl rfl) e,c⟩,q.imp id λ⟨o2,e2,d2⟩=>⟨o2,k _ _ (.inl rfl) e2,d2⟩⟩
 | dK kvs=>obtain⟨z,y,vs,r,ob,es,ep,e,c⟩:=x;exact⟨z,y,vs,r,ob,es,ep,k _ _ (.inl rfl) e,c⟩
 | dT kvs=>
  obtain⟨z,y,xs,r,ob,es,ep,e,c⟩:=x;exact⟨z,y,xs,Paired.mapP r λp q z=>⟨z.1,ht _ _ z.2.1,z.2.2⟩,ob,es,ep,k _ _ (.inl rfl) e,c⟩
 | set S n=>obtain⟨ob,es,ep,t,e,c⟩:=x;exact⟨ob,es,ep,t,k _ _ (.inl rfl) e,c⟩
 | ins C dx fs=>
  obtain⟨d,z,ne,e,mA,⟨od,es,ep,e2,c⟩,r⟩:=x;exact⟨ho _ d,z,ne,k _ _ (.inl rfl) e,mA,⟨od,es,ep,k _ _ (.inr d) e2,c⟩,r⟩
 | own y=>obtain⟨ob,e⟩:=x;exact⟨ob,k _ _ (.inl rfl) e⟩
 | xd fs=>obtain⟨mA,⟨od,es,ep,e,c⟩,r⟩:=x;exact⟨mA,⟨od,es,ep,k _ _ (.inl rfl) e,c⟩,r⟩
 | rng lo hi=>obtain⟨t,u,v,e⟩:=x;exact⟨t,u,v,k _ _ (.inl rfl) e⟩
 | frz ob u ih=>obtain⟨e,q⟩:=x;exact⟨k _ _ (.inl rfl) e,ih q⟩
 | tbl ps=>
  have e:h.get? a=some { cls:= .none,data:= .fields ps }:=x;show h'.get? a=some { cls:= .none,data:= .fields ps };exact k a _ (.inl rfl) e
 | met f y=>
  have e:h.get? a=some (fg (.ref f) (.ref y)):=x;show h'.get? a=some (fg (.ref f) (.ref y));exact k a _ (.inl rfl) e
 | ext φ=>obtain⟨p,⟨o,e⟩,st⟩:=x;exact⟨st _ _ p λo q=>k _ _ (.inl rfl) q,⟨o,k _ _ (.inl rfl) e⟩,st⟩
theorem HOk.lt (x:HOk P w H h)(e:H a=some o):a < h.objs.size:=(x a o e).lt
theorem HOk.fresh (x:HOk P w H h)(e:h.objs.size<=a):H a=none:=by
 cases q:H a with
 | none=>rfl
 | some u=>exact absurd (aH (x.lt q) e) (bg _)
theorem HOk.kept (x:HOk P w H h)(k:∀b u,h.get? b=some u->h'.get? b=some u):HOk P w H h' :=λa o e=>
 (x a o e).stay (λb u _ q=>k b u q) (λ_ q=>q) λ_ _ q=>q
theorem HOk.laid (x:HOk P w H h)(k:∀b u,h.get? b=some u->h'.get? b=some u)(hp:h.objs.size<=a)(new:Z7 P w (upd H a o) h' a o):HOk P w (upd H a o) h' :=λb u e=>by
 have hn:=x.fresh hp
 by_cases hb:b=a
 ·subst hb;rw[zv]at e;cases e;exact new
 ·rw[zr hb]at e;exact(x b u e).stay (λc v _ q=>k c v q) (λc q=>by rw[zr (zM q hn)];exact q) λc xs q=>by rw[zr (zM q hn)];exact q
end
def Rd (H:Hp)(a:Addr)(u:HO):Prop:=H a=some u\/∃o,H a=some (.frz o u)
theorem Rd.ok {P:Program}{w:World}{H:Hp}{h:Heap}{a:Addr}{u:HO}(r:Rd H a u)(x:HOk P w H h):Z7 P w H h a u:=by
 rcases r with r | ⟨o,r⟩
 ·exact x a u r
 ·obtain⟨_,q⟩:=x a _ r;exact q
def Mut:Option HO->Prop
 | some (.lst _)=>True
 | some (.dK _)=>True
 | some (.dT _)=>True
 | some (.set _ _)=>True
 | some (.ins _ _ _)=>True
 | some (.ext _)=>True
 | _=>False
section
variable {P:Program}{w:World}{H:Hp}{h h' :Heap}{x e:Addr}{o' :HO}
theorem HOk.write (ok:HOk P w H h)(mu:Mut (H x))(he:e=x\/H e=some (.own x))(k:∀b u,b ≠ e->h.get? b=some u->h'.get? b=some u)(heo:∃u,h'.get? e=some u)
  (new:Z7 P w (upd H x o') h' x o'):HOk P w (upd H x o') h' :=λb u q=>by
 have nown:∀c y,H c=some (.own y)->c ≠ x:=λc y r z=>by subst z;rw[r]at mu;exact mu
 have ntup:∀c xs,H c=some (.tup xs)->c ≠ x:=λc xs r z=>by subst z;rw[r]at mu;exact mu
 by_cases hb:b=x
 ·subst hb;rw[zv]at q;cases q;exact new
 ·rw[zr hb]at q
  by_cases hbe:b=e
  ·have q' :H b=some (.own x):=by
    rcases he with z | z
    ·exact absurd (hbe.trans z) hb
    ·rw[hbe];exact z
   rw[q]at q';cases q';obtain⟨v,hv⟩:=heo;exact⟨v,by rw[hbe];exact hv⟩
  ·refine(ok b u q).stay (λc v hc r=>k c v ?_ r) (λc r=>by rw[zr (nown c b r)];exact r) λc xs r=>by rw[zr (ntup c xs r)];exact r
   rcases hc with rfl | hc
   ·exact hbe
   ·rintro rfl
    rcases he with z | z
    ·exact nown c b hc z
    ·rw[hc]at z;cases z;exact hb rfl
end
structure Un (fs ex:List Addr) (H H' :Hp) (h h' :Heap):Prop where
 keep:∀b o,h.get? b=some o->H b=none->b ∉ fs->b ∉ ex->h'.get? b=some o
 slot:∀b o,h.get? b=some o->H b=none->b∈fs->b ∉ ex->∃sl,h'.get? b=some { o with slots:=sl }
 free:∀b o,h.get? b=some o->H b=none->b ∉ ex->H' b=none
 there:∀b o,h.get? b=some o->b ∉ ex->∃o',h'.get? b=some o'
 tups:∀b xs,H b=some (.tup xs)->H' b=some (.tup xs)
 frzs:∀b o u,H b=some (.frz o u)->H' b=some (.frz o u)
 tbls:∀b ps,H b=some (.tbl ps)->∃more,H' b=some (.tbl (ps++more))
section
variable {fs fs' ex ex' :List Addr}{H H1 H2:Hp}{h h1 h2 h' :Heap}{a x e:Addr}{o:HO}
theorem Un.any (u:Un fs ex H H1 h h1){b:Addr}{ob:Obj}(q:h.get? b=some ob)(n:H b=none)(hx:b ∉ ex):∃sl,h1.get? b=some { ob with slots:=sl }:=by
 by_cases hb:b∈fs
 ·exact u.slot b ob q n hb hx
 ·exact⟨ob.slots,u.keep b ob q n hb hx⟩
theorem Un.kept (k:∀b u,h.get? b=some u->h'.get? b=some u):Un fs ex H H h h' :=
 ⟨λb ob q _ _ _=>k b ob q,λb ob q _ _ _=>⟨ob.slots,k b ob q⟩,λ_ _ _ n _=>n,λb ob q _=>⟨ob,k b ob q⟩,λ_ _ q=>q,λ_ _ _ q=>q,λ_ ps q=>⟨#[],by rw[q];simp⟩⟩
theorem Un.refl:Un fs ex H H h h:=Un.kept λ_ _ q=>q
theorem Un.laid (k:∀b u,h.get? b=some u->h'.get? b=some u)(hp:h.objs.size<=a)(hn:H a=none):Un fs ex H (upd H a o) h h' where
 keep:=λb u q _ _ _=>k b u q
 slot:=λb u q _ _ _=>⟨u.slots,k b u q⟩
 free:=λb u q n _=>by rw[zr (aw (aH (ao q) hp))];exact n
 there:=λb u q _=>⟨u,k b u q⟩
 tups:=λb xs q=>by rw[zr (zM q hn)];exact q
 frzs:=λb u xs q=>by rw[zr (zM q hn)];exact q
 tbls:=λb ps q=>⟨#[],by rw[zr (zM q hn),q];simp⟩
theorem Un.write (mu:Mut (H x))(he:e=x\/H e=some (.own x))(k:∀b u,b ≠ e->h.get? b=some u->h'.get? b=some u)(heo:∃u,h'.get? e=some u):Un fs ex H (upd H x o) h h' :=by
 have hx:∀b,H b=none->b ≠ x:=λb n z=>by subst z;rw[n]at mu;exact mu
 have hb:∀b,H b=none->b ≠ e:=λb n z=>by
  subst z;rcases he with r | r
  ·exact hx b n r
  ·rw[n]at r;cases r
 have hm:∀b u,H b=some u->¬ Mut (some u)->b ≠ x:=λb u q nm z=>by subst z;rw[q]at mu;exact nm mu
 refine⟨λb u q n _ _=>k b u (hb b n) q,λb u q n _ _=>⟨u.slots,k b u (hb b n) q⟩,λb u q n _=>by rw[zr (hx b n)];exact n,λb u q _=> ?_,
  λb xs q=>by rw[zr (hm b _ q λz=>z)];exact q,λb u xs q=>by rw[zr (hm b _ q λz=>z)];exact q,λb ps q=>⟨#[],by rw[zr (hm b _ q λz=>z),q];simp⟩⟩
 by_cases hbe:b=e
 ·subst hbe;exact heo
 ·exact⟨u,k b u hbe q⟩
end
def trk (h:Heap)(H:Hp):List Addr:=(aX h.objs.size).filter λa=>(H a).isSome
def Ql (h:Heap)(H:Hp):Heap:=PySem.W.hideAll h (trk h H)
theorem yt (h:Heap)(H:Hp):(Ql h H).objs.size=h.objs.size:=PySem.W.hideAll_size _ _
theorem Qm {h:Heap}{H:Hp}{b:Addr}{o:Obj}(e:h.get? b=some o)(n:H b=none):(Ql h H).get? b=some o:=
 PySem.W.hideAll_get _ e λhm=>by
  have q:(H b).isSome=true:=(dH.mp hm).2;rw[n]at q;simp at q
theorem VM {h:Heap}{H:Hp}{b:Addr}{o:Obj}(e:(Ql h H).get? b=some o):h.get? b=some o/\H b=none:=by
 have e' :h.get? b=some o:=PySem.W.of_hideAll (trk h H) e;refine⟨e', ?_⟩;cases q:H b with
 | none=>rfl
 | some x=>
  have hm:b∈trk h H:=dH.mpr ⟨bE.mpr (ao e'),by simp[q]⟩
  have z:(Ql h H).get? b=none:=PySem.W.hideAll_none (trk h H) hm;rw[z]at e;cases e
end L2
namespace L2
open PySem PySem.Spec PyProof.Rows
structure Mod (K:al) (mg:Str->Option Value) (base:Heap):Prop where
 kin:K.In base
 glob:base.Ns mainGlobals mg
 blt:∃mb,base.Ns builtinsNs mb/\∀x:Str,x ≠ "__name__"->mb x=bootBuiltins x
 nolimit:base.NoLimit
structure Cx where
 prog:Program
 w:World
 K:al
 mg:Str->Option Value
 base:Heap
 A:Around
 N:List Str
 s₀:Shared
 H₀:Hp
 env:Env
 outer:List Env
 stack:List Env
 ex:List Addr
 fn:Str->Bool
 calm:Bool
 pn:List (Addr×Obj)
 xe:Value->Shared->Prop
def frs (l:List Env):List Addr:=l.filterMap (·.frame)
abbrev Cx.fs (X:Cx):List Addr:=frs X.outer
def Vis (sc:Scope)(x:Str):Prop:=sc.names.lookup x=some .local\/sc.names.lookup x=some .cell\/sc.names.lookup x=some .free
def Loc (sc:Scope)(x:Str):Prop:=sc.names.lookup x=some .local\/sc.names.lookup x=some .cell
def Look (env:Env)(h:Heap)(m:Str->Option Value)(x:Str)(u:Value):Prop:=
 (env.kindOf x=some .local/\m x=some u)\/((env.kindOf x=some .cell\/env.kindOf x=some .free)/\∃c,env.cells.lookup x=some c/\h.IsCell c (some u))
structure Cx.Ok (X:Cx):Prop where
 mod:Mod X.K X.mg X.base
 kind:X.env.scope.kind= .function
 glob:X.env.globals=mainGlobals
 blt:X.env.builtins=builtinsNs
 above:X.s₀.heap.objs.size<=X.env.locals
 inj:∀x y c,X.env.cells.lookup x=some c->X.env.cells.lookup y=some c->x=y
 has:∀x,(X.env.kindOf x=some .cell\/X.env.kindOf x=some .free)->∃c,X.env.cells.lookup x=some c
 cab:∀x c,X.fn x=true->X.env.cells.lookup x=some c->X.s₀.heap.objs.size<=c
 hd:X.calm=true->X.A.handled=none
 frames:X.A.frames=some X.stack
 stk:X.stack=X.outer\/(X.stack=X.env :: X.outer/\X.env.frame=some X.env.locals)
 exf:∀b∈X.ex,b ≠ X.env.locals/\∀x c,X.env.cells.lookup x=some c->c ≠ b
 bs:∀b o,X.base.get? b=some o->X.s₀.heap.get? b=some o/\X.H₀ b=none
 bsz:X.base.objs.size<=X.s₀.heap.objs.size
 noex:∀b o,X.base.get? b=some o->b ∉ X.ex
 exfs:∀b∈X.ex,b ∉ X.fs
 funs:X.s₀.heap.FunFrames X.base X.outer
 frf:∀b∈X.fs,X.H₀ b=none
structure Inv (X:Cx) (pins:List (Addr×Obj)) (σ:List (Option V)) (H:Hp) (s:Shared):Prop where
 ok:X.Ok
 os:s.os=X.s₀.os
 bare:AllBare s.gens
 base:Un X.fs X.ex X.H₀ H X.s₀.heap s.heap
 loc:∃m,s.heap.Ns X.env.locals m/\∀(i:Nat) (x:Str) (v:V),X.N[i]? =some x->σ[i]? =some (some v)->Vis X.env.scope x->∃u,Zf v u/\Look X.env s.heap m x u
 cell:∀x c,X.env.cells.lookup x=some c->∃v,s.heap.IsCell c v
 free:H X.env.locals=none
 freeC:∀x c,X.env.cells.lookup x=some c->H c=none
 pin:∀p∈X.pn++pins,s.heap.get? p.1=some p.2/\H p.1=none/\p.1 ≠ X.env.locals/\p.1 ∉ X.fs/\∀v,p.2.data ≠ .cell v
 hok:HOk X.prog X.w H s.heap
 len:σ.length=X.N.length
section
variable {X:Cx}{pins:List (Addr×Obj)}{σ:List (Option V)}{H H' :Hp}{s:Shared}{h' :Heap}
theorem Cx.Ok.nofr (ok:X.Ok){b:Addr}{o:Obj}(e:X.base.get? b=some o):b ∉ X.fs:=λhb=>by
 have:=(ok.funs.mem hb).1;rw[e]at this;cases this
theorem Inv.bs (I:Inv X pins σ H s):∀b o,X.base.get? b=some o->s.heap.get? b=some o/\H b=none:=λb o e=>
 ⟨I.base.keep b o (I.ok.bs b o e).1 (I.ok.bs b o e).2 (I.ok.nofr e) (I.ok.noex b o e),I.base.free b o (I.ok.bs b o e).1 (I.ok.bs b o e).2 (I.ok.noex b o e)⟩
theorem Inv.bk (I:Inv X pins σ H s):∀b o,X.base.get? b=some o->s.heap.get? b=some o:=λb o e=>(I.bs b o e).1
theorem Inv.mod (I:Inv X pins σ H s):Mod X.K X.mg X.base:=I.ok.mod
theorem Inv.kIn (I:Inv X pins σ H s):X.K.In s.heap:=I.ok.mod.kin.keeps I.bk
theorem Inv.lt (I:Inv X pins σ H s):X.env.locals < s.heap.objs.size:=let ⟨_,hn,_⟩:=I.loc;hn.lt
theorem Inv.sz (I:Inv X pins σ H s):X.s₀.heap.objs.size<=s.heap.objs.size:=ap I.ok.above (eR I.lt)
theorem Inv.nofs (I:Inv X pins σ H s){a:Addr}(h:s.heap.objs.size<=a):a ∉ X.fs:=λhb=>by
 obtain⟨_,o,ho,_⟩:=I.ok.funs.mem hb;exact absurd (aH (ao ho) (ap I.sz h)) (bg _)
theorem Inv.cne (I:Inv X pins σ H s):∀x c,X.env.cells.lookup x=some c->c ≠ X.env.locals:=λx c e z=>by
 obtain⟨v,o,ho,hd⟩:=I.cell x c e;obtain⟨m,⟨o',es,ep,ho',hd',_⟩,_⟩:=I.loc;rw[z,ho']at ho;cases ho;rw[hd']at hd;cases hd
theorem Inv.funs (I:Inv X pins σ H s):s.heap.FunFrames X.base X.outer:=by
 have all:∀(l:List Env),(∀b∈frs l,b∈X.fs)->X.s₀.heap.FunFrames X.base l->s.heap.FunFrames X.base l:=by
  intro l
  induction l with
  | nil=>intro _ _;trivial
  | cons env r ih=>
   intro hs hl;obtain⟨hk,⟨L,o,hf,hn,ho,hd⟩,hr⟩:=hl;have hL:L∈X.fs:=hs L (by unfold frs;rw[eO,hf];exact ae)
   obtain⟨sl,e⟩:=I.base.slot L o ho (I.ok.frf L hL) hL λz=>I.ok.exfs L z hL;exact⟨hk,⟨L,_,hf,hn,e,hd⟩,ih (λb hb=>hs b (by unfold frs;rw[eO,hf];exact ab _ hb)) hr⟩
 exact all X.outer (λ_ hb=>hb) I.ok.funs
theorem Inv.stack (I:Inv X pins σ H s):s.heap.FunFrames X.base X.stack:=by
 rcases I.ok.stk with e | ⟨e,hf⟩
 ·rw[e];exact I.funs
 ·rw[e];obtain⟨m,hn,_⟩:=I.loc;refine .cons (by rw[I.ok.kind];decide) hf hn ?_ I.funs
  exact Heap.get?_none_of_le (ap I.ok.bsz I.ok.above)
theorem Inv.stkSub (I:Inv X pins σ H s):∀b∈frs X.stack,b∈X.env.locals :: X.fs:=λb hb=>by
 rcases I.ok.stk with e | ⟨e,hf⟩
 ·rw[e]at hb;exact ab _ hb
 ·rw[e]at hb;unfold frs at hb;rw[eO,hf]at hb;exact hb
theorem Inv.stkFree (I:Inv X pins σ H s):∀b∈frs X.stack,H b=none:=λb hb=>by
 rcases ak.mp (I.stkSub b hb) with e | hb
 ·rw[e];exact I.free
 ·obtain⟨_,o,ho,_⟩:=I.ok.funs.mem hb;exact I.base.free b o ho (I.ok.frf b hb) λz=>I.ok.exfs b z hb
theorem Inv.step {g' :Array GenState}{t' :Nat}{d' :Drawn}{ch:List Addr}(I:Inv X pins σ H s)
  (hch:∀b∈ch,(b∈X.ex\/X.s₀.heap.objs.size<=b)/\b ≠ X.env.locals/\(∀x c,X.env.cells.lookup x=some c->c ≠ b)/\∀p∈X.pn++pins,p.1 ≠ b)
  (keep:∀b o,b ≠ X.env.locals->b ∉ X.fs->b ∉ ch->s.heap.get? b=some o->H b=none->h'.get? b=some o)
  (slot:∀b o,b ≠ X.env.locals->b∈X.fs->b ∉ ch->s.heap.get? b=some o->H b=none->∃sl,h'.get? b=some { o with slots:=sl }) (free:∀b o,b ∉ ch->s.heap.get? b=some o->H b=none->H' b=none)
  (there:∀b o,b ∉ ch->s.heap.get? b=some o->∃o',h'.get? b=some o')
  (tups:∀b xs,H b=some (.tup xs)->H' b=some (.tup xs)) (frzs:∀b o u,H b=some (.frz o u)->H' b=some (.frz o u)) (tbls:∀b ps,H b=some (.tbl ps)->∃more,H' b=some (.tbl (ps++more)))
  (ns:∀m,s.heap.Ns X.env.locals m->h'.Ns X.env.locals m) (hok:HOk X.prog X.w H' h') (hg:AllBare g'):
  Inv X pins σ H' { s with heap:=h',gens:=g',drawn:=d',toks:=t' }:=by
 have neL:∀b o,X.s₀.heap.get? b=some o->b ≠ X.env.locals:=λb o e=>aw (aH (ao e) I.ok.above);have neC:∀b o,X.s₀.heap.get? b=some o->b ∉ X.ex->b ∉ ch:=λb o e hx hb=>by
  rcases(hch b hb).1 with z | z
  ·exact hx z
  ·exact absurd (aH (ao e) z) (bg _)
 have cellK:∀x c,X.env.cells.lookup x=some c->∀v,s.heap.IsCell c v->h'.IsCell c v:=λx c e v ⟨o,ho,hd⟩=>by
  have nch:c ∉ ch:=λz=>(hch c z).2.2.1 x c e rfl
  by_cases hc:c∈X.fs
  ·obtain⟨sl,q⟩:=slot c o (I.cne x c e) hc nch ho (I.freeC x c e);exact⟨_,q,hd⟩
  ·exact⟨o,keep c o (I.cne x c e) hc nch ho (I.freeC x c e),hd⟩
 refine⟨I.ok,I.os,hg,⟨λb o e n hb hx=> ?_,λb o e n hb hx=> ?_,λb o e n hx=> ?_,λb o e hx=> ?_,λb xs e=>tups b xs (I.base.tups b xs e),λb o xs e=>frzs b o xs (I.base.frzs b o xs e),λb ps e=> ?_⟩, ?_,λx c e=> ?_, ?_,λx c e=> ?_,λp hp=> ?_,hok,I.len⟩
 ·exact keep b o (neL b o e) hb (neC b o e hx) (I.base.keep b o e n hb hx) (I.base.free b o e n hx)
 ·obtain⟨sl,e1⟩:=I.base.slot b o e n hb hx;obtain⟨sl',e2⟩:=slot b _ (neL b o e) hb (neC b o e hx) e1 (I.base.free b o e n hx);exact⟨sl',e2⟩
 ·obtain⟨o',e1⟩:=I.base.there b o e hx;exact free b o' (neC b o e hx) e1 (I.base.free b o e n hx)
 ·obtain⟨o',e1⟩:=I.base.there b o e hx;exact there b o' (neC b o e hx) e1
 ·obtain⟨m1,e1⟩:=I.base.tbls b ps e;obtain⟨m2,e2⟩:=tbls b _ e1;exact⟨m1++m2,by rw[e2,Array.append_assoc]⟩
 ·obtain⟨m,hn,hl⟩:=I.loc;refine⟨m,ns m hn,λi x v e1 e2 e3=> ?_⟩;obtain⟨u,r,l⟩:=hl i x v e1 e2 e3;refine⟨u,r, ?_⟩;rcases l with l | ⟨k,c,e,z⟩
  ·exact .inl l
  ·exact .inr ⟨k,c,e,cellK x c e _ z⟩
 ·obtain⟨v,z⟩:=I.cell x c e;exact⟨v,cellK x c e v z⟩
 ·obtain⟨m,⟨o,_,_,ho,_⟩,_⟩:=I.loc;exact free _ o (λz=>(hch _ z).2.1 rfl) ho I.free
 ·obtain⟨v,o,ho,hd⟩:=I.cell x c e;exact free c o (λz=>(hch c z).2.2.1 x c e rfl) ho (I.freeC x c e)
 ·obtain⟨e,n,ne,nf,d⟩:=I.pin p hp;have nch:p.1 ∉ ch:=λz=>(hch p.1 z).2.2.2 p hp rfl;exact⟨keep p.1 p.2 ne nf nch e n,free p.1 p.2 nch e n,ne,nf,d⟩
theorem Inv.un {t' :Nat}(I:Inv X pins σ H s)(u:Un X.fs [] H H' s.heap h')(hok:HOk X.prog X.w H' h'):Inv X pins σ H' { s with heap:=h',toks:=t' }:=by
 obtain⟨m,⟨o,es,ep,ho,r⟩,_⟩:=id I.loc;obtain⟨sl,hL⟩:=u.any ho I.free (by simp)
 exact I.step (g' :=s.gens) (d' :=s.drawn) (ch:=[]) (λ_ z=>nomatch z) (λb o _ hb _ e n=>u.keep b o e n hb (by simp)) (λb o _ hb _ e n=>u.slot b o e n hb (by simp)) (λb o _ e n=>u.free b o e n (by simp)) (λb o _ e=>u.there b o e (by simp)) u.tups u.frzs u.tbls (λm' hm=>by
  obtain⟨o',es',ep',ho',r'⟩:=hm;rw[ho]at ho';cases ho';exact⟨_,es',ep',hL,r'⟩) hok I.bare
theorem Inv.call {g' :Array GenState}{t' :Nat}{d' :Drawn}{ch:List Addr}(I:Inv X pins σ H s)(u:Un (frs X.stack) ch H H' s.heap h')(hok:HOk X.prog X.w H' h')(hg:AllBare g')
  (hch:∀b∈ch,(b∈X.ex\/X.s₀.heap.objs.size<=b)/\b ≠ X.env.locals/\(∀x c,X.env.cells.lookup x=some c->c ≠ b)/\∀p∈X.pn++pins,p.1 ≠ b):
  Inv X pins σ H' { s with heap:=h',gens:=g',drawn:=d',toks:=t' }:=by
 obtain⟨m,⟨o,es,ep,ho,r⟩,_⟩:=id I.loc;obtain⟨sl,hL⟩:=u.any ho I.free λz=>(hch _ z).2.1 rfl;exact I.step (ch:=ch) hch (λb o hL hb hc e n=>u.keep b o e n (λz=>(ak.mp (I.stkSub b z)).elim hL hb) hc) (λb o _ _ hc e n=>u.any e n hc) (λb o hc e n=>u.free b o e n hc) (λb o hc e=>u.there b o e hc) u.tups u.frzs u.tbls (λm' hm=>by
  obtain⟨o',es',ep',ho',r'⟩:=hm;rw[ho]at ho';cases ho';exact⟨_,es',ep',hL,r'⟩) hok hg
theorem Inv.turned {t' :Nat}{it:Addr}(I:Inv X pins σ H s)(k:∀b o,b ≠ it->s.heap.get? b=some o->h'.get? b=some o)(hn:H it=none)(hL:it ≠ X.env.locals)
  (h1:it∈X.ex\/X.s₀.heap.objs.size<=it) (h2:∀x c,X.env.cells.lookup x=some c->c ≠ it) (h3:∀p∈X.pn++pins,p.1 ≠ it):Inv X pins σ H { s with heap:=h',toks:=t' }:=by
 have nit:∀b u,H b=some u->b ≠ it:=λb u e z=>by rw[z,hn]at e;cases e
 refine I.step (g' :=s.gens) (d' :=s.drawn) (ch:=[it]) (λb hb=> ?_) (λb o _ _ hc e _=>k b o (λz=>hc (by simp[z])) e) (λb o _ _ hc e _=>⟨o.slots,k b o (λz=>hc (by simp[z])) e⟩) (λ_ _ _ _ n=>n)
  (λb o hc e=>⟨o,k b o (λz=>hc (by simp[z])) e⟩) (λ_ _ e=>e) (λ_ _ _ e=>e) (λb ps e=>⟨#[],by rw[e];simp⟩) (λm hm=> ?_) (λb u e=> ?_) I.bare
 ·have e:b=it:=by simpa using hb
  subst e;exact⟨h1,hL,h2,h3⟩
 ·obtain⟨o,es,ep,ho,r⟩:=hm;exact⟨o,es,ep,k _ o (bq hL) ho,r⟩
 ·refine(I.hok b u e).stay (λc v hc q=>k c v ?_ q) (λ_ q=>q) λ_ _ q=>q;rcases hc with z | z
  ·rw[z];exact nit b u e
  ·exact nit c _ z
theorem Inv.tok (I:Inv X pins σ H s)(t:Nat):Inv X pins σ H { s with toks:=t }:=I.un (h' :=s.heap) (t' :=t) Un.refl I.hok
theorem Inv.kept {t' :Nat}(I:Inv X pins σ H s)(k:∀b u,s.heap.get? b=some u->h'.get? b=some u):Inv X pins σ H { s with heap:=h',toks:=t' }:=I.un (Un.kept k) (I.hok.kept k)
theorem Inv.laid {a:Addr}{o:HO}{t' :Nat}(I:Inv X pins σ H s)(k:∀b u,s.heap.get? b=some u->h'.get? b=some u)(hp:s.heap.objs.size<=a)(new:Z7 X.prog X.w (upd H a o) h' a o):
  Inv X pins σ (upd H a o) { s with heap:=h',toks:=t' }:=I.un (Un.laid k hp (I.hok.fresh hp)) (I.hok.laid k hp new)
theorem Inv.write {x e:Addr}{o:HO}{t' :Nat}(I:Inv X pins σ H s)(mu:Mut (H x))(he:e=x\/H e=some (.own x))(k:∀b u,b ≠ e->s.heap.get? b=some u->h'.get? b=some u)(heo:∃u,h'.get? e=some u)
  (new:Z7 X.prog X.w (upd H x o) h' x o):Inv X pins σ (upd H x o) { s with heap:=h',toks:=t' }:=I.un (Un.write mu he k heo) (I.hok.write mu he k heo new)
theorem Inv.pins_of {pins' :List (Addr×Obj)}(I:Inv X pins σ H s)(h:∀p∈pins',s.heap.get? p.1=some p.2/\H p.1=none/\p.1 ≠ X.env.locals/\p.1 ∉ X.fs/\∀v,p.2.data ≠ .cell v):Inv X pins' σ H s:=
 ⟨I.ok,I.os,I.bare,I.base,I.loc,I.cell,I.free,I.freeC,λp hp=>(dh.mp hp).elim (λz=>I.pin p (eG _ z)) (h p),I.hok,I.len⟩
theorem uG {N:List Str}(hN:N.Nodup){i j:Nat}{x:Str}(a:N[i]? =some x)(b:N[j]? =some x):i=j:=by
 obtain⟨h1,e1⟩:=au.mp a;obtain⟨h2,e2⟩:=au.mp b;exact(fB hN).mp (e1.trans e2.symm)
theorem W9 {M:Model}{A:Around}{E:Value->Shared->Prop}{i:Nat}{x:Str}{v:V}{u:Value}{Q:Unit->Shared->Prop}(I:Inv X pins σ H s)(hN:X.N.Nodup)(hi:X.N[i]? =some x)(hx:Loc X.env.scope x)(r:Zf v u)
  (h:∀s',Inv X pins (σ.set i (some v)) H s' ->(∃a,bL a s.heap s'.heap/\(a=X.env.locals\/X.env.cells.lookup x=some a))->Q () s') (hf:X.fn x=true\/X.env.scope.names.lookup x=some .local:=by first | exact .inl rfl | exact .inr rfl | assumption):wpAny M A (storeName X.env x u) Q E s:=by
 obtain⟨m,hn,hl⟩:=id I.loc;have hcls:(X.env.scope.kind == .class || (X.env.scope.kind == .module && X.env.locals != X.env.globals))=false:=by rw[I.ok.kind];rfl
 have hiσ:i < σ.length:=by rw[I.len];exact(au.mp hi).1
 have cne:=I.cne;have tracked:∀{a:Addr} {h' :Heap},(∃o,s.heap.get? a=some o/\H a=none)->bL a s.heap h' ->HOk X.prog X.w H h' :=λ{a h'} ha hs b ob e=>by
  obtain⟨_,_,hfree⟩:=ha;refine(I.hok b ob e).stay (λc w' hc q=>(hs.2 c ?_).trans q) (λ_ q=>q) λ_ _ q=>q
  rintro rfl
  rcases hc with rfl | hc
  ·rw[hfree]at e;cases e
  ·rw[hfree]at hc;cases hc
 rcases hx with hk | hk
 ·refine wpAny_storeName_local hk hn (λh' hn' hs=> ?_) hcls;obtain⟨oL,_,_,hoL,_⟩:=id hn;refine h _ ⟨I.ok,I.os,I.bare,⟨λb o e n hb hx=> ?_,λb o e n hb hx=> ?_,I.base.free,λb o e hx=> ?_,I.base.tups,I.base.frzs,I.base.tbls⟩,⟨_,hn',λj y v' e1 e2 e3=> ?_⟩,λy c e=> ?_,I.free,I.freeC,λp hp=> ?_,tracked ⟨oL,hoL,I.free⟩ hs,by simpa using I.len⟩ ⟨_,hs,.inl rfl⟩
  ·exact(hs.2 b (aw (aH (ao e) I.ok.above))).trans (I.base.keep b o e n hb hx)
  ·obtain⟨sl,e1⟩:=I.base.slot b o e n hb hx;exact⟨sl,(hs.2 b (aw (aH (ao e) I.ok.above))).trans e1⟩
  ·obtain⟨o',e1⟩:=I.base.there b o e hx;exact⟨o',(hs.2 b (aw (aH (ao e) I.ok.above))).trans e1⟩
  ·by_cases hj:j=i
   ·subst hj;rw[hi]at e1;cases e1;rw[bB hiσ]at e2;cases e2;exact⟨u,r,.inl ⟨hk,by simp⟩⟩
   ·rw[aV (bq hj)]at e2;obtain⟨u',r',q⟩:=hl j y v' e1 e2 e3;refine⟨u',r', ?_⟩;rcases q with ⟨k,e⟩ | ⟨k,c,e,z⟩
    ·refine .inl ⟨k, ?_⟩;have:y ≠ x:=λe=>hj (uG hN e1 (e ▸ hi));simp[this,e]
    ·exact .inr ⟨k,c,e,z.sameBut hs (cne y c e)⟩
  ·obtain⟨w',z⟩:=I.cell y c e;exact⟨w',z.sameBut hs (cne y c e)⟩
  ·obtain⟨e,n,ne,nf,d⟩:=I.pin p hp;exact⟨(hs.2 p.1 ne).trans e,n,ne,nf,d⟩
 ·have hfn:X.fn x=true:=by
   rcases hf with z | z
   ·exact z
   ·rw[z]at hk;cases hk
  obtain⟨c,hc⟩:=I.ok.has x (.inl hk);obtain⟨w',z⟩:=I.cell x c hc;refine wpAny_storeName_cell I.ok.kind hk hc z (λh' hc' hs=> ?_);obtain⟨oc,hoc,hocd⟩:=id z;refine h { s with heap:=h' } ⟨I.ok,I.os,I.bare,⟨λb o e n hb hx=> ?_,λb o e n hb hx=> ?_,I.base.free,λb o e hx=> ?_,I.base.tups,I.base.frzs,I.base.tbls⟩,⟨m,hn.sameBut hs (bq (cne x c hc)),λj y v' e1 e2 e3=> ?_⟩,λy c' e=> ?_,I.free,I.freeC,λp hp=> ?_,tracked ⟨oc,hoc,I.freeC x c hc⟩ hs,by simpa using I.len⟩ ⟨c,hs,.inr hc⟩
  ·exact(hs.2 b (aw (aH (ao e) (I.ok.cab x c hfn hc)))).trans (I.base.keep b o e n hb hx)
  ·obtain⟨sl,e1⟩:=I.base.slot b o e n hb hx;exact⟨sl,(hs.2 b (aw (aH (ao e) (I.ok.cab x c hfn hc)))).trans e1⟩
  ·obtain⟨o',e1⟩:=I.base.there b o e hx;exact⟨o',(hs.2 b (aw (aH (ao e) (I.ok.cab x c hfn hc)))).trans e1⟩
  ·by_cases hj:j=i
   ·subst hj;rw[hi]at e1;cases e1;rw[bB hiσ]at e2;cases e2;exact⟨u,r,.inr ⟨.inl hk,c,hc,hc'⟩⟩
   ·rw[aV (bq hj)]at e2;obtain⟨u',r',q⟩:=hl j y v' e1 e2 e3;refine⟨u',r', ?_⟩;rcases q with q | ⟨k,c',e,z'⟩
    ·exact .inl q
    ·refine .inr ⟨k,c',e,z'.sameBut hs ?_⟩
     rintro rfl
     exact hj (uG hN e1 (I.ok.inj _ _ _ e hc ▸ hi))
  ·by_cases hcc:c' =c
   ·subst hcc;exact⟨_,hc'⟩
   ·obtain⟨w2,z2⟩:=I.cell y c' e;exact⟨w2,z2.sameBut hs hcc⟩
  ·obtain⟨e,n,ne,nf,d⟩:=I.pin p hp;refine⟨(hs.2 p.1 ?_).trans e,n,ne,nf,d⟩;intro q;rw[q,hoc]at e;have q' :oc=p.2:=b6 e;exact d w' (by rw[← q'];exact hocd)
theorem J4 {M:Model}{A:Around}{E:Value->Shared->Prop}{i:Nat}{x:Str}{v:V}{u:Value}{Q:Unit->Shared->Prop}(I:Inv X pins σ H s)(hN:X.N.Nodup)(hi:X.N[i]? =some x)(hx:Loc X.env.scope x)(r:Zf v u)
  (h:∀s',Inv X pins (σ.set i (some v)) H s' ->Q () s') (hf:X.fn x=true\/X.env.scope.names.lookup x=some .local:=by first | exact .inl rfl | exact .inr rfl | assumption):wpAny M A (storeName X.env x u) Q E s:=
 W9 I hN hi hx r (λs' I' _=>h s' I') hf
theorem Inv.call' {s' :Shared}{ch:List Addr}(I:Inv X pins σ H s)(ho:s'.os=s.os)(u:Un (frs X.stack) ch H H' s.heap s'.heap)(hok:HOk X.prog X.w H' s'.heap)(hg:AllBare s'.gens)
  (hch:∀b∈ch,(b∈X.ex\/X.s₀.heap.objs.size<=b)/\b ≠ X.env.locals/\(∀x c,X.env.cells.lookup x=some c->c ≠ b)/\∀p∈X.pn++pins,p.1 ≠ b):Inv X pins σ H' s' :=by
 obtain⟨h',g',d',t',o'⟩:=s';have e:o' =s.os:=ho;subst e;exact I.call (g' :=g') (t' :=t') (d' :=d') u hok hg hch
end
abbrev XK:=Value->Option Addr->Hp->Prop
abbrev St:=List (Option V)
abbrev VK:=V->Hp->Prop
abbrev TE:=St->Hp->VK->Prop
abbrev TT:=St->Hp->(Bool->Hp->Prop)->Prop
abbrev TA:=St->Hp->(List V->Hp->Prop)->Prop
structure vM where
 nx:St->Hp->Prop
 rt:VK
 bk:St->Hp->Prop:=λ_ _=>False
 ct:St->Hp->Prop:=λ_ _=>False
abbrev TS:=vM->St->Hp->Prop
def EP (X:Cx)(pins:List (Addr×Obj))(σ:St)(Q:VK)(u:Value)(s' :Shared):Prop:=∃v H',Inv X pins σ H' s' /\Zf v u/\Q v H'
def TP (X:Cx)(pins:List (Addr×Obj))(σ:St)(Q:Bool->Hp->Prop)(b:Bool)(s' :Shared):Prop:=∃H',Inv X pins σ H' s' /\Q b H'
def AP (X:Cx)(pins:List (Addr×Obj))(σ:St)(Q:List V->Hp->Prop)(us:List Value)(s' :Shared):Prop:=∃vs H',Inv X pins σ H' s' /\Z1 vs us/\Q vs H'
def SP (X:Cx)(pins:List (Addr×Obj))(D:vM)(f:Flow)(s' :Shared):Prop:=
 match f with
 | .next=>∃σ' H',Inv X pins σ' H' s' /\D.nx σ' H'
 | .brk=>∃σ' H',Inv X pins σ' H' s' /\D.bk σ' H'
 | .cont=>∃σ' H',Inv X pins σ' H' s' /\D.ct σ' H'
 | .ret u=>∃v σ' H',Inv X pins σ' H' s' /\Zf v u/\D.rt v H'
def PE (X:Cx)(e:Expr)(t:TE):Prop:=
 ∀(pins:List (Addr×Obj)) (s:Shared) (σ:St) (H:Hp) (Q:VK),Inv X pins σ H s->t σ H Q->wpAny (model X.prog X.w) X.A (eval e X.env) (EP X pins σ Q) X.xe s
def PT (X:Cx)(e:Expr)(t:TT):Prop:=
 ∀(pins:List (Addr×Obj)) (s:Shared) (σ:St) (H:Hp) (Q:Bool->Hp->Prop),Inv X pins σ H s->t σ H Q->wpAny (model X.prog X.w) X.A (isTrue e X.env (eval e X.env)) (TP X pins σ Q) X.xe s
def PW (X:Cx)(e:Expr)(t:TT):Prop:=
 ∀(whole:Sem Value) (pins:List (Addr×Obj)) (s:Shared) (σ:St) (H:Hp) (Q:Bool->Hp->Prop),Inv X pins σ H s->t σ H Q->wpAny (model X.prog X.w) X.A (isTrue e X.env whole) (TP X pins σ Q) X.xe s
theorem PW.pt {X:Cx}{e:Expr}{t:TT}(h:PW X e t):PT X e t:=h _
def PA (X:Cx)(es:List Expr)(t:TA):Prop:=
 ∀(pos:Pos) (pins:List (Addr×Obj)) (s:Shared) (σ:St) (H:Hp) (Q:List V->Hp->Prop),Inv X pins σ H s->t σ H Q->wpAny (model X.prog X.w) X.A (spliced (backTo pos (starEach es X.env))) (AP X pins σ Q) X.xe s
def PS (X:Cx)(st:Stmt)(t:TS):Prop:=
 ∀(pins:List (Addr×Obj)) (s:Shared) (σ:St) (H:Hp) (D:vM),Inv X pins σ H s->t D σ H->wpAny (model X.prog X.w) X.A (exec st X.env) (SP X pins D) X.xe s
def PSs (X:Cx)(st:List Stmt)(t:TS):Prop:=
 ∀(pins:List (Addr×Obj)) (s:Shared) (σ:St) (H:Hp) (D:vM),Inv X pins σ H s->t D σ H->wpAny (model X.prog X.w) X.A (execs st X.env) (SP X pins D) X.xe s
theorem thn {α:Type}{t:Sem α}{Q Q' :α->Shared->Prop}{M:Model}{A:Around}{E:Value->Shared->Prop}{s:Shared}(h:wpAny M A t Q E s)(hQ:∀a s,Q a s->Q' a s):wpAny M A t Q' E s:=de h hQ λ_ _ x=>x
end L2
namespace L2
open PySem PySem.Spec PyProof.Rows
section
variable {X:Cx}
theorem bin {a b:Expr}{ta tb:TE}(ha:PE X a ta)(hb:PE X b tb){pins:List (Addr×Obj)}{s:Shared}{σ:St}{H:Hp}{R:V->V->Hp->Prop}(I:Inv X pins σ H s)(h:ta σ H λx H1=>tb σ H1 λy H2=>R x y H2)
  {α:Type} {Q:α->Shared->Prop} {f:Value->Value->Sem α}
  (hf:∀v u s2 x y H2,Inv X pins σ H2 s2->Zf x v->Zf y u->R x y H2->wpAny (model X.prog X.w) X.A (f v u) Q X.xe s2):
  wpAny (model X.prog X.w) X.A (eval a X.env) (λv s₁=>wpAny (model X.prog X.w) X.A (eval b X.env) (λu s₂=>wpAny (model X.prog X.w) X.A (f v u) Q X.xe s₂) X.xe s₁) X.xe s:=by
 refine thn (ha pins s σ H _ I h) λv s1 ⟨x,H1,I1,r1,q1⟩=> ?_;refine thn (hb pins s1 σ H1 _ I1 q1) λu s2 ⟨y,H2,I2,r2,q2⟩=> ?_;exact hf v u s2 x y H2 I2 r1 r2 q2
def Qb (i:Nat):TE:=λσ H Q=>∃v,σ[i]? =some (some v)/\Q v H
def tC (v:V):TE:=λ_ H Q=>Q v H
theorem vN {i:Nat}{x:Str}{pos:Pos}(hN:X.N[i]? =some x)(hv:Vis X.env.scope x)(hd:(x == ("__debug__":Str))=false:=by decide)(hcd:(x == ("__classdict__":Str))=false:=by decide):PE X (.Name x pos) (Qb i):=by
 intro pins s σ H Q I h;obtain⟨v,e,h⟩:=h;obtain⟨m,hn,hl⟩:=I.loc;obtain⟨u,r,l⟩:=hl i x v hN e hv;have fin:EP X pins σ Q u s:=⟨v,H,I,r,h⟩;rcases l with ⟨hk,hm⟩ | ⟨hk,c,hc,hcell⟩
 ·exact wpAny_Name (wpAny_loadName_local I.ok.kind hk hn hm fin) hd
 ·rcases hk with hk | hk
  ·exact wpAny_Name (wpAny_loadName_cell I.ok.kind hk hc hcell fin) hd
  ·exact wpAny_Name (wpAny_loadName_free I.ok.kind hk hc hcell fin hcd) hd
theorem vO {i j pos}:PE X (.Constant (.int i) j pos) (tC (.int i)):=λ_ _ _ H _ I h=>wpAny_Constant_int ⟨.int i,H,I.tok _,⟨_,rfl⟩,h⟩
theorem z0H {b j pos}:PE X (.Constant (.bool b) j pos) (tC (.bl b)):=λ_ _ _ H _ I h=>Constant_bool ⟨.bl b,H,I,rfl,h⟩
theorem ku {j pos}:PE X (.Constant .none j pos) (tC .non):=λ_ _ _ H _ I h=>Constant_none ⟨.non,H,I,rfl,h⟩
theorem vP {x j pos}:PE X (.Constant (.str x) j pos) (tC (.str x)):=λ_ _ _ H _ I h=>Calls.Constant_str ⟨.str x,H,I.tok _,⟨_,rfl⟩,h⟩
def Gl (X:Cx)(x:Str):Prop:=X.env.kindOf x=some .globalImplicit
theorem yu {E:Value->Shared->Prop}{pins:List (Addr×Obj)}{s:Shared}{σ:St}{H:Hp}{x:Str}{u:Value}{pos:Pos}{Q:Value->Shared->Prop}(I:Inv X pins σ H s)(hg:Gl X x)(hm:X.mg x=some u)(h:Q u s)
  (hd:(x == ("__debug__":Str))=false:=by decide):wpAny (model X.prog X.w) X.A (eval (.Name x pos) X.env) Q E s:=
 eU I.ok.kind hg (Calls.loadGlobal_global (by rw[I.ok.glob];exact I.mod.glob.keeps I.bk) hm h) hd
theorem ZS {E:Value->Shared->Prop}{pins:List (Addr×Obj)}{s:Shared}{σ:St}{H:Hp}{x:Str}{u:Value}{pos:Pos}{Q:Value->Shared->Prop}(I:Inv X pins σ H s)(hg:Gl X x)(hm:X.mg x=none)(hv:bootBuiltins x=some u)(h:Q u s)
  (hn:x ≠ "__name__":=by decide) (hd:(x == ("__debug__":Str))=false:=by decide):wpAny (model X.prog X.w) X.A (eval (.Name x pos) X.env) Q E s:=by
 obtain⟨mb,h1,h2⟩:=I.mod.blt;exact eU I.ok.kind hg (Calls.loadGlobal_builtin (by rw[I.ok.glob];exact I.mod.glob.keeps I.bk) hm (by rw[I.ok.blt];exact h1.keeps I.bk) ((h2 x hn).trans hv) h) hd
theorem VN {x:Str}{v:V}{u:Value}{pos:Pos}(hg:Gl X x)(hm:X.mg x=some u)(r:Zf v u)(hd:(x == ("__debug__":Str))=false:=by decide):PE X (.Name x pos) (tC v):=
 λ_ _ _ H _ I h=>yu I hg hm ⟨v,H,I,r,h⟩ hd
theorem VO {x:Str}{v:V}{u:Value}{pos:Pos}(hg:Gl X x)(hm:X.mg x=none)(hv:bootBuiltins x=some u)(r:Zf v u)(hn:x ≠ "__name__":=by decide)(hd:(x == ("__debug__":Str))=false:=by decide):PE X (.Name x pos) (tC v):=
 λ_ _ _ H _ I h=>ZS I hg hm hv ⟨v,H,I,r,h⟩ hn hd
variable {a b:Expr}{ta tb:TE}{pos:Pos}
variable {tA tB' :TT}{rest:List Expr}
def tAnd (t u:TT):TT:=λσ H Q=>t σ H λc H1=>if c=true then u σ H1 Q else Q false H1
def tOr (t u:TT):TT:=λσ H Q=>t σ H λc H1=>if c=true then Q true H1 else u σ H1 Q
def tNot (t:TT):TT:=λσ H Q=>t σ H λc H1=>Q (!c) H1
theorem VP (ha:PT X a tA):PW X (.BoolOp .And [a] pos) tA:=by
 intro wh pins s σ H Q I h;refine isTrue_and (thn (ha pins s σ H Q I h) λc s1 e=> ?_);cases c with
 | true=>exact isTrue_and_nil e
 | false=>exact e
theorem kv (ha:PT X a tA):PW X (.BoolOp .Or [a] pos) tA:=by
 intro wh pins s σ H Q I h;refine isTrue_or (thn (ha pins s σ H Q I h) λc s1 e=> ?_);cases c with
 | false=>exact isTrue_or_nil e
 | true=>exact e
theorem kx (ha:PT X a tA)(hb:PW X (.BoolOp .And (b :: rest) pos) tB'):PW X (.BoolOp .And (a :: b :: rest) pos) (tAnd tA tB'):=by
 intro wh pins s σ H Q I h;refine isTrue_and (thn (ha pins s σ H _ I h) λc s1 ⟨H1,I1,q1⟩=> ?_);cases c with
 | true=>exact hb wh pins s1 σ H1 Q I1 q1
 | false=>exact⟨H1,I1,q1⟩
theorem z0I (ha:PT X a tA)(hb:PW X (.BoolOp .Or (b :: rest) pos) tB'):PW X (.BoolOp .Or (a :: b :: rest) pos) (tOr tA tB'):=by
 intro wh pins s σ H Q I h;refine isTrue_or (thn (ha pins s σ H _ I h) λc s1 ⟨H1,I1,q1⟩=> ?_);cases c with
 | true=>exact⟨H1,I1,q1⟩
 | false=>exact hb wh pins s1 σ H1 Q I1 q1
theorem ky (ha:PT X a tA):PT X (.UnaryOp .Not a pos) (tNot tA):=by
 intro pins s σ H Q I h;exact isTrue_not (ha pins s σ H (λc H1=>Q (!c) H1) I h)
def z0J (ta tb:TE):TE:=λσ H Q=>ta σ H λx H1=>∃c,x= .bl c/\if c=true then tb σ H1 Q else Q (.bl false) H1
def z0K (ta:TE):TE:=λσ H Q=>ta σ H λx H1=>∃c,x= .bl c/\Q (.bl (!c)) H1
theorem kz {op}{t:TE}(h:PE X a t):PE X (.BoolOp op [a] pos) t:=λpins s σ H Q I hw=>BoolOp_one (h pins s σ H Q I hw)
theorem kA (ha:PE X a ta)(hb:PE X (.BoolOp .And (b :: rest) pos) tb):PE X (.BoolOp .And (a :: b :: rest) pos) (z0J ta tb):=by
 intro pins s σ H Q I h;refine BoolOp_and (thn (ha pins s σ H _ I h) λv s1 ⟨x,H1,I1,r1,q1⟩=> ?_);obtain⟨c,rfl,q1⟩:=q1;cases r1;refine br ?_;cases c with
 | true=>exact hb pins s1 σ H1 Q I1 q1
 | false=>exact⟨.bl false,H1,I1,rfl,q1⟩
theorem kB (ha:PE X a ta):PE X (.UnaryOp .Not a pos) (z0K ta):=by
 intro pins s σ H Q I h;refine UnaryOp_ (thn (ha pins s σ H _ I h) λv s1 ⟨x,H1,I1,r1,q1⟩=> ?_);obtain⟨c,rfl,q1⟩:=q1;cases r1;exact not_of (br ⟨.bl (!c),H1,I1,rfl,q1⟩)
def tIf (t:TT)(ta tb:TE):TE:=λσ H Q=>t σ H λc H1=>if c=true then ta σ H1 Q else tb σ H1 Q
theorem Qn {c:Expr}(hc:PT X c tA)(ha:PE X a ta)(hb:PE X b tb):PE X (.IfExp c a b pos) (tIf tA ta tb):=by
 intro pins s σ H Q I h;refine wpAny_IfExp (thn (hc pins s σ H _ I h) λd s1 ⟨H1,I1,q1⟩=> ?_);cases d with
 | true=>exact ha pins s1 σ H1 Q I1 q1
 | false=>exact hb pins s1 σ H1 Q I1 q1
end
end L2
namespace L2
open PySem PySem.Spec PyProof.Rows
def SqL (K:al)(H:Hp)(a:Addr)(xs:List V):Prop:=
 Rd H a (.lst xs)\/
  ∃(o:Obj) (its:Array Value) (n:Nat),K.lookup a=some o/\o.cls= .type "list"/\o.dict=none/\o.data= .seq its n/\its.size<=sizeLine/\Z1 xs its.toList
def SqT (K:al)(H:Hp)(a:Addr)(xs:List V):Prop:=
 Rd H a (.tup xs)\/
  ∃(o:Obj) (its:Array Value) (n:Nat),K.lookup a=some o/\o.cls= .type "tuple"/\o.data= .seq its n/\its.size<=sizeLine/\Z1 xs its.toList
def absV:Value->Option V
 | .none=>some .non
 | .bool b=>some (.bl b)
 | .int i _=>some (.int i)
 | .str x _=>some (.str x)
 | .bytes b _=>some (.byt b)
 | .float b _=>some (.flt b)
 | .ref a=>some (.ref a)
 | .type n=>some (.ty n)
 | _=>none
theorem Zf.abs {x:V}{u:Value}(r:Zf x u):absV u=some x:=by
 cases x with
 | non=>cases r;rfl
 | bl _=>cases r;rfl
 | int _=>obtain⟨t,rfl⟩:=r;rfl
 | str _=>obtain⟨t,rfl⟩:=r;rfl
 | byt _=>obtain⟨t,rfl⟩:=r;rfl
 | flt _=>obtain⟨t,rfl⟩:=r;rfl
 | ref _=>cases r;rfl
 | ty _=>cases r;rfl
theorem Zf.inj {x y:V}{u:Value}(r:Zf x u)(q:Zf y u):x=y:=b6 (r.abs.symm.trans q.abs)
theorem Z1.inj:∀{xs ys:List V} {us:List Value},Z1 xs us->Z1 ys us->xs=ys
 | _,_,_,.nil,.nil=>rfl
 | _,_,_,.cons r t,.cons r' t' =>by rw[r.inj r',Z1.inj t t']
section
variable {X:Cx}{pins:List (Addr×Obj)}{σ:St}{H:Hp}{s:Shared}{a:Addr}{xs ys:List V}
theorem SqL.of {K:al}(h:H a=some (.lst xs)):SqL K H a xs:= .inl (.inl h)
theorem SqT.of {K:al}(h:H a=some (.tup xs)):SqT K H a xs:= .inl (.inl h)
theorem Inv.list (I:Inv X pins σ H s)(h:SqL X.K H a xs):∃its:List Value,Z1 xs its/\PlainL s.heap a its.toArray/\xs.length<=sizeLine:=by
 rcases h with h | ⟨o,its,n,hk,hc,hd,hs,hz,r⟩
 ·obtain⟨z,its,n,r,e⟩:=h.ok I.hok;exact⟨its,r,⟨_,n,e,rfl,rfl,rfl⟩,z⟩
 ·refine⟨its.toList,r,⟨o,n,I.kIn a o hk,hc,hd,by simpa using hs⟩, ?_⟩
  have e:=r.length;simp only[aT]at e;omega
theorem Inv.tuple (I:Inv X pins σ H s)(h:SqT X.K H a xs):∃its:List Value,Z1 xs its/\IsTup s.heap a its.toArray/\xs.length<=sizeLine:=by
 rcases h with h | ⟨o,its,n,hk,hc,hs,hz,r⟩
 ·obtain⟨z,its,r,p,_⟩:=h.ok I.hok;exact⟨its,r,p,z⟩
 ·refine⟨its.toList,r,⟨o,I.kIn a o hk,hc,n,by simpa using hs⟩, ?_⟩
  have e:=r.length;simp only[aT]at e;omega
theorem Inv.list_inj (I:Inv X pins σ H s)(h:SqL X.K H a xs)(h' :SqL X.K H a ys):xs=ys:=by
 obtain⟨its,r,⟨o,n,e,_,_,d⟩,_⟩:=I.list h;obtain⟨its',r',⟨o',n',e',_,_,d'⟩,_⟩:=I.list h';rw[e]at e';cases e';rw[d]at d';injection d' with d1 _;have:its=its' :=by simpa using congrArg Array.toList d1
 subst this;exact r.inj r'
theorem Inv.tuple_inj (I:Inv X pins σ H s)(h:SqT X.K H a xs)(h' :SqT X.K H a ys):xs=ys:=by
 obtain⟨its,r,⟨o,e,_,n,d⟩,_⟩:=I.tuple h;obtain⟨its',r',⟨o',e',_,n',d'⟩,_⟩:=I.tuple h';rw[e]at e';cases e';rw[d]at d';injection d' with d1 _;have:its=its' :=by simpa using congrArg Array.toList d1
 subst this;exact r.inj r'
end
abbrev Cx.wish (X:Cx)(E:Value->Shared->Prop):Cx:={ X with xe:=E }
abbrev Cx.nox (X:Cx):Cx:=X.wish λ_ _=>False
theorem Cx.Ok.wish {X:Cx}(ok:X.Ok)(E:Value->Shared->Prop):(X.wish E).Ok:=
 ⟨ok.mod,ok.kind,ok.glob,ok.blt,ok.above,ok.inj,ok.has,ok.cab,ok.hd,ok.frames,ok.stk,ok.exf,ok.bs,ok.bsz,ok.noex,ok.exfs,ok.funs,ok.frf⟩
theorem Cx.Ok.unwish {X:Cx}{E:Value->Shared->Prop}(ok:(X.wish E).Ok):X.Ok:=
 ⟨ok.mod,ok.kind,ok.glob,ok.blt,ok.above,ok.inj,ok.has,ok.cab,ok.hd,ok.frames,ok.stk,ok.exf,ok.bs,ok.bsz,ok.noex,ok.exfs,ok.funs,ok.frf⟩
section
variable {X:Cx}{pins:List (Addr×Obj)}{σ:St}{H:Hp}{s:Shared}{E:Value->Shared->Prop}
theorem Inv.wish (I:Inv X pins σ H s)(E:Value->Shared->Prop):Inv (X.wish E) pins σ H s:=⟨I.ok.wish E,I.os,I.bare,I.base,I.loc,I.cell,I.free,I.freeC,I.pin,I.hok,I.len⟩
theorem Inv.unwish (I:Inv (X.wish E) pins σ H s):Inv X pins σ H s:=⟨I.ok.unwish,I.os,I.bare,I.base,I.loc,I.cell,I.free,I.freeC,I.pin,I.hok,I.len⟩
theorem SP.unwish {D:vM}{f:Flow}{s' :Shared}(h:SP (X.wish E) pins D f s'):SP X pins D f s' :=by
 cases f with
 | next=>obtain⟨σ',H',I,q⟩:=h;exact⟨σ',H',I.unwish,q⟩
 | brk=>obtain⟨σ',H',I,q⟩:=h;exact⟨σ',H',I.unwish,q⟩
 | cont=>obtain⟨σ',H',I,q⟩:=h;exact⟨σ',H',I.unwish,q⟩
 | ret u=>obtain⟨v,σ',H',I,r,q⟩:=h;exact⟨v,σ',H',I.unwish,r,q⟩
theorem PSs.nox {st:List Stmt}{t:TS}(h:PSs X.nox st t):PSs X st t:=λpins s σ H D I hw=>
 de (h pins s σ H D (I.wish _) hw) (λ_ _ q=>q.unwish) λ_ _ z=>cQ z
end
section
variable {X:Cx}{st:Stmt}{rest:List Stmt}{t u:TS}{e:Expr}{te:TE}{pos:Pos}
def z0L:TS:=λD σ H=>D.nx σ H
def tSeq (t u:TS):TS:=λD σ H=>t { D with nx:=u D } σ H
theorem VQ:PSs X [] z0L:=λ_ _ σ H _ I h=>wpAny_execs_nil ⟨σ,H,I,h⟩
theorem uH (h1:PS X st t)(h2:PSs X rest u):PSs X (st :: rest) (tSeq t u):=by
 intro pins s σ H D I h;refine wpAny_execs_cons (thn (h1 pins s σ H { D with nx:=u D } I h) λf s1 q=> ?_);cases f with
 | next=>
  obtain⟨σ',H',I',q⟩:=q;exact h2 pins s1 σ' H' D I' q
 | ret v=>exact q
 | brk=>exact q
 | cont=>exact q
theorem yv (h1:PS X st t):PSs X [st] t:=by
 intro pins s σ H D I h;refine wpAny_execs_cons (thn (h1 pins s σ H D I h) λf s1 q=> ?_);cases f with
 | next=>exact wpAny_execs_nil q
 | ret v=>exact q
 | brk=>exact q
 | cont=>exact q
theorem Inv.quiet {pins:List (Addr×Obj)}{σ:St}{H:Hp}{s:Shared}(I:Inv X pins σ H s):interactive X.env=false:=by simp[interactive,I.ok.kind]
def z0M (te:TE):TS:=λD σ H=>te σ H λ_ H1=>D.nx σ H1
theorem u5 (he:PE X e te)(hs:swapsWith e none pos.line X.env=pure false:=by rfl):PS X (.Expr e pos) (z0M te):=by
 intro pins s σ H D I h;exact wpAny_Expr_any (thn (he pins s σ H _ I h) λv s1 ⟨x,H1,I1,r1,q1⟩=>⟨σ,H1,I1,q1⟩) I.quiet hs
def tRet (te:TE):TS:=λD σ H=>te σ H D.rt
theorem vQ (he:PE X e te):PS X (.Return (some e) pos) (tRet te):=by
 intro pins s σ H D I h;exact wpAny_Return_some (thn (he pins s σ H _ I h) λv s1 ⟨x,H1,I1,r1,q1⟩=>⟨x,σ,H1,I1,r1,q1⟩)
def tIfS (c:TT)(t u:TS):TS:=λD σ H=>c σ H λb H1=>if b=true then t D σ H1 else u D σ H1
theorem z0N {c:Expr}{a b:List Stmt}{tc:TT}(hc:PT X c tc)(ha:PSs X a t)(hb:PSs X b u):PS X (.If c a b pos) (tIfS tc t u):=by
 intro pins s σ H D I h;refine wpAny_If (thn (hc pins s σ H _ I h) λd s1 ⟨H1,I1,q1⟩=> ?_);cases d with
 | true=>exact ha pins s1 σ H1 D I1 q1
 | false=>exact hb pins s1 σ H1 D I1 q1
end
abbrev TG:=V->St->Hp->(St->Hp->Prop)->Prop
abbrev TGs:=List V->St->Hp->(St->Hp->Prop)->Prop
def PG (X:Cx)(target:Expr)(t:TG):Prop:=
 ∀(pins:List (Addr×Obj)) (s:Shared) (σ:St) (H:Hp) (v:V) (u:Value) (Q:St->Hp->Prop),Inv X pins σ H s->Zf v u->t v σ H Q->
  wpAny (model X.prog X.w) X.A (assign target X.env u) (λ_ s' =>∃σ' H',Inv X pins σ' H' s' /\Q σ' H') X.xe s
def PGs (X:Cx)(ts:List Expr)(t:TGs):Prop:=
 ∀(pins:List (Addr×Obj)) (s:Shared) (σ:St) (H:Hp) (vs:List V) (us:List Value) (Q:St->Hp->Prop),Inv X pins σ H s->Z1 vs us->t vs σ H Q->
  wpAny (model X.prog X.w) X.A (assignInOrder ((assignEach ts X.env).map (·.2)) us) (λ_ s' =>∃σ' H',Inv X pins σ' H' s' /\Q σ' H') X.xe s
section
variable {X:Cx}{pos:Pos}
def Wa (i:Nat):TG:=λv σ H Q=>Q (σ.set i (some v)) H
theorem zm {i:Nat}{x:Str}(hN:X.N.Nodup)(hi:X.N[i]? =some x)(hx:Loc X.env.scope x)(hf:X.fn x=true\/X.env.scope.names.lookup x=some .local:=by first | exact .inl rfl | exact .inr rfl | assumption):PG X (.Name x pos) (Wa i):=by
 intro pins s σ H v u Q I r h;exact wpAny_assign_Name (J4 I hN hi hx r (λs' I' =>⟨_,H,I',h⟩) hf)
def z0O:TGs:=λvs σ H Q=>vs=[]/\Q σ H
def yw (t:TG)(u:TGs):TGs:=λvs σ H Q=>∃v r,vs=v :: r/\t v σ H λσ' H' =>u r σ' H' Q
theorem jo:PGs X [] z0O:=by
 intro pins s σ H vs us Q I r h;obtain⟨e,h⟩:=h;subst e;cases r;exact assignInOrder_nil ⟨σ,H,I,h⟩
theorem Z2 {e:Expr}{es:List Expr}{t:TG}{u:TGs}(h1:PG X e t)(h2:PGs X es u)
  (hs:(assignEach (e :: es) X.env).map (·.2)=assign e X.env :: (assignEach es X.env).map (·.2):=by rfl):PGs X (e :: es) (yw t u):=by
 intro pins s σ H vs us Q I r h;obtain⟨v,vr,e1,h⟩:=h;subst e1;cases r with
 | cons r rr=>
  rw[hs];refine assignInOrder_cons (thn (h1 pins s σ H _ _ _ I r h) λ_ s1 ⟨σ1,H1,I1,q1⟩=> ?_);exact h2 pins s1 σ1 H1 _ _ Q I1 rr q1
def z0P (K:al)(n:Nat)(t:TGs):TG:=λv σ H Q=>∃a xs,v= .ref a/\SqT K H a xs/\xs.length=n/\t xs σ H Q
theorem Jp {es:List Expr}{k:Nat}{t:TGs}{n:Nat}(hc:X.calm=true)(h:PGs X es t)
  (hn:(assignEach es X.env).length=n:=by rfl) (hst:(assignEach es X.env).findIdx? (·.1)=none:=by rfl):PG X (.Tuple es k pos) (z0P X.K n t):=by
 intro pins s σ H v u Q I r hw;obtain⟨a,xs,e1,hq,hl,hw⟩:=hw;subst e1;cases r;obtain⟨its,rv,ht,hz⟩:=I.tuple hq;refine assign_Tuple_tuple (I.ok.hd hc) ht (by simp[hn,← hl,rv.length]) hst λh' hx=> ?_
 have I1:Inv X pins σ H { s with heap:=h' }:=I.kept (t' :=s.toks) λb o e=>hx b o (aw (ao e)) e;exact h pins _ σ H xs _ Q I1 (by simpa using rv) hw
def tAsg (te:TE)(g:TG):TS:=λD σ H=>te σ H λx H1=>g x σ H1 D.nx
theorem kC {tg e:Expr}{te:TE}{g:TG}(he:PE X e te)(hg:PG X tg g)(hs:swapsWithSole [tg] e pos.line X.env=pure false:=by rfl)(hw:swappedStores [tg] e X.env=pure none:=by rfl)
  (h1:(assignEach [tg] X.env).map (·.2)=[assign tg X.env]:=by rfl):PS X (.Assign [tg] e pos) (tAsg te g):=by
 intro pins s σ H D I h;refine wpAny_Assign_stores (thn (he pins s σ H _ I h) λv s1 ⟨x,H1,I1,r1,q1⟩=> ?_) hs hw;rw[h1];exact thn (hg pins s1 σ H1 x v _ I1 r1 q1) λ_ s2 q=>q
theorem uI {i:Nat}{x:Str}{e:Expr}{te:TE}{pos' :Pos}(hN:X.N.Nodup)(hi:X.N[i]? =some x)(hx:Loc X.env.scope x)(he:PE X e te)(hs:swapsWith e (some (.Name x pos')) pos.line X.env=pure false:=by rfl)(hf:X.fn x=true\/X.env.scope.names.lookup x=some .local:=by first | exact .inl rfl | exact .inr rfl | assumption):
  PS X (.Assign [.Name x pos'] e pos) (tAsg te (Wa i)):=by
 intro pins s σ H D I h;refine wpAny_Assign_Name (thn (he pins s σ H _ I h) λv s1 ⟨y,H1,I1,r1,q1⟩=> ?_) hs;exact J4 I1 hN hi hx r1 (λs2 I2=>⟨_,H1,I2,q1⟩) hf
def tPar (i j:Nat)(ta:TA):TS:=λD σ H=>ta σ H λvs H1=>∃v w,vs=[v,w]/\D.nx ((σ.set i (some v)).set j (some w)) H1
theorem kD {i j:Nat}{x y:Str}{a b:Expr}{ta:TA}{px py pt:Pos}{kt k2 pt2}(hc:X.calm=true)(hN:X.N.Nodup)(hi:X.N[i]? =some x)(hj:X.N[j]? =some y)(hij:i ≠ j)
  (hx:X.env.scope.names.lookup x=some .local) (hy:X.env.scope.names.lookup y=some .local) (ha:PA X [a,b] ta)
  (hw:swappedStores [.Tuple [.Name x px,.Name y py] kt pt] (.Tuple [a,b] k2 pt2) X.env=pure (some [x,y]))
  (hs:swapsWithSole [.Tuple [.Name x px,.Name y py] kt pt] (.Tuple [a,b] k2 pt2) pos.line X.env=pure false:=by rfl):
  PS X (.Assign [.Tuple [.Name x px,.Name y py] kt pt] (.Tuple [a,b] k2 pt2) pos) (tPar i j ta):=by
 intro pins s σ H D I h;rw[exec_Assign_arm];refine aa (wpAny_standAt ?_);rw[hs];refine aa (ai ?_);rw[if_neg (by decide)]
 refine aa (Tuple_ (thn (ha _ pins s σ H _ I h) λus s1 ⟨vs,H1,I1,r1,q1⟩=> ?_));obtain⟨v,w,e1,q1⟩:=q1;subst e1;obtain⟨u1,u2,rfl,rv,rw'⟩:∃u1 u2,us=[u1,u2]/\Zf v u1/\Zf w u2:=by
  cases r1 with
  | cons p q=>
   cases q with
   | cons p' q' =>
    cases q';exact⟨_,_,rfl,p,p'⟩
 refine aJ ?_ (by show 2<=sizeLine;decide)
 have I2:Inv X pins σ H1 { s1 with heap:=s1.heap.push { cls:= .type "tuple",data:= .seq [u1,u2].toArray } }:=I1.kept (t' :=s1.toks) λb o e=>ad _ e;rw[hw];refine aa (ai ?_);show wpAny (model X.prog X.w) X.A (do rule "assign.swapped-stores";let items ← unpackItems (.ref s1.heap.objs.size) 2 none;assignInOrder [λv=>bindName X.env y v,λv=>bindName X.env x v] items.reverse;pure Flow.next) _ _ _
 refine aa (cF (aa (unpackItems_tuple (items:= #[u1,u2]) (I.ok.hd hc) (IsTup.new s1.heap _) λh' hx' => ?_)));have I3:=I2.kept (h' :=h') (t' :=s1.toks) λb o e=>hx' b o (aw (ao e)) e;show wpAny _ _ (assignInOrder [λv=>bindName X.env y v,λv=>bindName X.env x v] [u2,u1] >>= λ_=>pure Flow.next) _ _ _;refine aa (assignInOrder_cons (wpAny_bindName (J4 I3 hN hj (.inl hy) rw' (λs2 I4=> ?_) (.inr hy))));refine assignInOrder_cons (wpAny_bindName (J4 I4 hN hi (.inl hx) rv (λs3 I5=>assignInOrder_nil (ai ?_)) (.inr hx)));rw[List.set_comm _ _ (bq hij)]at I5;exact⟨_,H1,I5,q1⟩
end
section
variable {X:Cx}{pos:Pos}
def kE (c:TT)(tb:TS):TS:=λD σ H=>∃W:Nat->St->Hp->Prop,(∃m,W m σ H)/\∀m σ H,W m σ H->
 c σ H λb H1=>if b=true then ∃N:St->Hp->Prop,(∀σ' H',N σ' H' ->∃m',m' < m/\W m' σ' H')/\tb { D with nx:=N,ct:=N,bk:=D.nx } σ H1 else D.nx σ H1
theorem Qo {c:Expr}{body:List Stmt}{tc:TT}{tb:TS}(hp:PassesOwn (model X.prog X.w) X.A X.env X.xe)(hc:PT X c tc)(hb:PSs X body tb):PS X (.While c body [] pos) (kE tc tb):=by
 intro pins s σ H D I h;obtain⟨W,⟨m0,w0⟩,turn⟩:=h;refine wpAny_While (codeAny_whileLoop (λn s' =>∃σ' H',Inv X pins σ' H' s' /\W n σ' H') ?_ m0 ⟨σ,H,I,w0⟩)
 rintro n s1 ⟨σ1,H1,I1,w1⟩
 refine cH hp (thn (hc pins s1 σ1 H1 _ I1 (turn n σ1 H1 w1)) λb s2 ⟨H2,I2,q2⟩=> ?_);cases b with
 | true=>
  obtain⟨N,hN,q2⟩:=q2;rw[if_pos rfl];refine cH hp (thn (hb pins s2 σ1 H2 _ I2 q2) λf s3 q3=> ?_);cases f with
  | next=>
   obtain⟨σ3,H3,I3,n3⟩:=q3;obtain⟨m',hm,w3⟩:=hN σ3 H3 n3;exact⟨m',hm,σ3,H3,I3,w3⟩
  | cont=>
   obtain⟨σ3,H3,I3,n3⟩:=q3;obtain⟨m',hm,w3⟩:=hN σ3 H3 n3;exact⟨m',hm,σ3,H3,I3,w3⟩
  | brk=>exact q3
  | ret v=>exact q3
 | false=>
  rw[if_neg ay];exact wpAny_execs_nil ⟨σ1,H2,I2,q2⟩
end
structure It where
 go:Nat->Hp->Prop
 yld:Nat->Hp->V->Hp->Prop
 stop:Nat->Hp->Prop
def WY (X:Cx)(pins:List (Addr×Obj))(H:Hp)(b:Addr):Prop:=
 H b=none/\b ≠ X.env.locals/\b ∉ X.fs/\(b∈X.ex\/X.s₀.heap.objs.size<=b)/\(∀x c,X.env.cells.lookup x=some c->c ≠ b)/\∀p∈X.pn++pins,p.1 ≠ b
theorem Inv.fpOk {X:Cx}{pins:List (Addr×Obj)}{σ:St}{H H' :Hp}{s:Shared}{b:Addr}(I:Inv X pins σ H s)(hb:s.heap.objs.size<=b)(hn:H' b=none):WY X pins H' b:=by
 refine⟨hn,cL (aH I.lt hb),I.nofs hb,.inr (ap I.sz hb),λx c e z=> ?_,λp hp z=> ?_⟩
 ·obtain⟨v,q⟩:=I.cell x c e;exact absurd (aH q.lt (by rw[z];exact hb)) (bg _)
 ·exact absurd (aH (ao (I.pin p hp).1) (by rw[z];exact hb)) (bg _)
structure yx (P:Program) (w:World) (K:al) (tg:Expr) (J:It) (fp:List Addr) (it:Addr) (tn:Nat->Heap->Prop):Prop where
 mem:it∈fp
 obj:∀i h,tn i h->∀b∈fp,∃o,h.get? b=some o/\∀v,o.data ≠ .cell v
 keep:∀i h h',tn i h->(∀b∈fp,∀o,h.get? b=some o->h'.get? b=some o)->tn i h'
 item:∀(X:Cx),X.prog=P->X.w=w->X.K=K->X.calm=true->∀(i:Nat) (pins:List (Addr×Obj)) (s:Shared) (σ:St) (H:Hp) (E:Value->Shared->Prop),Inv X pins σ H s->(∀b∈fp,WY X pins H b)->tn i s.heap->J.go i H->
  wpAny (model P w) X.A (pyNext (.ref it)) (λr s1=>∃u,r=some u/\
   wpAny (model P w) X.A (letOwnedTupleGo tg (.ref it) u) (λ_ s2=>∃x H',Inv X pins σ H' s2/\Zf x u/\J.yld i H x H' /\tn (i+1) s2.heap/\∀b∈fp,H' b=none) E s1) E s
 done:∀(X:Cx),X.prog=P->X.w=w->X.K=K->X.calm=true->∀(i:Nat) (pins:List (Addr×Obj)) (s:Shared) (σ:St) (H:Hp) (E:Value->Shared->Prop),Inv X pins σ H s->(∀b∈fp,WY X pins H b)->tn i s.heap->J.stop i H->
  wpAny (model P w) X.A (pyNext (.ref it)) (λr s1=>r=none/\Inv X pins σ H s1) E s
 self:∀(A:Around) (i:Nat) (s:Shared) (Q:Value->Shared->Prop) (E:Value->Shared->Prop),tn i s.heap->Q (.ref it) s->wpAny (model P w) A (pyIter (.ref it)) Q E s
abbrev TI:=St->Hp->(It->Hp->Prop)->Prop
def PIE (X:Cx)(pins:List (Addr×Obj))(σ:St)(tg:Expr)(R:It->Hp->Prop)(itv:Value)(s2:Shared):Prop:=
 ∃(it:Addr) (fp:List Addr) (tn:Nat->Heap->Prop) (J:It) (H' :Hp),itv= .ref it/\Inv X pins σ H' s2/\yx X.prog X.w X.K tg J fp it tn/\tn 0 s2.heap/\(∀b∈fp,WY X pins H' b)/\R J H'
def PI (X:Cx)(tg iter:Expr)(wi:TI):Prop:=
 ∀(pins:List (Addr×Obj)) (s:Shared) (σ:St) (H:Hp) (R:It->Hp->Prop),Inv X pins σ H s->wi σ H R->
  wpAny (model X.prog X.w) X.A (eval iter X.env) (λv s1=>wpAny (model X.prog X.w) X.A (pyIter v) (PIE X pins σ tg R) X.xe s1) X.xe s
theorem UD {M:Model}{A:Around}{E:Value->Shared->Prop}{s:Shared}{tg:Expr}{it:Addr}{u:Value}{o:Obj}{n:String}{vs:Array Value}{Q:Unit->Shared->Prop}(ho:s.heap.get? it=some o)(hc:o.cls= .type n)(hd:o.data= .fields vs)
  (hn:["enumerate","zip","dict_itemiterator","dict_reverseitemiterator","odict_iterator","itertools.zip_longest","itertools.pairwise"].contains n=false) (hQ:Q () s):wpAny M A (letOwnedTupleGo tg (.ref it) u) Q E s:=by
 unfold letOwnedTupleGo;cases tg <;> first
  | exact ai hQ
  | (cases u <;> first
    | exact ai hQ
    | (refine aa (wpAny_load ho ?_);rw[hc,hd];show wpAny M A (if (["enumerate","zip","dict_itemiterator","dict_reverseitemiterator","odict_iterator","itertools.zip_longest","itertools.pairwise"].contains n && vs[0]? == some (rawInt _))=true then _ else _) Q E s;rw[if_neg (by intro h;rw[hn,Bool.false_and]at h;cases h)];exact ai hQ))
def Itl (K:al)(a:Addr):It:=
 ⟨λi H=>∃xs x,SqL K H a xs/\xs[i]? =some x,λi H x H' =>H' =H/\∀xs,SqL K H a xs->xs[i]? =some x,λi H=>∃xs,SqL K H a xs/\xs.length<=i⟩
def Itt (K:al)(a:Addr):It:=
 ⟨λi H=>∃xs x,SqT K H a xs/\xs[i]? =some x,λi H x H' =>H' =H/\∀xs,SqT K H a xs->xs[i]? =some x,λi H=>∃xs,SqT K H a xs/\xs.length<=i⟩
def Itr (lo:Int)(n:Nat):It:=⟨λi _=>i < n,λi H x H' =>H' =H/\x= .int (lo+i),λi _=>n<=i⟩
theorem yy {P:Program}{w:World}{K:al}{tg:Expr}(a it:Addr):yx P w K tg (Itl K a) [it] it (λi h=>h.IsListIter it a i) where
 mem:=by simp
 obj:=λi h st b hb=>by
  have e:b=it:=by simpa using hb
  subst e;obtain⟨o,e,c,d⟩:=st;exact⟨o,e,λv z=>by rw[d]at z;cases z⟩
 keep:=λi h h' st k=>st.at λo e=>k it (by simp) o e
 item:=by
  intro X hP hw hK hc i pins s σ H E I hf st hg;subst hP hw hK;obtain⟨xs,x,hq,hx⟩:=hg;obtain⟨its,rv,p,hz⟩:=I.list hq;obtain⟨u,hu,ru⟩:=rv.get hx;obtain⟨f0,f1,f2,f3,f4,f5⟩:=hf it (by simp)
  refine wpAny_pyNext_list_item st p.isList (x:=u) (by simpa using hu) λh' st' sb=> ?_
  have I1:Inv X pins σ H { s with heap:=h' }:=I.turned (t' :=s.toks) (λb o hb e=>(sb.2 b hb).trans e) f0 f1 f3 f4 f5;obtain⟨o,e,c,d⟩:=id st';exact⟨u,rfl,UD (s:={ s with heap:=h' }) e c d (by decide) ⟨x,H,I1,ru,⟨rfl,λys hy=>by rw[I.list_inj hy hq];exact hx⟩,st',λb hb=>(hf b hb).1⟩⟩
 done:=by
  intro X hP hw hK hc i pins s σ H E I hf st hg;subst hP hw hK;obtain⟨xs,hq,hx⟩:=hg;obtain⟨its,rv,p,hz⟩:=I.list hq;obtain⟨f0,f1,f2,f3,f4,f5⟩:=hf it (by simp)
  have hl:=rv.length;exact wpAny_pyNext_list_end (I.ok.hd hc) st p.isList (by simp;omega) λh' eb=>⟨rfl,I.turned (t' :=s.toks) (λb o hb e=>eb b o hb e) f0 f1 f3 f4 f5⟩
 self:=λ_ _ _ _ _ st h=>wpAny_pyIter_listiter st h
theorem UE {P:Program}{w:World}{K:al}{tg:Expr}(a it:Addr):yx P w K tg (Itt K a) [it] it (λi h=>h.IsTupleIter it a i) where
 mem:=by simp
 obj:=λi h st b hb=>by
  have e:b=it:=by simpa using hb
  subst e;obtain⟨o,e,c,d⟩:=st;exact⟨o,e,λv z=>by rw[d]at z;cases z⟩
 keep:=λi h h' st k=>st.at λo e=>k it (by simp) o e
 item:=by
  intro X hP hw hK hc i pins s σ H E I hf st hg;subst hP hw hK;obtain⟨xs,x,hq,hx⟩:=hg;obtain⟨its,rv,p,hz⟩:=I.tuple hq;obtain⟨u,hu,ru⟩:=rv.get hx;obtain⟨f0,f1,f2,f3,f4,f5⟩:=hf it (by simp)
  refine wpAny_pyNext_tuple_item st (show s.heap.IsTuple a its.toArray from p) (x:=u) (by simpa using hu) λh' st' sb=> ?_
  have I1:Inv X pins σ H { s with heap:=h' }:=I.turned (t' :=s.toks) (λb o hb e=>(sb.2 b hb).trans e) f0 f1 f3 f4 f5;obtain⟨o,e,c,d⟩:=id st';exact⟨u,rfl,UD (s:={ s with heap:=h' }) e c d (by decide) ⟨x,H,I1,ru,⟨rfl,λys hy=>by rw[I.tuple_inj hy hq];exact hx⟩,st',λb hb=>(hf b hb).1⟩⟩
 done:=by
  intro X hP hw hK hc i pins s σ H E I hf st hg;subst hP hw hK;obtain⟨xs,hq,hx⟩:=hg;obtain⟨its,rv,p,hz⟩:=I.tuple hq;obtain⟨f0,f1,f2,f3,f4,f5⟩:=hf it (by simp)
  have hl:=rv.length;exact wpAny_pyNext_tuple_end (I.ok.hd hc) st (show s.heap.IsTuple a its.toArray from p) (by simp;omega) λh' eb=>⟨rfl,I.turned (t' :=s.toks) (λb o hb e=>eb b o hb e) f0 f1 f3 f4 f5⟩
 self:=λ_ _ _ _ _ st h=>wpAny_pyIter_tupleiter st h
theorem UF {P:Program}{w:World}{K:al}{tg:Expr}(it:Addr)(lo:Int)(n:Nat):yx P w K tg (Itr lo n) [it] it (λi h=>IsRangeIter h it (lo+(i:Nat)*1) ((n:Int) - (i:Nat)) 1) where
 mem:=by simp
 obj:=λi h st b hb=>by
  have e:b=it:=by simpa using hb
  subst e;exact⟨_,st,λv z=>by
   have z' :Data.fields _=Data.cell v:=z;cases z'⟩
 keep:=λi h h' st k=>k it (by simp) _ st
 item:=by
  intro X hP hw hK hc i pins s σ H E I hf st hg;subst hP hw hK;obtain⟨f0,f1,f2,f3,f4,f5⟩:=hf it (by simp)
  have W:=Walks.range (prog:=X.prog) (w:=X.w) (I.ok.hd hc) it lo 1 n;refine W.item i s _ _ hg st λv h' tk hv st' kk=> ?_;obtain⟨t,rfl⟩:=hv;have I1:Inv X pins σ H { s with heap:=h',toks:=tk }:=I.turned (λb o hb e=>kk b o (by simpa using hb) e) f0 f1 f3 f4 f5
  refine⟨_,rfl,UD (s:={ s with heap:=h',toks:=tk }) (n:="range_iterator") st' rfl rfl (by decide) ⟨.int (lo+i),H,I1,⟨t, ?_⟩,⟨rfl,rfl⟩,st',λb hb=>(hf b hb).1⟩⟩
  rw[Int.mul_one]
 done:=by
  intro X hP hw hK hc i pins s σ H E I hf st hg;subst hP hw hK;obtain⟨f0,f1,f2,f3,f4,f5⟩:=hf it (by simp)
  exact wpAny_pyNext_range_end (I.ok.hd hc) st (by have:n<=i:=hg;omega) λh' eb=>⟨rfl,I.turned (t' :=s.toks) (λb o hb e=>eb b o hb e) f0 f1 f3 f4 f5⟩
 self:=λ_ _ _ _ _ st h=>wpAny_pyIter_rangeiter st h
end L2
namespace L2
open PySem PySem.Spec PyProof.Rows
section
variable {X:Cx}{tg:Expr}
theorem uJ {pins:List (Addr×Obj)}{σ:St}{H:Hp}{s:Shared}{R:It->Hp->Prop}{E:Value->Shared->Prop}{lo hi:Int}{t u v:Tok}{tk:Nat}(I:Inv X pins σ H s)(h1: -(2 ^ 62)<=lo)(h2:lo < 2 ^ 62)(h3: -(2 ^ 62)<=hi)(h4:hi < 2 ^ 62)
  (q:R (Itr lo (hi - lo).toNat) H):wpAny (model X.prog X.w) X.A (pyIter (.ref s.heap.objs.size)) (PIE X pins σ tg R) E { s with heap:=s.heap.push { cls:= .type "range",data:= .fields #[.int lo t,.int hi u,.int 1 v] },toks:=tk }:=by
 refine wpAny_pyIter_range (IsRange.new ..) (small_one h1 h2 h3 h4) ?_;have I1:Inv X pins σ H { s with heap:=s.heap.push { cls:= .type "range",data:= .fields #[.int lo t,.int hi u,.int 1 v] },toks:=tk }:=I.kept λb o e=>ad _ e;refine⟨(s.heap.push { cls:= .type "range",data:= .fields #[.int lo t,.int hi u,.int 1 v] }).objs.size,[(s.heap.push { cls:= .type "range",data:= .fields #[.int lo t,.int hi u,.int 1 v] }).objs.size],_,_,H,rfl,
  I1.kept (t' :=tk) λb o e=>ad _ e,UF _ lo (hi - lo).toNat, ?_,λb hb=> ?_,q⟩
 ·have e1:lo+((0:Nat):Int)*1=lo:=by simp
  have e2:(((hi - lo).toNat:Nat):Int) - ((0:Nat):Int)=fD lo hi 1:=by rw[rangeSize_one];split <;> omega
  show IsRangeIter _ _ (lo+((0:Nat):Int)*1) ((((hi - lo).toNat:Nat):Int) - ((0:Nat):Int)) 1;rw[e1,e2];exact ah _ rfl
 ·have e:b=(s.heap.push { cls:= .type "range",data:= .fields #[.int lo t,.int hi u,.int 1 v] }).objs.size:=by simpa using hb
  subst e;exact I1.fpOk (am _) (I1.hok.fresh (am _))
def z0Q (ta:TA):TI:=λσ H R=>ta σ H λvs H1=>∃j:Int,vs=[.int j]/\ -(2 ^ 62)<=j/\j < 2 ^ 62/\R (Itr 0 j.toNat) H1
def z0R (ta:TA):TI:=λσ H R=>ta σ H λvs H1=>∃i j:Int,vs=[.int i,.int j]/\(-(2 ^ 62)<=i/\i < 2 ^ 62/\ -(2 ^ 62)<=j/\j < 2 ^ 62)/\R (Itr i (j - i).toNat) H1
theorem yz {a:Expr}{ta:TA}{p pos:Pos}(hg:Gl X "range")(hm:X.mg "range"=none)(ha:PA X [a] ta)(hs:starEach [a] X.env=[(false,eval a X.env)]:=by rfl):PI X tg (.Call (.Name "range" p) [a] [] pos) (z0Q ta):=by
 intro pins s σ H R I h;refine Call_ (ZS I hg hm boot_range (aN (thn (ha pos pins s σ H _ I h) λus s1 ⟨vs,H1,I1,r1,q1⟩=> ?_) hs rfl));obtain⟨j,e,q1,q2,q⟩:=q1;subst e;cases r1 with
 | cons r rr=>
  cases rr;obtain⟨t,rfl⟩:=r;exact call_range_1 (uJ I1 (by omega) (by omega) q1 q2 (by simpa using q))
theorem yA {a b:Expr}{ta:TA}{p pos:Pos}(hg:Gl X "range")(hm:X.mg "range"=none)(ha:PA X [a,b] ta)(hs:starEach [a,b] X.env=[(false,eval a X.env),(false,eval b X.env)]:=by rfl)(hs2:starEach [b] X.env=[(false,eval b X.env)]:=by rfl):
  PI X tg (.Call (.Name "range" p) [a,b] [] pos) (z0R ta):=by
 intro pins s σ H R I h;refine Call_ (ZS I hg hm boot_range (aN (thn (ha pos pins s σ H _ I h) λus s1 ⟨vs,H1,I1,r1,q1⟩=> ?_) (by rw[hs,hs2]) (by rw[hs2];rfl)))
 obtain⟨i,j,e,⟨q1,q2,q3,q4⟩,q⟩:=q1;subst e;cases r1 with
 | cons r rr=>
  cases rr with
  | cons r' rr=>
   cases rr;obtain⟨t,rfl⟩:=r;obtain⟨t',rfl⟩:=r';exact call_range_2 (uJ I1 q1 q2 q3 q4 q)
def tFor (wi:TI)(g:TG)(tb:TS):TS:=λD σ H=>wi σ H λJ H1=>∃W:Nat->Nat->St->Hp->Prop,(∃m,W 0 m σ H1)/\∀i m σ H,W i m σ H->
 (J.stop i H/\D.nx σ H)\/(J.go i H/\∃N:St->Hp->Prop,(∀σ' H',N σ' H' ->∃m',m' < m/\W (i+1) m' σ' H')/\∀x H',J.yld i H x H' ->g x σ H' λσ2 H2=>tb { D with nx:=N,ct:=N,bk:=D.nx } σ2 H2)
def Wb (fp:List Addr)(h:Heap):List (Addr×Obj):=fp.filterMap λb=>(h.get? b).map λo=>(b,o)
theorem jc {fp:List Addr}{h:Heap}{b:Addr}{o:Obj}(hb:b∈fp)(e:h.get? b=some o):(b,o)∈Wb fp h:=ic.mpr ⟨b,hb,by rw[e];rfl⟩
theorem yB {fp:List Addr}{h:Heap}{p:Addr×Obj}(hp:p∈Wb fp h):p.1∈fp/\h.get? p.1=some p.2:=by
 obtain⟨b,hb,e⟩:=ic.mp hp;cases q:h.get? b with
 | none=>rw[q]at e;cases e
 | some o=>
  rw[q]at e;have e' :(b,o)=p:=b6 e;subst e';exact⟨hb,q⟩
theorem Inv.pinned {pins:List (Addr×Obj)}{σ:St}{H:Hp}{s:Shared}{fp:List Addr}(I:Inv X pins σ H s)(hf:∀b∈fp,WY X pins H b)(ho:∀b∈fp,∃o,s.heap.get? b=some o/\∀v,o.data ≠ .cell v):Inv X (pins++Wb fp s.heap) σ H s:=
 I.pins_of λp hp=>(dh.mp hp).elim (λz=>I.pin p (bf _ z)) λz=>by
  obtain⟨hb,e⟩:=yB z;obtain⟨f0,f1,f2,_⟩:=hf p.1 hb;obtain⟨o,e',d⟩:=ho p.1 hb;rw[e]at e';cases e';exact⟨e,f0,f1,f2,d⟩
theorem Inv.unpinned {pins pl:List (Addr×Obj)}{σ:St}{H:Hp}{s:Shared}(I:Inv X (pins++pl) σ H s):Inv X pins σ H s:=I.pins_of λp hp=>I.pin p (bf _ (eG _ hp))
theorem kF {iter:Expr}{body:List Stmt}{wi:TI}{g:TG}{tb:TS}{pos:Pos}(hp:PassesOwn (model X.prog X.w) X.A X.env X.xe)(hc:X.calm=true)(hi:PI X tg iter wi)(hg:PG X tg g)(hb:PSs X body tb)
  (hs:∀x,foldedSetIterable iter X.env x=pure x:=by intro _;rfl):PS X (.For tg iter body [] pos) (tFor wi g tb):=by
 intro pins s σ H D I h;refine wpAny_For (thn (hi pins s σ H _ I h) λv s1 h1=>thn h1 λitv s2 h2=> ?_) hs;obtain⟨it,fp,tn,J,H2,e,I2,T,st2,f2,W,⟨m0,w0⟩,turn⟩:=h2;subst e;have stat:∀{H' :Hp},(∀b∈fp,H' b=none)->∀b∈fp,WY X pins H' b:=λhn b hb=>⟨hn b hb,(f2 b hb).2⟩;refine codeAny_forLoop_any (λn s' =>∃i σ' H',Inv X pins σ' H' s' /\tn i s'.heap/\(∀b∈fp,H' b=none)/\W i n σ' H') ?_ m0 ⟨0,σ,H2,I2,st2,λb hb=>(f2 b hb).1,w0⟩
 rintro n s3 ⟨i,σ3,H3,I3,st3,fr3,w3⟩
 rcases turn i n σ3 H3 w3 with ⟨stop,qn⟩ | ⟨go,N,hN,step⟩
 ·refine cH hp (thn (T.done X rfl rfl rfl hc i pins s3 σ3 H3 X.xe I3 (stat fr3) st3 stop) λr s4 ⟨hr,I4⟩=> ?_);subst hr;exact wpAny_execs_nil ⟨σ3,H3,I4,qn⟩
 ·refine cH hp (thn (T.item X rfl rfl rfl hc i pins s3 σ3 H3 X.xe I3 (stat fr3) st3 go) λr s4 ⟨u,hr,h4⟩=> ?_);subst hr;refine cH hp (thn h4 λ_ s5 ⟨x,H5,I5,r5,y5,st5,fr5⟩=> ?_);have I5' :=I5.pinned (stat fr5) (T.obj _ _ st5);refine cH hp (thn (hg _ s5 σ3 H5 x u _ I5' r5 (step x H5 y5)) λ_ s6 ⟨σ6,H6,I6,q6⟩=> ?_);refine cH hp (thn (hb _ s6 σ6 H6 _ I6 q6) λf s7 q7=> ?_);have again:∀{σ7:St} {H7:Hp},Inv X (pins++Wb fp s5.heap) σ7 H7 s7->N σ7 H7->∃m,m < n/\∃i σ' H',Inv X pins σ' H' s7/\tn i s7.heap/\(∀b∈fp,H' b=none)/\W i m σ' H' :=λ{σ7 H7} I7 n7=>by
   obtain⟨m',hm,w7⟩:=hN σ7 H7 n7;refine⟨m',hm,i+1,σ7,H7,I7.unpinned,T.keep _ _ _ st5 λb hb o e=>(I7.pin (b,o) (bf _ (bf _ (jc hb e)))).1,λb hb=> ?_,w7⟩;obtain⟨o,e,d⟩:=T.obj _ _ st5 b hb;exact(I7.pin (b,o) (bf _ (bf _ (jc hb e)))).2.1
  cases f with
  | next=>obtain⟨σ7,H7,I7,n7⟩:=q7;exact again I7 n7
  | cont=>obtain⟨σ7,H7,I7,n7⟩:=q7;exact again I7 n7
  | brk=>obtain⟨σ7,H7,I7,q7⟩:=q7;exact⟨σ7,H7,I7.unpinned,q7⟩
  | ret v=>obtain⟨x7,σ7,H7,I7,r7,q7⟩:=q7;exact⟨x7,σ7,H7,I7.unpinned,r7,q7⟩
end
end L2
namespace L2
open PySem PySem.Spec PyProof.Rows
abbrev R2:=V->V->Hp->VK->Prop
def OpR (X:Cx)(f:Value->Value->Sem Value)(r:R2):Prop:=
 ∀(pins:List (Addr×Obj)) (s:Shared) (σ:St) (H:Hp) (x y:V) (v u:Value) (Q:VK),Inv X pins σ H s->Zf x v->Zf y u->r x y H Q->
  wpAny (model X.prog X.w) X.A (f v u) (EP X pins σ Q) X.xe s
def UnR (X:Cx)(f:Value->Sem Value)(r:V->Hp->VK->Prop):Prop:=
 ∀(pins:List (Addr×Obj)) (s:Shared) (σ:St) (H:Hp) (x:V) (v:Value) (Q:VK),Inv X pins σ H s->Zf x v->r x H Q->
  wpAny (model X.prog X.w) X.A (f v) (EP X pins σ Q) X.xe s
def Zq (X:Cx)(f:Value)(r:List V->Hp->VK->Prop):Prop:=
 ∀(pins:List (Addr×Obj)) (s:Shared) (σ:St) (H:Hp) (xs:List V) (us:List Value) (Q:VK),Inv X pins σ H s->Z1 xs us->r xs H Q->
  wpAny (model X.prog X.w) X.A (call f us) (EP X pins σ Q) X.xe s
def TruR (X:Cx)(r:V->Hp->(Bool->Hp->Prop)->Prop):Prop:=
 ∀(pins:List (Addr×Obj)) (s:Shared) (σ:St) (H:Hp) (x:V) (v:Value) (Q:Bool->Hp->Prop),Inv X pins σ H s->Zf x v->r x H Q->
  wpAny (model X.prog X.w) X.A (truthy v) (TP X pins σ Q) X.xe s
def tOp (r:R2)(ta tb:TE):TE:=λσ H Q=>ta σ H λx H1=>tb σ H1 λy H2=>r x y H2 Q
def tUn (r:V->Hp->VK->Prop)(ta:TE):TE:=λσ H Q=>ta σ H λx H1=>r x H1 Q
def rI (C:Int->Int->Prop)(g:Int->Int->V):R2:=λx y H Q=>∃i j,x= .int i/\y= .int j/\C i j/\Q (g i j) H
def rI0 (g:Int->Int->V):R2:=λx y H Q=>∃i j,x= .int i/\y= .int j/\Q (g i j) H
def rU (g:Int->V):V->Hp->VK->Prop:=λx H Q=>∃i,x= .int i/\Q (g i) H
section
variable {X:Cx}{a b c:Expr}{ta tb tc:TE}{pos:Pos}
theorem z0S (ha:PE X a ta)(hb:PE X b tb){pins:List (Addr×Obj)}{s:Shared}{σ:St}{H:Hp}{R:V->V->Hp->Prop}(I:Inv X pins σ H s)
  (h:ta σ H λx H1=>tb σ H1 λy H2=>R x y H2) {Q:Value->Shared->Prop} {f:Value->Value->Sem Value}
  (hf:∀v u s2 x y H2,Inv X pins σ H2 s2->Zf x v->Zf y u->R x y H2->wpAny (model X.prog X.w) X.A (f v u) Q X.xe s2):
  wpAny (model X.prog X.w) X.A (eval a X.env) (λv s₁=>wpAny (model X.prog X.w) X.A (eval b X.env) (λu s₂=>wpAny (model X.prog X.w) X.A (f v u) Q X.xe s₂) X.xe s₁) X.xe s:=by
 refine thn (ha pins s σ H _ I h) λv s1 ⟨x,H1,I1,r1,q1⟩=> ?_;refine thn (hb pins s1 σ H1 _ I1 q1) λu s2 ⟨y,H2,I2,r2,q2⟩=> ?_;exact hf v u s2 x y H2 I2 r1 r2 q2
theorem z0T {op:Operator}{r:R2}(ho:OpR X (binaryOp op) r)(ha:PE X a ta)(hb:PE X b tb):PE X (.BinOp a op b pos) (tOp r ta tb):=by
 intro pins s σ H Q I h;exact wpAny_BinOp (z0S ha hb I h λv u s2 x y H2 I2 rx ry q=>ho pins s2 σ H2 x y v u Q I2 rx ry q)
theorem kG {op:UnaryOp}{r:V->Hp->VK->Prop}(ho:UnR X (unaryOp op) r)(ha:PE X a ta):PE X (.UnaryOp op a pos) (tUn r ta):=by
 intro pins s σ H Q I h;exact UnaryOp_ (thn (ha pins s σ H _ I h) λv s1 ⟨x,H1,I1,r1,q1⟩=>ho pins s1 σ H1 x v Q I1 r1 q1)
theorem opI {f:Value->Value->Sem Value}{C:Int->Int->Prop}{g:Int->Int->Int}
  (rule:∀(i j:Int) (t u:Tok) (s:Shared) (Q:Value->Shared->Prop) (E:Value->Shared->Prop),C i j->Q (.int (g i j) s.toks) { s with toks:=s.toks+1 }->wpAny (model X.prog X.w) X.A (f (.int i t) (.int j u)) Q E s):
  OpR X f (rI C λi j=> .int (g i j)):=by
 intro pins s σ H x y v u Q I rx ry h;obtain⟨i,j,rfl,rfl,hc,q⟩:=h;obtain⟨t,rfl⟩:=rx;obtain⟨t',rfl⟩:=ry;exact rule i j t t' s _ _ hc ⟨.int (g i j),H,I.tok _,⟨_,rfl⟩,q⟩
theorem opI0 {f:Value->Value->Sem Value}{g:Int->Int->Int}
  (rule:∀(i j:Int) (t u:Tok) (s:Shared) (Q:Value->Shared->Prop) (E:Value->Shared->Prop),Q (.int (g i j) s.toks) { s with toks:=s.toks+1 }->wpAny (model X.prog X.w) X.A (f (.int i t) (.int j u)) Q E s):
  OpR X f (rI0 λi j=> .int (g i j)):=by
 intro pins s σ H x y v u Q I rx ry h;obtain⟨i,j,rfl,rfl,q⟩:=h;obtain⟨t,rfl⟩:=rx;obtain⟨t',rfl⟩:=ry;exact rule i j t t' s _ _ ⟨.int (g i j),H,I.tok _,⟨_,rfl⟩,q⟩
theorem z0U {f:Value->Value->Sem Value}{g:Int->Int->Bool}
  (rule:∀(i j:Int) (t u:Tok) (s:Shared) (Q:Value->Shared->Prop) (E:Value->Shared->Prop),Q (.bool (g i j)) s->wpAny (model X.prog X.w) X.A (f (.int i t) (.int j u)) Q E s):
  OpR X f (rI0 λi j=> .bl (g i j)):=by
 intro pins s σ H x y v u Q I rx ry h;obtain⟨i,j,rfl,rfl,q⟩:=h;obtain⟨t,rfl⟩:=rx;obtain⟨t',rfl⟩:=ry;exact rule i j t t' s _ _ ⟨.bl (g i j),H,I,rfl,q⟩
def CDiv (i j:Int):Prop:=0 < j/\j < 1073741824
def W4 (i j:Int):Prop:=(-(2 ^ 64) < i/\i < 2 ^ 64)\/(-(2 ^ 64) < j/\j < 2 ^ 64)
theorem W4.ok {i j:Int}(h:W4 i j):IntMulOk i j:=by
 rcases h with ⟨h1,h2⟩ | ⟨h1,h2⟩
 ·exact .of_left (intBits_le_64 h1 h2)
 ·exact .of_right (intBits_le_64 h1 h2)
theorem kH:OpR X (binaryOp .Add) (rI0 λi j=> .int (i+j)):=opI0 λ_ _ _ _ _ _ _ q=>add_int q
theorem kI:OpR X (binaryOp .Sub) (rI0 λi j=> .int (i - j)):=opI0 λ_ _ _ _ _ _ _ q=>sub_int q
theorem kJ:OpR X (binaryOp .Mult) (rI W4 λi j=> .int (i*j)):=opI λ_ _ _ _ _ _ _ hc q=>mul_int q hc.ok
theorem VR:OpR X (binaryOp .FloorDiv) (rI CDiv λi j=> .int (i / j)):=opI λi j _ _ _ _ _ hc q=>by
 have h1:(0:Int) < j:=hc.1;have h2:j < 1073741824:=hc.2;exact floordiv_int (by omega) (by rw[eV i (by omega)];exact q) (.inl (PyProof.noPylong_small (by omega)))
theorem kK:OpR X (binaryOp .Mod) (rI (λ_ j=>0 < j) λi j=> .int (i % j)):=opI λi j _ _ _ _ _ hc q=>by
 have h1:(0:Int) < j:=hc;exact mod_int' (by omega) (by rw[Int.fmod_eq_emod_of_nonneg i (by omega)];exact q)
theorem unI {f:Value->Sem Value}{g:Int->Int}
  (rule:∀(i:Int) (t:Tok) (s:Shared) (Q:Value->Shared->Prop) (E:Value->Shared->Prop),Q (.int (g i) s.toks) { s with toks:=s.toks+1 }->wpAny (model X.prog X.w) X.A (f (.int i t)) Q E s):
  UnR X f (rU λi=> .int (g i)):=by
 intro pins s σ H x v Q I rx h;obtain⟨i,rfl,q⟩:=h;obtain⟨t,rfl⟩:=rx;exact rule i t s _ _ ⟨.int (g i),H,I.tok _,⟨_,rfl⟩,q⟩
theorem vR:UnR X (unaryOp .USub) (rU λi=> .int (-i)):=unI λ_ _ _ _ _ q=>neg_int q
theorem yC:OpR X (binaryOp .Add) (λx y H Q=>∃i k,x= .int i/\y= .bl k/\Q (.int (i+b2i k)) H):=by
 intro pins s σ H x y v u Q I rx ry h;obtain⟨i,k,rfl,rfl,q⟩:=h;obtain⟨t,rfl⟩:=rx;cases ry;exact add_int_bool ⟨.int (i+b2i k),H,I.tok _,⟨_,rfl⟩,q⟩
end
section
variable {X:Cx}{a b c:Expr}{ta tb tc:TE}{pos:Pos}
theorem z0V:OpR X (compareOp .Lt) (rI0 λi j=> .bl (decide (i < j))):=z0U λ_ _ _ _ _ _ _ q=>lt_int q
theorem z0W:OpR X (compareOp .LtE) (rI0 λi j=> .bl (decide (i<=j))):=z0U λ_ _ _ _ _ _ _ q=>le_int q
theorem z0X:OpR X (compareOp .Gt) (rI0 λi j=> .bl (decide (j < i))):=z0U λ_ _ _ _ _ _ _ q=>gt_int q
theorem jx (b:Expr){op:CmpOp}(h:op ≠ .In:=by decide)(h2:op ≠ .NotIn:=by decide):behindInMarks op b=false:=by
 have e1:(op == CmpOp.In)=false:=by cases op <;> first | rfl | exact absurd rfl h
 have e2:(op == CmpOp.NotIn)=false:=by cases op <;> first | rfl | exact absurd rfl h2
 cases b <;> simp[behindInMarks,e1,e2]
theorem VS {op:CmpOp}{r:R2}(ho:OpR X (compareOp op) r)(ha:PE X a ta)(hb:PE X b tb)(hm:behindInMarks op b=false):PE X (.Compare a [op] [b] pos) (tOp r ta tb):=by
 intro pins s σ H Q I h;exact wpAny_Compare1 (z0S ha hb I h λv u s2 x y H2 I2 rx ry q=>ho pins s2 σ H2 x y v u Q I2 rx ry q) hm
def kL (t:TE):TT:=λσ H Q=>t σ H λx H' =>∃k,x= .bl k/\Q k H'
theorem VT {op:CmpOp}{r:R2}(ho:OpR X (compareOp op) r)(ha:PE X a ta)(hb:PE X b tb)(hm:behindInMarks op b=false):PT X (.Compare a [op] [b] pos) (kL (tOp r ta tb)):=by
 intro pins s σ H Q I h;refine wpAny_isTrue_Compare1 (thn (ha pins s σ H _ I h) λv s1 ⟨x,H1,I1,r1,q1⟩=>thn (hb pins s1 σ H1 _ I1 q1) λu s2 ⟨y,H2,I2,r2,q2⟩=>
  thn (ho pins s2 σ H2 x y v u _ I2 r1 r2 q2) λc s3 ⟨z,H3,I3,r3,k,e,q3⟩=> ?_) hm
 subst e;cases r3;exact br ⟨H3,I3,q3⟩
def vS (r r' :R2)(ta tb tc:TE):TE:=λσ H Q=>ta σ H λx H1=>tb σ H1 λy H2=>r x y H2 λz H3=>∃k,z= .bl k/\
 (if k=true then tc σ H3 λw' H4=>r' y w' H4 Q else Q (.bl false) H3)
theorem Qp {op op' :CmpOp}{r r' :R2}(ho:OpR X (compareOp op) r)(ho' :OpR X (compareOp op') r')(ha:PE X a ta)(hb:PE X b tb)(hc:PE X c tc)
  (hm:lastMarks [op,op'] [b,c]=false:=by with_unfolding_all rfl):PE X (.Compare a [op,op'] [b,c] pos) (vS r r' ta tb tc):=by
 intro pins s σ H Q I h;refine Compare_chain (thn (ha pins s σ H _ I h) λv s1 ⟨x,H1,I1,r1,q1⟩=>chain_link (thn (hb pins s1 σ H1 _ I1 q1) λu s2 ⟨y,H2,I2,r2,q2⟩=>
  thn (ho pins s2 σ H2 x y v u _ I2 r1 r2 q2) λd s3 ⟨z,H3,I3,r3,k,e,q3⟩=> ?_)) hm
 subst e;cases r3;refine br ?_;cases k with
 | false=>exact ite_ff ⟨.bl false,H3,I3,rfl,q3⟩
 | true=>exact ite_tt (chain_last (thn (hc pins s3 σ H3 _ I3 q3) λw' s4 ⟨z',H4,I4,r4,q4⟩=>ho' pins s4 σ H4 y z' u w' Q I4 r2 r4 q4))
theorem Qq {op op' :CmpOp}{r r' :R2}(ho:OpR X (compareOp op) r)(ho' :OpR X (compareOp op') r')(ha:PE X a ta)(hb:PE X b tb)(hc:PE X c tc)
  (hm:lastMarks [op,op'] [b,c]=false:=by with_unfolding_all rfl):PT X (.Compare a [op,op'] [b,c] pos) (kL (vS r r' ta tb tc)):=by
 intro pins s σ H Q I h;refine isTrue_chain (thn (ha pins s σ H _ I h) λv s1 ⟨x,H1,I1,r1,q1⟩=>test_link (thn (hb pins s1 σ H1 _ I1 q1) λu s2 ⟨y,H2,I2,r2,q2⟩=>
  thn (ho pins s2 σ H2 x y v u _ I2 r1 r2 q2) λd s3 ⟨z,H3,I3,r3,k,e,q3⟩=> ?_)) hm
 subst e;cases r3;refine br ?_;cases k with
 | false=>
  obtain⟨k',e',q'⟩:=q3;cases e';exact ite_ff ⟨H3,I3,q'⟩
 | true=>
  refine ite_tt (test_last (thn (hc pins s3 σ H3 _ I3 q3) λw' s4 ⟨z',H4,I4,r4,q4⟩=>thn (ho' pins s4 σ H4 y z' u w' _ I4 r2 r4 q4) λd' s5 ⟨z2,H5,I5,r5,k2,e2,q5⟩=> ?_));subst e2;cases r5;exact br ⟨H5,I5,q5⟩
def TruV (K:al)(x:V)(H:Hp)(k:Bool):Prop:=
 match x with
 | .non=>k=false
 | .bl b=>k=b
 | .int i=>k=(i != 0)
 | .str y=>y.length<=sizeLine/\k=((y.length:Int) != 0)
 | .byt y=>y.size<=sizeLine/\k=((y.size:Int) != 0)
 | .ref p=>(∃xs,SqL K H p xs/\k= !xs.isEmpty)\/(∃xs,SqT K H p xs/\k= !xs.isEmpty)\/∃kvs,H p=some (.dK kvs)/\k= !kvs.isEmpty
 | _=>False
theorem UG {κ:Type}{kvs:List (κ×V)}{vs:List (κ×Value)}(r:KV kvs vs):(!vs.isEmpty)= !kvs.isEmpty:=by
 cases r <;> rfl
theorem w8 {xs:List V}{its:List Value}(r:Z1 xs its):(!its.toArray.isEmpty)= !xs.isEmpty:=by
 cases r <;> simp
theorem w9:(sizeLine:Nat) < 2 ^ 63:=by rw[bI];decide
theorem kM:TruR X (λx H Q=>∃k,TruV X.K x H k/\Q k H):=by
 intro pins s σ H x v Q I rx h;obtain⟨k,e,q⟩:=h;have hl:=w9;have hs:sizeLine=16777216:=bI;cases x with
 | non=>
  cases rx;have e' :k=false:=e;subst e';exact truthy_none ⟨H,I,q⟩
 | bl b=>
  cases rx;have e' :k=b:=e;subst e';exact br ⟨H,I,q⟩
 | int i=>
  obtain⟨t,rfl⟩:=rx;have e' :k=(i != 0):=e;subst e';exact PySem.P.truthy_int ⟨H,I,q⟩
 | str y=>
  obtain⟨t,rfl⟩:=rx;obtain⟨hy,e'⟩:y.length<=sizeLine/\k=((y.length:Int) != 0):=e;subst e';exact PySem.P.truthy_str (by omega) ⟨H,I.tok _,q⟩
 | byt y=>
  obtain⟨t,rfl⟩:=rx;obtain⟨hy,e'⟩:y.size<=sizeLine/\k=((y.size:Int) != 0):=e;subst e';exact PySem.W.truthy_bytes (by omega) ⟨H,I.tok _,q⟩
 | ref p=>
  cases rx;have e' :(∃xs,SqL X.K H p xs/\k= !xs.isEmpty)\/(∃xs,SqT X.K H p xs/\k= !xs.isEmpty)\/∃kvs,H p=some (.dK kvs)/\k= !kvs.isEmpty:=e;rcases e' with ⟨xs,hx,e'⟩ | ⟨xs,hx,e'⟩ | ⟨kvs,hx,e'⟩
  ·subst e';obtain⟨its,r,pl,hz⟩:=I.list hx;have hlen:=r.length;exact wpAny_truthy_list pl.isList (by simp only[az];omega) ⟨H,I.tok _,by rw[w8 r];exact q⟩
  ·subst e';obtain⟨its,r,pl,hz⟩:=I.tuple hx;have hlen:=r.length;exact truthy_tuple pl (by simp only[az];omega) ⟨H,I.tok _,by rw[w8 r];exact q⟩
  ·subst e';obtain⟨hz,hS,vs,r,m⟩:kvs.length<=sizeLine/\(p == sysModules)=false/\∃vs,KV kvs vs/\s.heap.DictOf (Zg X.prog X.w) p vs:=I.hok p _ hx;have hlen:kvs.length=vs.length:=Paired.length r;exact wpAny_truthy_dict hS m (by omega) ⟨H,I.tok _,by rw[UG r];exact q⟩
 | _=>exact(show False from e).elim
theorem Qr (ha:PE X a ta)(he:∀whole,isTrue a X.env whole=(do let v ← whole;standAt a.pos;holding [v] (truthy v))):
  PT X a (λσ H Q=>ta σ H λx H' =>∃k,TruV X.K x H' k/\Q k H'):=by
 intro pins s σ H Q I h;exact isTrue_plain (thn (ha pins s σ H _ I h) λv s1 ⟨x,H1,I1,r1,q1⟩=>kM pins s1 σ H1 x v Q I1 r1 q1) (he _)
theorem UH:OpR X (binaryOp .Add) (λx y H Q=>∃i j,x= .str i/\y= .str j/\i.length+j.length<=sizeLine/\Q (.str (i++j)) H):=by
 intro pins s σ H x y v u Q I rx ry h;obtain⟨i,j,rfl,rfl,hz,q⟩:=h;obtain⟨t,rfl⟩:=rx;obtain⟨t',rfl⟩:=ry;exact add_str (λt' tk=>⟨.str (i++j),H,I.tok _,⟨_,rfl⟩,q⟩) hz
theorem ZI {x:V}{us:List Value}(r:Z1 [x] us):∃u,us=[u]/\Zf x u:=by
 cases r with
 | cons r1 r2=>cases r2;exact⟨_,rfl,r1⟩
theorem UI {x y:V}{us:List Value}(r:Z1 [x,y] us):∃u w',us=[u,w']/\Zf x u/\Zf y w' :=by
 cases r with
 | cons r1 r2=>
  cases r2 with
  | cons r3 r4=>cases r4;exact⟨_,_,rfl,r1,r3⟩
theorem Qs:Zq X (.builtin "abs") (λxs H Q=>∃i,xs=[.int i]/\Q (.int (if i < 0 then -i else i)) H):=by
 intro pins s σ H xs us Q I r h;obtain⟨i,rfl,q⟩:=h;obtain⟨u,rfl,t,rfl⟩:=ZI r;exact call_abs_int λu tk=>⟨.int (if i < 0 then -i else i),H,I.tok _,⟨_,rfl⟩,q⟩
theorem yD (hc:X.calm=true):Zq X (.builtin "max") (λxs H Q=>∃i j,xs=[.int i,.int j]/\Q (.int (if j > i then j else i)) H):=by
 intro pins s σ H xs us Q I r h;obtain⟨i,j,rfl,q⟩:=h;obtain⟨u,w',rfl,⟨t,rfl⟩,⟨t',rfl⟩⟩:=UI r;refine max_two_ints (I.ok.hd hc) λh' tk k=>⟨_,H,I.kept k, ?_,q⟩
 by_cases hj:j > i
 ·rw[if_pos hj,if_pos hj];exact⟨_,rfl⟩
 ·rw[if_neg hj,if_neg hj];exact⟨_,rfl⟩
theorem yE (hc:X.calm=true):Zq X (.builtin "min") (λxs H Q=>∃i j,xs=[.int i,.int j]/\Q (.int (if j < i then j else i)) H):=by
 intro pins s σ H xs us Q I r h;obtain⟨i,j,rfl,q⟩:=h;obtain⟨u,w',rfl,⟨t,rfl⟩,⟨t',rfl⟩⟩:=UI r;refine min_two_ints (I.ok.hd hc) λh' tk k=>⟨_,H,I.kept k, ?_,q⟩
 by_cases hj:j < i
 ·rw[if_pos hj,if_pos hj];exact⟨_,rfl⟩
 ·rw[if_neg hj,if_neg hj];exact⟨_,rfl⟩
theorem yF:Zq X (.type "int") (λxs H Q=>(∃i,xs=[.int i]/\Q (.int i) H)\/∃k,xs=[.bl k]/\Q (.int (if k then 1 else 0)) H):=by
 intro pins s σ H xs us Q I r h;rcases h with ⟨i,rfl,q⟩ | ⟨k,rfl,q⟩
 ·obtain⟨u,rfl,t,rfl⟩:=ZI r;exact call_int_int ⟨.int i,H,I,⟨_,rfl⟩,q⟩
 ·obtain⟨u,rfl,r1⟩:=ZI r;cases r1;exact call_int_bool ⟨.int (if k then 1 else 0),H,I.tok _,⟨_,rfl⟩,q⟩
end
end L2
namespace L2
open PySem PySem.Spec PyProof.Rows
structure z0Y (h:Heap) (x dx C:Addr) (mA:Str->Option Value):Prop where
 obj:h.get? x=some (fW C dx)
 ns:h.Ns1 dx mA
 ne:dx ≠ x
theorem yG {h:Heap}{dx:Addr}{mA:Str->Option Value}(n:h.Ns1 dx mA):∃od,h.get? dx=some od/\∀name,hU name od=some (mA name):=by
 obtain⟨o,es,ep,ho,hd,hk,_,hm⟩:=n;refine⟨o,ho,λname=> ?_⟩;have e:=hm name;unfold nsFind findBy at e;rw[← Array.find?_toList]at e;unfold hU;rw[hd];dsimp only;split
 ·rename_i y q;rw[q]at e;exact congrArg some e
 ·rename_i q;rw[q]at e;have a:es.toList.any (·.refKey)=false:=by
   rw[List.any_eq_false];intro y hy;obtain⟨z,t,hkey⟩:=hk y (Array.mem_toList_iff.mp hy);simp[DictEntry.refKey,hkey]
  have a' :¬ es.toList.any (·.refKey)=true:=by rw[a];exact ay
  rw[if_neg a'];exact congrArg some e
theorem z0Y.look {h:Heap}{x dx C:Addr}{mA:Str->Option Value}(I:z0Y h x dx C mA):∃od,PySem.W.InstAt h x (fW C dx) C (some od)/\∀name,hU name od=some (mA name):=
 let ⟨od,ho,hl⟩:=yG I.ns
 ⟨od,⟨I.obj,rfl,rfl,ho⟩,hl⟩
section
variable {prog:Program}{w:World}{A:Around}{E:Value->Shared->Prop}{s:Shared}{K:al}{x dx C f:Addr}{mA:Str->Option Value}{name:Str}{v:Value}
end
section
variable {P:Program}{w:World}{H H' :Hp}{h h' :Heap}{a C dx:Addr}{fs fs' :List (Str×V)}
theorem VU (hok:HOk P w H h)(e:H a=some (.ins C dx fs)):∃mA,z0Y h a dx C mA/\(∀f,z0G (fs.lookup f) (mA f))/\PySem.Within mA (fs.map (·.1))/\fs.length<=1000/\H dx=some (.own a):=by
 obtain⟨d,z,ne,ob,mA,n,r,q⟩:=(show Z7 P w H h a (.ins C dx fs) from hok a _ e);exact⟨mA,⟨ob,n,ne⟩,r,q,z,d⟩
end
structure Cls (K:al) (C:Addr):Prop where
 pg:iR K C Str.empty=true
 hd:PySem.W.hasDictIn K C=true
 po:PySem.W.plainOver K C=true
 sa:PySem.W.findIn K (.ref C) "__setattr__"=some (some (.builtin "object.__setattr__"))
theorem Cls.get {K:al}{C:Addr}(c:Cls K C)(f:Str):iR K C f=true:=c.pg
section
variable {X:Cx}{pins:List (Addr×Obj)}{σ:St}{H:Hp}{s:Shared}{a C dx:Addr}{fs:List (Str×V)}{f:Str}{v:V}{A:Around}{E:Value->Shared->Prop}
end
section
variable {X:Cx}{o e value:Expr}{f:Str}{pos pos' tpos:Pos}{ta tv:TE}
end
section
variable {X:Cx}{pins:List (Addr×Obj)}{σ:St}{H:Hp}{s:Shared}{A:Around}{E:Value->Shared->Prop}{Q:Value->Shared->Prop}{c:Value}{b:Bool}
inductive UJ (K:al) (H:Hp):V->Value->Prop where
 | non:UJ K H .non (.type "NoneType")
 | bl (x:Bool):UJ K H (.bl x) (.type "bool")
 | int (i:Int):UJ K H (.int i) (.type "int")
 | str (x:Str):UJ K H (.str x) (.type "str")
 | flt (x:UInt64):UJ K H (.flt x) (.type "float")
 | lst {a:Addr} {xs:List V} (e:H a=some (.lst xs)):UJ K H (.ref a) (.type "list")
 | frz {a:Addr} {o:Obj} {xs:List V} (e:H a=some (.frz o (.lst xs))):UJ K H (.ref a) (.type "list")
 | tup {a:Addr} {xs:List V} (e:H a=some (.tup xs)):UJ K H (.ref a) (.type "tuple")
 | dK {a:Addr} {kvs:List (Key×V)} (e:H a=some (.dK kvs)):UJ K H (.ref a) (.type "dict")
 | dT {a:Addr} {kvs:List (List Key×V)} (e:H a=some (.dT kvs)):UJ K H (.ref a) (.type "dict")
 | ins {a C dx:Addr} {fs:List (Str×V)} (e:H a=some (.ins C dx fs)) (cl:Cls K C) (ha:PySem.W.findIn K (.ref C) "__class__"=some (some (.builtin "object.__class__")))
   (hn:PySem.W.specialIn K (.builtin "object.__class__") "__get__"=some (some (.builtin "getset_descriptor.__get__"))) (htk:PySem.W.takesIn K (.builtin "object.__class__")=some true)
   (hm:PySem.W.mroIn K C (.type "object")=some true):UJ K H (.ref a) (.ref C)
theorem yH {x:V}{u t:Value}(I:Inv X pins σ H s)(rx:Zf x u)(ty:UJ X.K H x t)(e:cR X.K t c=some b)(h:∀tk,Q (.bool b) { s with toks:=tk }):
  wpAny (model X.prog X.w) A (call (.builtin "isinstance") [u,c]) Q E s:=by
 cases ty with
 | non=>cases (show u=Value.none from rx);exact bO PySem.W.kitx_none I.kIn True.intro e (λz=>nomatch z) h
 | bl y=>cases (show u=Value.bool y from rx);exact bO PySem.W.kitx_bool I.kIn True.intro e (λz=>nomatch z) h
 | int i=>obtain⟨t,q⟩:=(show ∃t,u=Value.int i t from rx);cases q;exact bO PySem.W.kitx_int I.kIn True.intro e (λz=>nomatch z) h
 | str y=>obtain⟨t,q⟩:=(show ∃t,u=Value.str y t from rx);cases q;exact bO PySem.W.kitx_str I.kIn True.intro e (λz=>nomatch z) h
 | flt y=>obtain⟨t,q⟩:=(show ∃t,u=Value.float y t from rx);cases q;exact bO PySem.W.kitx_float I.kIn True.intro e (λz=>nomatch z) h
 | @lst a xs ea=>
  cases (show u=Value.ref a from rx);obtain⟨_,_,n,_,h1⟩:=(show Z7 X.prog X.w H s.heap a (.lst xs) from I.hok a _ ea);exact bO iz I.kIn ⟨_,h1,rfl⟩ e (λz=>nomatch z) h
 | @frz a ob xs ea=>
  cases (show u=Value.ref a from rx);obtain⟨_,_,_,n,_,h1⟩:=(show Z7 X.prog X.w H s.heap a (.frz ob (.lst xs)) from I.hok a _ ea);exact bO iz I.kIn ⟨_,h1,rfl⟩ e (λz=>nomatch z) h
 | @tup a xs ea=>
  cases (show u=Value.ref a from rx);obtain⟨_,_,_,p,_⟩:=(show Z7 X.prog X.w H s.heap a (.tup xs) from I.hok a _ ea);obtain⟨o,h1,h2,_⟩:=p;exact bO PySem.W.kitx_tuple I.kIn ⟨o,h1,h2⟩ e (λz=>nomatch z) h
 | @dK a kvs ea=>
  cases (show u=Value.ref a from rx);obtain⟨_,_,vs,_,p⟩:=(show Z7 X.prog X.w H s.heap a (.dK kvs) from I.hok a _ ea);obtain⟨o,es,ep,h1,h2,_⟩:=p;exact bO iA I.kIn ⟨o,h1,h2.1⟩ e (λz=>nomatch z) h
 | @dT a kvs ea=>
  cases (show u=Value.ref a from rx);obtain⟨_,_,xs,_,o,es,ep,h1,h2,_⟩:=(show Z7 X.prog X.w H s.heap a (.dT kvs) from I.hok a _ ea);exact bO iA I.kIn ⟨o,h1,h2.1⟩ e (λz=>nomatch z) h
 | @ins a C dx fs ea cl ha hn htk hm=>
  cases (show u=Value.ref a from rx);obtain⟨mA,O,_⟩:=VU I.hok ea;obtain⟨od,J,_⟩:=O.look;exact bO (PySem.W.kitx_own (cl.get _) cl.hd ha hn htk hm) I.kIn J e (λz=>nomatch z) h
end
end L2
namespace L2
open PySem PySem.Spec PyProof.Rows
structure JU (k:Nat) (A:Around):Prop where
 hd:A.handled=none
 dp:A.depth+3*k+5 < recursionLimit
 un:A.units+16*k+200 < cLine
 gd:A.guards=some []
theorem JU.mono {j k:Nat}{A:Around}(r:JU k A)(h:j<=k):JU j A:=⟨r.hd,by have:=r.dp;omega,by have:=r.un;omega,r.gd⟩
theorem JU.deeper {k:Nat}{A:Around}(r:JU (k+1) A)(env:Env):JU k (A.deeper env):=
 ⟨r.hd,by have:=r.dp;show A.depth+1+3*k+5 < _;omega,by have:=r.un;show A.units+3+16*k+200 < _;omega,r.gd⟩
theorem JU.depth {k:Nat}{A:Around}(r:JU k A):A.depth < recursionLimit:=by have:=r.dp;omega
theorem JU.units {k:Nat}{A:Around}(r:JU k A):A.units+64 < cLine:=by have:=r.un;omega
def GT:TA:=λ_ H Q=>Q [] H
def kN (ta:TE)(tr:TA):TA:=λσ H Q=>ta σ H λx H1=>tr σ H1 λxs H2=>Q (x :: xs) H2
section
variable {X:Cx}{e:Expr}{es:List Expr}{te:TE}{t:TA}{pos:Pos}
theorem zU:PA X [] GT:=λ_ _ _ _ H Q I h=>fh ⟨[],H,I,.nil,h⟩
theorem zo (ha:PE X e te)(hr:PA X es t)(hs:starEach (e :: es) X.env=(false,eval e X.env) :: starEach es X.env:=by rfl):PA X (e :: es) (kN te t):=by
 intro pos pins s σ H Q I h;rw[hs];show wpAny _ _ (spliced ((false,eval e X.env) :: backTo pos (starEach es X.env))) _ _ s;refine eW (thn (ha pins s σ H _ I h) λu s1 ⟨x,H1,I1,r1,q1⟩=> ?_);exact thn (hr pos pins s1 σ H1 _ I1 q1) λus s2 ⟨xs,H2,I2,r2,q2⟩=>⟨x :: xs,H2,I2,.cons r1 r2,q2⟩
def tTup (t:TA):TE:=λσ H Q=>t σ H λxs H1=>xs.length<=sizeLine/\∀p,H1 p=none->Q (.ref p) (upd H1 p (.tup xs))
def tLst (t:TA):TE:=λσ H Q=>t σ H λxs H1=>xs.length<=sizeLine/\∀p,H1 p=none->Q (.ref p) (upd H1 p (.lst xs))
theorem kO {x1}(h:PA X es t):PE X (.Tuple es x1 pos) (tTup t):=by
 intro pins s σ H Q I hq;refine wpAny_Tuple_spliced (thn (h pos pins s σ H _ I hq) λus s1 ⟨xs,H1,I1,r,z,q⟩=>⟨by rw[← r.length];exact z, ?_⟩)
 have hf:H1 s1.heap.objs.size=none:=I1.hok.fresh (am _);refine⟨.ref s1.heap.objs.size,upd H1 s1.heap.objs.size (.tup xs),I1.laid (t' :=s1.toks) (λb u e=>ad _ e) (am _) ?_,rfl,q _ hf⟩;exact⟨z,us,r,⟨_,ah _ rfl,rfl,_,rfl⟩,.inr ⟨_,ah _ rfl,rfl⟩⟩
theorem vT (h:PA X es t):PE X (.List es pos) (tLst t):=by
 intro pins s σ H Q I hq;refine wpAny_List_spliced (thn (h pos pins s σ H _ I hq) λus s1 ⟨xs,H1,I1,r,z,q⟩=>⟨by rw[← r.length];exact z, ?_⟩)
 have hf:H1 s1.heap.objs.size=none:=I1.hok.fresh (am _);refine⟨.ref s1.heap.objs.size,upd H1 s1.heap.objs.size (.lst xs),I1.laid (t' :=s1.toks) (λb u e=>ad _ e) (am _) ?_,rfl,q _ hf⟩;exact⟨z,us,0,r,ah _ rfl⟩
end
abbrev Sp:=List V->Hp->VK->XK->Prop
abbrev CXT:=List Env->Hp->Shared->XK->Value->Shared->Prop
structure GU (P:Program) (w:World) (K:al) (mg:Str->Option Value) (base:Heap) (A:Around) (outer:List Env) (s:Shared) (H:Hp):Prop where
 frames:A.frames=some outer
 mod:Mod K mg base
 bs:∀b o,base.get? b=some o->s.heap.get? b=some o/\H b=none
 bsz:base.objs.size<=s.heap.objs.size
 funs:s.heap.FunFrames base outer
 frf:∀b∈frs outer,H b=none
 hok:HOk P w H s.heap
 bare:AllBare s.gens
def CE (outer:List Env)(P:Program)(w:World)(H:Hp)(s:Shared)(Q:VK)(u:Value)(s' :Shared):Prop:=
 ∃v H',s'.os=s.os/\AllBare s'.gens/\Un (frs outer) [] H H' s.heap s'.heap/\HOk P w H' s'.heap/\Zf v u/\Q v H'
def CR (CX:CXT)(outer:List Env)(P:Program)(w:World)(H:Hp)(s:Shared)(Q:VK)(E:XK)(r:Result)(s' :Shared):Prop:=
 match r with
 | .ok (.ret u)=>CE outer P w H s Q u s'
 | .ok _=>False
 | .error e=>CX outer H s E e s'
structure zV (P:Program) (w:World) (K:al) (mg:Str->Option Value) (base:Heap) (CX:CXT) (k:Nat) (f:Addr) (fd:FuncData) (ps:List Str) (sp:Sp):Prop where
 len:∀vs H Q E,sp vs H Q E->vs.length=ps.length
 run:∀(A:Around) (outer:List Env) (s:Shared) (H:Hp) (args:Args) (us:List Value) (vs:List V) (Q:VK) (E:XK),JU k A->GU P w K mg base A outer s H->BindsTo s fd args (ps.zip us)->Z1 vs us->sp vs H Q E->
  codeAny (model P w) A (.call (.ref f) args) (CR CX outer P w H s Q E) s
section
variable {X:Cx}{pins:List (Addr×Obj)}{σ:St}{H:Hp}{s s' :Shared}
theorem Inv.env0 (I:Inv X pins σ H s):GU X.prog X.w X.K X.mg X.base X.A X.stack s H:=
 ⟨I.ok.frames,I.ok.mod,I.bs,ap I.ok.bsz I.sz,I.stack,I.stkFree,I.hok,I.bare⟩
theorem Inv.after {Q:VK}{u:Value}(I:Inv X pins σ H s)(h:CE X.stack X.prog X.w H s Q u s'):EP X pins σ Q u s' :=by
 obtain⟨v,H',os,bare,un,hok,r,q⟩:=h;obtain⟨hh,g,d,t,os'⟩:=s';obtain rfl:os' =s.os:=os;exact⟨v,H',I.call (h' :=hh) (g' :=g) (d' :=d) (t' :=t) (ch:=[]) un hok bare (λb z=>absurd z (by simp)),r,q⟩
end
def z0Z (sp:Sp)(dvs:List V)(E:XK)(t:TA):TE:=λσ H Q=>t σ H λvs H1=>sp (vs++dvs) H1 Q E
def Binds (K:al)(fd:FuncData)(ps:List Str)(ds:List Value):Prop:=
 ∀(s:Shared) (us:List Value),K.In s.heap->(us++ds).length=ps.length->BindsTo s fd ⟨us,[]⟩ (ps.zip (us++ds))
theorem Binds.all {K:al}{fd:FuncData}{ps:List Str}(h:∀us:List Value,us.length=ps.length->bindArgs fd ⟨us,[]⟩=pure (ps.zip us)):Binds K fd ps []:=λs us _ hl=>by
 rw[cI]at hl ⊢;exact .of_eq (h us hl)
def wa (CX:CXT)(X:Cx)(E:XK):Prop:=∀(pins:List (Addr×Obj)) (σ:St) (H:Hp) (s:Shared) (e:Value) (s' :Shared),Inv X pins σ H s->CX X.stack H s E e s' ->X.xe e s'
section
variable {X:Cx}{CX:CXT}{k:Nat}{f C:Addr}{fd:FuncData}{ps:List Str}{sp:Sp}{dvs:List V}{ds:List Value}{E:XK}{x m:Str}{p pos apos:Pos}{e o:Expr}{es:List Expr}{ta:TE}{t:TA}
theorem kP {pins:List (Addr×Obj)}{σ:St}{H:Hp}{s:Shared}{Q:VK}{us:List Value}{vs:List V}(F:zV X.prog X.w X.K X.mg X.base CX k f fd ps sp)(hr:JU k X.A)(hb:Binds X.K fd ps ds)(hd:Z1 dvs ds)(hx:wa CX X E)
  (I:Inv X pins σ H s) (r:Z1 vs us) (h:sp (vs++dvs) H Q E):wpAny (model X.prog X.w) X.A (call (.ref f) us) (EP X pins σ Q) X.xe s:=by
 have r2:Z1 (vs++dvs) (us++ds):=r.append hd;have hl:(us++ds).length=ps.length:=by rw[← r2.length];exact F.len _ _ _ _ h
 refine wpAny_call (cj (F.run X.A X.stack s H ⟨us,[]⟩ (us++ds) (vs++dvs) Q E hr I.env0 (hb s us I.kIn hl) r2 h) λr s' hq=> ?_);cases r with
 | error e=>exact hx pins σ H s e s' I hq
 | ok fl=>
  cases fl with
  | ret u=>exact I.after hq
  | next=>exact cQ hq
  | brk=>exact cQ hq
  | cont=>exact cQ hq
theorem yI (F:zV X.prog X.w X.K X.mg X.base CX k f fd ps sp)(hr:JU k X.A)(hg:Gl X x)(hm:X.mg x=some (.ref f))(hk:cS X.K (.ref f)=true)(hb:Binds X.K fd ps ds)(hd:Z1 dvs ds)(hx:wa CX X E)
  (ha:PA X (e :: es) t) (hdb:(x == ("__debug__":Str))=false:=by decide) (he:starEach (e :: es) X.env=(false,eval e X.env) :: starEach es X.env:=by rfl) (hpl:(backTo pos (starEach es X.env)).any (·.1)=false:=by rfl):
  PE X (.Call (.Name x p) (e :: es) [] pos) (z0Z sp dvs E t):=by
 intro pins s σ H Q I h;refine bZ (yu I hg hm ?_ hdb);refine PySem.W.callWith_K (h₀:=X.base) I.ok.mod.kin hk (thn (ha pos pins s σ H _ I h) λus s1 ⟨vs,H1,I1,r,q⟩=>⟨I1.kIn, ?_⟩) he hpl;exact kP F hr hb hd hx I1 r q
end
def PK (X:Cx)(kws:List Keyword)(t:TA):Prop:=
 ∀(pos:Pos) (pins:List (Addr×Obj)) (s:Shared) (σ:St) (H:Hp) (Q:List V->Hp->Prop),Inv X pins σ H s->t σ H Q->wpAny (model X.prog X.w) X.A (evalAll ((backToKw pos (keywordEach kws X.env)).map (·.2))) (AP X pins σ Q) X.xe s
section
variable {X:Cx}{CX:CXT}{k:Nat}{f C:Addr}{fd:FuncData}{ps ks:List Str}{sp:Sp}{E:XK}{x m:Str}{p pos apos kpos:Pos}{e o:Expr}{es:List Expr}{kws:List Keyword}{te ta:TE}{t tk:TA}{nm:Option Str}
theorem kQ:PK X [] GT:=λ_ _ _ _ H Q I h=>wpAny_evalAll_nil ⟨[],H,I,.nil,h⟩
theorem VV (ha:PE X e te)(hr:PK X kws t):PK X (⟨nm,e,kpos⟩ :: kws) (kN te t):=by
 intro pos pins s σ H Q I h;show wpAny _ _ (evalAll ((do let v ← eval e X.env;standAt pos;pure v) :: (backToKw pos (keywordEach kws X.env)).map (·.2))) _ _ s
 refine wpAny_evalAll_cons (aa (thn (ha pins s σ H _ I h) λu s1 ⟨x,H1,I1,r1,q1⟩=>aa (wpAny_standAt (ai ?_))));exact thn (hr pos pins s1 σ H1 _ I1 q1) λus s2 ⟨xs,H2,I2,r2,q2⟩=>⟨x :: xs,H2,I2,.cons r1 r2,q2⟩
variable {g:List Value->List Value->List Value}{gV:List V->List V->List V}
end
structure zf (N P:List Str) (sc:Scope):Prop where
 kind:sc.kind= .function
 co:sc.isCoroutine=false
 gen:sc.isGenerator=false
 nd:N.Nodup
 pre:N.take P.length=P
 par:∀x∈P,sc.names.lookup x=some .local\/sc.names.lookup x=some .cell
 nofree:∀y∈sc.names,y.2 ≠ .free
theorem Wc {kindOf:Str->Option NameKind}{x:Str}:∀{binds:List (Str×Value)} {m:Str->Option Value},(∀v,(x,v) ∉ binds)->bindL kindOf binds m x=m x
 | [],_,_=>rfl
 | (n,v) :: r,m,h=>by
  unfold bindL;rw[Wc λw hw=>h w (ab _ hw)];split
  ·have:x ≠ n:=by rintro rfl;exact h v ae
   simp[this]
  ·rfl
theorem Wd {kindOf:Str->Option NameKind}{x:Str}:∀{binds:List (Str×Value)} {m:Str->Option Value},(∀v,(x,v) ∉ binds)->bindC kindOf binds m x=m x
 | [],_,_=>rfl
 | (n,v) :: r,m,h=>by
  unfold bindC;rw[Wd λw hw=>h w (ab _ hw)];split
  ·rfl
  ·have:x ≠ n:=by rintro rfl;exact h v ae
   simp[this]
theorem We {kindOf:Str->Option NameKind}{x:Str}{v:Value}:∀{P:List Str} {vs:List Value} {i:Nat} {m:Str->Option Value},P.Nodup->P[i]? =some x->vs[i]? =some v->kindOf x=some .local->
  bindL kindOf (P.zip vs) m x=some v
 | [],_,_,_,_,h,_,_=>by simp at h
 | _ :: _,[],_,_,_,_,h,_=>by simp at h
 | p :: P,w :: vs,0,m,nd,h1,h2,hk=>by
  simp at h1 h2;subst h1;subst h2;show bindL kindOf ((p,w) :: P.zip vs) m p=_;unfold bindL;rw[Wc λv hv=>(dI.mp nd).1 (bX hv).1,if_pos hk];simp
 | p :: P,w :: vs,i+1,m,nd,h1,h2,hk=>by
  show bindL kindOf ((p,w) :: P.zip vs) m x=_;unfold bindL;exact We (i:=i) (dI.mp nd).2 (by simpa using h1) (by simpa using h2) hk
theorem Wf {kindOf:Str->Option NameKind}{x:Str}{v:Value}:∀{P:List Str} {vs:List Value} {i:Nat} {m:Str->Option Value},P.Nodup->P[i]? =some x->vs[i]? =some v->kindOf x ≠ some .local->
  bindC kindOf (P.zip vs) m x=some v
 | [],_,_,_,_,h,_,_=>by simp at h
 | _ :: _,[],_,_,_,_,h,_=>by simp at h
 | p :: P,w :: vs,0,m,nd,h1,h2,hk=>by
  simp at h1 h2;subst h1;subst h2;show bindC kindOf ((p,w) :: P.zip vs) m p=_;unfold bindC;rw[Wd λv hv=>(dI.mp nd).1 (bX hv).1,if_neg hk];simp
 | p :: P,w :: vs,i+1,m,nd,h1,h2,hk=>by
  show bindC kindOf ((p,w) :: P.zip vs) m x=_;unfold bindC;exact Wf (i:=i) (dI.mp nd).2 (by simpa using h1) (by simpa using h2) hk
def start (N:List Str)(vs:List V):St:=vs.map some++ag (N.length - vs.length) none
def VW (CX:CXT)(P:Program)(w:World)(K:al)(mg:Str->Option Value)(base:Heap)(N:List Str)(qual:Str)(scope:Scope)(f:Addr)(cd:Value)(A:Around)(outer:List Env)(s:Shared)(H:Hp)(E:XK):Cx where
 prog:=P
 w:=w
 K:=K
 mg:=mg
 base:=base
 A:=A.deeper (envOfC qual scope s.heap.objs.size f cd)
 N:=N
 s₀:=s
 H₀:=H
 env:=envOfC qual scope s.heap.objs.size f cd
 outer:=outer
 stack:=envOfC qual scope s.heap.objs.size f cd :: outer
 ex:=[]
 calm:=true
 fn:=λ_=>true
 pn:=[]
 xe:=λe s' =>wpAny (model P w) (A.deeper (envOfC qual scope s.heap.objs.size f cd)) (leaving (envOfC qual scope s.heap.objs.size f cd) e) (λ_ s'' =>CX outer H s E e s'') (λe' s'' =>CX outer H s E e' s'') s'
theorem uK {sc:Scope}{n:Nat}{x:Str}(h:sc.names.lookup x=some .cell):∃c,(cellsFrom n sc.names []).lookup x=some c:=by
 have q:=fP sc.names n [] (.inl h);exact Option.isSome_iff_exists.mp q
theorem yJ {CX:CXT}{P:Program}{w:World}{K:al}{mg:Str->Option Value}{base:Heap}{N ps:List Str}{qual:Str}{scope:Scope}{f:Addr}{cd:Value}{A:Around}{outer:List Env}{s s1:Shared}{H:Hp}{E:XK}{us:List Value}{vs:List V}
  (S:zf N ps scope) (hd:A.handled=none) (e0:GU P w K mg base A outer s H) (hl:vs.length=ps.length) (r:Z1 vs us)
  (x:InCallC s s.heap.objs.size (bindL (envOfC qual scope s.heap.objs.size f cd).kindOf (ps.zip us) λ_=>none) (cellsFrom (s.heap.objs.size+1) scope.names []) (bindC (envOfC qual scope s.heap.objs.size f cd).kindOf (ps.zip us) λ_=>none) s1):
  Inv (VW CX P w K mg base N qual scope f cd A outer s H E) [] (start N vs) H s1:=by
 have hpl:ps.length<=N.length:=by have:=congrArg l5 S.pre;rw[cT]at this;omega
 obtain⟨h1,tk,rfl,hk⟩:=x.done;have noA:∀b:Addr,b ∉ (VW CX P w K mg base N qual scope f cd A outer s H E).ex:=λb z=>absurd (show b∈([]:List Addr) from z) (by simp)
 refine⟨⟨e0.mod,S.kind,rfl,rfl,am _,λy z c h1 h2=> ?_,λy hy=> ?_,λy c _ h=> ?_,λ_=>hd,Around.frames_deeper e0.frames,.inr ⟨rfl,rfl⟩,λb z=>absurd z (noA b),e0.bs,e0.bsz,λb _ _=>noA b,λb z=>absurd z (noA b),e0.funs,e0.frf⟩,
  rfl,e0.bare,Un.kept hk,⟨_,x.toInCall.ns,λi y v h1 h2 h3=> ?_⟩,λy c h=>⟨_,x.cell y c h⟩,e0.hok.fresh (am _),λy c h=> ?_,λp hp=>absurd (show p∈([]:List (Addr×Obj)) from hp) (by simp),e0.hok.kept hk, ?_⟩
 ·exact name_of_addr x.apart (cz h1) (cz h2)
 ·have hy:scope.names.lookup y=some .cell\/scope.names.lookup y=some .free:=hy;rcases hy with hy | hy
  ·exact uK hy
  ·exact absurd rfl (S.nofree _ (cz hy))
 ·exact eR (x.above y c (cz h))
 ·have hi:i < vs.length:=by
   unfold start at h2
   by_cases hi:i < vs.length
   ·exact hi
   ·rw[aY (by simpa using hi)]at h2
    rw[aZ]at h2;split at h2 <;> cases h2
  have ha:vs[i]? =some v:=by
   unfold start at h2;rw[b8 (by simpa using hi),ax]at h2
   cases e:vs[i]? with
   | none=>rw[e]at h2;cases h2
   | some a=>rw[e]at h2;cases h2;rfl
  obtain⟨u,hu,rv⟩:=r.get ha;have hp:ps[i]? =some y:=by
   rw[← S.pre,List.getElem?_take_of_lt (by omega)];exact h1
  have ndP:ps.Nodup:=by rw[← S.pre];exact S.nd.sublist (List.take_sublist _ _)
  refine⟨u,rv, ?_⟩;rcases S.par y (bz hp) with k | k
  ·exact .inl ⟨k,We ndP hp hu k⟩
  ·obtain⟨c,e⟩:=uK (n:=s.heap.objs.size+1) k;refine .inr ⟨.inl k,c,e, ?_⟩;have q:=x.cell y c e;rw[Wf ndP hp hu (by show scope.names.lookup y ≠ _;rw[k];decide)]at q
   exact q
 ·exact e0.hok.fresh (eR (x.above y c (cz h)))
 ·unfold start;show _=N.length;rw[aA,af,aW];omega
theorem z10 {CX:CXT}{P:Program}{w:World}{K:al}{mg:Str->Option Value}{base:Heap}{k:Nat}{f:Addr}{name qual:Str}{params:Arguments}{body:List Stmt}{scope:Scope}{dV kV doc pm cdv ct oc:Value}{an od:Option Addr}
  {osl:Array (Option Value)} {N ps:List Str} {sp:Sp} (lk:K.lookup f=some ⟨oc,od,.func (cB name qual params body scope dV kV doc pm an cdv ct),osl⟩) (hcd:eX K cdv qual=true) (S:zf N ps scope)
  (len:∀vs H Q E,sp vs H Q E->vs.length=ps.length)
  (hbody:∀(A:Around) (outer:List Env) (s:Shared) (H:Hp) (vs:List V) (Q:VK) (E:XK),JU k (A.deeper (envOfC qual scope s.heap.objs.size f cdv))->sp vs H Q E->
   ∃t,PSs (VW CX P w K mg base N qual scope f cdv A outer s H E) body t/\t { nx:=λ_ H' =>Q .non H',rt:=Q } (start N vs) H):
  zV P w K mg base CX (k+1) f (cB name qual params body scope dV kV doc pm an cdv ct) ps sp:=by
 refine⟨len,λA outer s H args us vs Q E hr e0 hb r hsp=> ?_⟩;have hl:=len _ _ _ _ hsp;have KX:K.In s.heap:=e0.mod.kin.keeps λb o e=>(e0.bs b o e).1;have lim:s.heap.NoLimit:=e0.mod.nolimit.keeps λb o e=>(e0.bs b o e).1;have hkind:∀y∈ps.zip us,scope.names.lookup y.1=some .local\/(scope.names.lookup y.1=some .cell/\((cellsFrom (s.heap.objs.size+1) scope.names []).lookup y.1).isSome=true):=λ⟨n,v⟩ hy=>by
  rcases S.par n (bX hy).1 with q | q
  ·exact .inl q
  ·exact .inr ⟨q,fP _ _ _ (.inl q)⟩
 refine codeAny_call_function hr.depth (KX _ _ lk) rfl S.co S.gen rfl (PySem.W.codeRec_of KX hcd) (hb _ _ _ _ ?_);refine wpAny_newFunctionEnv_cells S.kind hkind λenv he s1 x=> ?_;subst he;refine⟨lim.keeps x.toInCall.keep,codeAny_func ?_⟩;obtain⟨t,ht,hq⟩:=hbody A outer s H vs Q E (hr.deeper _) hsp;have I:Inv (VW CX P w K mg base N qual scope f cdv A outer s H E) [] (start N vs) H s1:=yJ S hr.hd e0 hl r x;refine de (ht [] s1 (start N vs) H _ I hq) (λfl s' hs=> ?_) λe s' hs=>hs;have fin:∀{σ' :St} {H' :Hp} {v:V} {u:Value},Inv (VW CX P w K mg base N qual scope f cdv A outer s H E) [] σ' H' s' ->Zf v u->Q v H' ->CE outer P w H s Q u s' :=
  λ{σ' H' v u} J rv q=>⟨v,H',J.os,J.bare,J.base,J.hok,rv,q⟩
 cases fl with
 | ret u=>
  obtain⟨v,σ',H',J,rv,q⟩:=hs;exact fin J rv q
 | next=>
  obtain⟨σ',H',J,q⟩:=hs;exact fin (v:=V.non) (u:=Value.none) J rfl q
 | brk=>
  obtain⟨_,_,_,q⟩:=hs;exact cQ q
 | cont=>
  obtain⟨_,_,_,q⟩:=hs;exact cQ q
end L2
namespace L2
open PySem PySem.Spec PyProof.Rows
section
variable {X:Cx}{x:Str}{p pos:Pos}{e:Expr}{es:List Expr}{t:TA}{id T:String}{r:List V->Hp->VK->Prop}
def tCB (r:List V->Hp->VK->Prop)(t:TA):TE:=λσ H Q=>t σ H λvs H1=>r vs H1 Q
theorem ZW (hc:Zq X (.builtin id) r)(hg:Gl X x)(hm:X.mg x=none)(hv:bootBuiltins x=some (.builtin id))(ha:PA X (e :: es) t)(hn:x ≠ "__name__":=by decide)(hdb:(x == ("__debug__":Str))=false:=by decide)
  (he:starEach (e :: es) X.env=(false,eval e X.env) :: starEach es X.env:=by rfl) (hpl:(backTo pos (starEach es X.env)).any (·.1)=false:=by rfl):PE X (.Call (.Name x p) (e :: es) [] pos) (tCB r t):=by
 intro pins s σ H Q I h;refine bZ (ZS I hg hm hv ?_ hn hdb);exact PyProof.Rows.callWith_builtin1 (thn (ha pos pins s σ H _ I h) λus s1 ⟨vs,H1,I1,r1,q1⟩=>hc pins s1 σ H1 vs us Q I1 r1 q1) he hpl
theorem ZT (hc:Zq X (.type T) r)(hg:Gl X x)(hm:X.mg x=none)(hv:bootBuiltins x=some (.type T))(ha:PA X (e :: es) t)(hn:x ≠ "__name__":=by decide)(hdb:(x == ("__debug__":Str))=false:=by decide)
  (he:starEach (e :: es) X.env=(false,eval e X.env) :: starEach es X.env:=by rfl) (hpl:(backTo pos (starEach es X.env)).any (·.1)=false:=by rfl):PE X (.Call (.Name x p) (e :: es) [] pos) (tCB r t):=by
 intro pins s σ H Q I h;refine bZ (ZS I hg hm hv ?_ hn hdb);exact aN (thn (ha pos pins s σ H _ I h) λus s1 ⟨vs,H1,I1,r1,q1⟩=>hc pins s1 σ H1 vs us Q I1 r1 q1) he hpl
end
end L2
namespace HT
open PySem PyProof.Rows
section
open PySem.SeqAt
open PySem.AutoSeq1 (wpAny_loadPart')
open PySem.MeetsSeq PySem.MeetsSeq2 PySem.MeetsSeq3
end
section
variable {prog:Program}{w:World}{A:Around}{E:Value->Shared->Prop}{s:Shared}
theorem cat_tup {t b:Addr}{vs ws:List Value}{Q:Value->Shared->Prop}(ht:IsTup s.heap t vs.toArray)(hb:IsTup s.heap b ws.toArray)(hv:vs ≠ [])
  (h1:ws=[]->Q (.ref t) s) (h2:ws ≠ []->Q (.ref s.heap.objs.size) { s with heap:=s.heap.push { cls:= .type "tuple",data:= .seq (vs++ws).toArray } })
  (hsz:vs.length+ws.length<=sizeLine):wpAny (model prog w) A (binaryOp .Add (.ref t) (.ref b)) Q E s:=by
 obtain⟨⟨cls,dd,data,sl⟩,ho,hc,n,hd⟩:=id ht;obtain⟨⟨cls2,dd2,data2,sl2⟩,ho2,hc2,n2,hd2⟩:=id hb;simp only at hc hd hc2 hd2;subst hc hd hc2 hd2;have e:vs.toArray++ws.toArray=(vs++ws).toArray:=by simp
 by_cases hw:ws=[]
 ·exact concat_meets ⟨_,ho,rfl⟩ ⟨_,ho2,rfl⟩ noFill_tuple_add seq_tuple_add dR dN (dF _ _)
   (tuple_addW1 t b vs.toArray ws.toArray n n2 dd dd2 sl sl2 (by simpa using hv) (by simp[hw])) ⟨ho,ho2,h1 hw⟩
 ·refine concat_meets ⟨_,ho,rfl⟩ ⟨_,ho2,rfl⟩ noFill_tuple_add seq_tuple_add dR dN (dF _ _)
   (tuple_addW2 t b vs.toArray ws.toArray n n2 dd dd2 sl sl2 (by simpa using hv) (by simpa using hw) (by rw[az,az];exact hsz)) ⟨ho,ho2, ?_⟩
  rw[e];exact h2 hw
def sIx (n d:Nat):Option Int->Nat
 | none=>d
 | some v=>if v < 0 then (v+(n:Int)).toNat else min v.toNat n
end
end HT
namespace L2
open PySem PySem.Spec PyProof.Rows
section
variable {X:Cx}{e:Expr}{te:TE}{lo hi:Option Expr}{tl th:TO}{pos p2:Pos}
def SlR (X:Cx)(r:V->Option Int->Option Int->Hp->VK->Prop):Prop:=
 ∀(pins:List (Addr×Obj)) (s:Shared) (σ:St) (H:Hp) (x:V) (v vl vu:Value) (lo hi:Option Int) (sl:Addr) (Q:VK),Inv X pins σ H s->Zf x v->s.heap.IsSliceOf sl vl vu .none->IsPart vl lo->IsPart vu hi->r x lo hi H Q->
  ∃T id,typeLookup (.type T) "__getitem__"=pure (some (.builtin id))/\s.TypeIs v T/\wpAny (model X.prog X.w) X.A (getItem v (.ref sl)) (EP X pins σ Q) X.xe s
def GV (xs:List V)(lo hi:Option Int):List V:=(xs.drop (HT.sIx xs.length 0 lo)).take (HT.sIx xs.length xs.length hi - HT.sIx xs.length 0 lo)
theorem u6 (xs:List V)(lo hi:Option Int):(GV xs lo hi).length<=xs.length:=by
 unfold GV;rw[cT,List.length_drop];omega
def z11 (K:al):R2:=λx y H Q=>∃a b xs ys,x= .ref a/\y= .ref b/\SqT K H a xs/\SqT K H b ys/\xs ≠ []/\xs.length+ys.length<=sizeLine/\
 (ys=[]->Q (.ref a) H)/\(ys ≠ []->∀p,H p=none->Q (.ref p) (upd H p (.tup (xs++ys))))
theorem Z1.nil_iff {xs:List V}{us:List Value}(r:Z1 xs us):us=[]↔xs=[]:=by
 cases r with
 | nil=>simp
 | cons _ _=>simp
theorem VX:OpR X (binaryOp .Add) (z11 X.K):=by
 intro pins s σ H x y v u Q I rx ry h;obtain⟨a,b,xs,ys,rfl,rfl,ha,hb,hx,hz,q1,q2⟩:=h;cases rx;cases ry;obtain⟨its,r1,p1,_⟩:=I.tuple ha;obtain⟨its2,r2,p2,_⟩:=I.tuple hb;refine HT.cat_tup p1 p2 (λz=>hx (r1.nil_iff.mp z)) (λz=>⟨.ref a,H,I,rfl,q1 (r2.nil_iff.mp z)⟩) (λz=> ?_) (by rw[← r1.length,← r2.length];exact hz)
 refine⟨.ref s.heap.objs.size,_,I.laid (t' :=s.toks) (o:= .tup (xs++ys)) (λb ob q=>ad _ q) (am _) ?_,rfl,q2 (λw=>z (r2.nil_iff.mpr w)) _ (I.hok.fresh (am _))⟩;exact⟨by rw[aA];exact hz,_,r1.append r2,ITN.new _ _⟩
end
end L2
namespace L2
open PySem PySem.Spec PyProof.Rows
def ixN (n:Nat)(i:Int):Option Nat:=if 0<=i then (if i < n then some i.toNat else none) else if -(n:Int)<=i then some (i+n).toNat else none
def atI {α:Type}(xs:List α)(i:Int):Option α:=(ixN xs.length i).bind λj=>xs[j]?
theorem VY {n:Nat}{i:Int}{j:Nat}(h:ixN n i=some j):seqIndex? i n=some j/\j < n/\ -(n:Int)<=i/\i < n:=by
 unfold ixN at h
 by_cases h0:0<=i
 ·rw[if_pos h0]at h
  by_cases h1:i < n
  ·rw[if_pos h1]at h;have e:i.toNat=j:=b6 h;exact⟨by rw[seqIndex_of h0 h1,e],by omega,by omega,h1⟩
  ·rw[if_neg h1]at h;cases h
 ·rw[if_neg h0]at h
  by_cases h1: -(n:Int)<=i
  ·rw[if_pos h1]at h;have e:(i+n).toNat=j:=b6 h;exact⟨by rw[seqIndex_neg (by omega) h1,e],by omega,h1,by omega⟩
  ·rw[if_neg h1]at h;cases h
theorem u7 {α:Type}{xs:List α}{i:Int}{v:α}(h:atI xs i=some v):∃j,seqIndex? i xs.length=some j/\xs[j]? =some v/\j < xs.length/\ -(xs.length:Int)<=i/\i < xs.length:=by
 unfold atI at h;cases e:ixN xs.length i with
 | none=>rw[e]at h;cases h
 | some j=>
  rw[e]at h;obtain⟨h1,h2,h3,h4⟩:=VY e;exact⟨j,h1,h,h2,h3,h4⟩
theorem jp {α:Type}{xs:List α}{j:Nat}{v:α}(h:xs[j]? =some v):atI xs (j:Int)=some v:=by
 have hj:j < xs.length:=(au.mp h).1;have e:ixN xs.length (j:Int)=some j:=by
  unfold ixN;rw[if_pos (by omega),if_pos (by omega)];simp
 unfold atI;rw[e];exact h
def yK (b:Expr):Prop:=∀o i,subscripted b false o i=operate [o,i] (getItem o i)
def IxR (X:Cx)(r:R2):Prop:=
 ∀(value slice:Expr) (pins:List (Addr×Obj)) (s:Shared) (σ:St) (H:Hp) (x y:V) (v u:Value) (Q:VK),Inv X pins σ H s->Zf x v->Zf y u->r x y H Q->
  subscripted slice false v u=operate [v,u] (getItem v u)->wpAny (model X.prog X.w) X.A (subscriptTail value slice v u) (EP X pins σ Q) X.xe s
def MtR (X:Cx)(id:String)(r:V->List V->Hp->VK->Prop):Prop:=
 ∀(pins:List (Addr×Obj)) (s:Shared) (σ:St) (H:Hp) (x:V) (xs:List V) (v:Value) (us:List Value) (Q:VK),Inv X pins σ H s->Zf x v->Z1 xs us->r x xs H Q->
  wpAny (model X.prog X.w) X.A (call (.builtin id) (v :: us)) (EP X pins σ Q) X.xe s
section
variable {X:Cx}{a b:Expr}{ta tb:TE}{pos:Pos}
theorem IxR.or {r r' :R2}(h:IxR X r)(h' :IxR X r'):IxR X (λx y H Q=>r x y H Q\/r' x y H Q):=by
 intro value slice pins s σ H x y v u Q I rx ry q hs;rcases q with q | q
 ·exact h value slice pins s σ H x y v u Q I rx ry q hs
 ·exact h' value slice pins s σ H x y v u Q I rx ry q hs
theorem kR {r:R2}(hr:IxR X r)(ha:PE X a ta)(hb:PE X b tb)(hs:yK b):PE X (.Subscript a b pos) (tOp r ta tb):=by
 intro pins s σ H Q I h;exact Subscript_ (z0S ha hb I h λv u s2 x y H2 I2 rx ry q=>hr a b pins s2 σ H2 x y v u Q I2 rx ry q (hs _ _))
def rIxL (K:al):R2:=λx y H Q=>∃p xs i v,x= .ref p/\y= .int i/\SqL K H p xs/\atI xs i=some v/\Q v H
def rIxT (K:al):R2:=λx y H Q=>∃p xs i v,x= .ref p/\y= .int i/\SqT K H p xs/\atI xs i=some v/\Q v H
def rIxS:R2:=λx y H Q=>∃z i c,x= .str z/\y= .int i/\z.length<=sizeLine/\atI z.cps.toList i=some c/\Q (.str ⟨#[c]⟩) H
theorem VZ:IxR X (rIxL X.K):=by
 intro value slice pins s σ H x y v u Q I rx ry h hs;obtain⟨p,xs,i,z,rfl,rfl,hq,he,q⟩:=h;cases rx;obtain⟨t,rfl⟩:=ry;obtain⟨its,r,pl,hz⟩:=I.list hq;obtain⟨j,h1,h2,h3,h4,h5⟩:=u7 he;obtain⟨w,ew,rw'⟩:=r.get h2;have hl:=r.length;have hn:=w9;have fin:EP X pins σ Q w s:=⟨z,H,I,rw',q⟩
 by_cases h0:0<=i
 ·have hj:i.toNat=j:=by
   rw[seqIndex_of h0 h5]at h1;exact b6 h1
  exact item_listR pl.isList h0 (by omega) (by rw[hj];simpa using ew) fin hs
 ·have hj:(i+(its.toArray.size:Int)).toNat=j:=by
   rw[seqIndex_neg (by omega) h4]at h1
   rw[az,← hl];exact b6 h1
  exact subscriptTail_builtinR (x:=w) pl.isList.typeIs slot_list_getitem.lookup
   (wpAny_getItem_list_neg (Q:=λr s' =>r=w/\EP X pins σ Q r s') pl.isList (by omega) (by rw[az] <;> omega) (by omega) (by rw[hj];simpa using ew) ⟨rfl,fin⟩) hs
theorem kS:IxR X (rIxT X.K):=by
 intro value slice pins s σ H x y v u Q I rx ry h hs;obtain⟨p,xs,i,z,rfl,rfl,hq,he,q⟩:=h;cases rx;obtain⟨t,rfl⟩:=ry;obtain⟨its,r,pl,hz⟩:=I.tuple hq;obtain⟨j,h1,h2,h3,h4,h5⟩:=u7 he;obtain⟨w,ew,rw'⟩:=r.get h2;have hl:=r.length;have hn:=w9;have fin:EP X pins σ Q w s:=⟨z,H,I,rw',q⟩;exact subscriptTail_builtinR (x:=w) pl.typeIs slot_tuple_getitem.lookup
  (getItem_tuple (j:=j) (Q:=λr s' =>r=w/\EP X pins σ Q r s') pl (by omega) (by omega) (by rw[az,← hl];exact h1) (by simpa using ew) ⟨rfl,fin⟩) hs
theorem kT:IxR X rIxS:=by
 intro value slice pins s σ H x y v u Q I rx ry h hs;obtain⟨z,i,c,rfl,rfl,hz,he,q⟩:=h;obtain⟨t,rfl⟩:=rx;obtain⟨t',rfl⟩:=ry;obtain⟨j,h1,h2,h3,h4,h5⟩:=u7 he;have hl:z.cps.toList.length=z.length:=by simp[Str.length]
 rw[hl]at h1 h4 h5;have hn:=w9;exact tail_any (typeIs_str s z t) slot_str_getitem.lookup (getItem_str (c:=c) (by
  have e1:decide (i < -(2 ^ 63:Int))=false:=decide_eq_false (by omega)
  have e2:decide (i ≥ 2 ^ 63)=false:=decide_eq_false (by omega)
  rw[e1,e2,Bool.or_false]) (by rw[h1];simpa using h2) ⟨.str ⟨#[c]⟩,H,I.tok _,⟨_,rfl⟩,q⟩) hs
def rIx (K:al):R2:=λx y H Q=>rIxL K x y H Q\/rIxT K x y H Q\/rIxS x y H Q
theorem kU:IxR X (rIx X.K):=VZ.or (kS.or kT)
theorem Wg (lo hi:Option Int)(n:Nat):(sliceBounds lo hi none n).1=((HT.sIx n 0 lo:Nat):Int)/\(sliceBounds lo hi none n).2.1=((HT.sIx n n hi:Nat):Int)/\(sliceBounds lo hi none n).2.2=1:=by
 refine⟨?_, ?_,rfl⟩
 ·cases lo with
  | none=>simp[sliceBounds,HT.sIx]
  | some i=>
   simp only[sliceBounds,HT.sIx,iS,show (1:Int) > 0 by decide,if_true]
   by_cases h:i < 0
   ·simp only[h,if_true] <;> omega
   ·simp only[h,if_false] <;> omega
 ·cases hi with
  | none=>simp[sliceBounds,HT.sIx]
  | some i=>
   simp only[sliceBounds,HT.sIx,iS,show (1:Int) > 0 by decide,if_true]
   by_cases h:i < 0
   ·simp only[h,if_true] <;> omega
   ·simp only[h,if_false] <;> omega
theorem ww (its:List Value)(lo hi:Option Int):slicePick its.toArray lo hi none=((its.drop (HT.sIx its.length 0 lo)).take (HT.sIx its.length its.length hi - HT.sIx its.length 0 lo)).toArray:=by
 obtain⟨h1,h2,h3⟩:=Wg lo hi its.toArray.size;unfold slicePick;rw[h1,h2,h3];simp only[sliceRange_one,pick_run,az] <;> rfl
def rSlL (K:al):V->Option Int->Option Int->Hp->VK->Prop:=λx lo hi H Q=>∃a xs,x= .ref a/\SqL K H a xs/\∀p,H p=none->Q (.ref p) (upd H p (.lst (GV xs lo hi)))
theorem z12:SlR X (rSlL X.K):=by
 intro pins s σ H x v vl vu lo hi sl Q I rx hs pl pu h;obtain⟨a,xs,rfl,hx,q⟩:=h;cases rx;obtain⟨its,r,ht,hz⟩:=I.list hx;have hlen:=r.length;refine⟨"list",_,slot_list_getitem.lookup,ht.isList.typeIs, ?_⟩;refine wpAny_getItem_list_slice ht.isList hs pl pu .none (by simp) ?_ (by rw[az] <;> omega)
 rw[ww,← hlen];refine⟨.ref s.heap.objs.size,_,I.laid (t' :=s.toks) (o:= .lst (GV xs lo hi)) (λb ob q=>ad _ q) (am _) ?_,rfl,q _ (I.hok.fresh (am _))⟩;exact⟨ap (u6 xs lo hi) hz,_,0,(r.drop (HT.sIx xs.length 0 lo)).take (HT.sIx xs.length xs.length hi - HT.sIx xs.length 0 lo),ah _ rfl⟩
theorem Wh:Zq X (.builtin "len") (λxs H Q=>∃p ys,xs=[.ref p]/\(SqL X.K H p ys\/SqT X.K H p ys)/\Q (.int ys.length) H):=by
 intro pins s σ H xs us Q I r h;obtain⟨p,ys,rfl,hq,q⟩:=h;obtain⟨u,rfl,rx⟩:=ZI r;cases rx;have hn:=w9;rcases hq with hq | hq
 ·obtain⟨its,r',pl,hz⟩:=I.list hq;have hlen:=r'.length;exact Calls.call_len_list pl.isList (by simp only[az] <;> omega) ⟨.int ys.length,H,I.tok _,⟨s.toks+1,by rw[az,hlen]⟩,q⟩
 ·obtain⟨its,r',pl,hz⟩:=I.tuple hq;have hlen:=r'.length;exact len_tuple pl (by simp only[az] <;> omega) ⟨.int ys.length,H,I.tok _,⟨s.toks+1,by rw[az,hlen]⟩,q⟩
theorem Wi:Zq X (.builtin "len") (λxs H Q=>∃z,xs=[.str z]/\z.length<=sizeLine/\Q (.int z.length) H):=by
 intro pins s σ H xs us Q I r h;obtain⟨z,rfl,hz,q⟩:=h;obtain⟨u,rfl,t,rfl⟩:=ZI r;have hn:=w9;exact len_str (by omega) ⟨.int z.length,H,I.tok _,⟨_,rfl⟩,q⟩
theorem Zq.or {f:Value}{r r' :List V->Hp->VK->Prop}(h:Zq X f r)(h' :Zq X f r'):Zq X f (λxs H Q=>r xs H Q\/r' xs H Q):=by
 intro pins s σ H xs us Q I rs q;rcases q with q | q
 ·exact h pins s σ H xs us Q I rs q
 ·exact h' pins s σ H xs us Q I rs q
theorem wx:Zq X (.type "tuple") (λxs H Q=>∃p ys,xs=[.ref p]/\((SqL X.K H p ys/\∀l,H l=none->Q (.ref l) (upd H l (.tup ys)))\/(SqT X.K H p ys/\Q (.ref p) H))):=by
 intro pins s σ H xs us Q I r h;obtain⟨p,ys,rfl,h⟩:=h;obtain⟨u,rfl,rx⟩:=ZI r;cases rx;rcases h with ⟨hq,q⟩ | ⟨hq,q⟩
 ·obtain⟨its,r',pl,hz⟩:=I.list hq;have hlen:=r'.length;refine call_tuple_list pl.isList (λh' kp=> ?_) (by simp only[az] <;> omega)
  have I1:Inv X pins σ H { s with heap:=h' }:=I.kept (t' :=s.toks) kp;have I2:Inv X pins σ (upd H h'.objs.size (.tup ys)) { s with heap:=h'.push { cls:= .type "tuple",data:= .seq its.toArray } }:=
   I1.laid (t' :=s.toks) (λb o e=>ad _ e) (am _) (show Z7 X.prog X.w _ _ _ (.tup ys) from ⟨hz,its,r',ITN.new _ _⟩)
  exact⟨.ref h'.objs.size,_,I2,rfl,q _ (I1.hok.fresh (am _))⟩
 ·obtain⟨its,r',pl,hz⟩:=I.tuple hq;exact call_tuple_same pl ⟨.ref p,H,I,rfl,q⟩
def tyV (K:al)(T:String)(x:V)(H:Hp):Prop:=match x with
 | .str _=>T="str"
 | .int _=>T="int"
 | .ref p=>(T="list"/\∃xs,SqL K H p xs)\/(T="tuple"/\∃o,K.lookup p=some o/\o.cls= .type "tuple"/\o.dict=none)\/
   (T="dict"/\((∃kvs,H p=some (.dK kvs))\/∃kvs,H p=some (.dT kvs)))\/(T="set"/\∃S n,H p=some (.set S n))
 | _=>False
theorem vU {pins:List (Addr×Obj)}{σ:St}{H:Hp}{s:Shared}{T:String}{x:V}{v:Value}(I:Inv X pins σ H s)(r:Zf x v)(ty:tyV X.K T x H):
  s.TypeIs v T/\∀a,v= .ref a->∃ob,s.heap.get? a=some ob/\ob.dict=none:=by
 cases x with
 | str z=>
  obtain⟨t,rfl⟩:=r;cases (show T="str" from ty);exact⟨typeIs_str s z t,λ_ e=>nomatch e⟩
 | int i=>
  obtain⟨t,rfl⟩:=r;cases (show T="int" from ty);exact⟨eh s i t,λ_ e=>nomatch e⟩
 | ref p=>
  cases r;rcases ty with ⟨rfl,xs,hq⟩ | ⟨rfl,o,hk,hc,hd⟩ | ⟨rfl,hk⟩ | ⟨rfl,S,n,hk⟩
  ·obtain⟨its,_,pl,_⟩:=I.list hq;refine⟨pl.isList.typeIs,λa e=> ?_⟩;cases e;obtain⟨o,n,e,c,hd,_⟩:=pl;exact⟨o,e,hd⟩
  ·refine⟨⟨o,I.kIn p o hk,hc⟩,λa e=> ?_⟩;cases e;exact⟨o,I.kIn _ o hk,hd⟩
  ·have z:∃o,s.heap.get? p=some o/\o.ExactDict:=by
    rcases hk with ⟨kvs,hk⟩ | ⟨kvs,hk⟩
    ·obtain⟨_,_,_,_,o,_,_,e,ex,_⟩:=I.hok p _ hk;exact⟨o,e,ex⟩
    ·obtain⟨_,_,_,_,o,_,_,e,ex,_⟩:=I.hok p _ hk;exact⟨o,e,ex⟩
   obtain⟨o,e,ex⟩:=z;refine⟨⟨o,e,ex.1⟩,λa e2=> ?_⟩;cases e2;exact⟨o,e,ex.2.1⟩
  ·obtain⟨o,_,_,_,e,ex,_⟩:=I.hok p _ hk;refine⟨⟨o,e,ex.1⟩,λa e2=> ?_⟩;cases e2;exact⟨o,e,ex.2.1⟩
 | _=>exact cQ ty
def tBM0 (K:al)(T:String)(r:V->List V->Hp->VK->Prop)(to:TE):TE:=λσ H Q=>to σ H λx H1=>tyV K T x H1/\r x [] H1 Q
def tBM (K:al)(T:String)(r:V->List V->Hp->VK->Prop)(to:TE)(t:TA):TE:=λσ H Q=>to σ H λx H1=>tyV K T x H1/\t σ H1 λxs H2=>r x xs H2 Q
variable {o e:Expr}{es:List Expr}{to:TE}{t:TA}{name:Str}{apos cpos:Pos}{T id:String}{r:V->List V->Hp->VK->Prop}
theorem kW (pa:PlainAttrs T)(slot:Slot T name id)(hty:typeOf (.builtin id)=pure (.type "method_descriptor"))(hm:MtR X id r)(ho:PE X o to)
  (hbase:attributeBase o name X.env (eval o X.env)=eval o X.env:=by rfl) (hline:(apos.endLine == cpos.line)=true:=by rfl):PE X (.Call (.Attribute o name apos) [] [] cpos) (tBM0 X.K T r to):=by
 intro pins s σ H Q I h;refine wpAny_Call_method0_late hbase hline (thn (ho pins s σ H _ I h) λv s1 ⟨x,H1,I1,r1,ty,q1⟩=> ?_);obtain⟨h1,h2⟩:=vU I1 r1 ty;exact⟨T,id,pa,slot,hty,h1,h2,fQ rfl (PySem.evalArgs_none (hm pins s1 σ H1 x [] v [] Q I1 r1 .nil q1))⟩
theorem x6 (pa:PlainAttrs T)(slot:Slot T name id)(hty:typeOf (.builtin id)=pure (.type "method_descriptor"))(hm:MtR X id r)(ho:PE X o to)(ha:PA X (e :: es) t)
  (hbase:attributeBase o name X.env (eval o X.env)=eval o X.env:=by rfl)
  (hfew:((backTo cpos (starEach (e :: es) X.env)).all (λx=> !x.1) && (backToKw cpos (keywordEach [] X.env)).all (λx=>x.1.isSome)
   && decide ((e :: es).length+([]:List Keyword).length+(if ([]:List Keyword).isEmpty then 0 else 1) < 30))=true:=by rfl)
  (hline:(apos.endLine == cpos.line)=true:=by rfl) (hs:starEach (e :: es) X.env=(false,eval e X.env) :: starEach es X.env:=by rfl) (hplain:(backTo cpos (starEach es X.env)).any (·.1)=false:=by rfl):
  PE X (.Call (.Attribute o name apos) (e :: es) [] cpos) (tBM X.K T r to t):=by
 intro pins s σ H Q I h;refine wpAny_Call_method_late hbase hfew hline rfl (thn (ho pins s σ H _ I h) λv s1 ⟨x,H1,I1,r1,ty,q1⟩=> ?_);obtain⟨h1,h2⟩:=vU I1 r1 ty;refine⟨T,id,pa,slot,hty,h1,h2, ?_⟩;have hA:=ha cpos pins s1 σ H1 _ I1 q1;rw[hs]at hA ⊢;refine fQ (by show (false || (backTo cpos (starEach es X.env)).any (·.1))=false;rw[hplain] <;> rfl) (Calls.evalArgs_plain ?_)
 exact thn hA λus s2 ⟨vs,H2,I2,r2,q2⟩=>hm pins s2 σ H2 x vs v us Q I2 r1 r2 q2
end
end L2
namespace L2
open PySem PySem.Spec PyProof.Rows
def MtM (X:Cx)(id:String)(r:V->List V->Hp->VK->Prop):Prop:=
 ∀(pins:List (Addr×Obj)) (s:Shared) (σ:St) (H:Hp) (x:V) (xs:List V) (v:Value) (us:List Value) (Q:VK),Inv X pins σ H s->Zf x v->Z1 xs us->r x xs H Q->
  wpAny (model X.prog X.w) X.A (call (.builtin id) (v :: us)) (EP X pins σ Q) X.xe s
theorem Z1.one:∀{x:V} {us:List Value},Z1 [x] us->∃u,us=[u]/\Zf x u
 | _,_,.cons r .nil=>⟨_,rfl,r⟩
theorem Z1.rep {xs:List V}{us:List Value}(h:Z1 xs us):∀k:Nat,Z1 (ag k xs).flatten (ag k us).flatten
 | 0=> .nil
 | k+1=>by
  rw[aU,aU,cq,cq];exact Z1.append h (Z1.rep h k)
theorem jy (its:List Value):∀(k:Nat) (acc:List Value),
  eA (λx1 x2=>x1++x2) acc.toArray (ag k its.toArray)=(acc++(ag k its).flatten).toArray
 | 0,acc=>by simp
 | k+1,acc=>by
  have e:acc.toArray++its.toArray=(acc++its).toArray:=by simp
  have e2:(acc++its)++(ag k its).flatten=acc++(ag (k+1) its).flatten:=by
   rw[aU,cq,bS]
  rw[← e2,← jy its k (acc++its),← e,aU,List.foldl_cons]
section
variable {X:Cx}{pins:List (Addr×Obj)}{σ:St}{H:Hp}{s:Shared}{l b:Addr}{xs ys zs:List V}
theorem Inv.lset {its its' :List Value}{n:Nat}{f:Array Value->Array Value}{t' :Nat}(I:Inv X pins σ H s)(hH:H l=some (.lst xs))
  (e:s.heap.get? l=some { cls:= .type "list",data:= .seq its.toArray n }) (hf:f its.toArray=its'.toArray) (hv:Z1 ys its') (hz:ys.length<=sizeLine):
  Inv X pins σ (upd H l (.lst ys)) { s with heap:=s.heap.update l (eY f),toks:=t' }:=by
 have q:=PySem.IsL.update e f;rw[hf]at q;refine I.write (x:=l) (e:=l) (by rw[hH];exact trivial) (.inl rfl) (λb' u hb hu=>(aP s.heap (eY f) (bq hb)).trans hu) ⟨_,q⟩ ?_
 exact⟨hz,its',_,hv,q⟩
theorem Inv.lnew {its:List Value}{t' :Nat}(I:Inv X pins σ H s)(hv:Z1 ys its)(hz:ys.length<=sizeLine):
  Inv X pins σ (upd H s.heap.objs.size (.lst ys)) { s with heap:=s.heap.push { cls:= .type "list",data:= .seq its.toArray },toks:=t' }:=
 I.laid (λ_ _ q=>ad _ q) (am _) ⟨hz,its,0,hv,ah _ rfl⟩
theorem Inv.fresh (I:Inv X pins σ H s):H s.heap.objs.size=none:=I.hok.fresh (am _)
theorem Inv.lstM (I:Inv X pins σ H s)(hH:H l=some (.lst xs)):xs.length<=sizeLine/\∃(its:List Value) (n:Nat),Z1 xs its/\xs.length=its.length/\s.heap.get? l=some { cls:= .type "list",data:= .seq its.toArray n }:=by
 obtain⟨z,its,n,r,e⟩:=I.hok l _ hH;exact⟨z,its,n,r,r.length,e⟩
theorem uL {n:Nat}(h:n<=sizeLine):bU n=false:=by
 unfold bU;exact decide_eq_false (by omega)
end
section
variable {X:Cx}
def x8:V->List V->Hp->VK->Prop:=λx vs H Q=>∃l xs y,x= .ref l/\vs=[y]/\H l=some (.lst xs)/\xs.length < sizeLine/\Q .non (upd H l (.lst (xs++[y])))
theorem Wj:MtM X "list.append" x8:=by
 intro pins s σ H x vs v us Q I rx rv h;obtain⟨l,xs,y,rfl,rfl,hH,hz,q⟩:=h;cases rx;obtain⟨u,rfl,ru⟩:=rv.one;obtain⟨z,its,n,r,hl,e⟩:=I.lstM hH;refine dL F.slot_list_append ⟨_,e,rfl⟩ F.entry_list_append (F.args_list_append_2 _ _) (PySem.list_append l its.toArray n u (by rw[az];omega)) ⟨e, ?_⟩
 refine⟨.non,_,I.lset (its' :=its++[u]) hH e (by simp) (r.append (.cons ru .nil)) ?_,rfl,q⟩
 rw[aA,aG];omega
def x9:V->List V->Hp->VK->Prop:=λx vs H Q=>∃l b xs zs,x= .ref l/\vs=[.ref b]/\H l=some (.lst xs)/\H b=some (.lst zs)/\xs.length+zs.length<=sizeLine/\Q .non (upd H l (.lst (xs++zs)))
theorem yL:MtM X "list.extend" x9:=by
 intro pins s σ H x vs v us Q I rx rv h;obtain⟨l,b,xs,zs,rfl,rfl,hH,hB,hz,q⟩:=h;cases rx;obtain⟨u,rfl,ru⟩:=rv.one;cases ru;obtain⟨z,its,n,r,hl,e⟩:=I.lstM hH;obtain⟨z2,its2,n2,r2,hl2,e2⟩:=I.lstM hB;have hsz:its.toArray.size+its2.toArray.size<=sizeLine:=by rw[az,az];omega
 have hlong:¬ (!its.toArray.isEmpty && bU (its.toArray.size+its2.toArray.size))=true:=by
  rw[uL hsz,Bool.and_false];exact ay
 refine dL F.slot_list_extend ⟨_,e,rfl⟩ F.entry_list_extend (F.args_list_extend_2 _ _)
  (AutoSeq1.list_extend_list_list_0 l its.toArray n b its2.toArray n2 hlong (by rw[az];omega) (by omega)) ⟨e,e2, ?_⟩
 refine⟨.non,_,I.lset (its' :=its++its2) hH e (by simp) (r.append r2) ?_,rfl,q⟩
 rw[aA];omega
def rCat:R2:=λx y H Q=>∃l b xs zs,x= .ref l/\y= .ref b/\H l=some (.lst xs)/\H b=some (.lst zs)/\xs.length+zs.length<=sizeLine/\∀p,H p=none->Q (.ref p) (upd H p (.lst (xs++zs)))
theorem kX:OpR X (binaryOp .Add) rCat:=by
 intro pins s σ H x y v u Q I rx ry h;obtain⟨l,b,xs,zs,rfl,rfl,hH,hB,hz,q⟩:=h;cases rx;cases ry;obtain⟨z,its,n,r,hl,e⟩:=I.lstM hH;obtain⟨z2,its2,n2,r2,hl2,e2⟩:=I.lstM hB;refine PySem.P.add_list e e2 ?_ (by rw[az,az];omega)
 have ea:its.toArray++its2.toArray=(its++its2).toArray:=by simp
 rw[ea];exact⟨.ref _,_,I.lnew (t' :=s.toks) (r.append r2) (by rw[aA];omega),rfl,q _ I.fresh⟩
def rRep:R2:=λx y H Q=>∃l k xs,x= .ref l/\y= .int k/\H l=some (.lst xs)/\ -(2 ^ 63)<=k/\k < 2 ^ 63/\xs.length*k.toNat<=sizeLine/\
 ∀p,H p=none->Q (.ref p) (upd H p (.lst (ag k.toNat xs).flatten))
theorem jG {α:Type}(xs:List α)(k:Nat):(ag k xs).flatten.length=k*xs.length:=by
 induction k with
 | zero=>simp
 | succ k ih=>rw[aU,cq,aA,ih,Nat.succ_mul,iB]
theorem kY:OpR X (binaryOp .Mult) rRep:=by
 intro pins s σ H x y v u Q I rx ry h;obtain⟨l,k,xs,rfl,rfl,hH,h1,h2,hz,q⟩:=h;cases rx;obtain⟨t,rfl⟩:=ry;obtain⟨z,its,n,r,hl,e⟩:=I.lstM hH;have hlen:its.toArray.size*k.toNat<=sizeLine:=by rw[az,← hl];exact hz
 have hcap:¬ its.toArray.size*k.toNat > (2 ^ 63 - 1) / 8:=by
  have:(sizeLine:Nat)<=(2 ^ 63 - 1) / 8:=by decide
  omega
 have hfit:¬ (!Builtin.List.listFitsIndex k)=true:=by
  rw[fitsIndex_both h1 h2];exact ay
 have hlong:¬ bU (its.toArray.size*k.toNat)=true:=by
  rw[uL hlen];exact ay
 have hnew:eA (λx1 x2=>x1++x2) #[] (ag (if its.toArray.isEmpty=true then 0 else k.toNat) its.toArray)=(ag k.toNat its).flatten.toArray:=by
  have f0:∀m:Nat,eA (λx1 x2=>x1++x2) #[] (ag m its.toArray)=(ag m its).flatten.toArray:=λm=>by
   have:=jy its m [];rw[bP]at this;exact this
  rw[f0];cases its with
  | nil=>simp
  | cons a r' =>rw[if_neg (by simp)]
 refine wpAny_binaryOp_repeat_ref (T:="list") (U:="int") (by decide) ⟨_,e,rfl⟩ (λs' =>eh s' k t) noFill_list_mul fX di repeat_list fE.lookup
  (dL di (eh s k t) fF (fj _ _) (int___rmul___int_list k t l its.toArray n)
   ⟨e,rfl,⟨_,e,rfl⟩,dL F.slot_list_mul ⟨_,e,rfl⟩ F.entry_list_mul (F.args_list_mul_2 _ _) (AutoListH.list___mul___list_int_3 l its.toArray n k t hfit hcap hlong) ⟨e, ?_⟩⟩)
 rw[hnew];exact⟨.ref _,_,I.lnew (t' :=s.toks) (r.rep k.toNat) (by rw[jG,cM];exact hz),rfl,q _ I.fresh⟩
end
section
variable {prog:Program}{w:World}{A:Around}{E:Value->Shared->Prop}{s:Shared}
end
section
variable {X:Cx}
end
end L2
namespace Att
open PySem PySem.W PySem.Calls PyProof.Rows
theorem Jq {P:Params}{h:Heap}:∀(ns:List Int) (vs:List Value),WellAll P h vs (ns.map WData.int)->IntsAre vs ns:=by
 intro ns
 induction ns with
 | nil=>
  intro vs w;rw[cN]at w;cases w;exact .nil
 | cons n ns ih=>
  intro vs w;rw[ar]at w;cases w with
  | cons a b=>
   cases a;exact .cons _ _ (ih _ b)
theorem yM {l:OpenLaw}{n:Nat}(hn:l.most=some n){P:Params}{h:Heap}{args:List WData}{vals:List Value}
  (hpre:l.row.toRowW.claim.pre args=true) (hwl:WellAll P h vals args):
  ∃a vs ns,vals=[Value.ref a]/\args=[WData.list (ns.map WData.int)]/\h.get? a=some { cls:= .type "list",data:= .seq vs.toArray }/\IntsAre vs ns/\ns.length<=n:=by
 have hsh:WShape.hasAll [] args [.list .int]=true:=(pre_splitW hpre).1;have hc:l.pre.holds [] { args:=args }=true:=(pre_splitW hpre).2;obtain⟨d,r,rfl,h1,h2⟩:=hasAllW_cons hsh;obtain rfl:=hasAllW_nil h2;obtain⟨xs,rfl,h3⟩:=hasW_list h1;obtain⟨ns,rfl⟩:=items_int h3;have hlen:ns.length<=n:=by
  unfold OpenLaw.pre at hc;have h4:(WTm.not (.lt (.lit (.int (n:Int))) (.len (.arg 0)))).holds [] { args:=[.list (ns.map .int)] }=true:=by
   have h4:=(holds_andW hc).1;rw[hn]at h4;exact h4
  have h5:=condW_of h4 (w_not (w_lt w_lit (w_len_list (w_arg rfl))));rw[af]at h5;refine Nat.le_of_not_lt λq=> ?_;have q' :(n:Int) < ((ns.length:Nat):Int):=by omega
  first
   | (rw[decide_eq_true q']at h5;exact absurd h5 (by decide))
   | (simp at h5;omega)
 cases hwl with
 | cons w1 w2=>
  cases w2;cases w1 with
  | list ho hall=>exact⟨_,_,ns,rfl,rfl,ho,Jq ns _ hall,hlen⟩
theorem yN (l:OpenLaw)(args:List WData):l.row.toRowW.claim.post args (.bool true) args=true:=
 postW_of (r:=l.row.toRowW) (X:=(true == true))
  (show WShape.has [] (.bool true) .bool=true by first | rfl | decide | simp[WShape.has,WShape.arms,WShape.armsAll])
  (show (WTm.eq .res (.lit (.bool true))).value [] { args:=args,res:=some (.bool true),after:=args }=some (.bool (true == true)) from w_eq_bool (w_res rfl) w_lit) rfl
theorem attach_call {l:OpenLaw}{n:Nat}{q:Program}{loose:List Str}{XP:(Str->Option Value)->Heap->Prop}{YP:World->Heap->Prop}{d:DefRec}
  (hn:l.most=some n) (hdf:d.params.defaults=[])
  (call:∀(w:World) (s₀ s₁:Shared) (mg mb:Str->Option Value) (fa:Addr) (o:Obj) (pm cd doc:Value) (a:Addr) (vs:List Value) (ns:List Int),
   Ground q loose [] XP w s₀ mg mb s₁.heap->YP w s₁.heap->
   s₁.heap.get? fa=some o->o.data= .func (docDef d.name d.params d.body d.scope pm cd doc)->s₁.heap.CodeRec cd d.name->mg d.name=some (.ref fa)->
   s₁.heap.get? a=some { cls:= .type "list",data:= .seq vs.toArray }->IntsAre vs ns->ns.length<=n->s₁.gens= #[]->
   codeAny (model l.prog w) callerA (.call (.ref fa) ⟨[.ref a],[]⟩) (λr s' =>r= .ok (.ret (.bool true))/\OldK s₁.heap s'.heap/\s'.os=s₁.os/\AllBare s'.gens) s₁):
  WalkO q loose XP YP l.row.toRowW d [] (λf vs=>ll f vs):=by
 intro w s₀ s₁ mg mb G Y fa o pm cd doc dV kV ho hd hcd hD hmg hg args vals as hpre hlay hrd hwl hlo;obtain rfl:dV= .none:=Dflts.none hD hdf;obtain rfl:kV= .none:=Dflts.noKw hD;obtain⟨a,vs,ns,rfl,rfl,hobj,hints,hlen⟩:=yM hn hpre hwl;refine enter_call (cj (call w s₀ s₁ mg mb fa o pm cd doc a vs ns G Y ho (fd_plain hd) hcd hmg hobj hints hlen hg) λr s' hq=> ?_);obtain⟨rfl,h2,h3,h4⟩:=hq;exact⟨.inl ⟨.bool true,.bool true,[],rfl,λ_=>rfl,.bool true,yN l _,λ_=>⟨List.Pairwise.nil,λ_ hm=>(nomatch hm)⟩⟩,h2,h3,h4⟩
section
variable {prog:Program}{w:World}{A:Around}{E:Value->Shared->Prop}{s:Shared}{K:Frag}
end
end Att
namespace L2
open PySem PySem.Spec PyProof.Rows
theorem Wk:∀{vs:List Value} {ns:List Int},IntsAre vs ns->Z1 (ns.map V.int) vs
 | _,_,.nil=> .nil
 | _,_,.cons n t h=> .cons ⟨t,rfl⟩ (Wk h)
def GW (H:Hp):Prop:=∀b,H b=none\/∃o xs,H b=some (.frz o (.lst xs))
theorem Qt {P:Program}{w:World}{K:al}{mg mb:Str->Option Value}{CX:CXT}{k:Nat}{fa a:Addr}{fd:FuncData}{x:Str}{sp:Sp}{s₁:Shared}{vs:List Value}{ns:List Int}
  (KX:K.In s₁.heap) (hns:s₁.heap.Ns mainGlobals mg) (hb:s₁.heap.Ns builtinsNs mb) (hbb:∀x:Str,x ≠ "__name__"->mb x=bootBuiltins x) (hlim:s₁.heap.NoLimit) (hg:s₁.gens= #[])
  (ha:s₁.heap.get? a=some { cls:= .type "list",data:= .seq vs.toArray }) (hi:IntsAre vs ns) (hl:ns.length<=sizeLine) (hr:JU k callerA)
  (F:∀base:Heap,K.In base->base.Ns mainGlobals mg->zV P w K mg base CX k fa fd [x] sp) (hbind:∀(s:Shared) (u:Value),BindsTo s fd ⟨[u],[]⟩ [(x,u)])
  (hsp:∀H:Hp,GW H->SqL K H a (ns.map V.int)->sp [.ref a] H (λv _=>v= .bl true) λ_ _ _=>False)
  (hCX:∀H e s',CX [] H s₁ (λ_ _ _=>False) e s' ->False):
  codeAny (model P w) callerA (.call (.ref fa) ⟨[.ref a],[]⟩) (λr s' =>r= .ok (.ret (.bool true))/\OldK s₁.heap s'.heap/\s'.os=s₁.os/\AllBare s'.gens) s₁:=by
 have rv:=Wk hi;have lenV:=hi.length;have core:∀H:Hp,GW H->SqL K H a (ns.map V.int)->HOk P w H s₁.heap->(∀b,H b ≠ none->b=a)->(H a ≠ none->K.lookup a=none)->
   codeAny (model P w) callerA (.call (.ref fa) ⟨[.ref a],[]⟩) (λr s' =>r= .ok (.ret (.bool true))/\OldK s₁.heap s'.heap/\s'.os=s₁.os/\AllBare s'.gens) s₁:=by
  intro H hO hS hok hA hK;have base_of:∀{b:Addr} {o:Obj},s₁.heap.get? b=some o->H b=none->(Ql s₁.heap H).get? b=some o:=λe n=>Qm e n;have noA:∀{b:Addr} {o:Obj} {es:Array DictEntry} {ep:Nat},s₁.heap.get? b=some o->o.data= .dict es ep->H b=none:=λ{b o es ep} e d=>by
   cases q:H b with
   | none=>rfl
   | some u=>
    have e' :b=a:=hA b (by rw[q];simp)
    subst e';rw[ha]at e;cases e;have d' :Data.seq vs.toArray _=Data.dict es ep:=d;cases d'
  have nsK:∀{b:Addr} {m:Str->Option Value},s₁.heap.Ns b m->(Ql s₁.heap H).Ns b m:=λ{b m} ⟨o,es,ep,e,d,r⟩=>⟨o,es,ep,base_of e (noA e d),d,r⟩;have hKb:K.In (Ql s₁.heap H):=λb o e=>base_of (KX b o e) (by
   cases q:H b with
   | none=>rfl
   | some u=>
    have e' :b=a:=hA b (by rw[q];simp)
    subst e';rw[hK (by rw[q];simp)]at e;cases e)
  have hM:Mod K mg (Ql s₁.heap H):=⟨hKb,nsK hns,⟨mb,nsK hb,hbb⟩,let ⟨mc,h1,h2⟩:=hlim;⟨mc,nsK h1,h2⟩⟩;have e0:GU P w K mg (Ql s₁.heap H) callerA [] s₁ H:=⟨rfl,hM,λb o e=>VM e,Nat.le_of_eq (yt _ _),trivial,λb hb=>absurd (show b∈([]:List Addr) from hb) (by simp),hok,.of_eq hg⟩
  refine cj ((F _ hKb (nsK hns)).run callerA [] s₁ H ⟨[.ref a],[]⟩ [.ref a] [.ref a] _ _ hr e0 (hbind s₁ (.ref a)) (.cons rfl .nil) (hsp H hO hS)) λr s' h=> ?_;cases r with
  | error e=>exact(hCX H e s' h).elim
  | ok fl=>
   cases fl with
   | next=>exact cQ h
   | brk=>exact cQ h
   | cont=>exact cQ h
   | ret u=>
    obtain⟨v,H',os,bare,un,hok',r',q⟩:=h;have q' :v= .bl true:=q;subst q';obtain rfl:u=Value.bool true:=r';refine⟨rfl,OldK.of_keep λb o e=> ?_,os,bare⟩;cases q:H b with
    | none=>exact un.keep b o e q (by intro z;exact absurd (show b∈([]:List Addr) from z) (by simp)) (by simp)
    | some u=>
     rcases hO b with z | ⟨ob,xs,z⟩
     ·rw[q]at z;cases z
     ·have z2:=un.frzs b ob _ z;obtain⟨e1,_⟩:=hok b _ z;obtain⟨e2,_⟩:=hok' b _ z2;rw[e]at e1;cases e1;exact e2
 cases hk:K.lookup a with
 | some o=>
  have e:=KX a o hk;rw[ha]at e;cases e;refine core (λ_=>none) (λ_=> .inl rfl) (.inr ⟨_,vs.toArray,_,hk,rfl,rfl,rfl,by rw[az,lenV];exact hl,by simpa using rv⟩) (λb u z=>by have z' :(none:Option HO)=some u:=z;cases z') (λb z=>absurd rfl z) λz=>absurd rfl z
 | none=>
  refine core (λb=>if b=a then some (.frz { cls:= .type "list",data:= .seq vs.toArray } (.lst (ns.map V.int))) else none) (λb=> ?_) (.inl (.inr ⟨{ cls:= .type "list",data:= .seq vs.toArray },if_pos rfl⟩)) (λb u z=> ?_) (λb z=> ?_) λ_=>hk
  ·by_cases hb:b=a
   ·exact .inr ⟨_,_,if_pos hb⟩
   ·exact .inl (if_neg hb)
  ·by_cases hb:b=a
   ·have z' :=(if_pos hb).symm.trans z;cases z';subst hb;exact⟨ha,by rw[af];exact hl,vs,_,rv,ha⟩
   ·have z' :=(if_neg hb).symm.trans z;cases z'
  ·by_cases hb:b=a
   ·exact hb
   ·exact absurd (if_neg hb) z
end L2
namespace L2
open PySem PySem.Spec PyProof.Rows
theorem walk_of {l:PySem.W.OpenLaw}{n k:Nat}{q:Program}{loose:List Str}{XP:(Str->Option Value)->Heap->Prop}{YP:World->Heap->Prop}{d:DefRec}{K:Params->al}{CX:World->CXT}{sp:World->Sp}{x:Str}
  (hn:l.most=some n) (hn2:n<=sizeLine) (hdf:d.params.defaults=[]) (hr:JU k callerA)
  (hY:∀(w:World) (h:Heap),YP w h->(K w.params).In h)
  (F:∀(w:World) (mg:Str->Option Value) (fa:Addr) (h:Heap),(K w.params).In h->h.Ns mainGlobals mg->mg d.name=some (.ref fa)->
   ∃fd:FuncData,(∀(s:Shared) (u:Value),BindsTo s fd ⟨[u],[]⟩ [(x,u)])/\
    ∀base:Heap,(K w.params).In base->base.Ns mainGlobals mg->zV l.prog w (K w.params) mg base (CX w) k fa fd [x] (sp w))
  (hsp:∀(w:World) (H:Hp) (a:Addr) (ns:List Int),ns.length<=n->GW H->SqL (K w.params) H a (ns.map V.int)->sp w [.ref a] H (λv _=>v= .bl true) λ_ _ _=>False)
  (hCX:∀(w:World) (H:Hp) (s:Shared) (e:Value) (s' :Shared),CX w [] H s (λ_ _ _=>False) e s' ->False):
  PySem.W.WalkO q loose XP YP l.row.toRowW d [] (λf vs=>ll f vs):=by
 refine Att.attach_call hn hdf λw s₀ s₁ mg mb fa o pm cd doc a vs ns G Y ho hd hcd hmg hobj hints hlen hg=> ?_;have KX:=hY w _ Y;obtain⟨fd,hb,hF⟩:=F w mg fa _ KX G.T.g hmg;exact Qt KX G.T.g G.T.b G.T.builtins G.T.nolimit hg hobj hints (ap hlen hn2) hr hF hb (λH hO hS=>hsp w H a ns hlen hO hS) λH e s' =>hCX w H s₁ e s'
end L2
namespace L2
open PySem PySem.Spec PyProof.Rows
def j6 (s:Stmt):Arguments:=match s with
 | .FunctionDef _ a _ _ _ _ _ _ _ _=>a
 | _=>{ posonlyargs:=[],args:=[],vararg:=none,kwonlyargs:=[],kw_defaults:=[],kwarg:=none,defaults:=[] }
def ZM (s:Stmt):List Stmt:=match s with
 | .FunctionDef _ _ b _ _ _ _ _ _ _=>b
 | _=>[]
def zb (s:Stmt):Scope:=match s with
 | .FunctionDef _ _ _ _ _ _ sc _ _ _=>sc
 | _=>{ kind:= .function,names:=[],isGenerator:=false,isCoroutine:=false }
abbrev CX0:CXT:=λ_ _ _ _ _ _=>False
structure Fun (K:al) (x qual:Str) (st:Stmt) (f:Addr) (fd:FuncData):Prop where
 ex:∃(oc:Value) (od:Option Addr) (kV doc pm:Value) (an:Option Addr) (cdv ct:Value) (osl:Array (Option Value)),
  fd=cB x qual (j6 st) (ZM st) (zb st) .none kV doc pm an cdv ct/\K.lookup f=some ⟨oc,od,.func fd,osl⟩/\eX K cdv qual=true
 kp:cS K (.ref f)=true
section
variable {P:Program}{w:World}{K:al}{mg:Str->Option Value}{base:Heap}
theorem Fun.ok {x qual:Str}{st:Stmt}{f:Addr}{fd:FuncData}{N ps:List Str}{k:Nat}{sp:Sp}(F:Fun K x qual st f fd)(S:zf N ps (zb st))(len:∀vs H Q E,sp vs H Q E->vs.length=ps.length)
  (hbody:∀(cdv:Value) (A:Around) (outer:List Env) (s:Shared) (H:Hp) (vs:List V) (Q:VK) (E:XK),JU k (A.deeper (envOfC qual (zb st) s.heap.objs.size f cdv))->sp vs H Q E->
   ∃t,PSs (VW CX0 P w K mg base N qual (zb st) f cdv A outer s H E).nox (ZM st) t/\t { nx:=λ_ H' =>Q .non H',rt:=Q } (start N vs) H):zV P w K mg base CX0 (k+1) f fd ps sp:=by
 obtain⟨oc,od,kV,doc,pm,an,cdv,ct,osl,rfl,lk,hcd⟩:=F.ex;refine z10 lk hcd S len λA outer s H vs Q E hr hsp=> ?_;obtain⟨t,h,q⟩:=hbody cdv A outer s H vs Q E hr hsp;exact⟨t,h.nox,q⟩
theorem Fun.binds {x qual:Str}{st:Stmt}{f:Addr}{fd:FuncData}{ps:List Str}(F:Fun K x qual st f fd)
  (h:∀(kV doc pm:Value) (an:Option Addr) (cdv ct:Value) (us:List Value),us.length=ps.length->bindArgs (cB x qual (j6 st) (ZM st) (zb st) .none kV doc pm an cdv ct) ⟨us,[]⟩=pure (ps.zip us)):Binds K fd ps []:=by
 obtain⟨oc,od,kV,doc,pm,an,cdv,ct,osl,rfl,lk,hcd⟩:=F.ex;exact .all (h kV doc pm an cdv ct)
theorem kZ {x qual:Str}{st:Stmt}{f:Addr}{oc:Value}{od an:Option Addr}{osl:Array (Option Value)}{kV doc pm cdv ct:Value}(l:K.lookup f=some ⟨oc,od,.func (cB x qual (j6 st) (ZM st) (zb st) .none kV doc pm an cdv ct),osl⟩)
  (c:eX K cdv qual=true) (k:cS K (.ref f)=true):Fun K x qual st f (cB x qual (j6 st) (ZM st) (zb st) .none kV doc pm an cdv ct):=⟨⟨oc,od,kV,doc,pm,an,cdv,ct,osl,rfl,l,c⟩,k⟩
end
section
variable {X:Cx}
theorem pv (i:Nat){x:Str}{pos:Pos}(hN:X.N[i]? =some x:=by rfl)(hv:Vis X.env.scope x:=by first | exact Or.inl rfl | exact Or.inr (Or.inl rfl) | exact Or.inr (Or.inr rfl))(hd:(x == ("__debug__":Str))=false:=by decide)
  (hcd:(x == ("__classdict__":Str))=false:=by decide):PE X (.Name x pos) (Qb i):=vN hN hv hd hcd
end
def zw (H H' :Hp):Prop:=∀b o,H b=some o->H' b=some o
theorem zw.refl (H:Hp):zw H H:=λ_ _ h=>h
theorem zw.trans {H H1 H2:Hp}(a:zw H H1)(b:zw H1 H2):zw H H2:=λc o h=>b c o (a c o h)
theorem zw.free {H H' :Hp}(e:zw H H'){l:Addr}(h:H' l=Option.none):H l=Option.none:=by
 cases q:H l with
 | none=>rfl
 | some o=>
  rw[e l o q]at h;cases h
end L2
namespace L2
open PySem PySem.Spec PyProof.Rows PySem.W
structure Lies (P:Program) (w:World) (outer:List Env) (H:Hp) (s s' :Shared) (ea:Addr) (cls a0:Value) (B:Heap) (H' :Hp):Prop where
 os:s'.os=s.os
 bare:AllBare s'.gens
 fly:Heap.FlyingW B outer ea cls a0 s'.heap
 hok:HOk P w H' B
 un:Un (frs outer) [] H H' s.heap s'.heap
 inB:∀b o,s.heap.get? b=some o->b ∉ frs outer->(H b=none->B.get? b=some o)/\∃o',B.get? b=some o'
def CX1 (P:Program)(w:World):CXT:=λouter H s E e s' =>∃ea cls a0 B H',e= .ref ea/\Lies P w outer H s s' ea cls a0 B H' /\E cls none H'
section
variable {X:Cx}{pins:List (Addr×Obj)}{σ:St}{H H' :Hp}{s s' :Shared}{ea:Addr}{cls a0:Value}{B:Heap}{h' h'' :Heap}
end
section
variable {P:Program}{w:World}{K:Frag}{mg:Str->Option Value}{base:Heap}{N:List Str}{qual:Str}{scope:Scope}{f:Addr}{cd:Value}{A:Around}{outer:List Env}{s:Shared}{H:Hp}{E:XK}
end
end L2
namespace L2
open PySem PySem.Spec PyProof.Rows PySem.W
def ExAt (cls:Value)(a:Addr)(h:Heap):Prop:=∃o,h.get? a=some o/\o.cls=cls
section
variable {X:Cx}{pins pins' :List (Addr×Obj)}{σ:St}{H H' :Hp}{s s' :Shared}{xe:Value->Shared->Prop}
end
section
variable {prog:Program}{w:World}{A:Around}{E:Value->Shared->Prop}{s:Shared}{env:Env}
end
end L2
namespace L2
open PySem PySem.Spec PyProof.Rows PySem.W
section
variable {X:Cx}{pins:List (Addr×Obj)}{σ:St}{H H' :Hp}{s s' :Shared}{ea:Addr}{cls a0:Value}{B:Heap}{h3:Heap}
end
end L2
namespace PySem
open PySem.W
section
variable {M:Model}{A:Around}{E:Value->Shared->Prop}{s:Shared}
end
end PySem
namespace L2
open PySem PySem.Spec PyProof.Rows PySem.W
section
variable {X:Cx}{pins:List (Addr×Obj)}{σ:St}{H H' :Hp}{s s' :Shared}{ea C:Addr}{cls a0:Value}{B:Heap}{h' :Heap}
def K0 (X:Cx)(E:XK):Prop:=∀(pins:List (Addr×Obj)) (σ:St) (H:Hp) (s:Shared) (e:Value) (s' :Shared) (C:Addr) (m:Str->Option Value) (E' :Value->Shared->Prop) (cenv:Env),Inv X pins σ H s->s.heap.Ns C m->H C=none->X.s₀.heap.objs.size<=C->C ∉ frs X.stack->cenv.frame=X.env.frame->CX1 X.prog X.w X.stack H s E e s' ->
 wpAny (model X.prog X.w) X.A (noteFrame e cenv) (λ_ s'' =>∃m,s''.heap.Ns C m/\∀h',bL C s''.heap h' ->∀env:Env,env.locals=C->wpAny (model X.prog X.w) X.A (passOn "comprehension.variables-let-go" e env:Sem Value) (λ_ _=>False) X.xe { s'' with heap:=h' }) E' s'
theorem wb {E:XK}(h:E=λ_ _ _=>False):K0 X E:=λpins σ H s e s' C m E' cenv I _ _ _ _ _ ⟨_,_,_,_,_,_,_,z⟩=>by subst h;exact z.elim
end
end L2
namespace L2
open PySem PySem.Spec PyProof.Rows
theorem PE.imp {X:Cx}{e:Expr}{t t' :TE}(h:PE X e t)(i:∀σ H Q,t' σ H Q->t σ H Q):PE X e t' :=λpins s σ H Q I q=>h pins s σ H Q I (i σ H Q q)
theorem PT.imp {X:Cx}{e:Expr}{t t' :TT}(h:PT X e t)(i:∀σ H Q,t' σ H Q->t σ H Q):PT X e t' :=λpins s σ H Q I q=>h pins s σ H Q I (i σ H Q q)
theorem PA.imp {X:Cx}{e:List Expr}{t t' :TA}(h:PA X e t)(i:∀σ H Q,t' σ H Q->t σ H Q):PA X e t' :=λpos pins s σ H Q I q=>h pos pins s σ H Q I (i σ H Q q)
theorem PS.imp {X:Cx}{e:Stmt}{t t' :TS}(h:PS X e t)(i:∀D σ H,t' D σ H->t D σ H):PS X e t' :=λpins s σ H D I q=>h pins s σ H D I (i D σ H q)
theorem PSs.imp {X:Cx}{e:List Stmt}{t t' :TS}(h:PSs X e t)(i:∀D σ H,t' D σ H->t D σ H):PSs X e t' :=λpins s σ H D I q=>h pins s σ H D I (i D σ H q)
end L2
namespace PV
open PySem
def Wl:Expr->Bool
 | .Starred _ _=>false
 | _=>true
theorem Zh {e:Expr}{rest:List Expr}{env:Env}(h:Wl e=true):starEach (e :: rest) env=(false,eval e env) :: starEach rest env:=by
 cases e <;> first | rfl | cases h
theorem st2 {a b:Expr}{env:Env}(h:Wl a=true)(h' :Wl b=true):starEach [a,b] env=[(false,eval a env),(false,eval b env)]:=by
 rw[Zh h,Zh h'];rfl
theorem st1 {a:Expr}{env:Env}(h:Wl a=true):starEach [a] env=[(false,eval a env)]:=by
 rw[Zh h];rfl
theorem jd {pos:Pos}{env:Env}:∀{es:List Expr},es.all Wl=true->((backTo pos (starEach es env)).any λx=>x.fst)=false
 | [],_=>rfl
 | e :: es,h=>by
  rw[c9,aj]at h;rw[Zh h.1];have:=jd (pos:=pos) (env:=env) h.2;show (false || ((backTo pos (starEach es env)).any λx=>x.fst))=false
  rw[this];rfl
open PySem PySem.Spec PyProof.Rows L2
abbrev Sg:=L2.St
inductive T where
 | non | bl (b:Bool) | int (i:Int) | str (x:Str) | tup (xs:List T) | lst (xs:List T) | fz (xs:List T)
inductive R (α:Type) where
 | ok (a:α) | ex (c:Nat) | bad
def R.bind {α β:Type}(r:R α)(f:α->R β):R β:=match r with
 | .ok a=>f a
 | .ex c=> .ex c
 | .bad=> .bad
mutual
inductive Rep (H:Hp):V->T->Prop where
 | non:Rep H .non .non
 | bl (b:Bool):Rep H (.bl b) (.bl b)
 | int (i:Int):Rep H (.int i) (.int i)
 | str (x:Str):Rep H (.str x) (.str x)
 | tup {a:Addr} {xs:List V} {ts:List T}:H a=some (.tup xs)->zI H xs ts->Rep H (.ref a) (.tup ts)
 | lst {a:Addr} {xs:List V} {ts:List T}:H a=some (.lst xs)->zI H xs ts->Rep H (.ref a) (.lst ts)
 | fz {a:Addr} {o:Obj} {xs:List V} {ts:List T}:H a=some (.frz o (.lst xs))->zI H xs ts->Rep H (.ref a) (.fz ts)
inductive zI (H:Hp):List V->List T->Prop where
 | nil:zI H [] []
 | cons {v:V} {t:T} {vs:List V} {ts:List T}:Rep H v t->zI H vs ts->zI H (v :: vs) (t :: ts)
end
mutual
theorem Rep.mono {H H' :Hp}(s:zw H H'):∀{v:V} {t:T},Rep H v t->Rep H' v t
 | _,_,.non=> .non
 | _,_,.bl b=> .bl b
 | _,_,.int i=> .int i
 | _,_,.str x=> .str x
 | _,_,.tup h r=> .tup (s _ _ h) (zI.mono s r)
 | _,_,.lst h r=> .lst (s _ _ h) (zI.mono s r)
 | _,_,.fz h r=> .fz (s _ _ h) (zI.mono s r)
theorem zI.mono {H H' :Hp}(s:zw H H'):∀{v:List V} {t:List T},zI H v t->zI H' v t
 | _,_,.nil=> .nil
 | _,_,.cons h r=> .cons (Rep.mono s h) (zI.mono s r)
end
theorem zI.length {H:Hp}:∀{vs:List V} {ts:List T},zI H vs ts->vs.length=ts.length
 | _,_,.nil=>rfl
 | _,_,.cons _ r=>congrArg (·+1) (zI.length r)
theorem zI.get {H:Hp}:∀{vs:List V} {ts:List T} {i:Nat} {t:T},zI H vs ts->ts[i]? =some t->∃v,vs[i]? =some v/\Rep H v t
 | _,_,_,_,.nil,e=>by simp at e
 | _,_,0,_,.cons r _,e=>by simp at e;subst e;exact⟨_,rfl,r⟩
 | _,_,i+1,t,.cons _ q,e=>by
  obtain⟨v,h1,h2⟩:=zI.get (i:=i) (t:=t) q (by simpa using e)
  exact⟨v,by simpa using h1,h2⟩
theorem zI.getV {H:Hp}:∀{vs:List V} {ts:List T} {i:Nat} {v:V},zI H vs ts->vs[i]? =some v->∃t,ts[i]? =some t/\Rep H v t
 | _,_,_,_,.nil,e=>by simp at e
 | _,_,0,_,.cons r _,e=>by simp at e;subst e;exact⟨_,rfl,r⟩
 | _,_,i+1,v,.cons _ q,e=>by
  obtain⟨t,h1,h2⟩:=zI.getV (i:=i) (v:=v) q (by simpa using e)
  exact⟨t,by simpa using h1,h2⟩
theorem zI.append {H:Hp}:∀{vs ws:List V} {ts us:List T},zI H vs ts->zI H ws us->zI H (vs++ws) (ts++us)
 | _,_,_,_,.nil,q=>q
 | _,_,_,_,.cons r t,q=> .cons r (zI.append t q)
theorem zI.rep {H:Hp}{vs:List V}{ts:List T}(h:zI H vs ts):∀n:Nat,zI H (ag n vs).flatten (ag n ts).flatten
 | 0=> .nil
 | n+1=>by
  rw[aU,aU,cq,cq];exact h.append (zI.rep h n)
theorem zI.nil_iff {H:Hp}{vs:List V}{ts:List T}(h:zI H vs ts):vs=[]↔ts=[]:=by
 cases h <;> simp
def zS (B H H' :Hp):Hp:=λb=>match H b with
 | none=>H' b
 | some _=>B b
theorem Zi {B H H' :Hp}{b:Addr}(h:H b=none):zS B H H' b=H' b:=by unfold zS;rw[h]
theorem Zj {B H H' :Hp}{b:Addr}{o:HO}(h:H b=some o):zS B H H' b=B b:=by unfold zS;rw[h]
theorem zS.ge {B H H' :Hp}(s:zw B H)(s' :zw H H'):zw B (zS B H H'):=λb o h=>by
 rw[Zj (s b o h)];exact h
theorem zS.le {B H H' :Hp}(s:zw B H)(s' :zw H H'):zw (zS B H H') H' :=λb o h=>by
 cases q:H b with
 | none=>rw[Zi q]at h;exact h
 | some u=>rw[Zj q]at h;exact s' b o (s b o h)
theorem zS.self (B H:Hp)(s:zw B H):zS B H H=B:=by
 funext b
 cases q:H b with
 | none=>
  rw[Zi q,q];cases z:B b with
  | none=>rfl
  | some o=>rw[s b o z]at q;cases q
 | some u=>rw[Zj q]
theorem zS.trans {B H H1 H2:Hp}(s1:zw H H1)(s2:zw H1 H2):zS (zS B H H1) H1 H2=zS B H H2:=by
 funext b
 cases q:H b with
 | none=>
  rw[Zi q];cases z:H1 b with
  | none=>rw[Zi z]
  | some o=>rw[Zj z,Zi q,z,s2 b o z]
 | some u=>rw[Zj q,Zj (s1 b u q),Zj q]
inductive Sl where
 | un | vl (t:T) | ow (ts:List T) | xc (c:Nat)
abbrev En:=List Sl
structure Fx where
 B0:Hp
 H0:Hp
 E:XK
 cl:Nat->Value
structure SI (Y:Fx) (B:Hp) (ρ:En) (σ:Sg) (H:Hp):Prop where
 s0:zw Y.B0 Y.H0
 sH:zw Y.H0 H
 sB:zw B H
 old:∀b o,Y.H0 b=some o->B b=Y.B0 b
 len:ρ.length=σ.length
 vl:∀(i:Nat) (t:T),ρ[i]? =some (Sl.vl t)->∃v:V,σ[i]? =some (some v)/\Rep B v t
 ow:∀(i:Nat) (ts:List T),ρ[i]? =some (Sl.ow ts)->∃(a:Addr) (xs:List V),σ[i]? =some (some (V.ref a))/\B a=none/\Y.H0 a=none/\H a=some (.lst xs)/\zI B xs ts/\
  ∀(j:Nat) (us:List T),j ≠ i->ρ[j]? =some (Sl.ow us)->σ[j]? ≠ some (some (V.ref a))
 xc:∀(i:Nat) (c:Nat),ρ[i]? =some (Sl.xc c)->∃a:Addr,σ[i]? =some (some (V.ref a))/\B a=some (.ext (ExAt (Y.cl c) a))
theorem SI.grow {Y:Fx}{B:Hp}{ρ:En}{σ:Sg}{H H' :Hp}(I:SI Y B ρ σ H)(s:zw H H'):SI Y (zS B H H') ρ σ H' where
 s0:=I.s0
 sH:=I.sH.trans s
 sB:=zS.le I.sB s
 old:=λb o h=>by rw[Zj (I.sH b o h)];exact I.old b o h
 len:=I.len
 vl:=λi t h=>let ⟨v,e,r⟩:=I.vl i t h;⟨v,e,r.mono (zS.ge I.sB s)⟩
 ow:=λi ts h=>let ⟨a,xs,e,b,h0,hh,r,d⟩:=I.ow i ts h;⟨a,xs,e,by rw[Zj hh];exact b,h0,s _ _ hh,r.mono (zS.ge I.sB s),d⟩
 xc:=λi c h=>let ⟨a,e,r⟩:=I.xc i c h;⟨a,e,zS.ge I.sB s a _ r⟩
def XP (Y:Fx)(B:Hp)(c:Nat):Prop:=∀(d:Option Addr) (H' :Hp),zw Y.H0 H' ->zw B H' ->Y.E (Y.cl c) d H'
def Po {α β:Type}(Y:Fx)(rel:Hp->Hp->β->α->Prop)(B H:Hp)(r:R α)(Q:β->Hp->Prop):Prop:=match r with
 | .ok a=>∀b H',zw H H' ->rel (zS B H H') H' b a->Q b H'
 | .ex c=>XP Y B c
 | .bad=>False
abbrev rC:Hp->Hp->V->T->Prop:=λB _ v t=>Rep B v t
abbrev rB:Hp->Hp->V->T->Prop:=λ_ H v t=>Rep H v t
abbrev rCs:Hp->Hp->List V->List T->Prop:=λB _ v t=>zI B v t
abbrev rE {α:Type}:Hp->Hp->α->α->Prop:=λ_ _ a b=>a=b
def tS {α β:Type}(Y:Fx)(rel:Hp->Hp->β->α->Prop)(f:En->R α)(ρ:En):Sg->Hp->(β->Hp->Prop)->Prop:=λσ H Q=>∃B,SI Y B ρ σ H/\Po Y rel B H (f ρ) Q
structure Snd (X:Cx) (Y:Fx) (e:Expr) (f:En->R T):Prop where
 mk ::
 go:∀ρ,PE X e (tS Y rC f ρ)
instance {X:Cx}{Y:Fx}{e:Expr}{f:En->R T}:CoeFun (Snd X Y e f) λ_=>∀ρ,PE X e (tS Y rC f ρ):=⟨Snd.go⟩
structure jw (X:Cx) (Y:Fx) (e:Expr) (f:En->R T):Prop where
 mk ::
 go:∀ρ,PE X e (tS Y rB f ρ)
instance {X:Cx}{Y:Fx}{e:Expr}{f:En->R T}:CoeFun (jw X Y e f) λ_=>∀ρ,PE X e (tS Y rB f ρ):=⟨jw.go⟩
structure wy (X:Cx) (Y:Fx) (e:Expr) (f:En->R Bool):Prop where
 mk ::
 go:∀ρ,PT X e (tS Y rE f ρ)
instance {X:Cx}{Y:Fx}{e:Expr}{f:En->R Bool}:CoeFun (wy X Y e f) λ_=>∀ρ,PT X e (tS Y rE f ρ):=⟨wy.go⟩
structure UK (X:Cx) (Y:Fx) (es:List Expr) (f:En->R (List T)):Prop where
 mk ::
 go:∀ρ,PA X es (tS Y rCs f ρ)
instance {X:Cx}{Y:Fx}{es:List Expr}{f:En->R (List T)}:CoeFun (UK X Y es f) λ_=>∀ρ,PA X es (tS Y rCs f ρ):=⟨UK.go⟩
theorem step {α α' β β' :Type}{Y:Fx}{rel:Hp->Hp->β->α->Prop}{rel' :Hp->Hp->β' ->α' ->Prop}{f:En->R α}{k:α->R α'}{ρ:En}{B:Hp}{σ:Sg}{H:Hp}{Q:β' ->Hp->Prop}{K:β->Hp->Prop}
  (I:SI Y B ρ σ H) (h:Po Y rel' B H ((f ρ).bind k) Q)
  (n:∀a b H1,f ρ= .ok a->zw H H1->rel (zS B H H1) H1 b a->SI Y (zS B H H1) ρ σ H1->Po Y rel' (zS B H H1) H1 (k a) Q->K b H1):tS Y rel f ρ σ H K:=by
 refine⟨B,I, ?_⟩;cases e:f ρ with
 | bad=>rw[e]at h;exact h
 | ex c=>rw[e]at h;exact h
 | ok a=>
  rw[e]at h;intro b H1 s r;refine n a b H1 e s r (I.grow s) ?_;have h' :Po Y rel' B H (k a) Q:=h;revert h';cases k a with
  | bad=>exact λh' =>h'
  | ex c=>exact λh' d H' s0 sB' =>h' d H' s0 ((zS.ge I.sB s).trans sB')
  | ok a' =>exact λh' b' H2 s2 r2=>h' b' H2 (s.trans s2) (by rw[← zS.trans s s2];exact r2)
theorem ZX {α β:Type}{Y:Fx}{rel:Hp->Hp->β->α->Prop}{ρ:En}{B:Hp}{σ:Sg}{H:Hp}{a:α}{b:β}{Q:β->Hp->Prop}(I:SI Y B ρ σ H)(h:Po Y rel B H (.ok a) Q)(r:rel B H b a):Q b H:=h b H (zw.refl H) (by rw[zS.self B H I.sB];exact r)
theorem Snd.b {X:Cx}{Y:Fx}{e:Expr}{f:En->R T}(h:Snd X Y e f):jw X Y e f:= .mk λρ=>PE.imp (h ρ) λσ H Q ⟨B,I,q⟩=>⟨B,I,by
 revert q;cases f ρ with
 | bad=>exact λq=>q
 | ex c=>exact λq=>q
 | ok a=>exact λq b H' s r=>q b H' s (r.mono (zS.le I.sB s))⟩
section
variable {X:Cx}{Y:Fx}{a b c:Expr}{fa fb fc:En->R T}{pos:Pos}
def vE (i:Nat):En->R T:=λρ=>match ρ[i]? with
 | some (.vl t)=> .ok t
 | _=> .bad
def vB (i:Nat):En->R T:=λρ=>match ρ[i]? with
 | some (.vl t)=> .ok t
 | some (.ow ts)=> .ok (.lst ts)
 | _=> .bad
def cE (t:T):En->R T:=λ_=> .ok t
theorem z13 (i:Nat){x:Str}(h:PE X (.Name x pos) (Qb i)):Snd X Y (.Name x pos) (vE i):= .mk λρ=>PE.imp h λσ H Q ⟨B,I,q⟩=>by
 unfold vE at q;split at q
 ·rename_i t e;obtain⟨v,e1,r⟩:=I.vl i t e;exact⟨v,e1,ZX I q r⟩
 ·exact q.elim
theorem K1 (i:Nat){x:Str}(h:PE X (.Name x pos) (Qb i)):jw X Y (.Name x pos) (vB i):= .mk λρ=>PE.imp h λσ H Q ⟨B,I,q⟩=>by
 unfold vB at q;split at q
 ·rename_i t e;obtain⟨v,e1,r⟩:=I.vl i t e;exact⟨v,e1,ZX I q (r.mono I.sB)⟩
 ·rename_i ts e;obtain⟨a,xs,e1,_,_,hh,r,_⟩:=I.ow i ts e;exact⟨.ref a,e1,ZX I q (.lst hh (r.mono I.sB))⟩
 ·exact q.elim
theorem z14 {i j}:Snd X Y (.Constant (.int i) j pos) (cE (.int i)):= .mk λρ=>PE.imp vO λσ H Q ⟨B,I,q⟩=>ZX I q (.int i)
theorem s_bl {i j}:Snd X Y (.Constant (.bool i) j pos) (cE (.bl i)):= .mk λρ=>PE.imp z0H λσ H Q ⟨B,I,q⟩=>ZX I q (.bl i)
theorem z15 {j}:Snd X Y (.Constant .none j pos) (cE .non):= .mk λρ=>PE.imp ku λσ H Q ⟨B,I,q⟩=>ZX I q .non
theorem z16 {i j}:Snd X Y (.Constant (.str i) j pos) (cE (.str i)):= .mk λρ=>PE.imp vP λσ H Q ⟨B,I,q⟩=>ZX I q (.str i)
def ze:En->R (List T):=λ_=> .ok []
def z9 (f:En->R T)(g:En->R (List T)):En->R (List T):=λρ=>(f ρ).bind λt=>(g ρ).bind λts=> .ok (t :: ts)
theorem z17:UK X Y [] ze:= .mk λρ=>PA.imp zU λσ H Q ⟨B,I,q⟩=>ZX I q .nil
theorem K2 {es:List Expr}{g:En->R (List T)}(h:Snd X Y a fa)(hs:UK X Y es g)(hq:starEach (a :: es) X.env=(false,eval a X.env) :: starEach es X.env:=by exact Zh rfl):UK X Y (a :: es) (z9 fa g):= .mk λρ=>
 PA.imp (zo (h ρ) (hs ρ) hq) λσ H Q ⟨B,I,q⟩=>step I q λt v H1 _ s1 r1 I1 q1=>step I1 q1 λts vs H2 _ s2 r2 I2 q2=>ZX I2 q2 (.cons (r1.mono (zS.ge I1.sB s2)) r2)
theorem zw.new {H:Hp}{p:Addr}(h:H p=none)(o:HO):zw H (upd H p o):=λb u q=>by rw[zr (zM q h)];exact q
theorem jq {B H:Hp}{p:Addr}(h:H p=none)(o:HO):zS B H (upd H p o) p=some o:=by rw[Zi h,zv]
def bnd:Nat:=16777216
theorem Zz {n:Nat}(h:n<=bnd):n<=sizeLine:=by rw[bI];exact h
def Z4 (g:En->R (List T)):En->R T:=λρ=>(g ρ).bind λts=>if ts.length<=bnd then .ok (.tup ts) else .bad
def jz (g:En->R (List T)):En->R T:=λρ=>(g ρ).bind λts=>if ts.length<=bnd then .ok (.lst ts) else .bad
theorem xa {ρ:En}{σ:Sg}{B H:Hp}{xs:List V}{ts:List T}(I:SI Y B ρ σ H)(r:zI B xs ts){p:Addr}(h:H p=none):Rep (zS B H (upd H p (.tup xs))) (.ref p) (.tup ts):=
 .tup (jq h _) (r.mono (zS.ge I.sB (zw.new h _)))
theorem xb {ρ:En}{σ:Sg}{B H:Hp}{xs:List V}{ts:List T}(I:SI Y B ρ σ H)(r:zI B xs ts){p:Addr}(h:H p=none):Rep (zS B H (upd H p (.lst xs))) (.ref p) (.lst ts):=
 .lst (jq h _) (r.mono (zS.ge I.sB (zw.new h _)))
theorem z18 {es:List Expr}{g:En->R (List T)}{x1}(h:UK X Y es g):Snd X Y (.Tuple es x1 pos) (Z4 g):= .mk λρ=>PE.imp (kO (h ρ)) λσ H Q ⟨B,I,q⟩=>
 step I q λts vs H1 _ s1 r1 I1 q1=>by
  split at q1
  ·rename_i hb;refine⟨by rw[r1.length];exact Zz hb,λp hp=>q1 _ _ (zw.new hp _) (xa I1 r1 hp)⟩
  ·exact q1.elim
theorem z19 {es:List Expr}{g:En->R (List T)}(h:UK X Y es g):Snd X Y (.List es pos) (jz g):= .mk λρ=>PE.imp (vT (h ρ)) λσ H Q ⟨B,I,q⟩=>
 step I q λts vs H1 _ s1 r1 I1 q1=>by
  split at q1
  ·rename_i hb;refine⟨by rw[r1.length];exact Zz hb,λp hp=>q1 _ _ (zw.new hp _) (xb I1 r1 hp)⟩
  ·exact q1.elim
end
end PV
namespace PV
open PySem PySem.Spec PyProof.Rows L2
def eqL (f:T->T->Option Bool):List T->List T->Option Bool
 | [],[]=>some true
 | [],_ :: _=>some false
 | _ :: _,[]=>some false
 | x :: xs,y :: ys=>match f x y with
  | none=>none
  | some b=>match eqL f xs ys with
   | none=>none
   | some c=>some (b && c)
def b2 (b:Bool):Int:=if b then 1 else 0
def eqF:Nat->T->T->Option Bool
 | _,.non,.non=>some true
 | _,.bl a,.bl b=>some (a == b)
 | _,.bl a,.int j=>some (b2 a == j)
 | _,.int i,.bl b=>some (i == b2 b)
 | _,.int i,.int j=>some (i == j)
 | _,.str x,.str y=>some (x == y)
 | n+1,.tup xs,.tup ys=>eqL (eqF n) xs ys
 | n+1,.lst xs,.lst ys=>eqL (eqF n) xs ys
 | n+1,.fz xs,.lst ys=>eqL (eqF n) xs ys
 | n+1,.lst xs,.fz ys=>eqL (eqF n) xs ys
 | n+1,.fz xs,.fz ys=>eqL (eqF n) xs ys
 | 0,.tup _,.tup _=>none
 | 0,.lst _,.lst _=>none
 | 0,.fz _,.lst _=>none
 | 0,.lst _,.fz _=>none
 | 0,.fz _,.fz _=>none
 | _,.non,_=>some false
 | _,.bl _,_=>some false
 | _,.int _,_=>some false
 | _,.str _,_=>some false
 | _,.tup _,_=>some false
 | _,.lst _,_=>some false
 | _,.fz _,_=>some false
mutual
theorem Rep.fn {H:Hp}:∀{v:V} {t t' :T},Rep H v t->Rep H v t' ->t=t'
 | _,_,_,.non,.non=>rfl
 | _,_,_,.bl _,.bl _=>rfl
 | _,_,_,.int _,.int _=>rfl
 | _,_,_,.str _,.str _=>rfl
 | _,_,_,.tup h r,.tup h' r' =>by
  rw[h]at h';cases h';rw[zI.fn r r']
 | _,_,_,.tup h r,.lst h' r' =>by rw[h]at h';cases h'
 | _,_,_,.tup h r,.fz h' r' =>by rw[h]at h';cases h'
 | _,_,_,.lst h r,.tup h' r' =>by rw[h]at h';cases h'
 | _,_,_,.lst h r,.lst h' r' =>by
  rw[h]at h';cases h';rw[zI.fn r r']
 | _,_,_,.lst h r,.fz h' r' =>by rw[h]at h';cases h'
 | _,_,_,.fz h r,.tup h' r' =>by rw[h]at h';cases h'
 | _,_,_,.fz h r,.lst h' r' =>by rw[h]at h';cases h'
 | _,_,_,.fz h r,.fz h' r' =>by
  rw[h]at h';cases h';rw[zI.fn r r']
theorem zI.fn {H:Hp}:∀{v:List V} {t t' :List T},zI H v t->zI H v t' ->t=t'
 | _,_,_,.nil,.nil=>rfl
 | _,_,_,.cons h r,.cons h' r' =>by rw[Rep.fn h h',zI.fn r r']
end
theorem Zp {f:T->T->Option Bool}(hf:∀x b,f x x=some b->b=true):∀(xs:List T) (b:Bool),eqL f xs xs=some b->b=true
 | [],b,h=>by
  have h' :some true=some b:=h;cases h';rfl
 | x :: xs,b,h=>by
  unfold eqL at h;cases e:f x x with
  | none=>rw[e]at h;cases h
  | some c=>
   rw[e]at h;cases e' :eqL f xs xs with
   | none=>rw[e']at h;cases h
   | some d=>
    rw[e']at h;cases h;rw[hf x c e,Zp hf xs d e'];rfl
theorem Z5:∀(n:Nat) (t:T) (b:Bool),eqF n t t=some b->b=true
 | n,.non,b,h=>by unfold eqF at h;cases h;rfl
 | n,.bl x,b,h=>by unfold eqF at h;cases h;simp
 | n,.int x,b,h=>by unfold eqF at h;cases h;simp
 | n,.str x,b,h=>by unfold eqF at h;cases h;simp
 | 0,.tup x,b,h=>by unfold eqF at h;cases h
 | 0,.lst x,b,h=>by unfold eqF at h;cases h
 | 0,.fz x,b,h=>by unfold eqF at h;cases h
 | n+1,.tup x,b,h=>by unfold eqF at h;exact Zp (Z5 n) x b h
 | n+1,.lst x,b,h=>by unfold eqF at h;exact Zp (Z5 n) x b h
 | n+1,.fz x,b,h=>by unfold eqF at h;exact Zp (Z5 n) x b h
theorem yO {f:T->T->Option Bool}:∀{xs ys:List T} {b:Bool},eqL f xs ys=some b->
  ∃e:Nat->Bool,(∀j x y,xs[j]? =some x->ys[j]? =some y->f x y=some (e j))/\((aX (min xs.length ys.length)).all e && xs.length == ys.length)=b
 | [],[],b,h=>by
  have h' :some true=some b:=h;cases h';exact⟨λ_=>true,λj x y h=>by simp at h,by simp⟩
 | [],y :: ys,b,h=>by
  have h' :some false=some b:=h;cases h';exact⟨λ_=>true,λj x y h=>by simp at h,by simp⟩
 | x :: xs,[],b,h=>by
  have h' :some false=some b:=h;cases h';exact⟨λ_=>true,λj x y h h' =>by simp at h',by simp⟩
 | x :: xs,y :: ys,b,h=>by
  unfold eqL at h;cases e:f x y with
  | none=>rw[e]at h;cases h
  | some c=>
   rw[e]at h;cases e' :eqL f xs ys with
   | none=>rw[e']at h;cases h
   | some d=>
    rw[e']at h;cases h;obtain⟨g,h1,h2⟩:=yO e';refine⟨λj=>match j with | 0=>c | j+1=>g j,λj u v hu hv=> ?_, ?_⟩
    ·cases j with
     | zero=>simp at hu hv;subst hu hv;exact e
     | succ j=>exact h1 j u v (by simpa using hu) (by simpa using hv)
    ·have z:min (x :: xs).length (y :: ys).length=min xs.length ys.length+1:=by simp only[av];omega
     rw[z,dS,c9,iC];have z2:((x :: xs).length == (y :: ys).length)=(xs.length == ys.length):=by simp
     rw[z2,← h2,Bool.and_assoc];rfl
section
variable {X:Cx}{pins:List (Addr×Obj)}{σ:Sg}{H:Hp}{s:Shared}
theorem ZN {a:Addr}{xs:List V}{ts:List T}(I:L2.Inv X pins σ H s)(h:H a=some (.tup xs))(r:zI H xs ts):∃its:List Value,Z1 xs its/\s.heap.IsTuple a its.toArray/\ts.length=its.length/\xs.length<=sizeLine:=by
 obtain⟨its,rv,p,z⟩:=I.tuple (SqT.of h);exact⟨its,rv,p,by rw[← r.length];exact rv.length,z⟩
theorem zP {a:Addr}{xs:List V}{ts:List T}(I:L2.Inv X pins σ H s)(h:Rd H a (.lst xs))(r:zI H xs ts):∃its:List Value,Z1 xs its/\s.heap.IsList a its.toArray/\ts.length=its.length/\xs.length<=sizeLine:=by
 obtain⟨its,rv,p,z⟩:=I.list (.inl h);exact⟨its,rv,p.isList,by rw[← r.length];exact rv.length,z⟩
end
abbrev EqN (A:Around)(s:Shared)(u u' :Value)(b:Bool):Prop:=dw A s u u' b/\fR A s u u' b/\dU A s u u' (!b)
section
variable {X:Cx}{pins:List (Addr×Obj)}{σ:Sg}{H:Hp}{s:Shared}
theorem yP {xs ys:List V}{ts us:List T}{its its' :List Value}{A:Around}{f:T->T->Option Bool}{e:Nat->Bool}(r:zI H xs ts)(r' :zI H ys us)(v:Z1 xs its)(v' :Z1 ys its')
  (he:∀(j:Nat) (x y:T),ts[j]? =some x->us[j]? =some y->f x y=some (e j))
  (ih:∀(x y:T) (b:Bool) (p q:V) (u w:Value),f x y=some b->Rep H p x->Rep H q y->Zf p u->Zf q w->EqN A s u w b) (j:Nat) (h1:j < its.toArray.size) (h2:j < its'.toArray.size):
  dw A s its.toArray[j] its'.toArray[j] (e j):=by
 have l1:=v.length;have l2:=v'.length;have m1:=r.length;have m2:=r'.length;have k1:j < xs.length:=by simp at h1;omega
 have k2:j < ys.length:=by simp at h2;omega
 obtain⟨t,et,rt⟩:=r.getV (ac k1);obtain⟨t',et',rt'⟩:=r'.getV (ac k2);obtain⟨u,eu,ru⟩:=v.get (ac k1);obtain⟨u',eu',ru'⟩:=v'.get (ac k2);have q1:its.toArray[j]=u:=by
  have:its[j]? =some its.toArray[j]:=by simp at h1 ⊢
  rw[eu]at this;exact(b6 this).symm
 have q2:its'.toArray[j]=u' :=by
  have:its'[j]? =some its'.toArray[j]:=by simp at h2 ⊢
  rw[eu']at this;exact(b6 this).symm
 rw[q1,q2];exact(ih t t' (e j) _ _ u u' (he j t t' et et') rt rt' ru ru').1
theorem xf {A:Around}{a c:Addr}{xs ys:List V}{ts us:List T}{b:Bool}{f:T->T->Option Bool}(I:L2.Inv X pins σ H s)(hu:A.units < cLine)(ha:H a=some (.tup xs))(hc:H c=some (.tup ys))(r:zI H xs ts)(r' :zI H ys us)
  (hb:eqL f ts us=some b) (hr:∀x b,f x x=some b->b=true)
  (ih:∀(x y:T) (b:Bool) (p q:V) (u w:Value),f x y=some b->Rep H p x->Rep H q y->Zf p u->Zf q w->EqN A.in1 s u w b):EqN A s (.ref a) (.ref c) b:=by
 obtain⟨its,v,p,l,_⟩:=ZN I ha r;obtain⟨its',v',p',l',_⟩:=ZN I hc r';obtain⟨e,he,hb'⟩:=yO hb;have hp:=yP (A:=A.in1) r r' v v' he ih;have z:((aX (min its.toArray.size its'.toArray.size)).all e && its.toArray.size == its'.toArray.size)=b:=by
  rw[← hb'];simp[l,l']
 have R:=fR.tuples p p' hu hp;have N:=dU.tuples p p' hu hp;rw[z]at R;have N' :dU A s (.ref a) (.ref c) (!b):=by
  rw[← z];exact N
 refine⟨?_,R,N'⟩
 by_cases hac:a=c
 ·subst hac;rw[ha]at hc;cases hc;have:=r.fn r';subst this;rw[Zp hr ts b hb];exact l9 _
 ·exact ie hac R
theorem wz {A:Around}{a c:Addr}{xs ys:List V}{ts us:List T}{b:Bool}{f:T->T->Option Bool}(I:L2.Inv X pins σ H s)(hu:A.units < cLine)(ha:Rd H a (.lst xs))(hc:Rd H c (.lst ys))(r:zI H xs ts)(r' :zI H ys us)
  (hb:eqL f ts us=some b) (hr:∀x b,f x x=some b->b=true)
  (ih:∀(x y:T) (b:Bool) (p q:V) (u w:Value),f x y=some b->Rep H p x->Rep H q y->Zf p u->Zf q w->EqN A.in1 s u w b):EqN A s (.ref a) (.ref c) b:=by
 obtain⟨its,v,p,l,_⟩:=zP I ha r;obtain⟨its',v',p',l',_⟩:=zP I hc r';obtain⟨e,he,hb'⟩:=yO hb;have hp:=yP (A:=A.in1) r r' v v' he ih;have RN:fR A s (.ref a) (.ref c) b/\dU A s (.ref a) (.ref c) (!b):=by
  by_cases hl:its.toArray.size=its'.toArray.size
  ·have z:(aX its.toArray.size).all e=b:=by
    rw[← hb'];have:ts.length=us.length:=by simp at hl;omega
    rw[this];have k:its.toArray.size=us.length:=by simp;omega
    rw[k];simp
   have R:=fR.lists p p' hl hu hp;have N:=dU.lists p p' hl hu hp;rw[z]at R;refine⟨R, ?_⟩;rw[← z];exact N
  ·have hl' :(its.toArray.size != its'.toArray.size)=true:=by simpa using hl
   have z:b=false:=by
    rw[← hb'];have:¬ ts.length=us.length:=by simp at hl;omega
    simp[this]
   subst z;exact⟨fR.lists_lengths p p' hl' hu,dU.lists_lengths p p' hl' hu⟩
 refine⟨?_,RN.1,RN.2⟩
 by_cases hac:a=c
 ·subst hac;have hxy:xs=ys:=by
   rcases ha with ha | ⟨o,ha⟩ <;> rcases hc with hc | ⟨o',hc⟩ <;> (rw[ha]at hc;cases hc) <;> rfl
  subst hxy;have:=r.fn r';subst this;rw[Zp hr ts b hb];exact l9 _
 ·exact ie hac RN.1
end
section
variable {X:Cx}{pins:List (Addr×Obj)}{σ:Sg}{H:Hp}{s:Shared}
theorem Wm {A:Around}:A.in1.units=A.units+1:=rfl
set_option maxHeartbeats 2000000 in
theorem yQ (I:L2.Inv X pins σ H s):∀(A:Around),A.units < cLine->∀(x y:T) (b:Bool) (p q:V) (u w:Value),eqF 0 x y=some b->Rep H p x->Rep H q y->Zf p u->Zf q w->EqN A s u w b:=by
 intro A hu x y b p q u w h rp rq ru rw';have hu' :=hu;cases rp with
 | non=>
  obtain rfl:u=Value.none:=ru;cases rq with
  | non=>obtain rfl:w=Value.none:=rw';unfold eqF at h;cases h;exact⟨.same _,.none_none,.none_none⟩
  | bl c=>obtain rfl:w=Value.bool c:=rw';unfold eqF at h;cases h;exact⟨.none_bool _,.none_bool _,.none_bool _⟩
  | int c=>obtain⟨t,rfl⟩:=rw';unfold eqF at h;cases h;exact⟨.none_int _ _,.none_int _ _,.none_int _ _⟩
  | str c=>obtain⟨t,rfl⟩:=rw';unfold eqF at h;cases h;exact⟨.none_str _ _,.none_str _ _,.none_str _ _⟩
  | tup h1 r1=>obtain rfl:w=Value.ref _:=rw';unfold eqF at h;cases h;obtain⟨i,_,p,_⟩:=ZN I h1 r1;exact⟨.none_tuple p hu',.none_tuple p hu',.none_tuple p hu'⟩
  | lst h1 r1=>obtain rfl:w=Value.ref _:=rw';unfold eqF at h;cases h;obtain⟨i,_,p,_⟩:=zP I (.inl h1) r1;exact⟨.none_list p hu',.none_list p hu',.none_list p hu'⟩
  | fz h1 r1=>obtain rfl:w=Value.ref _:=rw';unfold eqF at h;cases h;obtain⟨i,_,p,_⟩:=zP I (.inr ⟨_,h1⟩) r1;exact⟨.none_list p hu',.none_list p hu',.none_list p hu'⟩
 | bl d=>
  obtain rfl:u=Value.bool d:=ru;cases rq with
  | non=>obtain rfl:w=Value.none:=rw';unfold eqF at h;cases h;exact⟨.bool_none _,.bool_none _,.bool_none _⟩
  | bl c=>obtain rfl:w=Value.bool c:=rw';unfold eqF at h;cases h;exact⟨.bool_bool _ _,.bool_bool _ _,.bool_bool _ _⟩
  | int c=>obtain⟨t,rfl⟩:=rw';unfold eqF at h;cases h;exact⟨.bool_int _ _ _,.bool_int _ _ _,.bool_int _ _ _⟩
  | str c=>obtain⟨t,rfl⟩:=rw';unfold eqF at h;cases h;exact⟨.bool_str _ _ _,.bool_str _ _ _,.bool_str _ _ _⟩
  | tup h1 r1=>obtain rfl:w=Value.ref _:=rw';unfold eqF at h;cases h;obtain⟨i,_,p,_⟩:=ZN I h1 r1;exact⟨.bool_tuple _ p hu',.bool_tuple _ p hu',.bool_tuple _ p hu'⟩
  | lst h1 r1=>obtain rfl:w=Value.ref _:=rw';unfold eqF at h;cases h;obtain⟨i,_,p,_⟩:=zP I (.inl h1) r1;exact⟨.bool_list _ p hu',.bool_list _ p hu',.bool_list _ p hu'⟩
  | fz h1 r1=>obtain rfl:w=Value.ref _:=rw';unfold eqF at h;cases h;obtain⟨i,_,p,_⟩:=zP I (.inr ⟨_,h1⟩) r1;exact⟨.bool_list _ p hu',.bool_list _ p hu',.bool_list _ p hu'⟩
 | int d=>
  obtain⟨t0,rfl⟩:=ru;cases rq with
  | non=>obtain rfl:w=Value.none:=rw';unfold eqF at h;cases h;exact⟨.int_none _ _,.int_none _ _,.int_none _ _⟩
  | bl c=>obtain rfl:w=Value.bool c:=rw';unfold eqF at h;cases h;exact⟨.int_bool _ _ _,.int_bool _ _ _,.int_bool _ _ _⟩
  | int c=>obtain⟨t,rfl⟩:=rw';unfold eqF at h;cases h;exact⟨.int_int _ _ _ _,.int_int _ _ _ _,.int_int _ _ _ _⟩
  | str c=>obtain⟨t,rfl⟩:=rw';unfold eqF at h;cases h;exact⟨.int_str _ _ _ _,.int_str _ _ _ _,.int_str _ _ _ _⟩
  | tup h1 r1=>obtain rfl:w=Value.ref _:=rw';unfold eqF at h;cases h;obtain⟨i,_,p,_⟩:=ZN I h1 r1;exact⟨.int_tuple _ _ p hu',.int_tuple _ _ p hu',.int_tuple _ _ p hu'⟩
  | lst h1 r1=>obtain rfl:w=Value.ref _:=rw';unfold eqF at h;cases h;obtain⟨i,_,p,_⟩:=zP I (.inl h1) r1;exact⟨.int_list _ _ p hu',.int_list _ _ p hu',.int_list _ _ p hu'⟩
  | fz h1 r1=>obtain rfl:w=Value.ref _:=rw';unfold eqF at h;cases h;obtain⟨i,_,p,_⟩:=zP I (.inr ⟨_,h1⟩) r1;exact⟨.int_list _ _ p hu',.int_list _ _ p hu',.int_list _ _ p hu'⟩
 | str d=>
  obtain⟨t0,rfl⟩:=ru;cases rq with
  | non=>obtain rfl:w=Value.none:=rw';unfold eqF at h;cases h;exact⟨.str_none _ _,.str_none _ _,.str_none _ _⟩
  | bl c=>obtain rfl:w=Value.bool c:=rw';unfold eqF at h;cases h;exact⟨.str_bool _ _ _,.str_bool _ _ _,.str_bool _ _ _⟩
  | int c=>obtain⟨t,rfl⟩:=rw';unfold eqF at h;cases h;exact⟨.str_int _ _ _ _,.str_int _ _ _ _,.str_int _ _ _ _⟩
  | str c=>obtain⟨t,rfl⟩:=rw';unfold eqF at h;cases h;exact⟨.str_str _ _ _ _,.str_str _ _ _ _,.str_str _ _ _ _⟩
  | tup h1 r1=>obtain rfl:w=Value.ref _:=rw';unfold eqF at h;cases h;obtain⟨i,_,p,_⟩:=ZN I h1 r1;exact⟨.str_tuple _ _ p hu',.str_tuple _ _ p hu',.str_tuple _ _ p hu'⟩
  | lst h1 r1=>obtain rfl:w=Value.ref _:=rw';unfold eqF at h;cases h;obtain⟨i,_,p,_⟩:=zP I (.inl h1) r1;exact⟨.str_list _ _ p hu',.str_list _ _ p hu',.str_list _ _ p hu'⟩
  | fz h1 r1=>obtain rfl:w=Value.ref _:=rw';unfold eqF at h;cases h;obtain⟨i,_,p,_⟩:=zP I (.inr ⟨_,h1⟩) r1;exact⟨.str_list _ _ p hu',.str_list _ _ p hu',.str_list _ _ p hu'⟩
 | tup h0 r0=>
  obtain rfl:u=Value.ref _:=ru;obtain⟨i0,_,p0,_⟩:=ZN I h0 r0;cases rq with
  | non=>obtain rfl:w=Value.none:=rw';unfold eqF at h;cases h;exact⟨.tuple_none p0 hu',.tuple_none p0 hu',.tuple_none p0 hu'⟩
  | bl c=>obtain rfl:w=Value.bool c:=rw';unfold eqF at h;cases h;exact⟨.tuple_bool _ p0 hu',.tuple_bool _ p0 hu',.tuple_bool _ p0 hu'⟩
  | int c=>obtain⟨t,rfl⟩:=rw';unfold eqF at h;cases h;exact⟨.tuple_int _ _ p0 hu',.tuple_int _ _ p0 hu',.tuple_int _ _ p0 hu'⟩
  | str c=>obtain⟨t,rfl⟩:=rw';unfold eqF at h;cases h;exact⟨.tuple_str _ _ p0 hu',.tuple_str _ _ p0 hu',.tuple_str _ _ p0 hu'⟩
  | tup h1 r1=>unfold eqF at h;cases h
  | lst h1 r1=>obtain rfl:w=Value.ref _:=rw';unfold eqF at h;cases h;obtain⟨i,_,p,_⟩:=zP I (.inl h1) r1;exact⟨.tuple_list p0 p hu',.tuple_list p0 p hu',.tuple_list p0 p hu'⟩
  | fz h1 r1=>obtain rfl:w=Value.ref _:=rw';unfold eqF at h;cases h;obtain⟨i,_,p,_⟩:=zP I (.inr ⟨_,h1⟩) r1;exact⟨.tuple_list p0 p hu',.tuple_list p0 p hu',.tuple_list p0 p hu'⟩
 | lst h0 r0=>
  obtain rfl:u=Value.ref _:=ru;obtain⟨i0,_,p0,_⟩:=zP I (.inl h0) r0;cases rq with
  | non=>obtain rfl:w=Value.none:=rw';unfold eqF at h;cases h;exact⟨.list_none p0 hu',.list_none p0 hu',.list_none p0 hu'⟩
  | bl c=>obtain rfl:w=Value.bool c:=rw';unfold eqF at h;cases h;exact⟨.list_bool _ p0 hu',.list_bool _ p0 hu',.list_bool _ p0 hu'⟩
  | int c=>obtain⟨t,rfl⟩:=rw';unfold eqF at h;cases h;exact⟨.list_int _ _ p0 hu',.list_int _ _ p0 hu',.list_int _ _ p0 hu'⟩
  | str c=>obtain⟨t,rfl⟩:=rw';unfold eqF at h;cases h;exact⟨.list_str _ _ p0 hu',.list_str _ _ p0 hu',.list_str _ _ p0 hu'⟩
  | tup h1 r1=>obtain rfl:w=Value.ref _:=rw';unfold eqF at h;cases h;obtain⟨i,_,p,_⟩:=ZN I h1 r1;exact⟨.list_tuple p0 p hu',.list_tuple p0 p hu',.list_tuple p0 p hu'⟩
  | lst h1 r1=>unfold eqF at h;cases h
  | fz h1 r1=>unfold eqF at h;cases h
 | fz h0 r0=>
  obtain rfl:u=Value.ref _:=ru;obtain⟨i0,_,p0,_⟩:=zP I (.inr ⟨_,h0⟩) r0;cases rq with
  | non=>obtain rfl:w=Value.none:=rw';unfold eqF at h;cases h;exact⟨.list_none p0 hu',.list_none p0 hu',.list_none p0 hu'⟩
  | bl c=>obtain rfl:w=Value.bool c:=rw';unfold eqF at h;cases h;exact⟨.list_bool _ p0 hu',.list_bool _ p0 hu',.list_bool _ p0 hu'⟩
  | int c=>obtain⟨t,rfl⟩:=rw';unfold eqF at h;cases h;exact⟨.list_int _ _ p0 hu',.list_int _ _ p0 hu',.list_int _ _ p0 hu'⟩
  | str c=>obtain⟨t,rfl⟩:=rw';unfold eqF at h;cases h;exact⟨.list_str _ _ p0 hu',.list_str _ _ p0 hu',.list_str _ _ p0 hu'⟩
  | tup h1 r1=>obtain rfl:w=Value.ref _:=rw';unfold eqF at h;cases h;obtain⟨i,_,p,_⟩:=ZN I h1 r1;exact⟨.list_tuple p0 p hu',.list_tuple p0 p hu',.list_tuple p0 p hu'⟩
  | lst h1 r1=>unfold eqF at h;cases h
  | fz h1 r1=>unfold eqF at h;cases h
set_option maxHeartbeats 2000000 in
theorem xg (I:L2.Inv X pins σ H s):∀(n:Nat) (A:Around),A.units+n < cLine->∀(x y:T) (b:Bool) (p q:V) (u w:Value),eqF n x y=some b->Rep H p x->Rep H q y->Zf p u->Zf q w->EqN A s u w b:=by
 intro n
 induction n with
 | zero=>exact λA hu x y b p q u w h=>yQ I A (by omega) x y b p q u w h
 | succ n ih=>
  intro A hu x y b p q u w h rp rq ru rw';have low:eqF 0 x y=some b->EqN A s u w b:=λh=>yQ I A (by omega) x y b p q u w h rp rq ru rw'
  have hu' :A.units < cLine:=by omega
  have ih' :=ih A.in1 (by rw[Wm];omega)
  cases rp with
  | tup h0 r0=>
   cases rq with
   | tup h1 r1=>
    obtain rfl:u=Value.ref _:=ru;obtain rfl:w=Value.ref _:=rw';unfold eqF at h;exact xf I hu' h0 h1 r0 r1 h (Z5 n) ih'
   | _=>exact low (by unfold eqF at h ⊢;exact h)
  | lst h0 r0=>
   cases rq with
   | lst h1 r1=>
    obtain rfl:u=Value.ref _:=ru;obtain rfl:w=Value.ref _:=rw';unfold eqF at h;exact wz I hu' (.inl h0) (.inl h1) r0 r1 h (Z5 n) ih'
   | fz h1 r1=>
    obtain rfl:u=Value.ref _:=ru;obtain rfl:w=Value.ref _:=rw';unfold eqF at h;exact wz I hu' (.inl h0) (.inr ⟨_,h1⟩) r0 r1 h (Z5 n) ih'
   | _=>exact low (by unfold eqF at h ⊢;exact h)
  | fz h0 r0=>
   cases rq with
   | lst h1 r1=>
    obtain rfl:u=Value.ref _:=ru;obtain rfl:w=Value.ref _:=rw';unfold eqF at h;exact wz I hu' (.inr ⟨_,h0⟩) (.inl h1) r0 r1 h (Z5 n) ih'
   | fz h1 r1=>
    obtain rfl:u=Value.ref _:=ru;obtain rfl:w=Value.ref _:=rw';unfold eqF at h;exact wz I hu' (.inr ⟨_,h0⟩) (.inr ⟨_,h1⟩) r0 r1 h (Z5 n) ih'
   | _=>exact low (by unfold eqF at h ⊢;exact h)
  | _=>exact low (by cases rq <;> (unfold eqF at h ⊢;exact h))
end
section
variable {X:Cx}{Y:Fx}{a b c d:Expr}{fa fb fc fd:En->R T}{pos:Pos}
def rG (Y:Fx)(g:T->T->R T):R2:=λx y H Q=>∃B t t',zw B H/\Rep B x t/\Rep B y t' /\Po Y rC B H (g t t') Q
def zc (g:T->T->R T)(fa fb:En->R T):En->R T:=λρ=>(fa ρ).bind λx=>(fb ρ).bind λy=>g x y
theorem Wn {op:Operator}{g:T->T->R T}(ho:OpR X (binaryOp op) (rG Y g))(ha:Snd X Y a fa)(hb:Snd X Y b fb):Snd X Y (.BinOp a op b pos) (zc g fa fb):= .mk λρ=>
 PE.imp (z0T ho (ha ρ) (hb ρ)) λσ H Q ⟨B,I,q⟩=>step I q λt v H1 _ s1 r1 I1 q1=>step I1 q1 λt' v' H2 _ s2 r2 I2 q2=>
  ⟨_,t,t',I2.sB,r1.mono (zS.ge I1.sB s2),r2,q2⟩
theorem po0 {g:R T}{B H:Hp}{Q:VK}{t:T}{v:V}(sB:zw B H)(q:Po Y rC B H g Q)(e:g= .ok t)(r:Rep B v t):Q v H:=by
 subst e;exact q v H (zw.refl H) (by show Rep (zS B H H) v t;rw[zS.self B H sB];exact r)
theorem K3 {g:R T}{B H:Hp}{Q:VK}{ts:List T}{xs:List V}{p:Addr}(sB:zw B H)(q:Po Y rC B H g Q)(e:g= .ok (.tup ts))(r:zI B xs ts)(h:H p=none):Q (.ref p) (upd H p (.tup xs)):=by
 subst e;exact q _ _ (zw.new h _) (.tup (jq h _) (r.mono (zS.ge sB (zw.new h _))))
theorem po1l {g:R T}{B H:Hp}{Q:VK}{ts:List T}{xs:List V}{p:Addr}(sB:zw B H)(q:Po Y rC B H g Q)(e:g= .ok (.lst ts))(r:zI B xs ts)(h:H p=none):Q (.ref p) (upd H p (.lst xs)):=by
 subst e;exact q _ _ (zw.new h _) (.lst (jq h _) (r.mono (zS.ge sB (zw.new h _))))
def zA:T->T->R T
 | .int i,.int j=> .ok (.int (i+j))
 | .bl x,.int j=> .ok (.int (b2 x+j))
 | .int i,.bl y=> .ok (.int (i+b2 y))
 | .str x,.str y=>if x.length+y.length<=bnd then .ok (.str (x++y)) else .bad
 | .tup xs,.tup ys=>if xs.length+ys.length<=bnd then .ok (.tup (xs++ys)) else .bad
 | .lst xs,.lst ys=>if xs.length+ys.length<=bnd then .ok (.lst (xs++ys)) else .bad
 | _,_=> .bad
theorem Qu {prog:Program}{w:World}{A:Around}{E:Value->Shared->Prop}{s:Shared}{t b:Addr}{vs ws:List Value}{Q:Value->Shared->Prop}(ht:IsTup s.heap t vs.toArray)(hb:IsTup s.heap b ws.toArray)(hv:vs=[])
  (h1:Q (.ref b) s):wpAny (model prog w) A (binaryOp .Add (.ref t) (.ref b)) Q E s:=by
 obtain⟨⟨cls,dd,data,sl⟩,ho,hc,n,hd⟩:=id ht;obtain⟨⟨cls2,dd2,data2,sl2⟩,ho2,hc2,n2,hd2⟩:=id hb;simp only at hc hd hc2 hd2;subst hc hd hc2 hd2;exact concat_meets ⟨_,ho,rfl⟩ ⟨_,ho2,rfl⟩ noFill_tuple_add seq_tuple_add dR dN (dF _ _)
   (tuple_addW0 t b vs.toArray ws.toArray n n2 dd dd2 sl sl2 (by simp[hv])) ⟨ho,ho2,h1⟩
theorem xh:OpR X (binaryOp .Add) (rG Y zA):=by
 intro pins s σ H x y v u Q I rx ry h;obtain⟨B,t,t',sB,r,r',q⟩:=h;cases r with
 | int i=>
  cases r' with
  | int j=>exact kH pins s σ H _ _ v u Q I rx ry ⟨i,j,rfl,rfl,po0 sB q rfl (.int _)⟩
  | bl y=>exact yC pins s σ H _ _ v u Q I rx ry ⟨i,y,rfl,rfl,po0 sB q rfl (.int _)⟩
  | _=>exact q.elim
 | bl x=>
  cases r' with
  | int j=>
   obtain rfl:v=Value.bool x:=rx;obtain⟨tk,rfl⟩:=ry;exact IntBool.add_bool_int (⟨.int _,H,I.tok _,⟨_,rfl⟩,po0 sB q rfl (.int _)⟩)
  | _=>exact q.elim
 | str x=>
  cases r' with
  | str y=>
   by_cases hb:x.length+y.length<=bnd
   ·exact UH pins s σ H _ _ v u Q I rx ry ⟨x,y,rfl,rfl,Zz hb,po0 sB q (if_pos hb) (.str _)⟩
   ·rw[show zA (.str x) (.str y)= .bad from if_neg hb]at q;exact q.elim
  | _=>exact q.elim
 | @tup a xs ts h1 r1=>
  cases r' with
  | @tup a' ys us h2 r2=>
   by_cases hb:ts.length+us.length<=bnd
   ·have eg:zA (.tup ts) (.tup us)= .ok (.tup (ts++us)):=if_pos hb;have hz:xs.length+ys.length<=sizeLine:=by rw[r1.length,r2.length];exact Zz hb
    by_cases hx:xs=[]
    ·obtain rfl:v=Value.ref a:=rx;obtain rfl:u=Value.ref a' :=ry;obtain⟨its,rv,p,_⟩:=I.tuple (SqT.of (sB _ _ h1));obtain⟨its',rv',p',_⟩:=I.tuple (SqT.of (sB _ _ h2));have et:ts=[]:=r1.nil_iff.mp hx;refine Qu p p' (rv.nil_iff.mpr hx) ⟨.ref a',H,I,rfl,po0 sB q eg ?_⟩;rw[et];exact .tup h2 r2
    ·refine VX pins s σ H _ _ v u Q I rx ry ⟨a,a',xs,ys,rfl,rfl,SqT.of (sB _ _ h1),SqT.of (sB _ _ h2),hx,hz,λhy=> ?_,λhy p hp=> ?_⟩
     ·refine po0 sB q eg ?_;rw[r2.nil_iff.mp hy,cI];exact .tup h1 r1
     ·exact K3 sB q eg (r1.append r2) hp
   ·rw[show zA (.tup ts) (.tup us)= .bad from if_neg hb]at q;exact q.elim
  | _=>exact q.elim
 | @lst a xs ts h1 r1=>
  cases r' with
  | @lst a' ys us h2 r2=>
   by_cases hb:ts.length+us.length<=bnd
   ·have eg:zA (.lst ts) (.lst us)= .ok (.lst (ts++us)):=if_pos hb;have hz:xs.length+ys.length<=sizeLine:=by rw[r1.length,r2.length];exact Zz hb
    exact kX pins s σ H _ _ v u Q I rx ry ⟨a,a',xs,ys,rfl,rfl,sB _ _ h1,sB _ _ h2,hz,λp hp=>po1l sB q eg (r1.append r2) hp⟩
   ·rw[show zA (.lst ts) (.lst us)= .bad from if_neg hb]at q;exact q.elim
  | _=>exact q.elim
 | _=>cases r' <;> exact q.elim
theorem z1a (ha:Snd X Y a fa)(hb:Snd X Y b fb):Snd X Y (.BinOp a .Add b pos) (zc zA fa fb):=Wn xh ha hb
def J6:T->T->R T
 | .int i,.int j=> .ok (.int (i - j))
 | _,_=> .bad
def jP:T->T->R T
 | .int i,.int j=>if 0 < j then .ok (.int (i % j)) else .bad
 | _,_=> .bad
def Jr:T->T->R T
 | .int i,.int j=>if 0 < j/\j < 1073741824 then .ok (.int (i / j)) else .bad
 | _,_=> .bad
instance (i j:Int):Decidable (W4 i j):=by unfold W4;infer_instance
def zT:T->T->R T
 | .int i,.int j=>if W4 i j then .ok (.int (i*j)) else .bad
 | .lst xs,.int k=>if 0<=k/\k < 1000000/\xs.length*k.toNat<=bnd then .ok (.lst (ag k.toNat xs).flatten) else .bad
 | .tup xs,.int k=>if 2<=k/\k < 1000000/\xs ≠ []/\xs.length*k.toNat<=bnd then .ok (.tup (ag k.toNat xs).flatten) else .bad
 | _,_=> .bad
theorem xi:OpR X (binaryOp .Sub) (rG Y J6):=by
 intro pins s σ H x y v u Q I rx ry h;obtain⟨B,t,t',sB,r,r',q⟩:=h;cases r with
 | int i=>
  cases r' with
  | int j=>exact kI pins s σ H _ _ v u Q I rx ry ⟨i,j,rfl,rfl,po0 sB q rfl (.int _)⟩
  | _=>exact q.elim
 | _=>cases r' <;> exact q.elim
theorem xj:OpR X (binaryOp .Mod) (rG Y jP):=by
 intro pins s σ H x y v u Q I rx ry h;obtain⟨B,t,t',sB,r,r',q⟩:=h;cases r with
 | int i=>
  cases r' with
  | int j=>
   by_cases hj:0 < j
   ·exact kK pins s σ H _ _ v u Q I rx ry ⟨i,j,rfl,rfl,hj,po0 sB q (if_pos hj) (.int _)⟩
   ·rw[show jP (.int i) (.int j)= .bad from if_neg hj]at q;exact q.elim
  | _=>exact q.elim
 | _=>cases r' <;> exact q.elim
theorem Qv:OpR X (binaryOp .FloorDiv) (rG Y Jr):=by
 intro pins s σ H x y v u Q I rx ry h;obtain⟨B,t,t',sB,r,r',q⟩:=h;cases r with
 | int i=>
  cases r' with
  | int j=>
   by_cases hj:0 < j/\j < 1073741824
   ·exact VR pins s σ H _ _ v u Q I rx ry ⟨i,j,rfl,rfl,hj,po0 sB q (if_pos hj) (.int _)⟩
   ·rw[show Jr (.int i) (.int j)= .bad from if_neg hj]at q;exact q.elim
  | _=>exact q.elim
 | _=>cases r' <;> exact q.elim
theorem UL (l:Addr)(items:Array Value)(n:Nat)(dd:Option Addr)(sl:Array (Option Value))(x:Int)(u:Tok)(h1:2<=x)(h2:x < 1000000)(hne:items.isEmpty=false)(hsz:items.size*x.toNat<=sizeLine):
  Meets (Builtin.«tuple.__mul__» ⟨[.ref l,.int x u],[]⟩) (λ_ R s=>s.heap.get? l=some { cls:= .type "tuple",dict:=dd,data:= .seq items n,slots:=sl }/\
   R (.ok (.ret (Value.ref s.heap.objs.size))) { s with heap:=s.heap.push { cls:=Value.type "tuple",data:=Data.seq (eA (λx1 x2=>x1++x2) #[] (ag x.toNat items)) },toks:=s.toks }):=
 .of_wp λprog w A R s h=>by
  obtain⟨hp,g,d,tk,os⟩:=s;obtain⟨hl,h⟩:=h;have f1:=iT;have e0:(items.size:Int)*x=((items.size*x.toNat:Nat):Int):=by
   have:x=((x.toNat:Nat):Int):=by omega
   rw[eJ,← this]
  have sl1:(sizeLine:Nat)=16777216:=bI;have c1:¬ (decide (x < -(2 ^ 63)) || decide (x ≥ 2 ^ 63))=true:=by simp;omega
  have c2:¬ (items.isEmpty || x == 1)=true:=by simp[hne];omega
  have c3:¬ (decide (x<=0) || items.isEmpty)=true:=by simp[hne];omega
  have c4:¬ ((items.size:Int)*x > (2 ^ 63 - 1) / 8):=by rw[e0];omega
  have c5:¬ eZ ((items.size:Int)*x)=true:=by
   unfold eZ;rw[e0];intro z;have:=of_decide_eq_true z;omega
  unfold Builtin.«tuple.__mul__»
  wp_walk using wpAny_loadPart' hl
  rw[if_neg c1]
  wp_walk using wpAny_loadPart' hl
  rw[if_neg c2]
  try dsimp only
  rw[if_neg c3]
  try dsimp only
  rw[if_neg c4]
  try dsimp only
  rw[if_neg c5]
  try dsimp only
  have hsz' :sizeOk (.seq (eA (λx1 x2=>x1++x2) #[] (ag x.toNat items))):=by
   show (eA (λx1 x2=>x1++x2) #[] (ag x.toNat items)).size<=sizeLine;have:=jy items.toList x.toNat [];rw[bP]at this;have q:eA (λx1 x2=>x1++x2) #[] (ag x.toNat items)=(ag x.toNat items.toList).flatten.toArray:=by
    simpa using this
   rw[q,az,jG,aT,cM];exact hsz
  exact aa (m:=ck _) (aJ (ai ⟨_,rfl,h⟩) hsz')
theorem jQ:seqRepeat? (.type "tuple")=pure (some (.builtin "tuple.__mul__")):=by
 unfold seqRepeat?;rw[iU (T:="tuple") (name:="__mul__") (id:="tuple.__mul__") eB.lookup (by decide+kernel),iU (T:="tuple") (name:="__rmul__") (id:="tuple.__rmul__") iD.lookup (by decide+kernel)]
 rfl
theorem j1:fillsNumberSlot (.type "tuple") "mul"=pure false:=
 PySem.fillsNumberSlot_seq (id:="tuple.__mul__") (r:=some (.builtin "tuple.__rmul__")) eB.lookup (by decide+kernel) iD.lookup (by decide+kernel)
theorem jl (a:Int)(t:Tok)(l:Addr)(items:Array Value)(n:Nat)(dd:Option Addr)(sl:Array (Option Value)):
  Meets (Builtin.«int.__rmul__» ⟨[.int a t,.ref l],[]⟩) (λ_ R s=>s.heap.get? l=some { cls:= .type "tuple",dict:=dd,data:= .seq items n,slots:=sl }/\R (.ok (.ret Value.notImplemented)) s):=
 .of_wp λprog w A R s h=>by obtain⟨hp,g,d,tk,os⟩:=s;obtain⟨hl,h⟩:=h;wp_walk;exact⟨_,rfl,h⟩
theorem xk {prog:Program}{w:World}{A:Around}{E:Value->Shared->Prop}{s:Shared}{l:Addr}{its:List Value}{k:Int}{t:Tok}{Q:Value->Shared->Prop}(p:IsTup s.heap l its.toArray)(hne:its ≠ [])(h1:2<=k)(h2:k < 1000000)
  (hsz:its.length*k.toNat<=sizeLine) (q:Q (.ref s.heap.objs.size) { s with heap:=s.heap.push { cls:= .type "tuple",data:= .seq (ag k.toNat its).flatten.toArray } }):
  wpAny (model prog w) A (binaryOp .Mult (.ref l) (.int k t)) Q E s:=by
 obtain⟨⟨cls,dd,data,sl⟩,ho,hc,n,hd⟩:=id p;simp only at hc hd;subst hc hd;refine wpAny_binaryOp_repeat_ref (T:="tuple") (U:="int") (by decide) ⟨_,ho,rfl⟩ (λs' =>eh s' k t) j1 fX di jQ fE.lookup
  (dL di (eh s k t) fF (fj _ _) (jl k t l its.toArray n dd sl)
   ⟨ho,rfl,⟨_,ho,rfl⟩,dL eB ⟨_,ho,rfl⟩ iE (ig _ _) (UL l its.toArray n dd sl k t h1 h2 (by simpa using hne) (by simpa using hsz)) ⟨ho, ?_⟩⟩)
 have:=jy its k.toNat [];rw[bP]at this;rw[this];exact q
theorem yR:OpR X (binaryOp .Mult) (rG Y zT):=by
 intro pins s σ H x y v u Q I rx ry h;obtain⟨B,t,t',sB,r,r',q⟩:=h;cases r with
 | int i=>
  cases r' with
  | int j=>
   by_cases hj:W4 i j
   ·exact kJ pins s σ H _ _ v u Q I rx ry ⟨i,j,rfl,rfl,hj,po0 sB q (if_pos hj) (.int _)⟩
   ·rw[show zT (.int i) (.int j)= .bad from if_neg hj]at q;exact q.elim
  | _=>exact q.elim
 | @lst l xs ts h1 r1=>
  cases r' with
  | int k=>
   by_cases hk:0<=k/\k < 1000000/\ts.length*k.toNat<=bnd
   ·have eg:zT (.lst ts) (.int k)= .ok (.lst (ag k.toNat ts).flatten):=if_pos hk;exact kY pins s σ H _ _ v u Q I rx ry ⟨l,k,xs,rfl,rfl,sB _ _ h1,by omega,by omega,by rw[r1.length];exact Zz hk.2.2,λp hp=>po1l sB q eg (r1.rep _) hp⟩
   ·rw[show zT (.lst ts) (.int k)= .bad from if_neg hk]at q;exact q.elim
  | _=>exact q.elim
 | @tup l xs ts h1 r1=>
  cases r' with
  | int k=>
   by_cases hk:2<=k/\k < 1000000/\ts ≠ []/\ts.length*k.toNat<=bnd
   ·have eg:zT (.tup ts) (.int k)= .ok (.tup (ag k.toNat ts).flatten):=if_pos hk;obtain rfl:v=Value.ref l:=rx;obtain⟨tk,rfl⟩:=ry;obtain⟨its,rv,p,_⟩:=I.tuple (SqT.of (sB _ _ h1));have ln:ts.length=its.length:=r1.length.symm.trans rv.length;have hne:its ≠ []:=λz=>hk.2.2.1 (by rw[z]at ln;exact cU.mp ln)
    refine xk p hne hk.1 hk.2.1 (by rw[← ln];exact Zz hk.2.2.2) ⟨.ref s.heap.objs.size,upd H s.heap.objs.size (.tup (ag k.toNat xs).flatten),I.laid (t' :=s.toks) (λb u e=>ad _ e) (am _) ?_,rfl, ?_⟩
    ·exact⟨by rw[jG,r1.length,cM];exact Zz hk.2.2.2,(ag k.toNat its).flatten,rv.rep _,⟨_,ah _ rfl,rfl,_,rfl⟩,.inr ⟨_,ah _ rfl,rfl⟩⟩
    ·exact K3 sB q eg (r1.rep _) (I.hok.fresh (am _))
   ·rw[show zT (.tup ts) (.int k)= .bad from if_neg hk]at q;exact q.elim
  | _=>exact q.elim
 | _=>cases r' <;> exact q.elim
theorem z1b (ha:Snd X Y a fa)(hb:Snd X Y b fb):Snd X Y (.BinOp a .Sub b pos) (zc J6 fa fb):=Wn xi ha hb
theorem z1c (ha:Snd X Y a fa)(hb:Snd X Y b fb):Snd X Y (.BinOp a .Mod b pos) (zc jP fa fb):=Wn xj ha hb
theorem K4 (ha:Snd X Y a fa)(hb:Snd X Y b fb):Snd X Y (.BinOp a .FloorDiv b pos) (zc Jr fa fb):=Wn Qv ha hb
theorem z1d (ha:Snd X Y a fa)(hb:Snd X Y b fb):Snd X Y (.BinOp a .Mult b pos) (zc zT fa fb):=Wn yR ha hb
def yj (fa:En->R T):En->R T:=λρ=>(fa ρ).bind λx=>match x with
 | .int i=> .ok (.int (-i))
 | _=> .bad
theorem z1e (ha:Snd X Y a fa):Snd X Y (.UnaryOp .USub a pos) (yj fa):= .mk λρ=>PE.imp (kG vR (ha ρ)) λσ H Q ⟨B,I,q⟩=>step I q λt v H1 _ s1 r1 I1 q1=>by
 cases r1 with
 | int i=>exact⟨i,rfl,po0 I1.sB q1 rfl (.int _)⟩
 | _=>exact q1.elim
def wc (g:T->T->R Bool):R2:=λx y H Q=>∃t t' b,Rep H x t/\Rep H y t' /\g t t' = .ok b/\Q (.bl b) H
def jY (g:T->T->R Bool)(fa fb:En->R T):En->R T:=λρ=>(fa ρ).bind λx=>(fb ρ).bind λy=>(g x y).bind λb=> .ok (.bl b)
def zk (g:T->T->R Bool)(fa fb:En->R T):En->R Bool:=λρ=>(fa ρ).bind λx=>(fb ρ).bind λy=>g x y
def Nx (g:T->T->R Bool):Prop:=∀t t' c,g t t' ≠ .ex c
theorem Qw {op:CmpOp}{g:T->T->R Bool}(nx:Nx g)(ho:OpR X (compareOp op) (wc g))(ha:jw X Y a fa)(hb:jw X Y b fb)(hm:behindInMarks op b=false):Snd X Y (.Compare a [op] [b] pos) (jY g fa fb):= .mk λρ=>
 PE.imp (VS ho (ha ρ) (hb ρ) hm) λσ H Q ⟨B,I,q⟩=>step I q λt v H1 _ s1 r1 I1 q1=>step I1 q1 λt' v' H2 _ s2 r2 I2 q2=>by
  cases e:g t t' with
  | bad=>rw[e]at q2;exact q2.elim
  | ex c=>exact absurd e (nx _ _ _)
  | ok b=>rw[e]at q2;exact⟨t,t',b,r1.mono s2,r2,e,ZX I2 q2 (.bl b)⟩
theorem Wo {op:CmpOp}{g:T->T->R Bool}(nx:Nx g)(ho:OpR X (compareOp op) (wc g))(ha:jw X Y a fa)(hb:jw X Y b fb)(hm:behindInMarks op b=false):wy X Y (.Compare a [op] [b] pos) (zk g fa fb):= .mk λρ=>
 PT.imp (VT ho (ha ρ) (hb ρ) hm) λσ H Q ⟨B,I,q⟩=>step I q λt v H1 _ s1 r1 I1 q1=>step I1 q1 λt' v' H2 _ s2 r2 I2 q2=>by
  cases e:g t t' with
  | bad=>rw[e]at q2;exact q2.elim
  | ex c=>exact absurd e (nx _ _ _)
  | ok b=>rw[e]at q2;exact⟨t,t',b,r1.mono s2,r2,e,b,rfl,ZX I2 q2 rfl⟩
def eqC (t t' :T):R Bool:=match eqF 30 t t' with
 | some b=> .ok b
 | none=> .bad
def neC (t t' :T):R Bool:=match eqF 30 t t' with
 | some b=> .ok (!b)
 | none=> .bad
theorem K5:Nx eqC:=λt t' c h=>by unfold eqC at h;split at h <;> cases h
theorem z1f:Nx neC:=λt t' c h=>by unfold neC at h;split at h <;> cases h
theorem vV (hu:X.A.units+64 < cLine):OpR X (compareOp .Eq) (wc eqC):=by
 intro pins s σ H x y v u Q I rx ry h;obtain⟨t,t',b,r,r',e,q⟩:=h;unfold eqC at e;split at e
 ·rename_i k ek;have e' :k=b:=by injection e
  subst e';exact(xg I 30 X.A (by omega) t t' k x y v u ek r r' rx ry).2.1 _ _ _ _ ⟨.bl k,H,I,rfl,q⟩
 ·cases e
theorem K6 (hu:X.A.units+64 < cLine):OpR X (compareOp .NotEq) (wc neC):=by
 intro pins s σ H x y v u Q I rx ry h;obtain⟨t,t',b,r,r',e,q⟩:=h;unfold neC at e;split at e
 ·rename_i k ek;cases e;exact(xg I 30 X.A (by omega) t t' k x y v u ek r r' rx ry).2.2 _ _ _ _ ⟨.bl (!k),H,I,rfl,q⟩
 ·cases e
def ltC:T->T->R Bool
 | .int i,.int j=> .ok (decide (i < j))
 | _,_=> .bad
def leC:T->T->R Bool
 | .int i,.int j=> .ok (decide (i<=j))
 | .str x,.str y=> .ok (!decide (y.cps.toList < x.cps.toList))
 | _,_=> .bad
def gtC:T->T->R Bool
 | .int i,.int j=> .ok (decide (j < i))
 | _,_=> .bad
theorem z1g:Nx ltC:=λt t' c h=>by unfold ltC at h;split at h <;> cases h
theorem Wp:Nx leC:=λt t' c h=>by unfold leC at h;split at h <;> cases h
theorem z1h:Nx gtC:=λt t' c h=>by unfold gtC at h;split at h <;> cases h
theorem K7:OpR X (compareOp .Lt) (wc ltC):=by
 intro pins s σ H x y v u Q I rx ry h;obtain⟨t,t',b,r,r',e,q⟩:=h;unfold ltC at e;split at e
 ·rename_i i j;cases e;cases r;cases r';exact z0V pins s σ H _ _ v u Q I rx ry ⟨i,j,rfl,rfl,q⟩
 ·cases e
theorem K8:OpR X (compareOp .Gt) (wc gtC):=by
 intro pins s σ H x y v u Q I rx ry h;obtain⟨t,t',b,r,r',e,q⟩:=h;unfold gtC at e;split at e
 ·rename_i i j;cases e;cases r;cases r';exact z0X pins s σ H _ _ v u Q I rx ry ⟨i,j,rfl,rfl,q⟩
 ·cases e
theorem jR:OpR X (compareOp .LtE) (wc leC):=by
 intro pins s σ H x y v u Q I rx ry h;obtain⟨t,t',b,r,r',e,q⟩:=h;unfold leC at e;split at e
 ·rename_i i j;cases e;cases r;cases r';exact z0W pins s σ H _ _ v u Q I rx ry ⟨i,j,rfl,rfl,q⟩
 ·rename_i i j;cases e;cases r;cases r';obtain⟨t1,rfl⟩:=rx;obtain⟨t2,rfl⟩:=ry;exact PySem.P.le_str ⟨.bl _,H,I,rfl,q⟩
 ·cases e
end
section
variable {X:Cx}{Y:Fx}{a b c d:Expr}{fa fb fc fd:En->R T}{pos:Pos}
def JV (f:T->Option Bool):List T->Option Bool
 | []=>some false
 | t :: r=>match f t with
  | none=>none
  | some b=>match JV f r with
   | none=>none
   | some c=>some (b || c)
def inC (t t' :T):R Bool:=match t' with
 | .tup ys=>match JV (λy=>eqF 30 y t) ys with | some b=> .ok b | none=> .bad
 | .lst ys=>match JV (λy=>eqF 30 y t) ys with | some b=> .ok b | none=> .bad
 | _=> .bad
def WZ (t t' :T):R Bool:=(inC t t').bind λb=> .ok (!b)
theorem Qx:Nx inC:=λt t' c h=>by
 unfold inC at h;split at h
 ·split at h <;> cases h
 ·split at h <;> cases h
 ·cases h
theorem K9:Nx WZ:=λt t' c h=>by
 unfold WZ at h;cases e:inC t t' with
 | bad=>rw[e]at h;cases h
 | ex k=>exact absurd e (Qx _ _ _)
 | ok k=>rw[e]at h;cases h
open Classical in
theorem xl {H:Hp}(f:T->Option Bool):∃e:Value->Bool,∀(v:V) (t:T) (u:Value) (b:Bool),Zf v u->Rep H v t->f t=some b->e u=b:=by
 refine⟨λu=>decide (∃v t,Zf v u/\Rep H v t/\f t=some true),λv t u b rv r e=> ?_⟩;cases b with
 | true=>exact decide_eq_true ⟨v,t,rv,r,e⟩
 | false=>
  refine decide_eq_false ?_
  rintro⟨v',t',rv',r',e'⟩
  have:=rv.inj rv';subst this;have:=r.fn r';subst this;rw[e]at e';cases e'
theorem yS {H:Hp}{f:T->Option Bool}{e:Value->Bool}(he:∀(v:V) (t:T) (u:Value) (b:Bool),Zf v u->Rep H v t->f t=some b->e u=b):∀{xs:List V} {ts:List T} {its:List Value} {b:Bool},
  Z1 xs its->zI H xs ts->JV f ts=some b->its.any e=b/\∀u∈its,∃v t k,Zf v u/\Rep H v t/\f t=some k
 | _,_,_,b,.nil,.nil,h=>by
  have h' :some false=some b:=h;cases h';exact⟨rfl,λu hu=>by simp at hu⟩
 | _,_,_,b,.cons rv vs,.cons r rs,h=>by
  rename_i v u vals us t ts;unfold JV at h;cases q:f t with
  | none=>rw[q]at h;cases h
  | some k=>
   rw[q]at h;cases q' :JV f ts with
   | none=>rw[q']at h;cases h
   | some k' =>
    rw[q']at h;cases h;obtain⟨h1,h2⟩:=yS he vs rs q';refine⟨by rw[ib,h1,he v t u k rv r q],λw hw=> ?_⟩
    rcases ak.mp hw with rfl | hw
    ·exact⟨v,t,k,rv,r,q⟩
    ·exact h2 w hw
theorem yT (hu:X.A.units+64 < cLine)(neg:Bool):OpR X (compareOp (if neg then .NotIn else .In)) (wc (if neg then WZ else inC)):=by
 intro pins s σ H x y v u Q I rx ry h;obtain⟨t,t',b,r,r',e,q⟩:=h;have hs:∃k,inC t t' = .ok k/\b=(if neg then !k else k):=by
  cases neg with
  | false=>exact⟨b,e,rfl⟩
  | true=>
   have e' :WZ t t' = .ok b:=e;unfold WZ at e';cases z:inC t t' with
   | bad=>rw[z]at e';cases e'
   | ex k=>exact absurd z (Qx _ _ _)
   | ok k=>rw[z]at e';cases e';exact⟨k,rfl,rfl⟩
 obtain⟨k,ek,rfl⟩:=hs;unfold inC at ek;obtain⟨f,hf⟩:=xl (H:=H) λy=>eqF 30 y t;have eqa:∀w,(∃v t' k,Zf v w/\Rep H v t' /\eqF 30 t' t=some k)->dw X.A.in1 s w v (f w):=λw ⟨v',t',k,rv,rr,ee⟩=>by
  rw[hf v' t' w k rv rr ee];exact(xg I 30 X.A.in1 (by rw[Wm];omega) t' t k v' x w v ee rr r rv rx).1
 split at ek
 ·rename_i ys;split at ek
  ·rename_i k' hk;cases ek;cases r' with
   | @tup l xs _ h1 r1=>
    obtain rfl:u=Value.ref l:=ry;obtain⟨its,rv,p,_⟩:=ZN I h1 r1;obtain⟨h2,h3⟩:=yS hf rv r1 hk;have h4:its.toArray.any f=k:=by simpa using h2
    cases neg with
    | false=>exact SeqAt.in_tupleAt f p (λw hw=>eqa w (h3 w (by simpa using hw))) (by rw[h4];exact⟨.bl k,H,I,rfl,q⟩)
    | true=>exact SeqAt.notIn_tupleAt f p (λw hw=>eqa w (h3 w (by simpa using hw))) (by rw[h4];exact⟨.bl (!k),H,I,rfl,q⟩)
  ·cases ek
 ·rename_i ys;split at ek
  ·rename_i k' hk;cases ek;cases r' with
   | @lst l xs _ h1 r1=>
    obtain rfl:u=Value.ref l:=ry;obtain⟨its,rv,p,_⟩:=zP I (.inl h1) r1;obtain⟨h2,h3⟩:=yS hf rv r1 hk;have h4:its.toArray.any f=k:=by simpa using h2
    cases neg with
    | false=>exact SeqAt.in_listAt f p (λw hw=>eqa w (h3 w (by simpa using hw))) (by rw[h4];exact⟨.bl k,H,I,rfl,q⟩)
    | true=>exact SeqAt.notIn_listAt f p (λw hw=>eqa w (h3 w (by simpa using hw))) (by rw[h4];exact⟨.bl (!k),H,I,rfl,q⟩)
  ·cases ek
 ·cases ek
theorem vW (hu:X.A.units+64 < cLine):OpR X (compareOp .In) (wc inC):=yT hu false
theorem xm (hu:X.A.units+64 < cLine):OpR X (compareOp .NotIn) (wc WZ):=yT hu true
def Qc (t t' :T):R Bool:=match t' with
 | .non=>match t with | .non=> .ok true | _=> .ok false
 | .bl k=>match t with | .bl j=> .ok (j == k) | _=> .ok false
 | _=> .bad
def jr (t t' :T):R Bool:=(Qc t t').bind λb=> .ok (!b)
theorem xn:Nx Qc:=λt t' c h=>by
 unfold Qc at h;split at h
 ·split at h <;> cases h
 ·split at h <;> cases h
 ·cases h
theorem vX:Nx jr:=λt t' c h=>by
 unfold jr at h;cases e:Qc t t' with
 | bad=>rw[e]at h;cases h
 | ex k=>exact absurd e (xn _ _ _)
 | ok k=>rw[e]at h;cases h
theorem yU (neg:Bool):OpR X (compareOp (if neg then .IsNot else .Is)) (wc (if neg then jr else Qc)):=by
 intro pins s σ H x y v u Q I rx ry h;obtain⟨t,t',b,r,r',e,q⟩:=h;have hs:∃k,Qc t t' = .ok k/\b=(if neg then !k else k):=by
  cases neg with
  | false=>exact⟨b,e,rfl⟩
  | true=>
   have e' :jr t t' = .ok b:=e;unfold jr at e';cases z:Qc t t' with
   | bad=>rw[z]at e';cases e'
   | ex k=>exact absurd z (xn _ _ _)
   | ok k=>rw[z]at e';cases e';exact⟨k,rfl,rfl⟩
 obtain⟨k,ek,rfl⟩:=hs;have go:plainIs v u=true/\(v == u)=k:=by
  cases r' with
  | non=>
   obtain rfl:u=Value.none:=ry;cases r with
   | non=>obtain rfl:v=Value.none:=rx;cases ek;exact⟨rfl,rfl⟩
   | bl j=>obtain rfl:v=Value.bool j:=rx;cases ek;exact⟨rfl,rfl⟩
   | int j=>obtain⟨t,rfl⟩:=rx;cases ek;exact⟨rfl,rfl⟩
   | str j=>obtain⟨t,rfl⟩:=rx;cases ek;exact⟨rfl,rfl⟩
   | tup _ _=>obtain rfl:v=Value.ref _:=rx;cases ek;exact⟨rfl,rfl⟩
   | lst _ _=>obtain rfl:v=Value.ref _:=rx;cases ek;exact⟨rfl,rfl⟩
   | fz _ _=>obtain rfl:v=Value.ref _:=rx;cases ek;exact⟨rfl,rfl⟩
  | bl k' =>
   obtain rfl:u=Value.bool k' :=ry;cases r with
   | non=>obtain rfl:v=Value.none:=rx;cases ek;exact⟨rfl,rfl⟩
   | bl j=>obtain rfl:v=Value.bool j:=rx;cases ek;exact⟨rfl,by cases j <;> cases k' <;> rfl⟩
   | int j=>obtain⟨t,rfl⟩:=rx;cases ek;exact⟨rfl,rfl⟩
   | str j=>obtain⟨t,rfl⟩:=rx;cases ek;exact⟨rfl,rfl⟩
   | tup _ _=>obtain rfl:v=Value.ref _:=rx;cases ek;exact⟨rfl,rfl⟩
   | lst _ _=>obtain rfl:v=Value.ref _:=rx;cases ek;exact⟨rfl,rfl⟩
   | fz _ _=>obtain rfl:v=Value.ref _:=rx;cases ek;exact⟨rfl,rfl⟩
  | _=>cases ek
 cases neg with
 | false=>exact wpAny_is_plain go.1 (by rw[go.2];exact⟨.bl k,H,I,rfl,q⟩)
 | true=>exact wpAny_isNot_plain go.1 (by rw[go.2];exact⟨.bl (!k),H,I,rfl,q⟩)
theorem Ka:OpR X (compareOp .Is) (wc Qc):=yU false
theorem yV:OpR X (compareOp .IsNot) (wc jr):=yU true
def chE (g g' :T->T->R Bool)(fa fb fc:En->R T):En->R T:=λρ=>(fa ρ).bind λx=>(fb ρ).bind λy=>(g x y).bind λk=>if k=true then (fc ρ).bind λz=>(g' y z).bind λk' => .ok (.bl k') else .ok (.bl false)
def chT (g g' :T->T->R Bool)(fa fb fc:En->R T):En->R Bool:=λρ=>(fa ρ).bind λx=>(fb ρ).bind λy=>(g x y).bind λk=>if k=true then (fc ρ).bind λz=>g' y z else .ok false
theorem xo {op op' :CmpOp}{g g' :T->T->R Bool}(nx:Nx g)(nx' :Nx g')(ho:OpR X (compareOp op) (wc g))(ho' :OpR X (compareOp op') (wc g'))(ha:jw X Y a fa)(hb:jw X Y b fb)(hc:jw X Y c fc)
  (hm:lastMarks [op,op'] [b,c]=false:=by with_unfolding_all rfl):Snd X Y (.Compare a [op,op'] [b,c] pos) (chE g g' fa fb fc):= .mk λρ=>
 PE.imp (Qp ho ho' (ha ρ) (hb ρ) (hc ρ) hm) λσ H Q ⟨B,I,q⟩=>step I q λt v H1 _ s1 r1 I1 q1=>step I1 q1 λt' v' H2 _ s2 r2 I2 q2=>by
  cases e:g t t' with
  | bad=>rw[e]at q2;exact q2.elim
  | ex c=>exact absurd e (nx _ _ _)
  | ok k=>
   rw[e]at q2;refine⟨t,t',k,r1.mono s2,r2,e,k,rfl, ?_⟩;cases k with
   | false=>exact ZX I2 q2 (.bl false)
   | true=>
    refine step I2 q2 λt3 v3 H3 _ s3 r3 I3 q3=> ?_
    ·cases e:g' t' t3 with
     | bad=>rw[e]at q3;exact q3.elim
     | ex c=>exact absurd e (nx' _ _ _)
     | ok k=>rw[e]at q3;exact⟨t',t3,k,r2.mono s3,r3,e,ZX I3 q3 (.bl k)⟩
theorem xp {op op' :CmpOp}{g g' :T->T->R Bool}(nx:Nx g)(nx' :Nx g')(ho:OpR X (compareOp op) (wc g))(ho' :OpR X (compareOp op') (wc g'))(ha:jw X Y a fa)(hb:jw X Y b fb)(hc:jw X Y c fc)
  (hm:lastMarks [op,op'] [b,c]=false:=by with_unfolding_all rfl):wy X Y (.Compare a [op,op'] [b,c] pos) (chT g g' fa fb fc):= .mk λρ=>
 PT.imp (Qq ho ho' (ha ρ) (hb ρ) (hc ρ) hm) λσ H Q ⟨B,I,q⟩=>step I q λt v H1 _ s1 r1 I1 q1=>step I1 q1 λt' v' H2 _ s2 r2 I2 q2=>by
  cases e:g t t' with
  | bad=>rw[e]at q2;exact q2.elim
  | ex c=>exact absurd e (nx _ _ _)
  | ok k=>
   rw[e]at q2;refine⟨t,t',k,r1.mono s2,r2,e,k,rfl, ?_⟩;cases k with
   | false=>exact⟨false,rfl,ZX I2 q2 rfl⟩
   | true=>
    refine step I2 q2 λt3 v3 H3 _ s3 r3 I3 q3=> ?_
    ·cases e:g' t' t3 with
     | bad=>rw[e]at q3;exact q3.elim
     | ex c=>exact absurd e (nx' _ _ _)
     | ok k=>rw[e]at q3;exact⟨t',t3,k,r2.mono s3,r3,e,k,rfl,ZX I3 q3 rfl⟩
def xq (r r' r'' :R2)(ta tb tc td:TE):TE:=λσ H Q=>ta σ H λx H1=>tb σ H1 λy H2=>r x y H2 λz H3=>∃k,z= .bl k/\
 (if k=true then tc σ H3 λw' H4=>r' y w' H4 λz' H5=>∃k',z' = .bl k' /\(if k' =true then td σ H5 λw2 H6=>r'' w' w2 H6 Q else Q (.bl false) H5) else Q (.bl false) H3)
theorem yW {op op' op'' :CmpOp}{r r' r'' :R2}{ta tb tc td:TE}(ho:OpR X (compareOp op) r)(ho' :OpR X (compareOp op') r')(ho'' :OpR X (compareOp op'') r'')(ha:PE X a ta)(hb:PE X b tb)(hc:PE X c tc)(hd:PE X d td)
  (hm:lastMarks [op,op',op''] [b,c,d]=false:=by with_unfolding_all rfl):PE X (.Compare a [op,op',op''] [b,c,d] pos) (xq r r' r'' ta tb tc td):=by
 intro pins s σ H Q I h;refine Compare_chain (thn (ha pins s σ H _ I h) λv s1 ⟨x,H1,I1,r1,q1⟩=>chain_link (thn (hb pins s1 σ H1 _ I1 q1) λu s2 ⟨y,H2,I2,r2,q2⟩=>
  thn (ho pins s2 σ H2 x y v u _ I2 r1 r2 q2) λd' s3 ⟨z,H3,I3,r3,k,e,q3⟩=> ?_)) hm
 subst e;cases r3;refine br ?_;cases k with
 | false=>exact ite_ff ⟨.bl false,H3,I3,rfl,q3⟩
 | true=>
  refine ite_tt (chain_link (thn (hc pins s3 σ H3 _ I3 q3) λw' s4 ⟨z',H4,I4,r4,q4⟩=>thn (ho' pins s4 σ H4 y z' u w' _ I4 r2 r4 q4) λd2 s5 ⟨z5,H5,I5,r5,k5,e5,q5⟩=> ?_));subst e5;cases r5;refine br ?_;cases k5 with
  | false=>exact ite_ff ⟨.bl false,H5,I5,rfl,q5⟩
  | true=>exact ite_tt (chain_last (thn (hd pins s5 σ H5 _ I5 q5) λw6 s6 ⟨z6,H6,I6,r6,q6⟩=>ho'' pins s6 σ H6 z' z6 w' w6 Q I6 r4 r6 q6))
def ch3E (g g' g'' :T->T->R Bool)(fa fb fc fd:En->R T):En->R T:=λρ=>(fa ρ).bind λx=>(fb ρ).bind λy=>(g x y).bind λk=>if k=true then (fc ρ).bind λz=>(g' y z).bind λk' =>
 if k' =true then (fd ρ).bind λw=>(g'' z w).bind λk'' => .ok (.bl k'') else .ok (.bl false) else .ok (.bl false)
theorem Qy {op op' op'' :CmpOp}{g g' g'' :T->T->R Bool}(nx:Nx g)(nx' :Nx g')(nx'' :Nx g'')(ho:OpR X (compareOp op) (wc g))(ho' :OpR X (compareOp op') (wc g'))(ho'' :OpR X (compareOp op'') (wc g''))
  (ha:jw X Y a fa) (hb:jw X Y b fb) (hc:jw X Y c fc) (hd:jw X Y d fd)
  (hm:lastMarks [op,op',op''] [b,c,d]=false:=by with_unfolding_all rfl):Snd X Y (.Compare a [op,op',op''] [b,c,d] pos) (ch3E g g' g'' fa fb fc fd):= .mk λρ=>
 PE.imp (yW ho ho' ho'' (ha ρ) (hb ρ) (hc ρ) (hd ρ) hm) λσ H Q ⟨B,I,q⟩=>step I q λt v H1 _ s1 r1 I1 q1=>step I1 q1 λt' v' H2 _ s2 r2 I2 q2=>by
  cases e:g t t' with
  | bad=>rw[e]at q2;exact q2.elim
  | ex c=>exact absurd e (nx _ _ _)
  | ok k=>
   rw[e]at q2;refine⟨t,t',k,r1.mono s2,r2,e,k,rfl, ?_⟩;cases k with
   | false=>exact ZX I2 q2 (.bl false)
   | true=>
    refine step I2 q2 λt3 v3 H3 _ s3 r3 I3 q3=> ?_
    ·cases e:g' t' t3 with
     | bad=>rw[e]at q3;exact q3.elim
     | ex c=>exact absurd e (nx' _ _ _)
     | ok k=>
      rw[e]at q3;refine⟨t',t3,k,r2.mono s3,r3,e,k,rfl, ?_⟩;cases k with
      | false=>exact ZX I3 q3 (.bl false)
      | true=>
       refine step I3 q3 λt4 v4 H4 _ s4 r4 I4 q4=> ?_
       ·cases e:g'' t3 t4 with
        | bad=>rw[e]at q4;exact q4.elim
        | ex c=>exact absurd e (nx'' _ _ _)
        | ok k=>rw[e]at q4;exact⟨t3,t4,k,r3.mono s4,r4,e,ZX I4 q4 (.bl k)⟩
variable {rest:List Expr}{ga gb:En->R Bool}
def Js (fa fb:En->R T):En->R T:=λρ=>(fa ρ).bind λx=>match x with
 | .bl true=>fb ρ
 | .bl false=> .ok (.bl false)
 | _=> .bad
def notE (fa:En->R T):En->R T:=λρ=>(fa ρ).bind λx=>match x with
 | .bl k=> .ok (.bl (!k))
 | _=> .bad
theorem z1i {op}(h:Snd X Y a fa):Snd X Y (.BoolOp op [a] pos) fa:= .mk λρ=>kz (h ρ)
theorem z1j (ha:Snd X Y a fa)(hb:Snd X Y (.BoolOp .And (b :: rest) pos) fb):Snd X Y (.BoolOp .And (a :: b :: rest) pos) (Js fa fb):= .mk λρ=>
 PE.imp (kA (ha ρ) (hb ρ)) λσ H Q ⟨B,I,q⟩=>step I q λt v H1 _ s1 r1 I1 q1=>by
  cases r1 with
  | bl k=>
   refine⟨k,rfl, ?_⟩;cases k with
   | true=>exact⟨_,I1,q1⟩
   | false=>exact ZX I1 q1 (.bl false)
  | _=>exact q1.elim
theorem z1k (ha:Snd X Y a fa):Snd X Y (.UnaryOp .Not a pos) (notE fa):= .mk λρ=>
 PE.imp (kB (ha ρ)) λσ H Q ⟨B,I,q⟩=>step I q λt v H1 _ s1 r1 I1 q1=>by
  cases r1 with
  | bl k=>exact⟨k,rfl,ZX I1 q1 (.bl (!k))⟩
  | _=>exact q1.elim
structure yk (X:Cx) (Y:Fx) (e:Expr) (f:En->R Bool):Prop where
 mk ::
 go:∀ρ,PW X e (tS Y rE f ρ)
instance {X:Cx}{Y:Fx}{e:Expr}{f:En->R Bool}:CoeFun (yk X Y e f) λ_=>∀ρ,PW X e (tS Y rE f ρ):=⟨yk.go⟩
theorem yk.t {e:Expr}{f:En->R Bool}(h:yk X Y e f):wy X Y e f:= .mk λρ=>(h ρ).pt
theorem PW.imp {e:Expr}{t t' :TT}(h:PW X e t)(i:∀σ H Q,t' σ H Q->t σ H Q):PW X e t' :=λwh pins s σ H Q I q=>h wh pins s σ H Q I (i σ H Q q)
def GX (fa fb:En->R Bool):En->R Bool:=λρ=>(fa ρ).bind λx=>if x=true then fb ρ else .ok false
def orT (fa fb:En->R Bool):En->R Bool:=λρ=>(fa ρ).bind λx=>if x=true then .ok true else fb ρ
def Qd (fa:En->R Bool):En->R Bool:=λρ=>(fa ρ).bind λx=> .ok (!x)
theorem Kb (h:wy X Y a ga):yk X Y (.BoolOp .And [a] pos) ga:= .mk λρ=>VP (h ρ)
theorem z1l (h:wy X Y a ga):yk X Y (.BoolOp .Or [a] pos) ga:= .mk λρ=>kv (h ρ)
theorem z1m (ha:wy X Y a ga)(hb:yk X Y (.BoolOp .And (b :: rest) pos) gb):yk X Y (.BoolOp .And (a :: b :: rest) pos) (GX ga gb):= .mk λρ=>
 PW.imp (kx (ha ρ) (hb ρ)) λσ H Q ⟨B,I,q⟩=>step I q λt v H1 _ s1 r1 I1 q1=>by
  have r1' :v=t:=r1;subst r1';cases v with
  | true=>exact⟨_,I1,q1⟩
  | false=>exact ZX I1 q1 rfl
theorem w_or (ha:wy X Y a ga)(hb:yk X Y (.BoolOp .Or (b :: rest) pos) gb):yk X Y (.BoolOp .Or (a :: b :: rest) pos) (orT ga gb):= .mk λρ=>
 PW.imp (z0I (ha ρ) (hb ρ)) λσ H Q ⟨B,I,q⟩=>step I q λt v H1 _ s1 r1 I1 q1=>by
  have r1' :v=t:=r1;subst r1';cases v with
  | false=>exact⟨_,I1,q1⟩
  | true=>exact ZX I1 q1 rfl
theorem z1n (ha:wy X Y a ga):wy X Y (.UnaryOp .Not a pos) (Qd ga):= .mk λρ=>
 PT.imp (ky (ha ρ)) λσ H Q ⟨B,I,q⟩=>step I q λt v H1 _ s1 r1 I1 q1=>by
  have r1' :v=t:=r1;subst r1';exact ZX I1 q1 rfl
def tru:T->R Bool
 | .bl k=> .ok k
 | .non=> .ok false
 | .int i=> .ok (i != 0)
 | .tup xs=> .ok (!xs.isEmpty)
 | .lst xs=> .ok (!xs.isEmpty)
 | _=> .bad
def u8 (fa:En->R T):En->R Bool:=λρ=>(fa ρ).bind tru
theorem isE {H:Hp}{xs:List V}{ts:List T}(r:zI H xs ts):(!xs.isEmpty)= !ts.isEmpty:=by cases r <;> rfl
theorem z1o (ha:jw X Y a fa)(he:∀whole,isTrue a X.env whole=(do let v ← whole;standAt a.pos;holding [v] (truthy v)):=by intro _;rfl):wy X Y a (u8 fa):= .mk λρ=>
 PT.imp (Qr (ha ρ) he) λσ H Q ⟨B,I,q⟩=>step I q λt v H1 _ s1 r1 I1 q1=>by
  cases r1 with
  | bl k=>exact⟨k,rfl,ZX I1 q1 rfl⟩
  | non=>exact⟨false,rfl,ZX I1 q1 rfl⟩
  | int i=>exact⟨_,rfl,ZX I1 q1 rfl⟩
  | tup h r=>exact⟨_,.inr (.inl ⟨_,SqT.of h,rfl⟩),ZX I1 q1 (isE r)⟩
  | lst h r=>exact⟨_,.inl ⟨_,SqL.of h,rfl⟩,ZX I1 q1 (isE r)⟩
  | _=>exact q1.elim
def ifE (g:En->R Bool)(fa fb:En->R T):En->R T:=λρ=>(g ρ).bind λk=>if k=true then fa ρ else fb ρ
theorem s_if (hc:wy X Y c ga)(ha:Snd X Y a fa)(hb:Snd X Y b fb):Snd X Y (.IfExp c a b pos) (ifE ga fa fb):= .mk λρ=>
 PE.imp (Qn (hc ρ) (ha ρ) (hb ρ)) λσ H Q ⟨B,I,q⟩=>step I q λt v H1 _ s1 r1 I1 q1=>by
  have r1' :v=t:=r1;subst r1';cases v with
  | true=>exact⟨_,I1,q1⟩
  | false=>exact⟨_,I1,q1⟩
end
end PV
namespace PV
open PySem PySem.Spec PyProof.Rows L2
section
variable {X:Cx}{Y:Fx}{a b c d:Expr}{fa fb fc fd:En->R T}{pos p:Pos}
def ap1 (g:T->R T)(fa:En->R T):En->R T:=λρ=>(fa ρ).bind g
abbrev St1 (X:Cx)(a:Expr):Prop:=starEach [a] X.env=[(false,eval a X.env)]
theorem uM {id:String}{x:Str}{r:List V->Hp->VK->Prop}{g:T->R T}(hc:Zq X (.builtin id) r)(hr:∀v t B H Q,Rep H v t->zw B H->Po Y rC B H (g t) Q->r [v] H Q)
  (gl:Gl X x) (mg:X.mg x=none) (bt:bootBuiltins x=some (.builtin id)) (ha:jw X Y a fa) (hs:St1 X a:=by exact st1 rfl) (hn:x ≠ "__name__":=by decide) (hd:(x == ("__debug__":Str))=false:=by decide):Snd X Y (.Call (.Name x p) [a] [] pos) (ap1 g fa):= .mk λρ=>
 PE.imp (ZW hc gl mg bt (zo (ha ρ) zU hs) hn hd hs rfl) λσ H Q ⟨B,I,q⟩=>step I q λt v H1 _ s1 r1 I1 q1=>hr v t _ H1 Q r1 I1.sB q1
theorem vY {id:String}{x:Str}{r:List V->Hp->VK->Prop}{g:T->R T}(hc:Zq X (.type id) r)(hr:∀v t B H Q,Rep B v t->zw B H->Po Y rC B H (g t) Q->r [v] H Q)
  (gl:Gl X x) (mg:X.mg x=none) (bt:bootBuiltins x=some (.type id)) (ha:Snd X Y a fa) (hs:St1 X a:=by exact st1 rfl) (hn:x ≠ "__name__":=by decide) (hd:(x == ("__debug__":Str))=false:=by decide):Snd X Y (.Call (.Name x p) [a] [] pos) (ap1 g fa):= .mk λρ=>
 PE.imp (ZT hc gl mg bt (zo (ha ρ) zU hs) hn hd hs rfl) λσ H Q ⟨B,I,q⟩=>step I q λt v H1 _ s1 r1 I1 q1=>hr v t _ H1 Q r1 I1.sB q1
def ZO:T->R T
 | .tup xs=> .ok (.int xs.length)
 | .lst xs=> .ok (.int xs.length)
 | .fz xs=> .ok (.int xs.length)
 | .str x=>if x.length<=bnd then .ok (.int x.length) else .bad
 | _=> .bad
theorem z1p (v:V)(t:T)(B H:Hp)(Q:VK)(r:Rep H v t)(sB:zw B H)(q:Po Y rC B H (ZO t) Q):
  (∃p ys,[v]=[V.ref p]/\(SqL X.K H p ys\/SqT X.K H p ys)/\Q (V.int ys.length) H)\/(∃z,[v]=[V.str z]/\z.length<=sizeLine/\Q (V.int z.length) H):=by
 cases r with
 | tup h r=>exact .inl ⟨_,_,rfl,.inr (SqT.of h),po0 sB q rfl (by rw[r.length];exact .int _)⟩
 | lst h r=>exact .inl ⟨_,_,rfl,.inl (SqL.of h),po0 sB q rfl (by rw[r.length];exact .int _)⟩
 | fz h r=>exact .inl ⟨_,_,rfl,.inl (.inl (.inr ⟨_,h⟩)),po0 sB q rfl (by rw[r.length];exact .int _)⟩
 | str x=>
  by_cases hb:x.length<=bnd
  ·exact .inr ⟨x,rfl,Zz hb,po0 sB q (if_pos hb) (.int _)⟩
  ·rw[show ZO (.str x)= .bad from if_neg hb]at q;exact q.elim
 | _=>exact q.elim
theorem z1q (gl:Gl X "len")(mg:X.mg "len"=none)(ha:jw X Y a fa)(hs:St1 X a:=by exact st1 rfl):Snd X Y (.Call (.Name "len" p) [a] [] pos) (ap1 ZO fa):=
 uM (Wh.or Wi) z1p gl mg PySem.boot_len ha hs
def Qe:T->R T
 | .tup xs=> .ok (.tup xs)
 | .lst xs=> .ok (.tup xs)
 | _=> .bad
theorem z1r (v:V)(t:T)(B H:Hp)(Q:VK)(r:Rep B v t)(sB:zw B H)(q:Po Y rC B H (Qe t) Q):
  ∃p ys,[v]=[V.ref p]/\((SqL X.K H p ys/\∀l,H l=none->Q (.ref l) (upd H l (.tup ys)))\/(SqT X.K H p ys/\Q (.ref p) H)):=by
 cases r with
 | tup h r=>exact⟨_,_,rfl,.inr ⟨SqT.of (sB _ _ h),po0 sB q rfl (.tup h r)⟩⟩
 | lst h r=>exact⟨_,_,rfl,.inl ⟨SqL.of (sB _ _ h),λl hl=>K3 sB q rfl r hl⟩⟩
 | _=>exact q.elim
theorem xr (gl:Gl X "tuple")(mg:X.mg "tuple"=none)(ha:Snd X Y a fa)(hs:St1 X a:=by exact st1 rfl):Snd X Y (.Call (.Name "tuple" p) [a] [] pos) (ap1 Qe fa):=
 vY wx z1r gl mg (PyProof.Rows.Boot.«tuple») ha hs
def tyN:T->String
 | .non=>"NoneType"
 | .bl _=>"bool"
 | .int _=>"int"
 | .str _=>"str"
 | .tup _=>"tuple"
 | .lst _=>"list"
 | .fz _=>"list"
def isT (n:String)(t:T):Bool:=tyN t == n || (n == "int" && tyN t == "bool")
theorem z1s {H:Hp}{v:V}{t:T}(K:al)(r:Rep H v t):UJ K H v (.type (tyN t)):=by
 cases r with
 | non=>exact .non
 | bl b=>exact .bl b
 | int b=>exact .int b
 | str b=>exact .str b
 | tup h _=>exact .tup h
 | lst h _=>exact .lst h
 | fz h _=>exact .frz h
theorem Qz:Zq X (.builtin "isinstance") (λxs H Q=>∃v n t,xs=[v,.ty n]/\Rep H v t/\cR X.K (.type (tyN t)) (.type n)=some (isT n t)/\Q (.bl (isT n t)) H):=by
 intro pins s σ H xs us Q I rv h;obtain⟨v,n,t,rfl,r,hk,q⟩:=h;obtain⟨u,w,rfl,ru,rw'⟩:=UI rv;obtain rfl:w=Value.type n:=rw';exact yH I ru (z1s X.K r) hk λtk=>⟨.bl _,H,I.tok tk,rfl,q⟩
def u9 (n:String)(t:T):R T:= .ok (.bl (isT n t))
theorem xt (K:al)(t:T):cR K (.type (tyN t)) (.type "int")=some (isT "int" t):=by cases t <;> rfl
theorem QA (K:al)(t:T):cR K (.type (tyN t)) (.type "bool")=some (isT "bool" t):=by cases t <;> rfl
theorem xu (K:al)(t:T):cR K (.type (tyN t)) (.type "str")=some (isT "str" t):=by cases t <;> rfl
theorem yX (K:al)(t:T):cR K (.type (tyN t)) (.type "tuple")=some (isT "tuple" t):=by cases t <;> rfl
theorem QB {n:String}{p' :Pos}(hk:∀t,cR X.K (.type (tyN t)) (.type n)=some (isT n t))(gl:Gl X "isinstance")(mg:X.mg "isinstance"=none)(gl' :Gl X (aQ n))(mg' :X.mg (aQ n)=none)(bt:bootBuiltins (aQ n)=some (.type n))(ha:jw X Y a fa)
  (hs:starEach [a,.Name (aQ n) p'] X.env=[(false,eval a X.env),(false,eval (.Name (aQ n) p') X.env)]:=by exact st2 rfl rfl) (hs2:starEach [.Name (aQ n) p'] X.env=[(false,eval (.Name (aQ n) p') X.env)]:=by exact st1 rfl)
  (hn:aQ n ≠ "__name__":=by decide) (hd:(aQ n == ("__debug__":Str))=false:=by decide) (hz:((backTo pos (starEach [.Name (aQ n) p'] X.env)).any λx=>x.fst)=false:=by exact jd rfl):
  Snd X Y (.Call (.Name "isinstance" p) [a,.Name (aQ n) p'] [] pos) (ap1 (u9 n) fa):= .mk λρ=>
 PE.imp (ZW Qz gl mg PyProof.Rows.Boot.«isinstance» (zo (ha ρ) (zo (VO (v:= .ty n) gl' mg' bt rfl hn hd) zU hs2) (by rw[hs,hs2])) (by decide) (by decide) (by rw[hs,hs2]) hz) λσ H Q ⟨B,I,q⟩=>
  step I q λt v H1 _ s1 r1 I1 q1=>⟨v,n,t,rfl,r1,hk t,po0 I1.sB q1 rfl (.bl _)⟩
def atT (xs:List T)(i:Int):R T:=match atI xs i with
 | some t=> .ok t
 | none=> .bad
def ixT:T->T->R T
 | .tup xs,.int i=>atT xs i
 | .lst xs,.int i=>atT xs i
 | .fz xs,.int i=>atT xs i
 | .str z,.int i=>if z.length<=bnd then match atI z.cps.toList i with | some c=> .ok (.str ⟨#[c]⟩) | none=> .bad else .bad
 | _,_=> .bad
theorem yY {H:Hp}{xs:List V}{ts:List T}{i:Int}{t:T}(r:zI H xs ts)(h:atI ts i=some t):∃v,atI xs i=some v/\Rep H v t:=by
 unfold atI at h ⊢;rw[r.length];cases e:ixN ts.length i with
 | none=>rw[e]at h;cases h
 | some j=>
  rw[e]at h;obtain⟨v,h1,h2⟩:=r.get (show ts[j]? =some t from h);exact⟨v,h1,h2⟩
theorem s_ix (ha:Snd X Y a fa)(hb:Snd X Y b fb)(hs:yK b:=by exact λ_ _=>rfl):Snd X Y (.Subscript a b pos) (zc ixT fa fb):= .mk λρ=>
 PE.imp (kR kU (ha ρ) (hb ρ) hs) λσ H Q ⟨B,I,q⟩=>step I q λt v H1 _ s1 r1 I1 q1=>step I1 q1 λt' v' H2 _ s2 r2 I2 q2=>by
  have r1:=r1.mono (zS.ge I1.sB s2);cases r2 with
  | int i=>
   cases r1 with
   | @tup _ xs ts h r=>
    have q2:Po Y rC _ H2 (atT ts i) Q:=q2;unfold atT at q2;split at q2
    ·rename_i t' e;obtain⟨w,e1,e2⟩:=yY r e;exact .inr (.inl ⟨_,xs,i,w,rfl,rfl,SqT.of (I2.sB _ _ h),e1,po0 I2.sB q2 rfl e2⟩)
    ·exact q2.elim
   | @lst _ xs ts h r=>
    have q2:Po Y rC _ H2 (atT ts i) Q:=q2;unfold atT at q2;split at q2
    ·rename_i t' e;obtain⟨w,e1,e2⟩:=yY r e;exact .inl ⟨_,xs,i,w,rfl,rfl,SqL.of (I2.sB _ _ h),e1,po0 I2.sB q2 rfl e2⟩
    ·exact q2.elim
   | @fz _ _ xs ts h r=>
    have q2:Po Y rC _ H2 (atT ts i) Q:=q2;unfold atT at q2;split at q2
    ·rename_i t' e;obtain⟨w,e1,e2⟩:=yY r e;exact .inl ⟨_,xs,i,w,rfl,rfl,.inl (.inr ⟨_,I2.sB _ _ h⟩),e1,po0 I2.sB q2 rfl e2⟩
    ·exact q2.elim
   | str z=>
    have q2:Po Y rC _ H2 (if z.length<=bnd then match atI z.cps.toList i with | some c=> .ok (.str ⟨#[c]⟩) | none=> .bad else .bad) Q:=q2
    split at q2
    ·rename_i hb;split at q2
     ·rename_i c e;exact .inr (.inr ⟨z,i,c,rfl,rfl,Zz hb,e,po0 I2.sB q2 rfl (.str _)⟩)
     ·exact q2.elim
    ·exact q2.elim
   | _=>exact q2.elim
  | _=>cases r1 <;> exact q2.elim
def Jt (t t' :T):R T:=match t,t' with
 | .int i,.int j=> .ok (.int (if j < i then j else i))
 | _,_=> .bad
theorem Kc (hc:X.calm=true)(gl:Gl X "min")(mg:X.mg "min"=none)(ha:Snd X Y a fa)(hb:Snd X Y b fb)
  (hs:starEach [a,b] X.env=[(false,eval a X.env),(false,eval b X.env)]:=by exact st2 rfl rfl) (hs2:starEach [b] X.env=[(false,eval b X.env)]:=by exact st1 rfl):
  Snd X Y (.Call (.Name "min" p) [a,b] [] pos) (zc Jt fa fb):= .mk λρ=>
 PE.imp (ZW (yE hc) gl mg PyProof.Rows.Boot.«min» (zo (ha ρ) (zo (hb ρ) zU hs2) (by rw[hs,hs2])) (by decide) (by decide) (by rw[hs,hs2]) (by rw[hs2];rfl)) λσ H Q ⟨B,I,q⟩=>
  step I q λt v H1 _ s1 r1 I1 q1=>step I1 q1 λt' v' H2 _ s2 r2 I2 q2=>by
   cases r1 with
   | int i=>
    cases r2 with
    | int j=>exact⟨i,j,rfl,po0 I2.sB q2 rfl (.int _)⟩
    | _=>exact q2.elim
   | _=>cases r2 <;> exact q2.elim
def u0:List T->Option Bool
 | []=>some true
 | .bl k :: r=>match u0 r with | some j=>some (k && j) | none=>none
 | _ :: _=>none
def vZ:T->R T
 | .lst ts=>match u0 ts with | some k=> .ok (.bl k) | none=> .bad
 | _=> .bad
theorem yZ:∀{H:Hp} {xs:List V} {ts:List T} {its:List Value} {k:Bool},zI H xs ts->Z1 xs its->u0 ts=some k->∃tr:Nat->Bool,(∀i v,its[i]? =some v->v=Value.bool (tr i))/\(aX its.length).all tr=k
 | _,_,_,_,k,.nil,.nil,h=>by
  have h' :some true=some k:=h;cases h';exact⟨λ_=>true,λi v e=>by simp at e,rfl⟩
 | H,_,_,_,k,.cons (v:=x) (t:=t) r rs,.cons (b:=u) rv vs,h=>by
  cases r with
  | bl b=>
   unfold u0 at h;split at h
   ·rename_i j e;cases h;obtain⟨tr,h1,h2⟩:=yZ rs vs e;obtain rfl:u=Value.bool b:=rv;refine⟨λi=>match i with | 0=>b | i+1=>tr i,λi v e=> ?_, ?_⟩
    ·cases i with
     | zero=>simp at e;exact e.symm
     | succ i=>exact h1 i v (by simpa using e)
    ·rw[av,dS,c9,iC,← h2];rfl
   ·cases h
  | _=>cases h
theorem Y0 (hh:X.A.handled=none):Zq X (.builtin "all") (λvs H Q=>∃l xs ts k,vs=[.ref l]/\H l=some (.lst xs)/\zI H xs ts/\u0 ts=some k/\Q (.bl k) H):=by
 intro pins s σ H vs us Q I rv h;obtain⟨l,xs,ts,k,rfl,hl,r,hk,q⟩:=h;obtain⟨u,rfl,ru⟩:=ZI rv;obtain rfl:u=Value.ref l:=ru;obtain⟨its,rv,p,_⟩:=zP I (.inl hl) r;obtain⟨tr,h1,h2⟩:=yZ r rv hk;refine call_all_walk (wpAny_pyIter_list p ?_);have hlt:l < s.heap.objs.size:=I.hok.lt hl;have old:∀b o,s.heap.get? b=some o->(s.heap.push { cls:= .type "list_iterator",data:= .fields #[.ref l,.int 0 0] }).get? b=some o:=λb o e=>ad _ e;refine⟨s.heap.objs.size,_,_,_,_,_,tr,rfl,ii (A:=X.A.in1) hh s.heap.objs.size l (aw hlt) its.toArray, ?_, ?_,λh' tk hk' => ?_⟩
 ·refine⟨?_,p.at λo e=>old _ o e⟩;exact⟨_,ah _ rfl,rfl,rfl⟩
 ·intro i v s' Q' E' hi hq;rw[h1 i v (by simpa using hi)]
  exact br hq
 ·rw[az,h2];refine⟨.bl k,H,I.kept (t' :=tk) (λb o e=>hk' b o ?_ (old b o e)),rfl,q⟩;simp;exact aw (ao e)
theorem z1t (hh:X.A.handled=none)(gl:Gl X "all")(mg:X.mg "all"=none)(ha:jw X Y a fa)(hs:St1 X a:=by exact st1 rfl):Snd X Y (.Call (.Name "all" p) [a] [] pos) (ap1 vZ fa):=
 uM (Y0 hh) (λv t B H Q r sB q=>by
  cases r with
  | @lst l xs ts h r=>
   have q:Po Y rC B H (match u0 ts with | some k=> .ok (.bl k) | none=> .bad) Q:=q
   split at q
   ·rename_i k e;exact⟨l,xs,ts,k,rfl,h,r,e,po0 sB q rfl (.bl k)⟩
   ·exact q.elim
  | _=>exact q.elim) gl mg PyProof.Rows.Boot.«all» ha hs
end
inductive RS where
 | nx (ρ:En) | rt (t:T) | bk (ρ:En) | ct (ρ:En) | ex (c:Nat) | bad | rf (ts:List T)
def R.s {α:Type}(r:R α)(k:α->RS):RS:=match r with
 | .ok a=>k a
 | .ex c=> .ex c
 | .bad=> .bad
def PoS (Y:Fx)(B:Hp)(r:RS)(D:vM):Prop:=match r with
 | .nx ρ' =>∀σ' H' B',zw B B' ->SI Y B' ρ' σ' H' ->D.nx σ' H'
 | .rt t=>∀v H',zw Y.H0 H' ->Rep (zS Y.B0 Y.H0 H') v t->D.rt v H'
 | .bk ρ' =>∀σ' H' B',zw B B' ->SI Y B' ρ' σ' H' ->D.bk σ' H'
 | .ct ρ' =>∀σ' H' B',zw B B' ->SI Y B' ρ' σ' H' ->D.ct σ' H'
 | .ex c=>XP Y B c
 | .bad=>False
 | .rf ts=>∀a xs H' B',zw Y.H0 H' ->Y.H0 a=none->H' a=some (.lst xs)->zI B' xs ts->B' a=none->zw B' (zS Y.B0 Y.H0 H')->D.rt (.ref a) H'
theorem PoS.up {Y:Fx}{B B' :Hp}{r:RS}{D:vM}(s:zw B B')(h:PoS Y B r D):PoS Y B' r D:=by
 cases r with
 | nx ρ=>exact λσ' H' B2 s2 I=>h σ' H' B2 (s.trans s2) I
 | bk ρ=>exact λσ' H' B2 s2 I=>h σ' H' B2 (s.trans s2) I
 | ct ρ=>exact λσ' H' B2 s2 I=>h σ' H' B2 (s.trans s2) I
 | rt t=>exact h
 | rf t=>exact h
 | ex c=>exact λd H' s0 sB=>h d H' s0 (s.trans sB)
 | bad=>exact h
def tSS (Y:Fx)(f:En->RS)(ρ:En):TS:=λD σ H=>∃B,SI Y B ρ σ H/\PoS Y B (f ρ) D
structure wA (X:Cx) (Y:Fx) (e:Stmt) (f:En->RS):Prop where
 mk ::
 go:∀ρ,PS X e (tSS Y f ρ)
instance {X:Cx}{Y:Fx}{e:Stmt}{f:En->RS}:CoeFun (wA X Y e f) λ_=>∀ρ,PS X e (tSS Y f ρ):=⟨wA.go⟩
structure UM (X:Cx) (Y:Fx) (e:List Stmt) (f:En->RS):Prop where
 mk ::
 go:∀ρ,PSs X e (tSS Y f ρ)
instance {X:Cx}{Y:Fx}{e:List Stmt}{f:En->RS}:CoeFun (UM X Y e f) λ_=>∀ρ,PSs X e (tSS Y f ρ):=⟨UM.go⟩
theorem jZ {α β:Type}{Y:Fx}{rel:Hp->Hp->β->α->Prop}{f:En->R α}{k:α->RS}{ρ:En}{B:Hp}{σ:Sg}{H:Hp}{D:vM}{K:β->Hp->Prop}
  (I:SI Y B ρ σ H) (h:PoS Y B ((f ρ).s k) D)
  (n:∀a b H1,f ρ= .ok a->zw H H1->rel (zS B H H1) H1 b a->SI Y (zS B H H1) ρ σ H1->PoS Y (zS B H H1) (k a) D->K b H1):tS Y rel f ρ σ H K:=by
 refine⟨B,I, ?_⟩;cases e:f ρ with
 | bad=>rw[e]at h;exact h
 | ex c=>rw[e]at h;exact h
 | ok a=>
  rw[e]at h;exact λb H1 s r=>n a b H1 e s r (I.grow s) (PoS.up (zS.ge I.sB s) h)
theorem zZ {α:Type}{xs:List α}{i j:Nat}{x y:α}(h:(xs.set i x)[j]? =some y):(j=i/\y=x)\/(j ≠ i/\xs[j]? =some y):=by
 by_cases e:j=i
 ·subst e
  by_cases hl:j < xs.length
  ·rw[bB hl]at h;exact .inl ⟨rfl,(b6 h).symm⟩
  ·rw[aD (by rw[cx];omega)]at h;cases h
 ·rw[aV (bq e)]at h;exact .inr ⟨e,h⟩
theorem Y1 {α:Type}{xs:List α}{i:Nat}{x y:α}(h:(xs.set i x)[i]? =some y):i < xs.length:=by
 by_cases hl:i < xs.length
 ·exact hl
 ·rw[aD (by rw[cx];omega)]at h;cases h
theorem SI.setV {Y:Fx}{B:Hp}{ρ:En}{σ:Sg}{H:Hp}(I:SI Y B ρ σ H)(i:Nat){v:V}{t:T}(r:Rep B v t):SI Y B (ρ.set i (.vl t)) (σ.set i (some v)) H where
 s0:=I.s0
 sH:=I.sH
 sB:=I.sB
 old:=I.old
 len:=by rw[cx,cx];exact I.len
 vl:=λj u h=>by
  rcases zZ h with ⟨rfl,e⟩ | ⟨hj,h'⟩
  ·cases e;exact⟨v,bB (by rw[← I.len];exact Y1 h),r⟩
  ·obtain⟨w,e,rr⟩:=I.vl j u h';exact⟨w,by rw[aV (bq hj)];exact e,rr⟩
 ow:=λj us h=>by
  rcases zZ h with ⟨rfl,e⟩ | ⟨hj,h'⟩
  ·cases e
  ·obtain⟨a,xs,e,b0,h0,hh,rr,d⟩:=I.ow j us h';refine⟨a,xs,by rw[aV (bq hj)];exact e,b0,h0,hh,rr,λk ws hk hw=> ?_⟩
   rcases zZ hw with ⟨rfl,e'⟩ | ⟨hk',hw'⟩
   ·cases e'
   ·rw[aV (bq hk')];exact d k ws hk hw'
 xc:=λj c h=>by
  rcases zZ h with ⟨rfl,e⟩ | ⟨hj,h'⟩
  ·cases e
  ·obtain⟨a,e,r⟩:=I.xc j c h';exact⟨a,by rw[aV (bq hj)];exact e,r⟩
theorem SI.newO {Y:Fx}{B:Hp}{ρ:En}{σ:Sg}{H:Hp}(I:SI Y B ρ σ H)(i:Nat){p:Addr}{xs:List V}{ts:List T}(hp:H p=none)(r:zI B xs ts):SI Y B (ρ.set i (.ow ts)) (σ.set i (some (.ref p))) (upd H p (.lst xs)) where
 s0:=I.s0
 sH:=I.sH.trans (zw.new hp _)
 sB:=I.sB.trans (zw.new hp _)
 old:=I.old
 len:=by rw[cx,cx];exact I.len
 vl:=λj u h=>by
  rcases zZ h with ⟨rfl,e⟩ | ⟨hj,h'⟩
  ·cases e
  ·obtain⟨w,e,rr⟩:=I.vl j u h';exact⟨w,by rw[aV (bq hj)];exact e,rr⟩
 ow:=λj us h=>by
  have op:∀k ws a,ρ[k]? =some (Sl.ow ws)->σ[k]? =some (some (V.ref a))->a ≠ p:=λk ws a h1 h2=>by
   obtain⟨a',xs',e,_,_,hh,_⟩:=I.ow k ws h1;rw[e]at h2;cases h2;exact zM hh hp
  rcases zZ h with ⟨rfl,e⟩ | ⟨hj,h'⟩
  ·cases e;refine⟨p,xs,bB (by rw[← I.len];exact Y1 h),I.sB.free hp,I.sH.free hp,zv,r,λk ws hk hw=> ?_⟩
   rcases zZ hw with ⟨rfl,e'⟩ | ⟨hk',hw'⟩
   ·exact absurd rfl hk
   ·rw[aV (bq hk')];exact λz=>op k ws p hw' z rfl
  ·obtain⟨a,xs',e,b0,h0,hh,rr,d⟩:=I.ow j us h';refine⟨a,xs',by rw[aV (bq hj)];exact e,b0,h0,by rw[zr (op j us a h' e)];exact hh,rr,λk ws hk hw=> ?_⟩
   rcases zZ hw with ⟨rfl,e'⟩ | ⟨hk',hw'⟩
   ·rw[bB (by rw[← I.len];exact Y1 hw)]
    intro z;exact op j us a h' e (by injection z with z;injection z with z;injection z with z;exact z.symm)
   ·rw[aV (bq hk')];exact d k ws hk hw'
 xc:=λj c h=>by
  rcases zZ h with ⟨rfl,e⟩ | ⟨hj,h'⟩
  ·cases e
  ·obtain⟨a,e,r⟩:=I.xc j c h';exact⟨a,by rw[aV (bq hj)];exact e,r⟩
theorem SI.chg {Y:Fx}{B:Hp}{ρ:En}{σ:Sg}{H:Hp}(I:SI Y B ρ σ H)(i:Nat){p:Addr}{ts us:List T}{ys:List V}(hi:ρ[i]? =some (.ow ts))(he:σ[i]? =some (some (.ref p)))(r:zI B ys us):SI Y B (ρ.set i (.ow us)) σ (upd H p (.lst ys)):=by
 obtain⟨p',xs,e,b0,h0,hh,rr,d⟩:=I.ow i ts hi;rw[he]at e;cases e;have nb:∀b o,B b=some o->b ≠ p:=λb o h z=>by subst z;rw[b0]at h;cases h
 have n0:∀b o,Y.H0 b=some o->b ≠ p:=λb o h z=>by subst z;rw[h0]at h;cases h
 refine⟨I.s0,λb o h=>by rw[zr (n0 b o h)];exact I.sH b o h,λb o h=>by rw[zr (nb b o h)];exact I.sB b o h,I.old,by rw[cx];exact I.len,λj u h=> ?_,λj ws h=> ?_,λj c h=> ?_⟩
 rotate_right
 ·rcases zZ h with ⟨rfl,z⟩ | ⟨hj,h'⟩
  ·cases z
  ·exact I.xc j c h'
 ·rcases zZ h with ⟨rfl,z⟩ | ⟨hj,h'⟩
  ·cases z
  ·exact I.vl j u h'
 ·rcases zZ h with ⟨rfl,z⟩ | ⟨hj,h'⟩
  ·cases z;refine⟨p,ys,he,b0,h0,zv,r,λk vs hk hw=> ?_⟩;rcases zZ hw with ⟨rfl,e'⟩ | ⟨hk',hw'⟩
   ·exact absurd rfl hk
   ·exact d k vs hk hw'
  ·obtain⟨a,xs',e,c0,g0,gg,ss,d'⟩:=I.ow j ws h';have hne:a ≠ p:=λz=>by subst z;exact d j ws hj h' e
   refine⟨a,xs',e,c0,g0,by rw[zr hne];exact gg,ss,λk vs hk hw=> ?_⟩
   rcases zZ hw with ⟨rfl,e'⟩ | ⟨hk',hw'⟩
   ·rw[he];intro z;injection z with z;injection z with z;injection z with z;exact hne z.symm
   ·exact d' k vs hk hw'
def QC:Sl->Sl
 | .ow ts=> .vl (.lst ts)
 | x=>x
def frz (ρ:En):En:=ρ.map QC
theorem SI.up {Y:Fx}{B:Hp}{ρ:En}{σ:Sg}{H:Hp}(I:SI Y B ρ σ H):zw B (zS B Y.H0 H):=λb o h=>by
 cases q:Y.H0 b with
 | none=>rw[Zi q];exact I.sB b o h
 | some u=>rw[Zj q];exact h
theorem SI.frz {Y:Fx}{B:Hp}{ρ:En}{σ:Sg}{H:Hp}(I:SI Y B ρ σ H):SI Y (zS B Y.H0 H) (PV.frz ρ) σ H:=by
 have up:zw B (zS B Y.H0 H):=λb o h=>by
  cases q:Y.H0 b with
  | none=>rw[Zi q];exact I.sB b o h
  | some u=>rw[Zj q];exact h
 refine⟨I.s0,I.sH,λb o h=> ?_,λb o h=>by rw[Zj h];exact I.old b o h,by unfold PV.frz;rw[af];exact I.len,λj t h=> ?_,λj ts h=> ?_,λj c h=> ?_⟩
 rotate_right
 ·unfold PV.frz at h;rw[ax]at h;cases e:ρ[j]? with
  | none=>rw[e]at h;cases h
  | some x=>
   rw[e]at h;cases x with
   | xc d=>
    cases h;obtain⟨a,e1,r⟩:=I.xc j _ e;exact⟨a,e1,up a _ r⟩
   | un=>cases h
   | vl _=>cases h
   | ow _=>cases h
 ·cases q:Y.H0 b with
  | none=>rw[Zi q]at h;exact h
  | some u=>rw[Zj q]at h;exact I.sB b o h
 ·unfold PV.frz at h;rw[ax]at h;cases e:ρ[j]? with
  | none=>rw[e]at h;cases h
  | some x=>
   rw[e]at h;cases x with
   | un=>cases h
   | vl u=>
    cases h;obtain⟨v,e1,r⟩:=I.vl j _ e;exact⟨v,e1,r.mono up⟩
   | ow us=>
    cases h;obtain⟨a,xs,e1,b0,h0,hh,rr,_⟩:=I.ow j us e;exact⟨.ref a,e1,.lst (by rw[Zi h0];exact hh) (rr.mono up)⟩
   | xc _=>cases h
 ·unfold PV.frz at h;rw[ax]at h;cases e:ρ[j]? with
  | none=>rw[e]at h;cases h
  | some x=>
   rw[e]at h;cases x with
   | un=>cases h
   | vl u=>cases h
   | ow us=>cases h
   | xc _=>cases h
theorem V0 {Y:Fx}{B H H' :Hp}(s0:zw Y.H0 H)(old:∀b o,Y.H0 b=some o->B b=Y.B0 b)(s:zw H H')(sB:zw B H):zw (zS B H H') (zS Y.B0 Y.H0 H'):=λb o h=>by
 cases q:H b with
 | none=>
  rw[Zi q]at h;rw[Zi (s0.free q)];exact h
 | some u=>
  rw[Zj q]at h;cases z:Y.H0 b with
  | none=>rw[Zi z];exact s b o (sB b o h)
  | some w=>rw[Zj z,← old b w z];exact h
section
variable {X:Cx}{Y:Fx}{a b c d:Expr}{fa fb fc fd:En->R T}{pos p:Pos}{st:Stmt}{sts sts' :List Stmt}{f g:En->RS}
def nxS:En->RS:=λρ=> .nx ρ
def zj (f g:En->RS):En->RS:=λρ=>match f ρ with
 | .nx ρ' =>g ρ'
 | r=>r
theorem z1u:UM X Y [] nxS:= .mk λρ=>PSs.imp VQ λD σ H ⟨B,I,q⟩=>q σ H B (zw.refl B) I
theorem z1v (h:wA X Y st f):UM X Y [st] f:= .mk λρ=>yv (h ρ)
theorem Ke (h1:wA X Y st f)(h2:UM X Y sts g):UM X Y (st :: sts) (zj f g):= .mk λρ=>by
 refine PSs.imp (uH (u:=λD σ H=>∃ρ',tSS Y g ρ' D σ H) (h1 ρ) ?_) ?_
 ·intro pins s σ H D I ⟨ρ',q⟩;exact h2 ρ' pins s σ H D I q
 ·intro D σ H ⟨B,I,q⟩;refine⟨B,I, ?_⟩;unfold zj at q;cases e:f ρ with
  | nx ρ' =>
   rw[e]at q;intro σ' H' B' s' I';exact⟨ρ',B',I',PoS.up s' q⟩
  | rt t=>rw[e]at q;exact q
  | rf t=>rw[e]at q;exact q
  | bk ρ' =>rw[e]at q;exact q
  | ct ρ' =>rw[e]at q;exact q
  | ex c=>rw[e]at q;exact q
  | bad=>rw[e]at q;exact q
def zD (i:Nat)(fa:En->R T):En->RS:=λρ=>(fa ρ).s λt=> .nx (ρ.set i (.vl t))
theorem Kf {i:Nat}{x:Str}{p' :Pos}(hN:X.N.Nodup)(hi:X.N[i]? =some x)(hx:L2.Loc X.env.scope x)(ha:Snd X Y a fa)(hs:swapsWith a (some (.Name x p')) pos.line X.env=pure false:=by rfl)
  (hf:X.fn x=true\/X.env.scope.names.lookup x=some .local:=by first | exact .inl rfl | exact .inr rfl | assumption):wA X Y (.Assign [.Name x p'] a pos) (zD i fa):= .mk λρ=>
 PS.imp (uI hN hi hx (ha ρ) hs hf) λD σ H ⟨B,I,q⟩=>jZ I q λt v H1 _ s1 r1 I1 q1=>q1 _ _ _ (zw.refl _) (I1.setV i r1)
def uN (i:Nat)(ga:En->R (List T)):En->RS:=λρ=>(ga ρ).s λts=>if ts.length<=bnd then .nx (ρ.set i (.ow ts)) else .bad
theorem V1 {i:Nat}{x:Str}{p' :Pos}{es:List Expr}{ga:En->R (List T)}(hN:X.N.Nodup)(hi:X.N[i]? =some x)(hx:L2.Loc X.env.scope x)(ha:UK X Y es ga)(hs:swapsWith (.List es p) (some (.Name x p')) pos.line X.env=pure false:=by rfl)
  (hf:X.fn x=true\/X.env.scope.names.lookup x=some .local:=by first | exact .inl rfl | exact .inr rfl | assumption):wA X Y (.Assign [.Name x p'] (.List es p) pos) (uN i ga):= .mk λρ=>
 PS.imp (uI hN hi hx (vT (ha ρ)) hs hf) λD σ H ⟨B,I,q⟩=>jZ I q λts vs H1 _ s1 r1 I1 q1=>by
  split at q1
  ·rename_i hb;exact⟨by rw[r1.length];exact Zz hb,λp hp=>q1 _ _ _ (zw.refl _) (I1.newO i hp r1)⟩
  ·exact q1.elim
def zn (fa:En->R T):En->RS:=λρ=>(fa (frz ρ)).s λt=> .rt t
theorem z1w (ha:Snd X Y a fa):wA X Y (.Return (some a) pos) (zn fa):= .mk λρ=>
 PS.imp (vQ (ha (frz ρ))) λD σ H ⟨B,I,q⟩=>by
  refine⟨_,I.frz, ?_⟩;unfold zn at q;cases e:fa (frz ρ) with
  | bad=>rw[e]at q;exact q
  | ex c=>
   rw[e]at q;exact λd H' s0 sG=>q d H' s0 (I.up.trans sG)
  | ok t=>
   rw[e]at q;intro v H' s r;have J:=I.frz;exact q v H' (I.sH.trans s) (r.mono (V0 J.sH J.old s J.sB))
def ifS (g:En->R Bool)(f1 f2:En->RS):En->RS:=λρ=>(g ρ).s λk=>if k=true then f1 ρ else f2 ρ
theorem z1x {ga:En->R Bool}(hc:wy X Y c ga)(h1:UM X Y sts f)(h2:UM X Y sts' g):wA X Y (.If c sts sts' pos) (ifS ga f g):= .mk λρ=>
 PS.imp (z0N (hc ρ) (h1 ρ) (h2 ρ)) λD σ H ⟨B,I,q⟩=>jZ I q λt v H1 _ s1 r1 I1 q1=>by
  have r1' :v=t:=r1;subst r1';cases v with
  | true=>exact⟨_,I1,q1⟩
  | false=>exact⟨_,I1,q1⟩
def jt (fa:En->R T):En->RS:=λρ=>(fa ρ).s λ_=> .nx ρ
theorem Kg (ha:Snd X Y a fa)(hs:swapsWith a none pos.line X.env=pure false:=by rfl):wA X Y (.Expr a pos) (jt fa):= .mk λρ=>
 PS.imp (u5 (ha ρ) hs) λD σ H ⟨B,I,q⟩=>jZ I q λt v H1 _ s1 r1 I1 q1=>q1 _ _ _ (zw.refl _) I1
def Y2 (i:Nat)(fa:En->R T):En->RS:=λρ=>match ρ[i]? with
 | some (.ow ts)=>(fa ρ).s λt=>if ts.length < bnd then .nx (ρ.set i (.ow (ts++[t]))) else .bad
 | _=> .bad
def yl (i:Nat)(fa:En->R T):En->RS:=λρ=>match ρ[i]? with
 | some (.ow ts)=>(fa ρ).s λt=>match t with
  | .lst us=>if ts.length+us.length<=bnd then .nx (ρ.set i (.ow (ts++us))) else .bad
  | _=> .bad
 | _=> .bad
theorem Kh {n:Nat}(h:n < bnd):n < sizeLine:=by rw[bI];exact h
theorem z1y {i:Nat}{x:Str}{px pa:Pos}(hv:PE X (.Name x px) (Qb i))(ha:Snd X Y a fa)(hb:attributeBase (.Name x px) "append" X.env (eval (.Name x px) X.env)=eval (.Name x px) X.env:=by rfl)(hs:St1 X a:=by exact st1 rfl)
  (hz:(pa.endLine == p.line)=true:=by rfl) (hw:swapsWith (.Call (.Attribute (.Name x px) "append" pa) [a] [] p) none pos.line X.env=pure false:=by rfl):wA X Y (.Expr (.Call (.Attribute (.Name x px) "append" pa) [a] [] p) pos) (Y2 i fa):= .mk λρ=>by
 have e1:(((((backTo p (starEach [a] X.env)).all λx=> !x.fst) && (backToKw p (keywordEach [] X.env)).all λx=>x.fst.isSome) && decide (([a].length+([]:List Keyword).length+if ([]:List Keyword).isEmpty=true then 0 else 1) < 30))=true):=by rw[hs];rfl
 refine PS.imp (u5 (x6 fG PySem.F.slot_list_append PySem.F.type_list_append Wj hv (zo (ha ρ) zU hs) hb e1 hz hs rfl) hw) λD σ H ⟨B,I,q⟩=> ?_;unfold Y2 at q;split at q
 ·rename_i ts e;obtain⟨l,xs,e1,b0,h0,hh,rr,d⟩:=I.ow i ts e;refine⟨.ref l,e1,.inl ⟨rfl,_,SqL.of hh⟩, ?_⟩;refine jZ I q λt v H1 _ s1 r1 I1 q1=> ?_;split at q1
  ·rename_i hb;refine⟨l,xs,v,rfl,rfl,s1 _ _ hh,by rw[rr.length];exact Kh hb, ?_⟩
   exact q1 _ _ _ (zw.refl _) (I1.chg i e e1 ((rr.mono (zS.ge I.sB s1)).append (.cons r1 .nil)))
  ·exact q1.elim
 ·exact q.elim
theorem z1z {i:Nat}{x:Str}{px pa:Pos}(hv:PE X (.Name x px) (Qb i))(ha:Snd X Y a fa)(hb:attributeBase (.Name x px) "extend" X.env (eval (.Name x px) X.env)=eval (.Name x px) X.env:=by rfl)(hs:St1 X a:=by exact st1 rfl)
  (hz:(pa.endLine == p.line)=true:=by rfl) (hw:swapsWith (.Call (.Attribute (.Name x px) "extend" pa) [a] [] p) none pos.line X.env=pure false:=by rfl):wA X Y (.Expr (.Call (.Attribute (.Name x px) "extend" pa) [a] [] p) pos) (yl i fa):= .mk λρ=>by
 have e1:(((((backTo p (starEach [a] X.env)).all λx=> !x.fst) && (backToKw p (keywordEach [] X.env)).all λx=>x.fst.isSome) && decide (([a].length+([]:List Keyword).length+if ([]:List Keyword).isEmpty=true then 0 else 1) < 30))=true):=by rw[hs];rfl
 refine PS.imp (u5 (x6 fG PySem.F.slot_list_extend PySem.F.type_list_extend yL hv (zo (ha ρ) zU hs) hb e1 hz hs rfl) hw) λD σ H ⟨B,I,q⟩=> ?_;unfold yl at q;split at q
 ·rename_i ts e;obtain⟨l,xs,e1,b0,h0,hh,rr,d⟩:=I.ow i ts e;refine⟨.ref l,e1,.inl ⟨rfl,_,SqL.of hh⟩, ?_⟩;refine jZ I q λt v H1 _ s1 r1 I1 q1=> ?_;cases r1 with
  | @lst b zs us hb r=>
   have q1:PoS Y _ (if ts.length+us.length<=bnd then .nx (ρ.set i (.ow (ts++us))) else .bad) D:=q1
   split at q1
   ·rename_i hl;refine⟨l,b,xs,zs,rfl,rfl,s1 _ _ hh,I1.sB _ _ hb,by rw[rr.length,r.length];exact Zz hl, ?_⟩
    exact q1 _ _ _ (zw.refl _) (I1.chg i e e1 ((rr.mono (zS.ge I.sB s1)).append r))
   ·exact q1.elim
  | _=>exact q1.elim
 ·exact q.elim
end
def spP (cl:Nat->Value)(n:Nat)(g:List T->R T):Sp:=λvs H Q E=>∃B ts,ts.length=n/\zw B H/\zI B vs ts/\Po ⟨B,H,E,cl⟩ rC B H (g ts) Q
theorem spP.len {cl:Nat->Value}{n:Nat}{g:List T->R T}(vs:List V)(H:Hp)(Q:VK)(E:XK)(h:spP cl n g vs H Q E):vs.length=n:=by
 obtain⟨B,ts,hl,_,r,_⟩:=h;rw[r.length,hl]
def za (n:Nat)(g:List T->R T)(ga:En->R (List T)):En->R T:=λρ=>(ga ρ).bind λts=>if ts.length=n then g ts else .bad
section
variable {X:Cx}{Y:Fx}{a b c d:Expr}{fa fb fc fd:En->R T}{pos p:Pos}
theorem Ki {CX:CXT}{k n:Nat}{f:Addr}{fd:FuncData}{ps:List Str}{g:List T->R T}{x:Str}{es:List Expr}{ga:En->R (List T)}(F:zV X.prog X.w X.K X.mg X.base CX k f fd ps (spP Y.cl n g))(hr:JU k X.A)(gl:Gl X x)(mg:X.mg x=some (.ref f))
  (kp:cS X.K (.ref f)=true) (bd:L2.Binds X.K fd ps []) (hx:wa CX X Y.E) (ha:UK X Y (a :: es) ga) (hd:(x == ("__debug__":Str))=false:=by decide)
  (hs:starEach (a :: es) X.env=(false,eval a X.env) :: starEach es X.env:=by exact Zh rfl) (hz:((backTo pos (starEach es X.env)).any λx=>x.fst)=false:=by exact jd rfl):Snd X Y (.Call (.Name x p) (a :: es) [] pos) (za n g ga):= .mk λρ=>
 PE.imp (yI F hr gl mg kp bd .nil hx (ha ρ) hd hs hz) λσ H Q ⟨B,I,q⟩=>step I q λts vs H1 _ s1 r1 I1 q1=>by
  split at q1
  ·rename_i hn;rw[cI];refine⟨_,ts,hn,I1.sB,r1, ?_⟩;revert q1;cases g ts with
   | bad=>exact λq1=>q1
   | ex c=>exact λq1 d H' s sB=>q1 d H' (I1.sH.trans s) sB
   | ok t=>exact λq1=>q1
  ·exact q1.elim
end
def zg:RS->R T
 | .rt t=> .ok t
 | .rf ts=> .ok (.lst ts)
 | .nx _=> .ok .non
 | .ex c=> .ex c
 | _=> .bad
def en0 (n:Nat)(ts:List T):En:=ts.map Sl.vl++ag (n - ts.length) Sl.un
theorem zI.vl {H:Hp}:∀{vs:List V} {ts:List T} {i:Nat} {t:T} {n m:Nat},zI H vs ts->(ts.map Sl.vl++ag n Sl.un)[i]? =some (Sl.vl t)->∃v:V,(vs.map some++ag m none)[i]? =some (some v)/\Rep H v t
 | _,_,i,t,n,m,.nil,h=>by
  exfalso;simp only[cN,bP]at h;rw[aZ]at h;split at h
  ·cases h
  ·cases h
 | _,_,0,t,n,m,.cons r _,h=>by
  simp at h;subst h;exact⟨_,rfl,r⟩
 | _,_,i+1,t,n,m,.cons _ q,h=>by
  obtain⟨v,h1,h2⟩:=zI.vl (i:=i) (t:=t) (n:=n) (m:=m) q (by simpa using h)
  exact⟨v,by simpa using h1,h2⟩
theorem V2 {n:Nat}:∀{ts:List T} {i:Nat} {us:List T},(ts.map Sl.vl++ag n Sl.un)[i]? =some (Sl.ow us)->False
 | [],i,us,h=>by
  simp only[cN,bP]at h;rw[aZ]at h;split at h
  ·cases h
  ·cases h
 | t :: ts,0,us,h=>by simp at h
 | t :: ts,i+1,us,h=>V2 (ts:=ts) (i:=i) (us:=us) (n:=n) (by simpa using h)
theorem V3 {n:Nat}:∀{ts:List T} {i:Nat} {c:Nat},(ts.map Sl.vl++ag n Sl.un)[i]? =some (Sl.xc c)->False
 | [],i,us,h=>by
  simp only[cN,bP]at h;rw[aZ]at h;split at h
  ·cases h
  ·cases h
 | t :: ts,0,us,h=>by simp at h
 | t :: ts,i+1,us,h=>V3 (ts:=ts) (i:=i) (c:=us) (n:=n) (by simpa using h)
theorem SI.start {Y:Fx}{N:List Str}{vs:List V}{ts:List T}(s:zw Y.B0 Y.H0)(r:zI Y.B0 vs ts):SI Y Y.B0 (en0 N.length ts) (L2.start N vs) Y.H0 where
 s0:=s
 sH:=zw.refl _
 sB:=s
 old:=λ_ _ _=>rfl
 len:=by unfold en0 L2.start;simp[r.length]
 vl:=λi t h=>r.vl h
 ow:=λi ts h=>(V2 h).elim
 xc:=λi c h=>(V3 h).elim
section
variable {P:Program}{w:World}{K:al}{mg:Str->Option Value}{base:Heap}
theorem zp {cl:Nat->Value}{x qual:Str}{st:Stmt}{f:Addr}{fd:FuncData}{N ps:List Str}{k n:Nat}{fb:En->RS}{g:List T->R T}(F:Fun K x qual st f fd)(S:zf N ps (zb st))(hn:n=ps.length)
  (hb:∀(cdv:Value) (A:Around) (outer:List Env) (s:Shared) (H:Hp) (E:XK) (Y:Fx),Y.cl=cl->JU k (A.deeper (envOfC qual (zb st) s.heap.objs.size f cdv))->
   UM (VW CX0 P w K mg base N qual (zb st) f cdv A outer s H E).nox Y (ZM st) fb)
  (hg:∀ts,ts.length=n->g ts=zg (fb (en0 N.length ts))):zV P w K mg base CX0 (k+1) f fd ps (spP cl n g):=by
 subst hn;refine F.ok S spP.len λcdv A outer s H vs Q E hr ⟨B,ts,hl,sB,r,q⟩=> ?_;refine⟨_,hb cdv A outer s H E ⟨B,H,E,cl⟩ rfl hr (en0 N.length ts),B,SI.start (Y:=⟨B,H,E,cl⟩) sB r, ?_⟩;rw[hg ts hl]at q;revert q;cases fb (en0 N.length ts) with
 | rt t=>exact λq v H' s r=>q v H' s r
 | rf t=>exact λq a xs H' B' s0 n e r _ l=>q (.ref a) H' s0 (.lst (by rw[Zi n];exact e) (r.mono l))
 | nx ρ=>exact λq σ' H' B' _ I=>q .non H' I.sH .non
 | ex c=>exact λq=>q
 | bk ρ=>exact λq=>q.elim
 | ct ρ=>exact λq=>q.elim
 | bad=>exact λq=>q
end
abbrev rI:Hp->Hp->It->List T->Prop:=λB1 _ J ts=>∀B2 H2,zw B1 B2->zw B2 H2->(∀i,i < ts.length->J.go i H2)/\(∀(i:Nat) t x H3,ts[i]? =some t->J.yld i H2 x H3->zw H2 H3/\Rep (zS B2 H2 H3) x t)/\(∀i,ts.length<=i->J.stop i H2)
structure ym (X:Cx) (Y:Fx) (tg iter:Expr) (f:En->R (List T)):Prop where
 mk ::
 go:∀ρ,PI X tg iter (tS Y rI f ρ)
instance {X:Cx}{Y:Fx}{tg iter:Expr}{f:En->R (List T)}:CoeFun (ym X Y tg iter f) λ_=>∀ρ,PI X tg iter (tS Y rI f ρ):=⟨ym.go⟩
section
variable {X:Cx}{Y:Fx}{a b c d tg:Expr}{fa fb fc fd:En->R T}{pos p:Pos}
theorem PI.imp {e:Expr}{t t' :TI}(h:PI X tg e t)(i:∀σ H Q,t' σ H Q->t σ H Q):PI X tg e t' :=λpins s σ H Q I q=>h pins s σ H Q I (i σ H Q q)
theorem Kj {K:al}{B1 H1:Hp}{a:Addr}{xs:List V}{ts:List T}(h:B1 a=some (.tup xs))(r:zI B1 xs ts):rI B1 H1 (Itt K a) ts:=λB2 H2 s1 s2=>by
 have h2:=s2 _ _ (s1 _ _ h);refine⟨λi hi=> ?_,λi t x H3 e y=> ?_,λi hi=>⟨xs,SqT.of h2,by rw[r.length];exact hi⟩⟩
 ·obtain⟨v,e,_⟩:=r.get (ac hi);exact⟨xs,v,SqT.of h2,e⟩
 ·obtain⟨rfl,y⟩:=y;obtain⟨v,e1,r1⟩:=r.get e;have:=y xs (SqT.of h2);rw[e1]at this;cases this;refine⟨zw.refl _, ?_⟩;rw[zS.self B2 _ s2];exact r1.mono s1
theorem Kk {K:al}{B1 H1:Hp}{a:Addr}{xs:List V}{ts:List T}(h:B1 a=some (.lst xs))(r:zI B1 xs ts):rI B1 H1 (Itl K a) ts:=λB2 H2 s1 s2=>by
 have h2:=s2 _ _ (s1 _ _ h);refine⟨λi hi=> ?_,λi t x H3 e y=> ?_,λi hi=>⟨xs,SqL.of h2,by rw[r.length];exact hi⟩⟩
 ·obtain⟨v,e,_⟩:=r.get (ac hi);exact⟨xs,v,SqL.of h2,e⟩
 ·obtain⟨rfl,y⟩:=y;obtain⟨v,e1,r1⟩:=r.get e;have:=y xs (SqL.of h2);rw[e1]at this;cases this;refine⟨zw.refl _, ?_⟩;rw[zS.self B2 _ s2];exact r1.mono s1
def rng (lo:Int)(n:Nat):List T:=(aX n).map λ(i:Nat)=>T.int (lo+(i:Int))
theorem V4 {B1 H1:Hp}{lo:Int}{n:Nat}:rI B1 H1 (Itr lo n) (rng lo n):=λB2 H2 s1 s2=>by
 have hl:(rng lo n).length=n:=by unfold rng;simp
 refine⟨λi hi=>by rw[hl]at hi;exact hi,λi t x H3 e y=> ?_,λi hi=>by rw[hl]at hi;exact hi⟩
 obtain⟨rfl,rfl⟩:=y;refine⟨zw.refl _, ?_⟩;unfold rng at e;rw[ax]at e
 by_cases hi:i < n
 ·rw[cA hi]at e;cases e;exact .int _
 ·rw[aD (by simp;omega)]at e;cases e
def j2 (fa:En->R T):En->R (List T):=λρ=>(fa ρ).bind λt=>match t with
 | .int j=>if -1000000 < j/\j < 1000000 then .ok (rng 0 j.toNat) else .bad
 | _=> .bad
def J0 (fa fb:En->R T):En->R (List T):=λρ=>(fa ρ).bind λt=>(fb ρ).bind λt' =>match t,t' with
 | .int i,.int j=>if -1000000 < i/\i < 1000000/\ -1000000 < j/\j < 1000000 then .ok (rng i (j - i).toNat) else .bad
 | _,_=> .bad
theorem Kl (gl:Gl X "range")(mg:X.mg "range"=none)(ha:Snd X Y a fa)(hs:St1 X a:=by exact st1 rfl):ym X Y tg (.Call (.Name "range" p) [a] [] pos) (j2 fa):= .mk λρ=>PI.imp (yz gl mg (zo (ha ρ) zU hs) hs) λσ H R ⟨B,I,q⟩=>step I q λt v H1 _ s1 r1 I1 q1=>by
 cases r1 with
 | int j=>
  have q1:Po Y rI _ H1 (if -1000000 < j/\j < 1000000 then .ok (rng 0 j.toNat) else .bad) R:=q1
  split at q1
  ·rename_i hj;exact⟨j,rfl,by omega,by omega,ZX I1 q1 V4⟩
  ·exact q1.elim
 | _=>exact q1.elim
theorem Km (gl:Gl X "range")(mg:X.mg "range"=none)(ha:Snd X Y a fa)(hb:Snd X Y b fb)(hs:starEach [a,b] X.env=[(false,eval a X.env),(false,eval b X.env)]:=by exact st2 rfl rfl)(hs2:St1 X b:=by exact st1 rfl):ym X Y tg (.Call (.Name "range" p) [a,b] [] pos) (J0 fa fb):= .mk λρ=>
 PI.imp (yA gl mg (zo (ha ρ) (zo (hb ρ) zU hs2) (by rw[hs,hs2])) hs hs2) λσ H R ⟨B,I,q⟩=>step I q λt v H1 _ s1 r1 I1 q1=>step I1 q1 λt' v' H2 _ s2 r2 I2 q2=>by
  cases r1 with
  | int i=>
   cases r2 with
   | int j=>
    have q2:Po Y rI _ H2 (if -1000000 < i/\i < 1000000/\ -1000000 < j/\j < 1000000 then .ok (rng i (j - i).toNat) else .bad) R:=q2
    split at q2
    ·rename_i hj;exact⟨i,j,rfl,⟨by omega,by omega,by omega,by omega⟩,ZX I2 q2 V4⟩
    ·exact q2.elim
   | _=>exact q2.elim
  | _=>cases r2 <;> exact q2.elim
def Kn (X:Cx)(Y:Fx)(tg:Expr)(g:T->En->R En):Prop:=∃t:TG,PG X tg t/\∀B ρ σ H v x Q,SI Y B ρ σ H->Rep B v x->(match g x ρ with | .ok ρ' =>∀σ',SI Y B ρ' σ' H->Q σ' H | _=>False)->t v σ H Q
def zt (i:Nat):T->En->R En:=λt ρ=> .ok (ρ.set i (.vl t))
theorem V5 {i:Nat}{x:Str}(hN:X.N.Nodup)(hi:X.N[i]? =some x)(hx:L2.Loc X.env.scope x)(hf:X.fn x=true\/X.env.scope.names.lookup x=some .local:=by first | exact .inl rfl | exact .inr rfl | assumption):Kn X Y (.Name x pos) (zt i):=
 ⟨Wa i,zm hN hi hx hf,λB ρ σ H v x Q I r q=>q _ (I.setV i r)⟩
def zN (i j:Nat):T->En->R En:=λt ρ=>match t with
 | .tup [x,y]=> .ok ((ρ.set i (.vl x)).set j (.vl y))
 | _=> .bad
theorem V6 {i j:Nat}{x y:Str}{p' p2:Pos}{k:Nat}(hc:X.calm=true)(hN:X.N.Nodup)(hi:X.N[i]? =some x)(hj:X.N[j]? =some y)(hx:L2.Loc X.env.scope x)(hy:L2.Loc X.env.scope y)
  (hf:X.fn x=true\/X.env.scope.names.lookup x=some .local:=by first | exact .inl rfl | exact .inr rfl | assumption) (hf' :X.fn y=true\/X.env.scope.names.lookup y=some .local:=by first | exact .inl rfl | exact .inr rfl | assumption):
  Kn X Y (.Tuple [.Name x pos,.Name y p'] k p2) (zN i j):=by
 refine⟨z0P X.K 2 (yw (Wa i) (yw (Wa j) z0O)),Jp hc (Z2 (zm hN hi hx hf) (Z2 (zm hN hj hy hf') jo)),λB ρ σ H v t Q I r q=> ?_⟩;cases r with
 | @tup l xs ts h r=>
  cases r with
  | nil=>exact q.elim
  | cons r1 rr=>
   cases rr with
   | nil=>exact q.elim
   | cons r2 rr=>
    cases rr with
    | cons _ _=>exact q.elim
    | nil=>
     exact⟨l,_,rfl,SqT.of (I.sB _ _ h),rfl,_,_,rfl,_,_,rfl,rfl,q _ ((I.setV i r1).setV j r2)⟩
 | _=>exact q.elim
def ZA (g:T->En->R En)(fb:En->RS):List T->En->RS
 | [],ρ=> .nx ρ
 | t :: ts,ρ=>match g t ρ with
  | .ok ρ1=>match fb ρ1 with
   | .nx ρ2=>ZA g fb ts ρ2
   | .ct ρ2=>ZA g fb ts ρ2
   | .bk ρ2=> .nx ρ2
   | r=>r
  | .ex c=> .bad
  | .bad=> .bad
def jk (fi:En->R (List T))(g:T->En->R En)(fb:En->RS):En->RS:=λρ=>(fi ρ).s λts=>ZA g fb ts ρ
theorem z1A {iter:Expr}{sts:List Stmt}{fi:En->R (List T)}{g:T->En->R En}{fb:En->RS}(hp:PassesOwn (model X.prog X.w) X.A X.env X.xe)(hc:X.calm=true)(hi:ym X Y tg iter fi)(hg:Kn X Y tg g)(hb:UM X Y sts fb)
  (hs:∀x,foldedSetIterable iter X.env x=pure x:=by intro _;rfl):wA X Y (.For tg iter sts [] pos) (jk fi g fb):= .mk λρ=>by
 obtain⟨tG,hG,hG'⟩:=hg;refine PS.imp (kF (tb:=λD σ H=>∃ρ',tSS Y fb ρ' D σ H) hp hc (hi ρ) hG (λpins s σ H D I ⟨ρ',q⟩=>hb ρ' pins s σ H D I q) hs) λD σ H ⟨B,I,q⟩=> ?_;refine jZ I q λts J H1 _ s1 r1 I1 q1=> ?_;refine⟨λi m σ' H' =>m=ts.length - i/\i<=ts.length/\∃ρ' B',SI Y B' ρ' σ' H' /\zw (zS B H H1) B' /\PoS Y B' (ZA g fb (ts.drop i) ρ') D,⟨ts.length,by simp,b9 _,ρ,_,I1,zw.refl _,q1⟩, ?_⟩
 rintro i m σ' H' ⟨rfl,hi,ρ',B',I',sB',q'⟩
 obtain⟨hgo,hyld,hstop⟩:=r1 B' H' sB' I'.sB
 by_cases hlt:i < ts.length
 ·refine .inr ⟨hgo i hlt,λσ2 H2=>∃ρ2 B2,SI Y B2 ρ2 σ2 H2/\zw (zS B H H1) B2/\PoS Y B2 (ZA g fb (ts.drop (i+1)) ρ2) D,λσ2 H2 ⟨ρ2,B2,I2,s2,q2⟩=>⟨ts.length - (i+1),by omega,rfl,hlt,ρ2,B2,I2,s2,q2⟩,λx H2 y=> ?_⟩
  obtain⟨s2,r2⟩:=hyld i _ x H2 (ac hlt) y;rw[f9 hlt]at q';unfold ZA at q';refine hG' _ ρ' σ' H2 x _ _ (I'.grow s2) r2 ?_;cases eg:g ts[i] ρ' with
  | bad=>rw[eg]at q';exact q'
  | ex c=>rw[eg]at q';exact q'
  | ok ρ1=>
   rw[eg]at q';intro σ1 J1;refine⟨ρ1,_,J1, ?_⟩;have q2:=PoS.up (zS.ge I'.sB s2) q';dsimp only at q2;have s3:zw (zS B H H1) (zS B' H' H2):=sB'.trans (zS.ge I'.sB s2);revert q2;cases fb ρ1 with
   | nx ρ2=>exact λq2 σ3 H3 B3 s4 I3=>⟨ρ2,B3,I3,s3.trans s4,PoS.up s4 q2⟩
   | ct ρ2=>exact λq2 σ3 H3 B3 s4 I3=>⟨ρ2,B3,I3,s3.trans s4,PoS.up s4 q2⟩
   | bk ρ2=>exact λq2=>q2
   | rt t=>exact λq2=>q2
   | rf t=>exact λq2=>q2
   | ex c=>exact λq2=>q2
   | bad=>exact λq2=>q2
 ·have e:i=ts.length:=by omega
  subst e;rw[iV]at q';exact .inl ⟨hstop _ (am _),q' σ' H' B' (zw.refl _) I'⟩
def Zl (g:En->R Bool)(fb:En->RS):Nat->En->RS
 | 0,_=> .bad
 | n+1,ρ=>(g ρ).s λk=>if k=true then match fb ρ with
   | .nx ρ2=>Zl g fb n ρ2
   | .ct ρ2=>Zl g fb n ρ2
   | .bk ρ2=> .nx ρ2
   | r=>r
  else .nx ρ
theorem Y3 {n:Nat}{sts:List Stmt}{ga:En->R Bool}{fb:En->RS}(hp:PassesOwn (model X.prog X.w) X.A X.env X.xe)(hc:wy X Y c ga)(hb:UM X Y sts fb):wA X Y (.While c sts [] pos) (Zl ga fb n):= .mk λρ=>by
 refine PS.imp (Qo (tc:=λσ H Q=>∃ρ',tS Y rE ga ρ' σ H Q) (tb:=λD σ H=>∃ρ',tSS Y fb ρ' D σ H) hp (λpins s σ H D I ⟨ρ',q⟩=>hc ρ' pins s σ H D I q) (λpins s σ H D I ⟨ρ',q⟩=>hb ρ' pins s σ H D I q)) λD σ H ⟨B,I,q⟩=> ?_;refine⟨λm σ' H' =>∃ρ' B',SI Y B' ρ' σ' H' /\PoS Y B' (Zl ga fb m ρ') D,⟨n,ρ,B,I,q⟩, ?_⟩
 rintro m σ' H' ⟨ρ',B',I',q'⟩
 cases m with
 | zero=>exact q'.elim
 | succ m=>
  unfold Zl at q';refine⟨ρ',jZ I' q' λt v H1 _ s1 r1 I1 q1=> ?_⟩;have r1' :v=t:=r1;subst r1';cases v with
  | false=>exact q1 _ _ _ (zw.refl _) I1
  | true=>
   refine⟨λσ2 H2=>∃ρ2 B2,SI Y B2 ρ2 σ2 H2/\PoS Y B2 (Zl ga fb m ρ2) D,λσ2 H2 h=>⟨m,cV m,h⟩,ρ',_,I1, ?_⟩;have q1:PoS Y _ (match fb ρ' with
    | .nx ρ2=>Zl ga fb m ρ2
    | .ct ρ2=>Zl ga fb m ρ2
    | .bk ρ2=> .nx ρ2
    | r=>r) D:=q1
   revert q1;cases fb ρ' with
   | nx ρ2=>exact λq2 σ3 H3 B3 s4 I3=>⟨ρ2,B3,I3,PoS.up s4 q2⟩
   | ct ρ2=>exact λq2 σ3 H3 B3 s4 I3=>⟨ρ2,B3,I3,PoS.up s4 q2⟩
   | bk ρ2=>exact λq2=>q2
   | rt t=>exact λq2=>q2
   | rf t=>exact λq2=>q2
   | ex c=>exact λq2=>q2
   | bad=>exact λq2=>q2
end
theorem Ju {env:Env}:∀(ns:List (Str×NameKind)) (acc:List (Str×Addr)),(∀x∈ns,x.2=NameKind.free->∃c,env.cells.lookup x.1=some c)->(∀x c,acc.lookup x=some c->env.cells.lookup x=some c)->
  ∃cl,(forIn ns acc (λ(x:Str×NameKind) (r:List (Str×Addr))=>if (x.2 == NameKind.free)=true then (do let c ← cellOf env x.1;pure (ForInStep.yield ((x.1,c) :: r))) else pure (ForInStep.yield r)):Sem _)=pure cl/\
   (∀x c,cl.lookup x=some c->env.cells.lookup x=some c)/\(∀x c,acc.lookup x=some c->∃c',cl.lookup x=some c')/\(∀x∈ns,x.2=NameKind.free->∃c,cl.lookup x.1=some c)
 | [],acc,_,h=>⟨acc,rfl,h,λx c e=>⟨c,e⟩,λx hx=>by simp at hx⟩
 | (n,k) :: ns,acc,hf,h=>by
  by_cases hk:k=NameKind.free
  ·obtain⟨c,hc⟩:=hf (n,k) ae hk;have h' :∀x d,((n,c) :: acc).lookup x=some d->env.cells.lookup x=some d:=λx d e=>by
    by_cases hx:x=n
    ·subst hx;have e' :some c=some d:=by simpa[aK] using e
     cases e';exact hc
    ·have e' :acc.lookup x=some d:=by
      rw[aK,(beq_eq_false_iff_ne.mpr hx)]at e;exact e
     exact h x d e'
   obtain⟨cl,e,h1,h2,h3⟩:=Ju ns ((n,c) :: acc) (λx hx=>hf x (ab _ hx)) h';refine⟨cl, ?_,h1,λx d ed=> ?_,λx hx hxf=> ?_⟩
   ·rw[eK];subst hk;have q:cellOf env n=pure c:=by unfold cellOf;rw[hc]
    simp only[beq_self_eq_true,if_true,q];exact e
   ·by_cases hx:x=n
    ·subst hx;exact h2 x c (by simp[aK])
    ·exact h2 x d (by rw[aK,(beq_eq_false_iff_ne.mpr hx)];exact ed)
   ·rcases ak.mp hx with rfl | hx
    ·exact h2 n c (by simp[aK])
    ·exact h3 x hx hxf
  ·obtain⟨cl,e,h1,h2,h3⟩:=Ju ns acc (λx hx=>hf x (ab _ hx)) h;refine⟨cl, ?_,h1,h2,λx hx hxf=> ?_⟩
   ·rw[eK];have q:(k == NameKind.free)=false:=by simpa using hk
    simp only[q,aB,if_false];exact e
   ·rcases ak.mp hx with rfl | hx
    ·exact absurd hxf hk
    ·exact h3 x hx hxf
theorem xv {scope:Scope}{env:Env}(hf:∀x∈scope.names,x.2=NameKind.free->∃c,env.cells.lookup x.1=some c):
  ∃cl,closureFor scope env=pure cl/\(∀x c,cl.lookup x=some c->env.cells.lookup x=some c)/\(∀x∈scope.names,x.2=NameKind.free->∃c,cl.lookup x.1=some c):=by
 obtain⟨cl,e,h1,_,h3⟩:=Ju scope.names [] hf (λx c e=>by simp at e)
 refine⟨cl, ?_,h1,h3⟩;unfold closureFor;show (do let cs ← _;pure cs)=_
 exact(by simpa using e)
def cxC (X:Cx)(scope:Scope)(N' :List Str)(cl:List (Str×Addr))(C:Addr)(s3:Shared)(H3:Hp)(fp:List Addr)(pins:List (Addr×Obj)):Cx:=
 { X with N:=N',s₀:=s3,H₀:=H3,env:=compEnvC scope cl C X.env,outer:=X.stack,stack:=X.stack,ex:=fp,fn:=λ_=>false,pn:=X.pn++pins,xe:=λ_ _=>False }
structure CSc (X:Cx) (scope:Scope):Prop where
 kind:scope.kind= .function
 nocell:∀x∈scope.names,x.2 ≠ .cell
 loc:∀x∈scope.names,x.2= .local->scope.names.lookup x.1=some .local
 fre:∀x∈scope.names,x.2= .free->X.env.kindOf x.1=some .cell\/X.env.kindOf x.1=some .free
theorem jA {scope:Scope}{env:Env}{x:Str}{k:NameKind}(h:(relabel scope env).names.lookup x=some k)(hk:k= .cell\/k= .free)(hn:∀x∈scope.names,x.2 ≠ NameKind.cell):∃y∈scope.names,y.1=x/\y.2= .free:=by
 have go:∀ns:List (Str×NameKind),(∀x∈ns,x.2 ≠ NameKind.cell)->(ns.map λ(n,k)=>if (k == NameKind.free && env.scope.kind == .function && env.kindOf n == some .cell) then (n,NameKind.cell) else (n,k)).lookup x=some k->∃y∈ns,y.1=x/\y.2= .free:=by
  intro ns
  induction ns with
  | nil=>intro _ h;simp at h
  | cons y ns ih=>
   intro hn h;obtain⟨n,k'⟩:=y
   by_cases hx:x=n
   ·subst hx;refine⟨(x,k'),ae,rfl, ?_⟩;rw[ar]at h
    by_cases hc:(k' == NameKind.free && env.scope.kind == .function && env.kindOf x == some .cell)=true
    ·rw[aj,aj]at hc;exact eq_of_beq hc.1.1
    ·simp only[if_neg hc,aK,beq_self_eq_true]at h;cases h;rcases hk with rfl | rfl
     ·exact absurd rfl (hn _ ae)
     ·rfl
   ·obtain⟨z,hz,h1,h2⟩:=ih (λz hz=>hn z (ab _ hz)) (by
     rw[ar]at h
     by_cases hc:(k' == NameKind.free && env.scope.kind == .function && env.kindOf n == some .cell)=true
     ·simp only[if_pos hc,aK,(beq_eq_false_iff_ne.mpr hx)]at h;exact h
     ·simp only[if_neg hc,aK,(beq_eq_false_iff_ne.mpr hx)]at h;exact h)
    exact⟨z,ab _ hz,h1,h2⟩
 exact go scope.names hn h
section
variable {X:Cx}{pins:List (Addr×Obj)}{σ:Sg}{H:Hp}{s:Shared}
theorem Y4 {scope:Scope}{N' :List Str}{cl:List (Str×Addr)}{fp:List Addr}{h' :Heap}{tk:Nat}{σ' :Sg}(I:L2.Inv X pins σ H s)(S:CSc X scope)(hc:X.calm=true)
  (hcl:∀x c,cl.lookup x=some c->X.env.cells.lookup x=some c) (hcf:∀x∈scope.names,x.2=NameKind.free->∃c,cl.lookup x.1=some c)
  (hfp:∀b∈fp,WY X pins H b) (hfo:∀b∈fp,∃o,s.heap.get? b=some o)
  (hns:h'.Ns s.heap.objs.size (λ_=>none)) (hk:∀b o,s.heap.get? b=some o->h'.get? b=some o)
  (hl:σ'.length=N'.length) (hσ:∀(i:Nat) (x:Str) (v:V),N'[i]? =some x->σ'[i]? =some (some v)->∃j:Nat,X.N[j]? =some x/\σ[j]? =some (some v)/\Vis X.env.scope x/\(scope.names.lookup x=some .free)/\(X.env.kindOf x=some .cell\/X.env.kindOf x=some .free)):
  L2.Inv (cxC X scope N' cl s.heap.objs.size s H fp pins) [] σ' H { s with heap:=h',toks:=tk }:=by
 have stk:=I.stkSub;have hlt:∀b∈fp,b < s.heap.objs.size:=λb hb=>let ⟨o,e⟩:=hfo b hb;ao e;have fresh:H s.heap.objs.size=none:=I.hok.fresh (am _);refine⟨⟨I.ok.mod,S.kind,I.ok.glob,I.ok.blt,am _,λx y c h1 h2=>I.ok.inj x y c (hcl _ _ h1) (hcl _ _ h2),λx hx=> ?_,λx c h _=>(ay h).elim,λ_=>I.ok.hd hc,I.ok.frames,.inl rfl,λb hb=> ?_,I.bs,
   ap I.ok.bsz I.sz,λb o e hb=> ?_,λb hb hb' => ?_,I.stack,I.stkFree⟩,rfl,I.bare,Un.kept hk,⟨_,hns,λi x v h1 h2 h3=> ?_⟩,λx c e=> ?_,fresh,λx c e=>I.freeC x c (hcl _ _ e),λp hp=> ?_,I.hok.kept hk,hl⟩
 ·have hx' :(relabel scope X.env).names.lookup x=some .cell\/(relabel scope X.env).names.lookup x=some .free:=hx;obtain⟨y,hy,rfl,hyf⟩:∃y∈scope.names,y.1=x/\y.2= .free:=by
   rcases hx' with h | h
   ·exact jA h (.inl rfl) S.nocell
   ·exact jA h (.inr rfl) S.nocell
  exact hcf y hy hyf
 ·refine⟨aw (hlt b hb),λx c e=>(hfp b hb).2.2.2.2.1 x c (hcl _ _ e)⟩
 ·rcases(hfp b hb).2.2.2.1 with h | h
  ·exact I.ok.noex b o e h
  ·exact absurd (aH (ao e) (ap I.ok.bsz h)) (bg _)
 ·have q:=hfp b hb;rcases ak.mp (stk b hb') with z | z
  ·exact q.2.1 z
  ·exact q.2.2.1 z
 ·obtain⟨j,e1,e2,e3,e4,e5⟩:=hσ i x v h1 h2;obtain⟨m,hn,hloc⟩:=I.loc;obtain⟨u,ru,lk⟩:=hloc j x v e1 e2 e3;refine⟨u,ru,.inr ⟨?_, ?_⟩⟩
  ·have h3:Vis (relabel scope X.env) x:=h3;rcases h3 with h | h | h
   ·exfalso;have:∀ns:List (Str×NameKind),ns.lookup x=some .free->(ns.map λ(n,k)=>if (k == NameKind.free && X.env.scope.kind == .function && X.env.kindOf n == some .cell) then (n,NameKind.cell) else (n,k)).lookup x ≠ some .local:=by
     intro ns
     induction ns with
     | nil=>intro z;simp at z
     | cons y ns ih=>
      obtain⟨n,k⟩:=y;intro z w;rw[ar]at w
      by_cases hx:x=n
      ·subst hx;have hkf:some k=some NameKind.free:=by simpa[aK] using z
       by_cases hcn:(k == NameKind.free && X.env.scope.kind == .function && X.env.kindOf x == some .cell)=true
       ·simp only[if_pos hcn,aK,beq_self_eq_true]at w;cases w
       ·simp only[if_neg hcn,aK,beq_self_eq_true]at w;rw[hkf]at w;cases w
      ·have z' :ns.lookup x=some .free:=by rw[aK,(beq_eq_false_iff_ne.mpr hx)]at z;exact z
       refine ih z' ?_
       by_cases hcn:(k == NameKind.free && X.env.scope.kind == .function && X.env.kindOf n == some .cell)=true
       ·simp only[if_pos hcn,aK,(beq_eq_false_iff_ne.mpr hx)]at w;exact w
       ·simp only[if_neg hcn,aK,(beq_eq_false_iff_ne.mpr hx)]at w;exact w
    exact this _ e4 h
   ·exact .inl h
   ·exact .inr h
  ·rcases lk with ⟨hk',_⟩ | ⟨_,c,hc',hcell⟩
   ·rcases e5 with z | z <;> (rw[z]at hk';cases hk')
   ·obtain⟨c',hc2⟩:=hcf (x,.free) (cz e4) rfl;have:=hcl x c' hc2;rw[hc']at this;cases this;obtain⟨o,eo,ed⟩:=hcell;exact⟨c,hc2,o,hk _ _ eo,ed⟩
 ·obtain⟨v,o,eo,ed⟩:=I.cell x c (hcl _ _ e);exact⟨v,o,hk _ _ eo,ed⟩
 ·have hp' :p∈X.pn++pins:=by
   have:p∈(X.pn++pins)++[]:=hp;rwa[cI]at this
  obtain⟨e,n,ne,nf,dc⟩:=I.pin p hp';refine⟨hk _ _ e,n,aw (ao e),λhb=> ?_,dc⟩;rcases ak.mp (stk _ hb) with z | z
  ·exact ne z
  ·exact nf z
end
def PIf (X:Cx)(ifs:List Expr)(t:TT):Prop:=
 ∀(pins:List (Addr×Obj)) (s:Shared) (σ:Sg) (H:Hp) (Q:Bool->Hp->Prop),L2.Inv X pins σ H s->t σ H Q->
  wpAny (model X.prog X.w) X.A (forIn ifs true λc r=>if r=true then do let ok ← isTrue c X.env (eval c X.env);pure (ForInStep.yield ok) else pure (ForInStep.yield r)) (TP X pins σ Q) X.xe s
theorem xw {X:Cx}:PIf X [] (λ_ H Q=>Q true H):=λ_ _ σ H _ I h=>wpAny_tests_nil ⟨H,I,h⟩
theorem xx {X:Cx}{c:Expr}{t:TT}(h:PT X c t):PIf X [c] t:=λpins s σ H Q I q=>wpAny_tests_one (h pins s σ H Q I q)
abbrev XE (X:Cx)(xe:Value->Shared->Prop):Cx:={ X with xe:=xe }
theorem uO {X:Cx}{pins:List (Addr×Obj)}{σ:Sg}{H:Hp}{s:Shared}{xe:Value->Shared->Prop}(I:L2.Inv X pins σ H s):L2.Inv (XE X xe) pins σ H s:=
 ⟨⟨I.ok.mod,I.ok.kind,I.ok.glob,I.ok.blt,I.ok.above,I.ok.inj,I.ok.has,I.ok.cab,I.ok.hd,I.ok.frames,I.ok.stk,I.ok.exf,I.ok.bs,I.ok.bsz,I.ok.noex,I.ok.exfs,I.ok.funs,I.ok.frf⟩,I.os,I.bare,I.base,I.loc,I.cell,I.free,I.freeC,I.pin,I.hok,I.len⟩
theorem Y5 {X:Cx}{pins:List (Addr×Obj)}{σ:Sg}{H:Hp}{s:Shared}{xe:Value->Shared->Prop}(I:L2.Inv (XE X xe) pins σ H s):L2.Inv X pins σ H s:=(uO I:L2.Inv (XE (XE X xe) X.xe) pins σ H s)
theorem z1B {X:Cx}{e:Expr}{t:TG}{xe:Value->Shared->Prop}(hx:X.xe=λ_ _=>False)(h:PG X e t):PG (XE X xe) e t:=λpins s σ H v u Q I r q=>de (h pins s σ H v u Q (Y5 I) r q) (λ_ s' ⟨σ',H',I',q'⟩=>⟨σ',H',uO I',q'⟩) λe s' z=>by rw[hx]at z;exact z.elim
theorem Ko {X:Cx}{e:List Expr}{t:TT}{xe:Value->Shared->Prop}(hx:X.xe=λ_ _=>False)(h:PIf X e t):PIf (XE X xe) e t:=λpins s σ H Q I q=>de (h pins s σ H Q (Y5 I) q) (λ_ s' ⟨H',I',q'⟩=>⟨H',uO I',q'⟩) λe s' z=>by rw[hx]at z;exact z.elim
theorem uP {α:Type}{M:Model}{A:Around}{m:Sem α}{Q:α->Shared->Prop}{E E' :Value->Shared->Prop}{s:Shared}(hE:∀e s',E' e s' ->E e s')(h:wpAny M A m Q E' s):wpAny M A m Q E s:=de h (λ_ _ q=>q) hE
def QD (J:It)(D:Addr)(g:TG)(tt:TT)(te:TE)(fin:Sg->Hp->Prop)(W:Nat->Nat->List V->Sg->Hp->Prop):Prop:=
 ∀i m ys σ H,W i m ys σ H->H D=some (.lst ys)/\((J.stop i H/\fin σ H)\/(J.go i H/\∀x H2,J.yld i H x H2->g x σ H2 λσ3 H3=>tt σ3 H3 λk H4=>
  if k=true then te σ3 H4 λv H5=>H5 D=some (.lst ys)/\ys.length < sizeLine/\∃m',m' < m/\W (i+1) m' (ys++[v]) σ3 (upd H5 D (.lst (ys++[v]))) else ∃m',m' < m/\W (i+1) m' ys σ3 H4))
theorem Y6 {X:Cx}{R:Result->Shared->Prop}(hx:∀e s',X.xe e s' ->notedBy (model X.prog X.w) X.A X.env (λe s' =>R (.error e) s') e s')(hc:X.calm=true){tg iter elt:Expr}{ifs:List Expr}{scope:Scope}{pos:Pos}{J:It}{fp:List Addr}{it:Addr}{tn:Nat->Heap->Prop}(TJ:yx X.prog X.w X.K tg J fp it tn)
  {g:TG} {tt:TT} {te:TE} (hg:PG X tg g) (ht:PIf X ifs tt) (he:PE X elt te) {D:Addr} {fin:Sg->Hp->Prop} (W:Nat->Nat->List V->Sg->Hp->Prop) (turn:QD J D g tt te fin W)
  (hR:∀s σ H,L2.Inv X [] σ H s->fin σ H->R (.ok .next) s) {m0:Nat} {σ0:Sg} {H0:Hp} {s0:Shared} (w0:W 0 m0 [] σ0 H0) (I0:L2.Inv X [] σ0 H0 s0) (t0:tn 0 s0.heap) (f0:∀b∈fp,WY X [] H0 b):
  codeAny (model X.prog X.w) X.A (.compLoop (.ListComp elt [⟨tg,iter,ifs,0⟩] scope pos) 0 (.ref it) (.ref D) X.env) R s0:=by
 have stat:∀{H' :Hp},(∀b∈fp,H' b=none)->∀b∈fp,WY X [] H' b:=λhn b hb=>⟨hn b hb,(f0 b hb).2⟩;refine codeAny_loop rfl (λn s' =>∃i ys σ' H',L2.Inv X [] σ' H' s' /\tn i s'.heap/\(∀b∈fp,H' b=none)/\W i n ys σ' H') (λn s3 h3=> ?_) m0 ⟨0,[],σ0,H0,I0,t0,λb hb=>(f0 b hb).1,w0⟩;obtain⟨i,ys,σ3,H3,I3,st3,fr3,w3⟩:=h3;show wpAny _ X.A ((compTurn (.ListComp elt [⟨tg,iter,ifs,0⟩] scope pos) 0 (.ref it) (.ref D) X.env).onRaise (λx=>do noteFrame x X.env;theTreesLotGoes x)) _ _ s3
 refine wpAny_noted ?_;rw[compTurn_list];obtain⟨hD,h⟩:=turn i n ys σ3 H3 w3;rcases h with ⟨stop,qn⟩ | ⟨go,next⟩
 ·refine aa (wpAny_standAt (aa (thn (TJ.done X rfl rfl rfl hc i [] s3 σ3 H3 _ I3 (stat fr3) st3 stop) λr s4 ⟨hr,I4⟩=> ?_)));subst hr;exact ai (hR s4 σ3 H3 I4 qn)
 ·refine aa (wpAny_standAt (aa (thn (TJ.item X rfl rfl rfl hc i [] s3 σ3 H3 _ I3 (stat fr3) st3 go) λr s4 ⟨u,hr,h4⟩=> ?_)));subst hr;refine aa (thn h4 λ_ s5 ⟨x,H5,I5,r5,y5,st5,fr5⟩=> ?_);have I5' :=I5.pinned (stat fr5) (TJ.obj _ _ st5);refine aa (uP hx (thn (hg _ s5 σ3 H5 x u _ I5' r5 (next x H5 y5)) λ_ s6 ⟨σ6,H6,I6,q6⟩=> ?_));have again:∀{σ7:Sg} {H7:Hp} {s7:Shared} {ys' :List V},L2.Inv X ([]++Wb fp s5.heap) σ7 H7 s7->(∃m',m' < n/\W (i+1) m' ys' σ7 H7)->∃m,m < n/\∃i ys σ' H',L2.Inv X [] σ' H' s7/\tn i s7.heap/\(∀b∈fp,H' b=none)/\W i m ys σ' H' :=λ{σ7 H7 s7 ys'} I7 ⟨m',hm,w7⟩=>by
   refine⟨m',hm,i+1,ys',σ7,H7,I7.unpinned,TJ.keep _ _ _ st5 λb hb o e=>(I7.pin (b,o) (bf _ (bf _ (jc hb e)))).1,λb hb=> ?_,w7⟩;obtain⟨o,e,d⟩:=TJ.obj _ _ st5 b hb;exact(I7.pin (b,o) (bf _ (bf _ (jc hb e)))).2.1
  refine aa (uP hx (thn (ht _ s6 σ6 H6 _ I6 q6) λk s7 ⟨H7,I7,q7⟩=> ?_));cases k with
  | false=>exact ai ⟨rfl,again I7 q7⟩
  | true=>
   refine aa (aa (uP hx (thn (he _ s7 σ6 H7 _ I7 q7) λv s8 ⟨y,H8,I8,r8,hD8,hlen,q8⟩=> ?_)));refine aa (uP hx (thn (Wj _ s8 σ6 H8 (.ref D) [y] (.ref D) [v] (λ_ H9=>∃m',m' < n/\W (i+1) m' (ys++[y]) σ6 H9) I8 rfl (.cons r8 .nil) ⟨D,ys,y,rfl,rfl,hD8,hlen,q8⟩) λw s9 ⟨_,H9,I9,_,q9⟩=> ?_));exact ai (ai ⟨rfl,again I9 q9⟩)
def QE (k:Nat)(js:List Nat)(σ:Sg):Sg:=ag k none++js.map λj=>(σ[j]?).getD none
section
variable {X:Cx}
abbrev k8 (X:Cx)(scope:Scope)(N' :List Str)(P:Cx->Prop):Prop:=∀cl C s3 H3 fp pins,P (cxC X scope N' cl C s3 H3 fp pins)
abbrev z1C (X:Cx)(scope:Scope)(N' :List Str)(E:XK)(P:Cx->Prop):Prop:=∀cl C s3 H3 fp pins xe,wa (CX1 X.prog X.w) (XE (cxC X scope N' cl C s3 H3 fp pins) xe) E->P (XE (cxC X scope N' cl C s3 H3 fp pins) xe)
structure z1D (X:Cx) (scope:Scope) (N' :List Str) (k:Nat) (js:List Nat):Prop where
 len:N'.length=k+js.length
 cap:∀(i j:Nat),js[i]? =some j->∃x,N'[k+i]? =some x/\X.N[j]? =some x/\Vis X.env.scope x/\scope.names.lookup x=some .free/\(X.env.kindOf x=some .cell\/X.env.kindOf x=some .free)
theorem uQ {E:XK}(hp:K0 X E){tg iter elt:Expr}{ifs:List Expr}{scope:Scope}{pos pos' :Pos}{N' :List Str}{k:Nat}{js:List Nat}{wi:TI}{g:TG}{tt:TT}{te:TE}{use:Option (Value->Sem Unit)}(S:CSc X scope)(CP:z1D X scope N' k js)(hc:X.calm=true)
  (hi:PI X tg iter wi) (hg:k8 X scope N' λXC=>PG XC tg g) (ht:k8 X scope N' λXC=>PIf XC ifs tt) (he:z1C X scope N' E λXC=>PE XC elt te) {pins:List (Addr×Obj)} {σ:Sg} {H:Hp} {s:Shared} {Q:Value->Shared->Prop} {F:Addr->Hp->Prop} (I:L2.Inv X pins σ H s)
  (h:wi σ H λJ H1=>∀D,H1 D=none->∃W,(∃m,W 0 m [] (QE k js σ) (upd H1 D (.lst [])))/\QD J D g tt te (λ_ H' =>F D H') W)
  (hQ:∀D C H' s',L2.Inv X pins σ H' s' ->F D H' ->H' C=none->(X.s₀.heap.objs.size<=C)->C ≠ X.env.locals->(∀x c,X.env.cells.lookup x=some c->c ≠ C)->(∀p∈X.pn++pins,p.1 ≠ C)->(∃m,s'.heap.Ns C m)->compPost (model X.prog X.w) X.A X.xe use Q (.ref D) C (.ok .next) s')
  (hs:∀x,foldedSetIterable iter X.env x=pure x:=by intro _;rfl):
  wpAny (model X.prog X.w) X.A (comprehension (.ListComp elt [⟨tg,iter,ifs,0⟩] scope pos) scope X.env pos' (newList []) false (eval iter X.env) use) Q X.xe s:=by
 obtain⟨cl,ecl,hcl,hcf⟩:=xv (scope:=scope) (env:=X.env) λx hx hf=>I.ok.has x.1 (S.fre x hx hf);refine wpAny_comprehension_free rfl hs ecl S.kind S.loc ?_;refine thn (hi pins s σ H _ I h) λv s1 h1=>thn h1 λitv s2 h2=> ?_;obtain⟨it,fp,tn,J,H2,e,I2,TJ,st2,f2,q2⟩:=h2;subst e;refine aJ ?_;have hD:H2 s2.heap.objs.size=none:=I2.hok.fresh (am _);have I3:L2.Inv X pins σ (upd H2 s2.heap.objs.size (.lst [])) { s2 with heap:=s2.heap.push { cls:= .type "list",data:= .seq ([]:List Value).toArray } }:=
  I2.laid (t' :=s2.toks) (λb u e=>ad _ e) (am _) ⟨b9 _,[],_,.nil,ah _ rfl⟩
 obtain⟨W,⟨m0,w0⟩,turn⟩:=q2 s2.heap.objs.size hD;have f3:∀b∈fp,WY X pins (upd H2 s2.heap.objs.size (.lst [])) b:=λb hb=>by
  obtain⟨o,eo,_⟩:=TJ.obj _ _ st2 b hb;exact⟨by rw[zr (aw (ao eo))];exact(f2 b hb).1,(f2 b hb).2⟩
 have o3:∀b∈fp,∃o,(s2.heap.push { cls:= .type "list",data:= .seq ([]:List Value).toArray }).get? b=some o:=λb hb=>by
  obtain⟨o,eo,_⟩:=TJ.obj _ _ st2 b hb;exact⟨o,ad _ eo⟩
 refine wpAny_newFunctionEnv S.nocell (by intro y hy;simp at hy) (λh4 hns4 hsb4=> ?_) S.kind
 generalize hG:s2.heap.push { cls:= .type "list",data:= .seq ([]:List Value).toArray }=G3 at I3 o3 hns4 hsb4 ⊢;dsimp only at hns4 hsb4 ⊢;have s3e:∃s3:Shared,s3={ s2 with heap:=G3 }:=⟨_,rfl⟩;obtain⟨s3,es3⟩:=s3e;have hh3:s3.heap=s2.heap.push { cls:= .type "list",data:= .seq ([]:List Value).toArray }:=by rw[es3,hG]
 have hg3:G3=s3.heap:=by rw[es3]
 rw[← es3]at I3;have ht3:s2.toks=s3.toks:=by rw[es3]
 rw[hg3]at hns4 hsb4 o3;have k4:∀b o,s3.heap.get? b=some o->h4.get? b=some o:=λb o e=>hsb4.extBut b o (aw (ao e)) (ad _ e);have IC:=Y4 (N' :=N') (cl:=cl) (fp:=fp) (σ' :=QE k js σ) (tk:=s3.toks+([]:List (Str×Value)).length) I3 S hc hcl hcf f3 o3 hns4 k4 (by unfold QE;simp[CP.len]) (λi x v h1 h2=>by
  unfold QE at h2
  by_cases hik:i < k
  ·rw[b8 (by simpa using hik),aZ,if_pos hik]at h2
   cases h2
  ·have hk' :k<=i:=by omega
   rw[aY (by simpa using hk'),aW,ax]at h2
   cases ej:js[i - k]? with
   | none=>rw[ej]at h2;cases h2
   | some j=>
    rw[ej]at h2;obtain⟨y,e1,e2,e3,e4,e5⟩:=CP.cap (i - k) j ej;have:k+(i - k)=i:=by omega
    rw[this,h1]at e1;cases e1;refine⟨j,e2, ?_,e3,e4,e5⟩;have h2' :some ((σ[j]?).getD none)=some (some v):=h2;cases ez:σ[j]? with
    | none=>rw[ez]at h2';cases h2'
    | some z=>rw[ez]at h2';exact congrArg some (b6 h2'))
 have TC:yx (cxC X scope N' cl s3.heap.objs.size s3 (upd H2 s2.heap.objs.size (.lst [])) fp pins).prog (cxC X scope N' cl s3.heap.objs.size s3 (upd H2 s2.heap.objs.size (.lst [])) fp pins).w (cxC X scope N' cl s3.heap.objs.size s3 (upd H2 s2.heap.objs.size (.lst [])) fp pins).K tg J fp it tn:=TJ;have t4:tn 0 h4:=TJ.keep _ _ _ st2 λb hb o e=>k4 b o (by rw[hh3];exact ad _ e)
 have fC:∀b∈fp,WY (cxC X scope N' cl s3.heap.objs.size s3 (upd H2 s2.heap.objs.size (.lst [])) fp pins) [] (upd H2 s2.heap.objs.size (.lst [])) b:=λb hb=>by
  obtain⟨q0,q1,q2,q3,q4,q5⟩:=f3 b hb;obtain⟨o,eo⟩:=o3 b hb;refine⟨q0,aw (ao eo),λhb' => ?_,.inl hb,λx c e=>q4 x c (hcl _ _ e),λp hp=> ?_⟩
  ·rcases ak.mp (I3.stkSub b hb') with z | z
   ·exact q1 z
   ·exact q2 z
  ·exact q5 p (by
    have:p∈(X.pn++pins)++[]:=hp;rwa[cI]at this)
 have fin:∀(s5:Shared) (σ5:Sg) (H5:Hp),L2.Inv (cxC X scope N' cl s3.heap.objs.size s3 (upd H2 s2.heap.objs.size (.lst [])) fp pins) [] σ5 H5 s5->F s2.heap.objs.size H5->compPost (model X.prog X.w) X.A X.xe use Q (.ref s2.heap.objs.size) s3.heap.objs.size (.ok .next) s5:=λs5 σ5 H5 I5 q5=>by
  have J5:L2.Inv X pins σ H5 s5:=I3.call' (ch:=fp) I5.os I5.base I5.hok I5.bare λb hb=>by
   obtain⟨q0,q1,q2,q3,q4,q5⟩:=f3 b hb;exact⟨q3,q1,q4,q5⟩
  refine hQ _ _ H5 s5 J5 q5 I5.free I3.sz (cL I3.lt) (λx c e z=> ?_) (λp hp z=> ?_) (let ⟨m,hm,_⟩:=I5.loc;⟨m,hm⟩)
  ·obtain⟨v',o,eo,_⟩:=I3.cell x c e;exact absurd (ao eo) (by rw[z];exact bg _)
  ·exact absurd (ao (I3.pin p hp).1) (by rw[z];exact bg _)
 have pass:wa (CX1 X.prog X.w) (XE (cxC X scope N' cl s3.heap.objs.size s3 (upd H2 s2.heap.objs.size (.lst [])) fp pins) (notedBy (model X.prog X.w) X.A (compEnvC scope cl s3.heap.objs.size X.env) λe s' =>compPost (model X.prog X.w) X.A X.xe use Q (.ref s2.heap.objs.size) s3.heap.objs.size (.error e) s')) E:=by
  intro pins1 σ1 H1 s1 e s' I1 c1;have J1:L2.Inv X pins σ H1 s1:=I3.call' (ch:=fp) I1.os I1.base I1.hok I1.bare λb hb=>by
   obtain⟨q0,q1,q2,q3,q4,q5⟩:=f3 b hb;exact⟨q3,q1,q4,q5⟩
  obtain⟨m1,hm1,_⟩:=I1.loc;refine thn (hp pins σ H1 s1 e s' s3.heap.objs.size m1 _ (compEnvC scope cl s3.heap.objs.size X.env) J1 hm1 I1.free I3.sz (λz=> ?_) rfl c1) λ_ s'' q=> ?_
  ·obtain⟨_,o,eo,_⟩:=I3.stack.mem z;exact absurd (ao eo) (bg _)
  ·cases use <;> exact q
 have loop:=Y6 (X:=XE (cxC X scope N' cl s3.heap.objs.size s3 (upd H2 s2.heap.objs.size (.lst [])) fp pins) (notedBy (model X.prog X.w) X.A (compEnvC scope cl s3.heap.objs.size X.env) λe s' =>compPost (model X.prog X.w) X.A X.xe use Q (.ref s2.heap.objs.size) s3.heap.objs.size (.error e) s')) (iter:=iter) (scope:=scope) (pos:=pos) (R:=compPost (model X.prog X.w) X.A X.xe use Q (.ref s2.heap.objs.size) s3.heap.objs.size) (λ_ _ z=>z) hc TC (z1B rfl (hg _ _ _ _ _ _)) (Ko rfl (ht _ _ _ _ _ _)) (he _ _ _ _ _ _ _ pass) W turn (λs5 σ5 H5 I5=>fin s5 σ5 H5 (Y5 I5)) w0 (uO IC) t4 fC;rw[es3]at loop;exact codeAny_compStart_list loop (TJ.self _ _ _ _ _ t4 loop)
end
def zy (g:T->En->R En)(ft:En->R Bool)(fe:En->R T):List T->En->R (List T)
 | [],_=> .ok []
 | t :: ts,ρ=>(g t ρ).bind λρ1=>(ft ρ1).bind λk=>if k=true then (fe ρ1).bind λv=>(zy g ft fe ts ρ1).bind λvs=> .ok (v :: vs) else zy g ft fe ts ρ1
def QF:Option Sl->Sl
 | some (.vl t)=> .vl t
 | _=> .un
def wB (k:Nat)(js:List Nat)(ρ:En):En:=ag k .un++js.map λj=>QF ρ[j]?
def quiet {α:Type}:R α->R α
 | .ok a=> .ok a
 | _=> .bad
def zL (g:T->En->R En)(ft:En->R Bool)(fe:En->R T)(k:Nat)(js:List Nat)(ρ:En)(ts:List T):R (List T):=if ts.length<=bnd then quiet (zy g ft fe ts (wB k js ρ)) else .bad
def zJ (fi:En->R (List T))(g:T->En->R En)(ft:En->R Bool)(fe:En->R T)(k:Nat)(js:List Nat):En->R T:=λρ=>(fi ρ).bind λts=>(zL g ft fe k js ρ ts).bind λvs=> .ok (.lst vs)
def GOk (tG:TG)(g:T->En->R En):Prop:=∀Y B ρ σ H v x Q,SI Y B ρ σ H->Rep B v x->(match g x ρ with | .ok ρ' =>∀σ',SI Y B ρ' σ' H->Q σ' H | _=>False)->tG v σ H Q
theorem zE (i:Nat):GOk (Wa i) (zt i):=λY B ρ σ H v x Q I r q=>q _ (I.setV i r)
theorem je (K:al)(i j:Nat):GOk (z0P K 2 (yw (Wa i) (yw (Wa j) z0O))) (zN i j):=λY B ρ σ H v t Q I r q=>by
 cases r with
 | @tup l xs ts h r=>
  cases r with
  | nil=>exact q.elim
  | cons r1 rr=>
   cases rr with
   | nil=>exact q.elim
   | cons r2 rr=>
    cases rr with
    | cons _ _=>exact q.elim
    | nil=>exact⟨l,_,rfl,SqT.of (I.sB _ _ h),rfl,_,_,rfl,_,_,rfl,rfl,q _ ((I.setV i r1).setV j r2)⟩
 | _=>exact q.elim
theorem SI.block {Y:Fx}{B:Hp}{ρ:En}{σ:Sg}{H H3:Hp}{D:Addr}(I:SI Y B ρ σ H)(k:Nat)(js:List Nat)(E:XK)(hD:H D=none)(o:HO):SI ⟨B,H,E,Y.cl⟩ B (wB k js ρ) (QE k js σ) (upd H D o) where
 s0:=I.sB
 sH:=zw.new hD _
 sB:=I.sB.trans (zw.new hD _)
 old:=λ_ _ _=>rfl
 len:=by unfold wB QE;simp
 vl:=λi t h=>by
  unfold wB at h;unfold QE
  by_cases hik:i < k
  ·rw[b8 (by simpa using hik),aZ,if_pos hik]at h;cases h
  ·have hk' :k<=i:=by omega
   rw[aY (by simpa using hk'),aW,ax]at h ⊢
   cases ej:js[i - k]? with
   | none=>rw[ej]at h;cases h
   | some j=>
    rw[ej]at h;have h' :QF ρ[j]? = .vl t:=b6 h;unfold QF at h';split at h'
    ·rename_i u e;cases h';obtain⟨v,e1,r⟩:=I.vl j _ e;exact⟨v,by show some ((σ[j]?).getD none)=_;rw[e1];rfl,r⟩
    ·cases h'
 ow:=λi ts h=>by
  exfalso;unfold wB at h
  by_cases hik:i < k
  ·rw[b8 (by simpa using hik),aZ,if_pos hik]at h;cases h
  ·have hk' :k<=i:=by omega
   rw[aY (by simpa using hk'),aW,ax]at h
   cases ej:js[i - k]? with
   | none=>rw[ej]at h;cases h
   | some j=>
    rw[ej]at h;have h' :QF ρ[j]? = .ow ts:=b6 h;unfold QF at h';split at h' <;> cases h'
 xc:=λi c h=>by
  exfalso;unfold wB at h
  by_cases hik:i < k
  ·rw[b8 (by simpa using hik),aZ,if_pos hik]at h;cases h
  ·have hk' :k<=i:=by omega
   rw[aY (by simpa using hk'),aW,ax]at h
   cases ej:js[i - k]? with
   | none=>rw[ej]at h;cases h
   | some j=>
    rw[ej]at h;have h' :QF ρ[j]? = .xc c:=b6 h;unfold QF at h';split at h' <;> cases h'
theorem SI.acc {Y:Fx}{B:Hp}{ρ:En}{σ:Sg}{H:Hp}{D:Addr}(I:SI Y B ρ σ H)(hb:B D=none)(h0:Y.H0 D=none)(ho:∀(i:Nat) (ts:List T),ρ[i]? =some (Sl.ow ts)->σ[i]? ≠ some (some (V.ref D)))(o:HO):SI Y B ρ σ (upd H D o) where
 s0:=I.s0
 sH:=λb u h=>by
  rw[zr (λz=>by subst z;rw[h0]at h;cases h)];exact I.sH b u h
 sB:=λb u h=>by
  rw[zr (λz=>by subst z;rw[hb]at h;cases h)];exact I.sB b u h
 old:=I.old
 len:=I.len
 vl:=I.vl
 ow:=λi ts h=>by
  obtain⟨a,xs,e,b0,h0',hh,r,d⟩:=I.ow i ts h;refine⟨a,xs,e,b0,h0', ?_,r,d⟩;rw[zr (λz=>ho i ts h (by rw[e,z]))];exact hh
 xc:=I.xc
def xy (ρ:En):Prop:=∀(i:Nat) (ts:List T),ρ[i]? ≠ some (Sl.ow ts)
theorem QG (k:Nat)(js:List Nat)(ρ:En):xy (wB k js ρ):=λi ts h=>by
 unfold wB at h
 by_cases hik:i < k
 ·rw[b8 (by simpa using hik),aZ,if_pos hik]at h;cases h
 ·have hk' :k<=i:=by omega
  rw[aY (by simpa using hk'),aW,ax]at h
  cases ej:js[i - k]? with
  | none=>rw[ej]at h;cases h
  | some j=>
   rw[ej]at h;have h' :QF ρ[j]? = .ow ts:=b6 h;unfold QF at h';split at h' <;> cases h'
theorem wC {ρ:En}{i:Nat}{t:T}(h:xy ρ):xy (ρ.set i (.vl t)):=λj ts e=>by
 rcases zZ e with ⟨_,z⟩ | ⟨_,z⟩
 ·cases z
 ·exact h j ts z
def GNo (g:T->En->R En):Prop:=(∀t ρ ρ',xy ρ->g t ρ= .ok ρ' ->xy ρ')/\∀t ρ c,g t ρ ≠ .ex c
theorem zF (i:Nat):GNo (zt i):=⟨λt ρ ρ' h e=>by
 cases e;exact wC h,λt ρ c e=>by cases e⟩
theorem jg (i j:Nat):GNo (zN i j):=⟨λt ρ ρ' h e=>(by
 unfold zN at e;split at e
 ·cases e;exact wC (wC h)
 ·cases e),λt ρ c e=>by unfold zN at e;split at e <;> cases e⟩
section
variable {X:Cx}{Y:Fx}{tg iter elt:Expr}{ifs:List Expr}{scope:Scope}{pos pos' :Pos}{N' :List Str}{k:Nat}{js:List Nat}{fi:En->R (List T)}{tG:TG}{g:T->En->R En}{ft:En->R Bool}{fe:En->R T}
structure ua (X:Cx) (Y:Fx) (ifs:List Expr) (f:En->R Bool):Prop where
 mk ::
 go:∀ρ,PIf X ifs (tS Y rE f ρ)
instance {X:Cx}{Y:Fx}{ifs:List Expr}{f:En->R Bool}:CoeFun (ua X Y ifs f) λ_=>∀ρ,PIf X ifs (tS Y rE f ρ):=⟨ua.go⟩
theorem PIf.imp {X:Cx}{e:List Expr}{t t' :TT}(h:PIf X e t)(i:∀σ H Q,t' σ H Q->t σ H Q):PIf X e t' :=λpins s σ H Q I q=>h pins s σ H Q I (i σ H Q q)
def zQ:En->R Bool:=λ_=> .ok true
theorem Kp {X:Cx}:ua X Y [] zQ:= .mk λρ=>PIf.imp xw λσ H Q ⟨B,I,q⟩=>ZX I q rfl
theorem Kq {X:Cx}{c:Expr}(h:wy X Y c ft):ua X Y [c] ft:= .mk λρ=>xx (h ρ)
def CEnd (r:R (List T))(P:List T->Prop)(Z:Nat->Prop):Prop:=match r with
 | .ok vs=>P vs
 | .ex c=>Z c
 | .bad=>False
theorem UN {B1 H1:Hp}{σ:Sg}{ρ:En}{J:It}{ts:List T}{r:R (List T)}{D:Addr}{E0:XK}(hG:GOk tG g)(hN:GNo g)(I:SI Y B1 ρ σ H1)(rI' :rI B1 H1 J ts)(hl:ts.length<=bnd)(ev:zy g ft fe ts (wB k js ρ)=r)(hD:H1 D=none){F:Hp->Prop}
  (hF:CEnd r (λvs=>∀H' xs B',zw H1 H' ->H' D=some (.lst xs)->zI B' xs vs->zw B' (zS B1 H1 H')->B' D=none->zw B1 B' ->F H') λc=>∀d H',zw H1 H' ->zw B1 H' ->E0 (Y.cl c) d H'):
  ∃W,(∃m,W 0 m [] (QE k js σ) (upd H1 D (.lst [])))/\QD J D tG (λσ H Q=>∃Y' ρ',Y'.cl=Y.cl/\tS Y' rE ft ρ' σ H Q) (λσ H Q=>∃Y' ρ',Y'.cl=Y.cl/\Y'.E=E0/\tS Y' rC fe ρ' σ H Q) (λ_ H' =>F H') W:=by
 refine⟨λi m ys σ' H' =>m=ts.length - i/\i<=ts.length/\ys.length<=i/\H' D=some (.lst ys)/\∃ρ' B' us,SI ⟨B1,H1,E0,Y.cl⟩ B' ρ' σ' H' /\xy ρ' /\zw B1 B' /\B' D=none/\zI B' ys us/\((zy g ft fe (ts.drop i) ρ').bind λws=> .ok (us++ws))=r,
  ⟨ts.length,by simp,b9 _,b9 _,zv,_,B1,[],I.block (H3:=H1) k js _ hD _,QG k js ρ,zw.refl _,I.sB.free hD,.nil,by rw[List.drop_zero,ev];cases r <;> rfl⟩, ?_⟩
 rintro i m ys σ' H' ⟨rfl,hi,hyl,hDl,ρ',B',us,I',no',s1',bD,r',ew⟩
 refine⟨hDl, ?_⟩;obtain⟨hgo,hyld,hstop⟩:=rI' B' H' s1' I'.sB;have tD:∀H2,zw H' H2->zS B' H' H2 D=none:=λH2 s=>by rw[Zj hDl];exact bD
 by_cases hlt:i < ts.length
 ·refine .inr ⟨hgo i hlt,λx H2 y=> ?_⟩;obtain⟨s2,r2⟩:=hyld i _ x H2 (ac hlt) y;rw[f9 hlt]at ew;unfold zy at ew;have I2:=I'.grow s2;refine hG _ _ ρ' σ' H2 x _ _ I2 r2 ?_;cases eg:g ts[i] ρ' with
  | bad=>rw[eg]at ew;subst ew;exact hF
  | ex c=>exact(hN.2 _ _ _ eg).elim
  | ok ρ1=>
   rw[eg]at ew;have no1:xy ρ1:=hN.1 _ _ _ no' eg;intro σ1 J1;refine⟨⟨B1,H1,E0,Y.cl⟩,ρ1,rfl,_,J1, ?_⟩;have ew1:((ft ρ1).bind (λk=>if k=true then (fe ρ1).bind λv=>(zy g ft fe (ts.drop (i+1)) ρ1).bind λvs=> .ok (v :: vs) else zy g ft fe (ts.drop (i+1)) ρ1)).bind (λws=> .ok (us++ws))=r:=ew
   cases ef:ft ρ1 with
   | bad=>rw[ef]at ew1;subst ew1;exact hF
   | ex c=>
    rw[ef]at ew1;subst ew1;exact λd H' a b=>hF d H' a ((s1'.trans (zS.ge I'.sB s2)).trans b)
   | ok kk=>
    rw[ef]at ew1;intro b H3 s3 eb;have eb' :b=kk:=eb;subst eb';have ew2:(if b=true then (fe ρ1).bind λv=>(zy g ft fe (ts.drop (i+1)) ρ1).bind λvs=> .ok (v :: vs) else zy g ft fe (ts.drop (i+1)) ρ1).bind (λws=> .ok (us++ws))=r:=ew1
    have J2:=J1.grow s3;have hD3:H3 D=some (.lst ys):=s3 _ _ (s2 _ _ hDl);have bD3:zS (zS B' H' H2) H2 H3 D=none:=by rw[Zj (s2 _ _ hDl)];exact tD H2 s2
    have sB3:zw B' (zS (zS B' H' H2) H2 H3):=(zS.ge I'.sB s2).trans (zS.ge I2.sB s3);cases b with
    | false=>exact⟨ts.length - (i+1),by omega,rfl,hlt,by omega,hD3,ρ1,_,us,J2,no1,s1'.trans sB3,bD3,r'.mono sB3,ew2⟩
    | true=>
     refine⟨⟨B1,H1,E0,Y.cl⟩,ρ1,rfl,rfl,_,J2, ?_⟩;have ew3:((fe ρ1).bind (λv=>(zy g ft fe (ts.drop (i+1)) ρ1).bind λvs=> .ok (v :: vs))).bind (λws=> .ok (us++ws))=r:=ew2;cases ee:fe ρ1 with
     | bad=>rw[ee]at ew3;subst ew3;exact hF
     | ex c=>
      rw[ee]at ew3;subst ew3;exact λd H' a b=>hF d H' a ((s1'.trans sB3).trans b)
     | ok v=>
      rw[ee]at ew3;have ew4:((zy g ft fe (ts.drop (i+1)) ρ1).bind (λvs=> .ok (v :: vs))).bind (λws=> .ok (us++ws))=r:=ew3;have ew5:(zy g ft fe (ts.drop (i+1)) ρ1).bind (λws=> .ok ((us++[v])++ws))=r:=by
       rw[← ew4];cases zy g ft fe (ts.drop (i+1)) ρ1 with
       | ok ws=>show R.ok _=R.ok _;rw[bS];rfl
       | _=>rfl
      intro w H4 s4 rw4;have hD4:H4 D=some (.lst ys):=s4 _ _ hD3;have J3:=J2.grow s4;have bD4:zS (zS (zS B' H' H2) H2 H3) H3 H4 D=none:=by rw[Zj hD3];exact bD3
      have sB4:=sB3.trans (zS.ge J2.sB s4);refine⟨hD4,aH (bN hyl hlt) (Zz hl),ts.length - (i+1),by omega,rfl,hlt,by rw[aA,aG];omega,zv,ρ1,_,us++[v], ?_,no1,s1'.trans sB4,bD4,(r'.mono sB4).append (.cons rw4 .nil),ew5⟩
      exact J3.acc bD4 hD (λj ts' e=>(no1 j ts' e).elim) _
 ·have e:i=ts.length:=by omega
  subst e;refine .inl ⟨hstop _ (am _), ?_⟩;rw[iV]at ew;have ew' :R.ok (us++[])=r:=ew;rw[cI]at ew';subst ew';refine hF H' ys B' I'.sH hDl r' (λb o h=> ?_) bD s1';cases q:H1 b with
  | none=>rw[Zi q];exact I'.sB b o h
  | some u=>
   rw[Zj q];have z:B' b=B1 b:=I'.old b u q;rw[← z];exact h
theorem Wq {B1 H1:Hp}{σ:Sg}{ρ:En}{J:It}{ts vs:List T}{D:Addr}(hG:GOk tG g)(hN:GNo g)(I:SI Y B1 ρ σ H1)(rI' :rI B1 H1 J ts)(hl:ts.length<=bnd)(ev:zy g ft fe ts (wB k js ρ)= .ok vs)(hD:H1 D=none){F:Hp->Prop}
  (hF:∀H' xs B',zw H1 H' ->H' D=some (.lst xs)->zI B' xs vs->zw B' (zS B1 H1 H')->B' D=none->zw B1 B' ->F H'):
  ∃W,(∃m,W 0 m [] (QE k js σ) (upd H1 D (.lst [])))/\QD J D tG (λσ H Q=>∃Y' ρ',Y'.cl=Y.cl/\tS Y' rE ft ρ' σ H Q) (λσ H Q=>∃Y' ρ',Y'.cl=Y.cl/\(Y'.E=λ_ _ _=>False)/\tS Y' rC fe ρ' σ H Q) (λ_ H' =>F H') W:=UN hG hN I rI' hl ev hD hF
structure Y7 (X:Cx) (Y:Fx) (tg iter elt:Expr) (ifs:List Expr) (scope:Scope) (N' :List Str) (k:Nat) (js:List Nat) (fi:En->R (List T)) (tG:TG) (g:T->En->R En) (ft:En->R Bool) (fe:En->R T):Prop where
 sc:CSc X scope
 cp:z1D X scope N' k js
 cm:X.calm=true
 it:ym X Y tg iter fi
 gt:k8 X scope N' λXC=>PG XC tg tG
 gk:GOk tG g
 gn:GNo g
 tt:∀Y',Y'.cl=Y.cl->k8 X scope N' λXC=>ua XC Y' ifs ft
 el:∀Y',Y'.cl=Y.cl->z1C X scope N' Y'.E λXC=>Snd XC Y' elt fe
 hs:∀x,foldedSetIterable iter X.env x=pure x
theorem Z8 (C:Y7 X Y tg iter elt ifs scope N' k js fi tG g ft fe):Snd X Y (.ListComp elt [⟨tg,iter,ifs,0⟩] scope pos) (zJ fi g ft fe k js):= .mk λρ=>by
 intro pins s σ H Q I ⟨B,J,q⟩;rw[eval_ListComp];refine uQ (wb rfl) (use:=none) (Q:=EP X pins σ Q) (F:=λD H' =>Q (.ref D) H') (te:=λσ H Q=>∃Y' ρ',Y'.cl=Y.cl/\(Y'.E=λ_ _ _=>False)/\tS Y' rC fe ρ' σ H Q) (tt:=λσ H Q=>∃Y' ρ',Y'.cl=Y.cl/\tS Y' rE ft ρ' σ H Q) C.sc C.cp C.cm (C.it ρ) C.gt
  (λcl Cx' s3 H3 fp pins pins' s σ H Q I ⟨Y',ρ',ey,q⟩=>C.tt Y' ey cl Cx' s3 H3 fp pins ρ' pins' s σ H Q I q) (λcl Cx' s3 H3 fp pins xe hp pins' s σ H Q I ⟨Y',ρ',ey,eE,q⟩=>C.el Y' ey cl Cx' s3 H3 fp pins xe (eE ▸ hp) ρ' pins' s σ H Q I q) I ?_ ?_ C.hs
 ·refine step J q λts it' H1 _ s1 r1 J1 q1=> ?_;intro D hD;unfold zL at q1;split at q1
  ·rename_i hl;cases ev:zy g ft fe ts (wB k js ρ) with
   | bad=>rw[ev]at q1;exact q1.elim
   | ex c=>rw[ev]at q1;exact q1.elim
   | ok vs=>
    rw[ev]at q1;refine Wq C.gk C.gn J1 r1 hl ev hD λH' xs B' s' e' r' l' b' sb' => ?_;refine(show Po Y rC _ H1 (.ok (.lst vs)) Q from q1) (.ref D) H' s' ?_;exact .lst (by rw[Zi hD];exact e') (r'.mono l')
  ·exact q1.elim
 ·intro D Cc H' s' I' q' hC h0 hL hcell hpin hns;obtain⟨m,hm⟩:=hns;refine⟨m,hm,λh' hsb=>⟨.ref D,H', ?_,rfl,q'⟩⟩;exact I'.turned (t' :=s'.toks) (λb o hb e=>hsb.extBut b o hb e) hC (bq hL).symm (.inr h0) hcell hpin
end
section
variable {X:Cx}{Y:Fx}{tg iter elt:Expr}{ifs:List Expr}{scope:Scope}{pos pos' :Pos}{N' :List Str}{k:Nat}{js:List Nat}{fi:En->R (List T)}{tG:TG}{g:T->En->R En}{ft:En->R Bool}{fe:En->R T}
theorem Wr {i:Nat}{x:Str}{pc p' :Pos}(C:Y7 X Y tg iter elt ifs scope N' k js fi tG g ft fe)(hN:X.N.Nodup)(hi:X.N[i]? =some x)(hx:L2.Loc X.env.scope x)
  (hsw:swapsWith (.ListComp elt [⟨tg,iter,ifs,0⟩] scope pc) (some (.Name x p')) pos.line X.env=pure true) (hf:X.fn x=true\/X.env.scope.names.lookup x=some .local:=by first | exact .inl rfl | exact .inr rfl | assumption):
  wA X Y (.Assign [.Name x p'] (.ListComp elt [⟨tg,iter,ifs,0⟩] scope pc) pos) (zD i (zJ fi g ft fe k js)):= .mk λρ=>by
 intro pins s σ H D I ⟨B,J,q⟩;rw[exec_Assign_Name_used _ _ _ _ hsw];refine aa (wpAny_standAt (aa ?_));show wpAny _ X.A (do let _ ← comprehension (.ListComp elt [⟨tg,iter,ifs,0⟩] scope pc) scope X.env _ (newList []) false (eval iter X.env) (some (assign (.Name x p') X.env))) _ _ s
 refine aa (thn (uQ (wb rfl) (use:=some (assign (.Name x p') X.env)) (Q:=λ_ s' =>SP X pins D .next s') (F:=λD' H' =>D.nx (σ.set i (some (.ref D'))) H') (te:=λσ H Q=>∃Y' ρ',Y'.cl=Y.cl/\(Y'.E=λ_ _ _=>False)/\tS Y' rC fe ρ' σ H Q) (tt:=λσ H Q=>∃Y' ρ',Y'.cl=Y.cl/\tS Y' rE ft ρ' σ H Q) C.sc C.cp C.cm (C.it ρ) C.gt
  (λcl Cx' s3 H3 fp pins pins' s σ H Q I ⟨Y',ρ',ey,q⟩=>C.tt Y' ey cl Cx' s3 H3 fp pins ρ' pins' s σ H Q I q) (λcl Cx' s3 H3 fp pins xe hp pins' s σ H Q I ⟨Y',ρ',ey,eE,q⟩=>C.el Y' ey cl Cx' s3 H3 fp pins xe (eE ▸ hp) ρ' pins' s σ H Q I q) I ?_ ?_ C.hs) λ_ s' hq=>ai (ai hq))
 ·have q' :PoS Y B (((fi ρ).s λts=>(zL g ft fe k js ρ ts).s λvs=> .nx (ρ.set i (.vl (.lst vs))))) D:=by
   unfold zD zJ at q;revert q;cases fi ρ with
   | bad=>exact λq=>q
   | ex c=>exact λq=>q
   | ok ts=>
    intro q;have q2:PoS Y B (((zL g ft fe k js ρ ts).bind λvs=>R.ok (T.lst vs)).s λt=>RS.nx (List.set ρ i (Sl.vl t))) D:=q;show PoS Y B ((zL g ft fe k js ρ ts).s λvs=>RS.nx (List.set ρ i (Sl.vl (T.lst vs)))) D;revert q2;cases zL g ft fe k js ρ ts with
    | bad=>exact λq=>q
    | ex c=>exact λq=>q
    | ok vs=>exact λq=>q
  refine jZ J q' λts it' H1 _ s1 r1 J1 q1=> ?_;intro D' hD;unfold zL at q1;split at q1
  ·rename_i hl;cases ev:zy g ft fe ts (wB k js ρ) with
   | bad=>rw[ev]at q1;exact q1.elim
   | ex c=>rw[ev]at q1;exact q1.elim
   | ok vs=>
    rw[ev]at q1;refine Wq C.gk C.gn J1 r1 hl ev hD λH' xs B' s' e' r' l' b' sb' => ?_;have rr:Rep (zS (zS B H H1) H1 H') (.ref D') (.lst vs):= .lst (by rw[Zi hD];exact e') (r'.mono l')
    exact q1 _ _ _ (zS.ge J1.sB s') ((J1.grow s').setV i rr)
  ·exact q1.elim
 ·intro D' Cc H' s' I' q' hC h0 hL hcell hpin hns;obtain⟨m,hm⟩:=hns;show wpAny _ X.A (assign (.Name x p') X.env (.ref D')) _ _ s';refine wpAny_assign_Name (W9 (v:= .ref D') I' hN hi hx rfl (λs'' I'' ⟨a,hsb,ha⟩=> ?_) hf);have hne:Cc ≠ a:=by
   rcases ha with rfl | ha
   ·exact hL
   ·exact(hcell x a ha).symm
  refine⟨m,hm.sameBut hsb hne,λh' hsb' =>⟨_,H', ?_,q'⟩⟩;exact I''.turned (t' :=s''.toks) (λb o hb e=>hsb'.extBut b o hb e) hC hL (.inr h0) hcell hpin
end
def Itc (x:Str):It:=⟨λi _=>i < x.cps.size,λi H v H' =>H' =H/\∃c,x.cps[i]? =some c/\v= .str ⟨#[c]⟩,λi _=>x.cps.size<=i⟩
theorem wd {P:Program}{w:World}{K:al}{tg:Expr}{x:Str}{t:Tok}{ty:String}(it:Addr)(hty:ty="str_ascii_iterator"\/ty="str_iterator"):yx P w K tg (Itc x) [it] it (λi h=>h.IsStrIter it ty x t i):=by
 have W:∀A:Around,A.handled=none->Walks P w A it [it] [it] x.cps.size (SignAt x) (λi h=>h.IsStrIter it ty x t i):=λA hA=>by
  rcases hty with rfl | rfl
  ·exact Walks.strAscii hA it x t
  ·exact Walks.strWide hA it x t
 have hn:["enumerate","zip","dict_itemiterator","dict_reverseitemiterator","odict_iterator","itertools.zip_longest","itertools.pairwise"].contains ty=false:=by rcases hty with rfl | rfl <;> decide
 refine⟨by simp,λi h st b hb=> ?_,λi h h' st k=> ?_, ?_, ?_,λA i s Q E st h=> ?_⟩
 ·have e:b=it:=by simpa using hb
  subst e;obtain⟨o,e,c,d⟩:=st;exact⟨o,e,λv z=>by rw[d]at z;cases z⟩
 ·obtain⟨o,e,r⟩:=st;exact⟨o,k it (by simp) o e,r⟩
 ·intro X hP hw hK hc i pins s σ H E I hf st hg;subst hP hw hK;obtain⟨f0,f1,f2,f3,f4,f5⟩:=hf it (by simp)
  refine(W X.A (I.ok.hd hc)).item i s _ _ hg st λv h' tk hv st' kk=> ?_;obtain⟨c,u,hc',rfl⟩:=hv;have I1:L2.Inv X pins σ H { s with heap:=h',toks:=tk }:=I.turned (λb o hb e=>kk b o (by simpa using hb) e) f0 f1 f3 f4 f5
  obtain⟨o,e,cl,d⟩:=id st';exact⟨_,rfl,UD (s:={ s with heap:=h',toks:=tk }) e cl d hn ⟨.str ⟨#[c]⟩,H,I1,⟨u,rfl⟩,⟨rfl,c,hc',rfl⟩,st',λb hb=>(hf b hb).1⟩⟩
 ·intro X hP hw hK hc i pins s σ H E I hf st hg;subst hP hw hK;obtain⟨f0,f1,f2,f3,f4,f5⟩:=hf it (by simp)
  have hx:x.cps[i]? =none:=bR hg;rcases hty with rfl | rfl
  ·exact wpAny_pyNext_ascii_end (I.ok.hd hc) st hx λh' eb=>⟨rfl,I.turned (t' :=s.toks) (λb o hb e=>eb b o hb e) f0 f1 f3 f4 f5⟩
  ·exact wpAny_pyNext_wide_end (I.ok.hd hc) st hx λh' eb=>⟨rfl,I.turned (t' :=s.toks) (λb o hb e=>eb b o hb e) f0 f1 f3 f4 f5⟩
 ·rcases hty with rfl | rfl
  ·exact wpAny_pyIter_striter_ascii st h
  ·exact wpAny_pyIter_striter_wide st h
def ju (x:Str):List T:=x.cps.toList.map λc=>T.str ⟨#[c]⟩
theorem QH {B1 H1:Hp}{x:Str}:rI B1 H1 (Itc x) (ju x):=λB2 H2 s1 s2=>by
 have hl:(ju x).length=x.cps.size:=by unfold ju;simp
 refine⟨λi hi=>by rw[hl]at hi;exact hi,λi t v H3 e y=> ?_,λi hi=>by rw[hl]at hi;exact hi⟩
 obtain⟨rfl,c,hc,rfl⟩:=y;refine⟨zw.refl _, ?_⟩;unfold ju at e;rw[ax]at e;have hc' :x.cps.toList[i]? =some c:=by simpa using hc
 rw[hc']at e;cases e;exact .str _
section
variable {X:Cx}{Y:Fx}{a b c d tg:Expr}{fa fb fc fd:En->R T}{pos p:Pos}
theorem Kr {l:Expr}{tl:TE}(hl:PE X l tl):PI X tg l (λσ H R=>tl σ H λx H1=>(∃a,x= .ref a/\(((∃xs,SqL X.K H1 a xs)/\R (Itl X.K a) H1)\/((∃xs,SqT X.K H1 a xs)/\R (Itt X.K a) H1)))\/(∃z,x= .str z/\R (Itc z) H1)):=by
 intro pins s σ H R I h;refine thn (hl pins s σ H _ I h) λv s1 ⟨x,H1,I1,r1,q1⟩=> ?_;have ok:∀b∈[s1.heap.objs.size],WY X pins H1 b:=λb hb=>by
  have e:b=s1.heap.objs.size:=by simpa using hb
  subst e;exact I1.fpOk (am _) (I1.hok.fresh (am _))
 rcases q1 with ⟨a,e,q⟩ | ⟨z,e,q⟩
 ·subst e;obtain rfl:v=Value.ref a:=r1;rcases q with ⟨⟨xs,hq⟩,q⟩ | ⟨⟨xs,hq⟩,q⟩
  ·obtain⟨its,rv,p,hz⟩:=I1.list hq;exact wpAny_pyIter_list p.isList ⟨s1.heap.objs.size,[s1.heap.objs.size],_,_,H1,rfl,I1.kept (t' :=s1.toks) λb o e=>ad _ e,yy a _,⟨_,ah _ rfl,rfl,rfl⟩,ok,q⟩
  ·obtain⟨its,rv,p,hz⟩:=I1.tuple hq;exact wpAny_pyIter_tuple (show s1.heap.IsTuple a its.toArray from p) ⟨s1.heap.objs.size,[s1.heap.objs.size],_,_,H1,rfl,I1.kept (t' :=s1.toks) λb o e=>ad _ e,UE a _,⟨_,ah _ rfl,rfl,rfl⟩,ok,q⟩
 ·subst e;obtain⟨t,rfl⟩:=r1;cases ha:z.cps.all (· < 128)
  ·exact wpAny_pyIter_wide ha ⟨s1.heap.objs.size,[s1.heap.objs.size],_,_,H1,rfl,I1.kept (t' :=s1.toks) λb o e=>ad _ e,wd _ (.inr rfl),⟨_,ah _ rfl,rfl,rfl⟩,ok,q⟩
  ·exact wpAny_pyIter_ascii ha ⟨s1.heap.objs.size,[s1.heap.objs.size],_,_,H1,rfl,I1.kept (t' :=s1.toks) λb o e=>ad _ e,wd _ (.inl rfl),⟨_,ah _ rfl,rfl,rfl⟩,ok,q⟩
def Jv:T->R (List T)
 | .lst xs=> .ok xs
 | .tup xs=> .ok xs
 | .str x=> .ok (ju x)
 | _=> .bad
def Zv (fa:En->R T):En->R (List T):=λρ=>(fa ρ).bind Jv
theorem z1E (ha:Snd X Y a fa):ym X Y tg a (Zv fa):= .mk λρ=>PI.imp (Kr (ha ρ)) λσ H R ⟨B,I,q⟩=>step I q λt v H1 _ s1 r1 I1 q1=>by
 cases r1 with
 | @tup l xs ts h r=>
  exact .inl ⟨l,rfl,.inr ⟨⟨xs,SqT.of (I1.sB _ _ h)⟩,ZX I1 (show Po Y rI _ H1 (.ok ts) R from q1) (Kj h r)⟩⟩
 | @lst l xs ts h r=>
  exact .inl ⟨l,rfl,.inl ⟨⟨xs,SqL.of (I1.sB _ _ h)⟩,ZX I1 (show Po Y rI _ H1 (.ok ts) R from q1) (Kk h r)⟩⟩
 | str z=>exact .inr ⟨z,rfl,ZX I1 (show Po Y rI _ H1 (.ok (ju z)) R from q1) QH⟩
 | _=>exact q1.elim
end
theorem Inv.laidT {X:Cx}{pins:List (Addr×Obj)}{σ:Sg}{H:Hp}{s:Shared}{h' :Heap}{tk:Nat}{ch:List Addr}{a:Addr}{xs:List V}(I:L2.Inv X pins σ H s)(hf:∀b∈ch,WY X pins H b)(k:∀b o,b ∉ ch->s.heap.get? b=some o->h'.get? b=some o)
  (th:∀b o,b∈ch->s.heap.get? b=some o->∃o',h'.get? b=some o') (ha:s.heap.objs.size<=a) (new:Z7 X.prog X.w (upd H a (.tup xs)) h' a (.tup xs)):L2.Inv X pins σ (upd H a (.tup xs)) { s with heap:=h',toks:=tk }:=by
 have hn:H a=none:=I.hok.fresh ha;have nch:∀b u,H b=some u->b ∉ ch:=λb u e hb=>by rw[(hf b hb).1]at e;cases e
 refine I.call' (s' :={ s with heap:=h',toks:=tk }) (ch:=ch) rfl ⟨λb o e n _ hc=>k b o hc e,λb o e n _ hc=>⟨o.slots,k b o hc e⟩,λb o e n _=>by rw[zr (aw (aH (ao e) ha))];exact n,λb o e hc=>⟨o,k b o hc e⟩,
  λb ys e=>by rw[zr (zM e hn)];exact e,λb o u e=>by rw[zr (zM e hn)];exact e,λb ps e=>⟨#[],by rw[zr (zM e hn),e];simp⟩⟩ (λb u e=> ?_) I.bare λb hb=> ?_
 ·by_cases hb:b=a
  ·subst hb;rw[zv]at e;cases e;exact new
  ·rw[zr hb]at e;refine(I.hok b u e).stay (λc v hc q=> ?_) (λc q=>by rw[zr (zM q hn)];exact q) λc ys q=>by rw[zr (zM q hn)];exact q
   rcases hc with rfl | hc
   ·exact k c v (nch c u e) q
   ·exact k c v (nch c _ hc) q
 ·obtain⟨f0,f1,f2,f3,f4,f5⟩:=hf b hb;exact⟨f3,f1,f4,f5⟩
def Ite (K:al)(l:Addr):It:=
 ⟨λi H=>∃xs x,SqL K H l xs/\xs[i]? =some x,λi H v H' =>∃p x,H p=none/\v= .ref p/\(∀xs,SqL K H l xs->xs[i]? =some x)/\H' =upd H p (.tup [.int i,x]),λi H=>∃xs,SqL K H l xs/\xs.length<=i⟩
theorem Y8 {P:Program}{w:World}{K:al}{elts:List Expr}{kk:Nat}{pt:Pos}(e it l:Addr)(hei:e ≠ it)(hle:l ≠ e)(hli:l ≠ it):
  yx P w K (.Tuple elts kk pt) (Ite K l) [e,it] e (λi h=>(∃old,IsEnum h e it i old)/\h.IsListIter it l i) where
 mem:=by simp
 obj:=λi h st b hb=>by
  obtain⟨⟨old,he⟩,o,e1,c,d⟩:=st;rcases ak.mp hb with rfl | hb
  ·exact⟨_,he,λv z=>nomatch z⟩
  ·have z:b=it:=by simpa using hb
   subst z;exact⟨o,e1,λv z=>by rw[d]at z;cases z⟩
 keep:=λi h h' st k=>by
  obtain⟨⟨old,he⟩,hit⟩:=st;exact⟨⟨old,k e (by simp) _ he⟩,hit.at λo x=>k it (by simp) o x⟩
 item:=by
  intro X hP hw hK hc i pins s σ H E I hf st hg;subst hP hw hK;obtain⟨xs,x,hq,hx⟩:=hg;obtain⟨its,rv,p,hz⟩:=I.list hq;obtain⟨u,hu,ru⟩:=rv.get hx;obtain⟨⟨old,he⟩,hit⟩:=st;have hi:i < its.toArray.size:=by
   have:=(au.mp hu).1;simpa using this
  refine(iW (prog:=X.prog) (w:=X.w) (I.ok.hd hc) e it l hei hle hli its.toArray).item i s _ _ hi ⟨⟨old,he⟩,hit,p.isList⟩ λT vals h' tk hP hT hTup hM hk=> ?_;obtain⟨t,y,hy,rfl⟩:=hP;have hyu:y=u:=by
   have:its[i]? =some y:=by simpa using hy
   rw[hu]at this;exact(b6 this).symm
  subst hyu;refine⟨.ref T,rfl, ?_⟩;refine(iW (prog:=X.prog) (w:=X.w) (I.ok.hd hc) e it l hei hle hli its.toArray).go elts kk pt i T _ _ _ hM λh2 hst2 hk2=> ?_;have hTn:H T=none:=I.hok.fresh hT;have hTne:∀b∈[e,it],b ≠ T:=λb hb z=>by
   obtain⟨_,_,_,h3,h4⟩:=hM;rcases ak.mp hb with rfl | hb
   ·exact h3 z.symm
   ·have:b=it:=by simpa using hb
    subst this;exact h4 z.symm
  have W7:IsTup h2 T #[.int i t,y]:=by
   obtain⟨o,eo,r⟩:=hTup;exact⟨o,hk2 T o (λhb=>hTne T hb rfl) eo,r⟩
  refine⟨.ref T,upd H T (.tup [.int i,x]),Inv.laidT (s:=s) (h' :=h2) (ch:=[e,it]) (tk:=tk) I hf (λb o hb e=>hk2 b o hb (hk b o hb e)) (λb o hb _=> ?_) hT ⟨by rw[bI];show 2<=16777216;decide,[.int i t,y],.cons ⟨t,rfl⟩ (.cons ru .nil),W7,.inl ⟨_,_,rfl⟩⟩,rfl,⟨T,x,hTn,rfl,λys hy=>by rw[I.list_inj hy hq];exact hx,rfl⟩,⟨hst2.1,hst2.2.1⟩,λb hb=> ?_⟩
  ·obtain⟨⟨old2,he2⟩,⟨o2,eo2,_⟩,_⟩:=hst2;rcases ak.mp hb with rfl | hb
   ·exact⟨_,he2⟩
   ·have:b=it:=by simpa using hb
    subst this;exact⟨o2,eo2⟩
  ·rw[zr (hTne b hb)];exact(hf b hb).1
 done:=by
  intro X hP hw hK hc i pins s σ H E I hf st hg;subst hP hw hK;obtain⟨xs,hq,hx⟩:=hg;obtain⟨its,rv,p,hz⟩:=I.list hq;obtain⟨⟨old,he⟩,hit⟩:=st;have hl:=rv.length;refine wpAny_pyNext_enum_end (I.ok.hd hc) he hit p.isList (bR (by simp;omega)) λh' hk=>⟨rfl, ?_⟩
  obtain⟨f0,f1,f2,f3,f4,f5⟩:=hf it (by simp)
  exact I.turned (t' :=s.toks) (λb o hb e=>hk b o hb e) f0 f1 f3 f4 f5
 self:=λ_ _ _ _ _ st h=>let ⟨⟨_,he⟩,_⟩:=st;wpAny_pyIter_enum he h
def JW (xs:List T):List T:=(xs.zipIdx).map λp=>T.tup [.int (p.2:Nat),p.1]
theorem Y9 {xs:List T}{i:Nat}{t:T}(h:(JW xs)[i]? =some t):∃x,xs[i]? =some x/\t= .tup [.int (i:Nat),x]:=by
 unfold JW at h;rw[ax,List.getElem?_zipIdx]at h;cases e:xs[i]? with
 | none=>rw[e]at h;cases h
 | some x=>rw[e]at h;cases h;exact⟨x,rfl,by simp⟩
theorem Wt (xs:List T):(JW xs).length=xs.length:=by unfold JW;simp
theorem xz {K:al}{B1 H1:Hp}{a:Addr}{xs:List V}{ts:List T}(h:B1 a=some (.lst xs))(r:zI B1 xs ts):rI B1 H1 (Ite K a) (JW ts):=λB2 H2 s1 s2=>by
 have h2:=s2 _ _ (s1 _ _ h);rw[Wt];refine⟨λi hi=> ?_,λi t x H3 e y=> ?_,λi hi=>⟨xs,SqL.of h2,by rw[r.length];exact hi⟩⟩
 ·obtain⟨v,e,_⟩:=r.get (ac hi);exact⟨xs,v,SqL.of h2,e⟩
 ·obtain⟨p,v,hp,rfl,y,rfl⟩:=y;obtain⟨t',et,rfl⟩:=Y9 e;obtain⟨v',e1,r1⟩:=r.get et;have:=y xs (SqL.of h2);rw[e1]at this;cases this;refine⟨zw.new hp _,.tup (jq hp _) (.cons (.int _) (.cons ?_ .nil))⟩;exact(r1.mono s1).mono (zS.ge s2 (zw.new hp _))
section
variable {X:Cx}{Y:Fx}{a:Expr}{fa:En->R T}{pos p pt:Pos}{elts:List Expr}{kk:Nat}
theorem xA {ta:TA}(hg:Gl X "enumerate")(hm:X.mg "enumerate"=none)(ha:PA X [a] ta)(hs:St1 X a:=by exact st1 rfl):
  PI X (.Tuple elts kk pt) (.Call (.Name "enumerate" p) [a] [] pos) (λσ H R=>ta σ H λvs H1=>∃l xs,vs=[.ref l]/\H1 l=some (.lst xs)/\R (Ite X.K l) H1):=by
 intro pins s σ H R I h;refine Call_ (ZS I hg hm PyProof.Rows.Boot.«enumerate» (aN (thn (ha pos pins s σ H _ I h) λus s1 ⟨vs,H1,I1,r1,q1⟩=> ?_) hs rfl));obtain⟨l,xs,e,hl,q⟩:=q1;subst e;obtain⟨u,rfl,ru⟩:=ZI r1;obtain rfl:u=Value.ref l:=ru;obtain⟨_,its,n,rv,eo⟩:=(show Z7 X.prog X.w H1 s1.heap l (.lst xs) from I1.hok l _ hl);have hlt:l < s1.heap.objs.size:=ao eo;refine call_enumerate_1 eo λh' he hit hsz hk=>wpAny_pyIter_enum he ?_;have f:∀b∈[s1.heap.objs.size+1,s1.heap.objs.size],WY X pins H1 b:=λb hb=>by
  rcases ak.mp hb with rfl | hb
  ·exact I1.fpOk (dO _) (I1.hok.fresh (dO _))
  ·have z:b=s1.heap.objs.size:=by simpa using hb
   subst z;exact I1.fpOk (am _) (I1.hok.fresh (am _))
 exact⟨s1.heap.objs.size+1,[s1.heap.objs.size+1,s1.heap.objs.size],_,_,H1,rfl,I1.kept (t' :=s1.toks) hk,Y8 _ _ l (Nat.succ_ne_self _) (aw (bT hlt)) (aw hlt),⟨⟨_,he⟩,hit⟩,f,q⟩
def xB (fa:En->R T):En->R (List T):=λρ=>(fa ρ).bind λt=>match t with
 | .lst xs=> .ok (JW xs)
 | _=> .bad
theorem Ks (hg:Gl X "enumerate")(hm:X.mg "enumerate"=none)(ha:Snd X Y a fa)(hs:St1 X a:=by exact st1 rfl):ym X Y (.Tuple elts kk pt) (.Call (.Name "enumerate" p) [a] [] pos) (xB fa):= .mk λρ=>
 PI.imp (xA hg hm (zo (ha ρ) zU hs) hs) λσ H R ⟨B,I,q⟩=>step I q λt v H1 _ s1 r1 I1 q1=>by
  cases r1 with
  | @lst l xs ts h r=>exact⟨l,xs,rfl,I1.sB _ _ h,ZX I1 (show Po Y rI _ H1 (.ok (JW ts)) R from q1) (xz h r)⟩
  | _=>exact q1.elim
def wD:List T->Option (List Str)
 | []=>some []
 | .str x :: r=>match wD r with | some ys=>some (x :: ys) | none=>none
 | _ :: _=>none
def Kt (sep:Str):T->R T
 | .lst ts=>match wD ts with
  | some ys=>if (ys.map (·.length)).sum+ys.length*sep.length<=16777216 then .ok (.str (Txt.join sep ys)) else .bad
  | none=> .bad
 | _=> .bad
theorem J7 {H:Hp}:∀{xs:List V} {ts:List T} {its:List Value} {ys:List Str},zI H xs ts->Z1 xs its->wD ts=some ys->StrsAre its ys
 | _,_,_,ys,.nil,.nil,h=>by
  have h' :some []=some ys:=h;cases h';exact .nil
 | _,_,_,ys,.cons (t:=t) r rs,.cons (b:=u) rv vs,h=>by
  cases r with
  | str x=>
   unfold wD at h;split at h
   ·rename_i zs e;cases h;obtain⟨tk,rfl⟩:=rv;exact .cons x tk (J7 rs vs e)
   ·cases h
  | _=>cases h
theorem xC:MtR X "str.join" (λx xs H Q=>∃z l zs ts ys,x= .str z/\xs=[.ref l]/\H l=some (.lst zs)/\zI H zs ts/\wD ts=some ys/\(ys.map (·.length)).sum+ys.length*z.length<=16777216/\Q (.str (Txt.join z ys)) H):=by
 intro pins s σ H x xs v us Q I rx rv h;obtain⟨z,l,zs,ts,ys,rfl,rfl,hl,r,e,hb,q⟩:=h;obtain⟨t,rfl⟩:=rx;obtain⟨u,rfl,ru⟩:=ZI rv;obtain rfl:u=Value.ref l:=ru;obtain⟨its,rv,p,_⟩:=zP I (.inl hl) r;exact join_list p (by simpa using J7 r rv e) hb λt' k=>⟨.str _,H,I.tok k,⟨t',rfl⟩,q⟩
theorem Ku {z:Str}{kc:Nat}{pz pa:Pos}(ha:jw X Y a fa)(hb:attributeBase (.Constant (.str z) kc pz) "join" X.env (eval (.Constant (.str z) kc pz) X.env)=eval (.Constant (.str z) kc pz) X.env:=by rfl)(hs:St1 X a:=by exact st1 rfl)
  (hz:(pa.endLine == p.line)=true:=by rfl):Snd X Y (.Call (.Attribute (.Constant (.str z) kc pz) "join" pa) [a] [] p) (ap1 (Kt z) fa):= .mk λρ=>by
 have e1:(((((backTo p (starEach [a] X.env)).all λx=> !x.fst) && (backToKw p (keywordEach [] X.env)).all λx=>x.fst.isSome) && decide (([a].length+([]:List Keyword).length+if ([]:List Keyword).isEmpty=true then 0 else 1) < 30))=true):=by rw[hs];rfl
 refine PE.imp (x6 PySem.F.plainAttrs_str PySem.F.slot_str_join PySem.F.type_str_join xC vP (zo (ha ρ) zU hs) hb e1 hz hs rfl) λσ H Q ⟨B,I,q⟩=> ?_;refine⟨rfl,step I q λt v H1 _ s1 r1 I1 q1=> ?_⟩;cases r1 with
 | @lst l xs ts h r=>
  have q1:Po Y rC _ H1 (match wD ts with | some ys=>if (ys.map (·.length)).sum+ys.length*z.length<=16777216 then .ok (.str (Txt.join z ys)) else .bad | none=> .bad) Q:=q1
  split at q1
  ·rename_i ys e;split at q1
   ·rename_i hl;exact⟨z,l,xs,ts,ys,rfl,rfl,h,r,e,hl,po0 I1.sB q1 rfl (.str _)⟩
   ·exact q1.elim
  ·exact q1.elim
 | _=>exact q1.elim
end
def dd:List Str->List Str->List Str
 | acc,[]=>acc
 | acc,x :: r=>dd (if x∈acc then acc else acc++[x]) r
section
variable {prog:Program}{w:World}{A:Around}{R:Result->Shared->Prop}{I:Addr}{fp wr:List Addr}{n:Nat}{P:Nat->Value->Prop}{St:Nat->Heap->Prop}
theorem jh {h h' :Heap}{S:Addr}{f g:Str->Bool}{m k:Nat}(x:h.SetOf (strKind prog w) S f m)(e:∀o,h.get? S=some o->h'.get? S=some o)(ef:f=g)(em:m=k):h'.SetOf (strKind prog w) S g k:=by
 subst ef em;obtain⟨o,es,ep,t,ho,r⟩:=x;exact⟨o,es,ep,t,e o ho,r⟩
theorem QI (W:Walks prog w A.in1 I fp wr n P St)(S:Addr)(hSf:S ∉ fp)(val:Nat->Str)(hval:∀i v,P i v->∃t,v=Value.str (val i) t)(hb:n+1 < scanBound):
  ∀(k i:Nat) (acc:List Str) (s:Shared),n - i=k->i<=n->acc.length<=i->St i s.heap->s.heap.SetOf (strKind prog w) S (λx=>decide (x∈acc)) acc.length->
   (∀h' tk,(∀b o,b ∉ S :: wr->s.heap.get? b=some o->h'.get? b=some o)->h'.SetOf (strKind prog w) S (λx=>decide (x∈dd acc ((fk i k).map val))) (dd acc ((fk i k).map val)).length->
    R (.ok (.ret .none)) { s with heap:=h',toks:=tk })->codeAny (model prog w) A (.builtin "set.update.loop" ⟨[.ref S,.ref I],[]⟩) R s:=by
 intro k
 induction k with
 | zero=>
  intro i acc s hk hi hal hst hS hR;obtain rfl:i=n:=by omega
  refine aM cW ?_;rw[aE b_ _];refine aa (m:=pyNext (.ref I)) (W.done s _ _ hst λh' tk hk' =>ai ?_);exact hR h' tk (λb o hb e=>hk' b o (λz=>hb (ab _ z)) e) (jh hS (λo e=>hk' S o (λz=>hSf (W.sub _ z)) e) rfl rfl)
 | succ k ih=>
  intro i acc s hk hi hal hst hS hR;refine aM cW ?_;rw[aE b_ _];refine aa (m:=pyNext (.ref I)) (W.item i s _ _ (by omega) hst λv h1 tk1 hP hst1 hk1=> ?_)
  obtain⟨t,rfl⟩:=hval i v hP;have hS1:=jh hS (λo e=>hk1 S o (λz=>hSf (W.sub _ z)) e) rfl rfl;refine aa (m:=holding [Value.str (val i) t] (setAdd S (.str (val i) t))) (bQ ?_);unfold setAdd;have isk:(strKind prog w).is (val i) (.str (val i) t)=true:=strKind_is _ _ _ _;refine bQ (aa ((strKind prog w).pyHash isk ?_));refine wpAny_setAddHashed_of (knd:=strKind prog w) (s:={ s with heap:=h1,toks:=tk1+1 }) isk rfl hS1 (by omega) λh2 hsb hS2=> ?_
  have e2:(if decide (val i∈acc)=true then acc.length else acc.length+1)=(if val i∈acc then acc else acc++[val i]).length:=by
   by_cases hm:val i∈acc
   ·simp[hm]
   ·simp[hm]
  have e1:(λx=>decide (x∈acc) || decide (x=val i))=(λx=>decide (x∈(if val i∈acc then acc else acc++[val i]))):=by
   funext x
   by_cases hm:val i∈acc
   ·simp only[if_pos hm]
    by_cases hx:x=val i
    ·subst hx;simp[hm]
    ·simp[hx]
   ·simp[hm,Bool.decide_or]
  have hS3:=jh (h' :=h2) hS2 (λo e=>e) e1 e2;refine ai ⟨a_ b_ _,ih (i+1) _ _ (by omega) (by omega) ?_ (W.frame _ h1 _ hst1 λb hb o e=> ?_) hS3 λh3 tk3 hk3 hS4=> ?_⟩
  ·split
   ·omega
   ·rw[aA,aG];omega
  ·exact(hsb.2 b (λz:b=S=>hSf (z ▸ hb))).trans e
  ·rw[iX,ar]at hR;refine hR h3 tk3 (λb o hb e=>hk3 b o hb ?_) hS4;exact(hsb.2 b (λz:b=S=>hb (z ▸ ae))).trans (hk1 b o (λz=>hb (ab _ z)) e)
end
section
variable {prog:Program}{w:World}{A:Around}{E:Value->Shared->Prop}{s:Shared}
set_option maxRecDepth 100000 in
set_option maxHeartbeats 3200000 in
theorem Ya {l:Addr}{its:List Value}{ys:List Str}{Q:Value->Shared->Prop}(hh:A.handled=none)(hl:s.heap.IsList l its.toArray)(hi:StrsAre its ys)(hb:its.length+1 < scanBound)
  (h:∀(h' :Heap) (tk:Nat),h'.SetOf (strKind prog w) s.heap.objs.size (λx=>decide (x∈dd [] ys)) (dd [] ys).length->(∀b o,b < s.heap.objs.size->s.heap.get? b=some o->h'.get? b=some o)->
   Q (.ref s.heap.objs.size) { s with heap:=h',toks:=tk }):wpAny (model prog w) A (call (.type "set") [.ref l]) Q E s:=by
 have getv:∀{its:List Value} {ys:List Str},StrsAre its ys->its.length=ys.length/\∀(i:Nat) (v:Value),its[i]? =some v->∃t,v=Value.str (ys.getD i ⟨#[]⟩) t:=λ{its ys} hi=>by
  induction hi with
  | nil=>exact⟨rfl,λi v e=>by simp at e⟩
  | cons y t _ ih=>
   refine⟨by simp[ih.1],λi v e=> ?_⟩
   cases i with
   | zero=>exact⟨t,by simpa using e.symm⟩
   | succ i=>exact ih.2 i v (by simpa using e)
 obtain⟨hlen,hget⟩:=getv hi;have hys:(fk 0 its.length).map (λi=>ys.getD i ⟨#[]⟩)=ys:=by
  rw[hlen];refine cu λi=> ?_;rw[ax]
  by_cases hi' :i < ys.length
  ·rw[hV hi',ac hi'];simp[ac hi']
  ·rw[aD (by simp;omega),aD (by omega)]
   rfl
 obtain⟨c,tl,hmro⟩:=bC.mro;have hmade:=bC.made;have hsub:=bC.sub;have h1:=bC.notType;have h2:=bC.canCreate;have hct:=iY (.ref l);refine wpAny_call (codeAny_of_tree (show wpAny _ _ (callAny (.type "set") _) _ _ _ from ?_));refine ai ⟨ij _ (by decide+kernel),aM iF ?_⟩
 rw[ik (weight_type_call_type "set" [.ref l] []) rfl]
 repeat any_goals (first | assumption | wp_step)
 refine cj (code_set_new_1 (.ref l) (E:=E) (Q₁:=λobj s₁=>∃led:Bool,obj= .ref s.heap.objs.size/\s₁={ s with heap:=s.heap.push { cls:= .type "set",dict:=none,data:= .set #[] 0 (.fresh 0 0 led) } }) λled=>⟨led,rfl,rfl⟩) λr s₁ hr=> ?_;cases r with
 | error e=>exact hr
 | ok fl=>
  cases fl with
  | ret obj=>
   obtain⟨led,rfl,rfl⟩:=hr;generalize hG:s.heap.push { cls:= .type "set",dict:=none,data:= .set #[] 0 (.fresh 0 0 led) }=G;have hS:G.get? s.heap.objs.size=some { cls:= .type "set",dict:=none,data:= .set #[] 0 (.fresh 0 0 led) }:=by rw[← hG];exact ah _ rfl
   have hGs:G.objs.size=s.heap.objs.size+1:=by rw[← hG,bo]
   have hGk:∀b o,s.heap.get? b=some o->G.get? b=some o:=λb o e=>by rw[← hG];exact ad _ e
   have hT:eD { s with heap:=G } (.ref s.heap.objs.size) "set":=⟨_,hS,rfl⟩;have hli:=bC.init.lookup;have hbi:=bC.init.bind (.ref s.heap.objs.size)
   repeat any_goals (first | assumption | wp_step)
   refine cj (codeAny_call_builtin (R:=wants (λr s₂=>r= .none/\∃h' tk,s₂={ s with heap:=h',toks:=tk }/\h'.SetOf (strKind prog w) s.heap.objs.size (λx=>decide (x∈dd [] ys)) (dd [] ys).length/\
     (∀b o,b < s.heap.objs.size->s.heap.get? b=some o->h'.get? b=some o)) E) bC.init.plain iZ (check_set_init_1 hT ?_)) λr₂ s₂ hr₂=> ?_
   ·obtain⟨⟨ocls,odict,odata,oslots⟩,hol,hcl,nl,hdl⟩:=hl;simp only at hcl hdl;subst hcl;subst hdl;have hol' :=hGk _ _ hol;have hsls:=F.sub_list_set;have hslf:=hW;have hne:(Value.type "list" == Value.type "dict")=false:=by decide
    have hl1:G.IsList l its.toArray:=⟨_,hol',rfl,nl,rfl⟩;have hlS:l < s.heap.objs.size:=ao hol;unfold Builtin.«set.__init__» noKeywords eM;generalize hPI:pyIter=PI
    wp_walk
    subst hPI;refine wpAny_pyIter_list hl1 (aa (wpAny_runValue ?_));have hSf:s.heap.objs.size ∉ [G.objs.size,l]:=by
     rw[hGs];intro z;rcases ak.mp z with z | z
     ·exact absurd z (aw (cV _))
     ·exact absurd (aC.mp z) (cL hlS)
    refine QI (ii (A:=A.in1.in1.in1) (by simp[hh]) G.objs.size l (by rw[hGs];exact aw (bT hlS)) its.toArray) s.heap.objs.size hSf (λi=>ys.getD i ⟨#[]⟩) (λi v e=>hget i v (by simpa using e)) (by simpa using hb) its.length 0 [] _ (by simp) (b9 _) (am _)
     ⟨⟨_,ah _ rfl,rfl,rfl⟩,hl1.push _⟩ ?_ ?_
    ·have hget' :(G.push { cls:= .type "list_iterator",data:= .fields #[.ref l,.int 0 0] }).get? s.heap.objs.size=some { cls:= .type "set",dict:=none,data:= .set #[] 0 (.fresh 0 0 led) }:=ad _ hS;exact jh ((PyProof.Rows.setObjOf_fresh (knd:=strKind prog w) led).setOf hget' (by unfold scanBound;omega)) (λo e=>e) (by funext x;simp) rfl
    ·intro h' tk' hm hS';rw[hys]at hS';refine ai (show wpAny _ _ (ret Value.none) _ _ _ from ai ⟨rfl,h',tk',rfl,hS',λb o hb e=> ?_⟩);refine hm b o (λz=> ?_) (ad _ (hGk b o e));rcases ak.mp z with z | z
     ·exact absurd z (aw hb)
     ·have z' :b=G.objs.size:=aC.mp z;rw[hGs]at z';exact absurd z' (aw (bT hb))
   ·cases r₂ with
    | error e=>exact hr₂
    | ok fl₂=>
     cases fl₂ with
     | ret r=>
      obtain⟨rfl,h',tk,rfl,hS',hk'⟩:=hr₂
      repeat any_goals (first | assumption | wp_step)
      exact h _ _ hS' hk'
     | _=>exact hr₂.elim
  | _=>exact hr.elim
end
section
variable {X:Cx}{Y:Fx}{a b:Expr}{fa fb:En->R T}{pos pos' p p' :Pos}
theorem Yb (hh:X.A.handled=none):Zq X (.type "set") (λvs H Q=>∃l xs ts ys,vs=[.ref l]/\H l=some (.lst xs)/\zI H xs ts/\wD ts=some ys/\ts.length+1 < 4096/\
  ∀q,H q=none->Q (.ref q) (upd H q (.ext λh=>h.SetOf (strKind X.prog X.w) q (λx=>decide (x∈dd [] ys)) (dd [] ys).length))):=by
 intro pins s σ H vs us Q I rv h;obtain⟨l,xs,ts,ys,rfl,hl,r,ey,hb,q⟩:=h;obtain⟨u,rfl,ru⟩:=ZI rv;obtain rfl:u=Value.ref l:=ru;obtain⟨its,rv,pl,hln,_⟩:=zP I (.inl hl) r;refine Ya hh pl (J7 r rv ey) (by unfold scanBound;omega) λh' tk hS hk=> ?_
 refine⟨.ref s.heap.objs.size,_,I.laid (t' :=tk) (λb u e=>hk b u (ao e) e) (am _) ?_,rfl,q _ (I.hok.fresh (am _))⟩;obtain⟨o,es,ep,t,ho,rr⟩:=id hS;exact⟨hS,⟨o,ho⟩,λh1 h2 ⟨o1,es1,ep1,t1,ho1,rr1⟩ e=>⟨o1,es1,ep1,t1,e _ ho1,rr1⟩⟩
theorem Yc:Zq X (.builtin "len") (λvs H Q=>∃q φ f n,vs=[.ref q]/\H q=some (.ext φ)/\(∀h:Heap,φ h->h.SetOf (strKind X.prog X.w) q f n)/\Q (.int n) H):=by
 intro pins s σ H vs us Q I rv h;obtain⟨l,φ,f,n,rfl,hl,hφ,q⟩:=h;obtain⟨u,rfl,ru⟩:=ZI rv;obtain rfl:u=Value.ref l:=ru;obtain⟨h1,_,_⟩:=(show Z7 X.prog X.w H s.heap l (.ext φ) from I.hok l _ hl);obtain⟨o,es,ep,t,ho,hex,hd,_,_,hb,hf,hn⟩:=hφ _ h1;refine call_len_set ho hex hd hf ?_ ⟨.int es.size,H,I.tok _,⟨_,rfl⟩,by rw[hn];exact q⟩
 have:es.size < 4096:=hb;omega
def QJ:T->R T
 | .lst ts=>match wD ts with
  | some ys=>if ts.length+1 < 4096 then .ok (.int (dd [] ys).length) else .bad
  | none=> .bad
 | _=> .bad
theorem Kv (hh:X.A.handled=none)(gl:Gl X "len")(mg:X.mg "len"=none)(gl' :Gl X "set")(mg' :X.mg "set"=none)(ha:jw X Y a fa)(hs:St1 X a:=by exact st1 rfl)(hs' :St1 X (.Call (.Name "set" p') [a] [] pos'):=by exact st1 rfl):
  Snd X Y (.Call (.Name "len" p) [.Call (.Name "set" p') [a] [] pos'] [] pos) (ap1 QJ fa):= .mk λρ=>
 PE.imp (ZW Yc gl mg PySem.boot_len (zo (ZT (Yb hh) gl' mg' PyProof.Rows.Boot.«set» (zo (ha ρ) zU hs) (by decide) (by decide) hs rfl) zU hs') (by decide) (by decide) hs' rfl) λσ H Q ⟨B,I,q⟩=>
  step I q λt v H1 _ s1 r1 I1 q1=>by
   cases r1 with
   | @lst l xs ts h r=>
    have q1:Po Y rC _ H1 (match wD ts with | some ys=>if ts.length+1 < 4096 then .ok (.int (dd [] ys).length) else .bad | none=> .bad) Q:=q1
    split at q1
    ·rename_i ys e;split at q1
     ·rename_i hl;refine⟨l,xs,ts,ys,rfl,h,r,e,hl,λz hz=>⟨z,_,_,_,rfl,zv,λh hh=>hh, ?_⟩⟩;exact q1 _ _ (zw.new hz _) (.int _)
     ·exact q1.elim
    ·exact q1.elim
   | _=>exact q1.elim
def Kw (i j:Nat)(ga:En->R (List T)):En->RS:=λρ=>(ga ρ).s λts=>match ts with
 | [x,y]=> .nx ((ρ.set i (.vl x)).set j (.vl y))
 | _=> .bad
theorem z1F {i j:Nat}{x y:Str}{ga:En->R (List T)}{px py pt pt2:Pos}{kt k2:Nat}(hc:X.calm=true)(hN:X.N.Nodup)(hi:X.N[i]? =some x)(hj:X.N[j]? =some y)(hij:i ≠ j)(hx:X.env.scope.names.lookup x=some .local)(hy:X.env.scope.names.lookup y=some .local)
  (ha:UK X Y [a,b] ga) (hs:swappedStores [.Tuple [.Name x px,.Name y py] kt pt] (.Tuple [a,b] k2 pt2) X.env=pure (some [x,y])) (hw:swapsWithSole [.Tuple [.Name x px,.Name y py] kt pt] (.Tuple [a,b] k2 pt2) pos.line X.env=pure false:=by rfl):
  wA X Y (.Assign [.Tuple [.Name x px,.Name y py] kt pt] (.Tuple [a,b] k2 pt2) pos) (Kw i j ga):= .mk λρ=>
 PS.imp (kD hc hN hi hj hij hx hy (ha ρ) hs hw) λD σ H ⟨B,I,q⟩=>jZ I q λts vs H1 _ s1 r1 I1 q1=>by
  cases r1 with
  | nil=>exact q1.elim
  | cons r rr=>
   cases rr with
   | nil=>exact q1.elim
   | cons r' rr=>
    cases rr with
    | cons _ _=>exact q1.elim
    | nil=>exact⟨_,_,rfl,q1 _ _ _ (zw.refl _) ((I1.setV i r).setV j r')⟩
end
theorem Kx {X:Cx}{E:XK}:wa CX0 X E:=λ_ _ _ _ _ _ _ h=>h.elim
section
variable {X:Cx}{Y:Fx}{a b:Expr}{fa fb:En->R T}{pos pos' p p' :Pos}
theorem xD {cl:Nat->Value}{k j n:Nat}{f:Addr}{fd:FuncData}{ps:List Str}{g:List T->R T}{x:Str}{es:List Expr}{ga:En->R (List T)}(hy:Y.cl=cl)(F:zV X.prog X.w X.K X.mg X.base CX0 j f fd ps (spP cl n g))(hr:JU k X.A)(hj:j<=k)(gl:Gl X x)
  (mg:X.mg x=some (.ref f)) (kp:cS X.K (.ref f)=true) (bd:L2.Binds X.K fd ps []) (ha:UK X Y (a :: es) ga) (hd:(x == ("__debug__":Str))=false:=by decide)
  (hs:starEach (a :: es) X.env=(false,eval a X.env) :: starEach es X.env:=by exact Zh rfl) (hz:((backTo pos (starEach es X.env)).any λx=>x.fst)=false:=by exact jd rfl):Snd X Y (.Call (.Name x p) (a :: es) [] pos) (za n g ga):=by
 subst hy;exact Ki F (hr.mono hj) gl mg kp bd Kx ha hd hs hz
theorem Yd {x:Str}{i:Int}{u:Value}(gl:Gl X x)(mg:X.mg x=some u)(hu:∃t,u=Value.int i t)(hd:(x == ("__debug__":Str))=false:=by decide):Snd X Y (.Name x pos) (cE (.int i)):= .mk λρ=>
 PE.imp (VN (v:= .int i) gl mg hu hd) λσ H Q ⟨B,I,q⟩=>ZX I q (.int i)
end
def z1G (scope sc0:Scope):Bool:=(scope.kind == .function) && scope.names.all (λx=>x.2 != .cell) && scope.names.all (λx=>x.2 != .local || scope.names.lookup x.1 == some .local) &&
 scope.names.all (λx=>x.2 != .free || sc0.names.lookup x.1 == some .cell || sc0.names.lookup x.1 == some .free)
theorem Ky {X:Cx}{scope:Scope}(sc0:Scope)(h0:X.env.scope=sc0)(h:z1G scope sc0=true):CSc X scope:=by
 unfold z1G at h;simp only[aj,aI]at h;obtain⟨⟨⟨h1,h2⟩,h3⟩,h4⟩:=h;refine⟨eq_of_beq h1,λx hx=>by simpa using h2 x hx,λx hx hl=> ?_,λx hx hf=> ?_⟩
 ·have:=h3 x hx;rw[hl]at this;simpa using this
 ·have:=h4 x hx;rw[hf]at this;show X.env.scope.names.lookup x.1=_\/X.env.scope.names.lookup x.1=_;rw[h0];simpa using this
def z1H (N N' :List Str)(scope sc0:Scope)(k:Nat)(js:List Nat):Bool:=(N'.length == k+js.length) && (aX js.length).all λi=>match js[i]? with
 | none=>true
 | some j=>match N'[k+i]?,N[j]? with
  | some x,some y=>(x == y) && (sc0.names.lookup x == some .cell || sc0.names.lookup x == some .free) && (scope.names.lookup x == some .free)
  | _,_=>false
theorem xE {X:Cx}{scope:Scope}{N' :List Str}{k:Nat}{js:List Nat}(N:List Str)(sc0:Scope)(hN:X.N=N)(h0:X.env.scope=sc0)(h:z1H N N' scope sc0 k js=true):z1D X scope N' k js:=by
 unfold z1H at h;simp only[aj,aI]at h;obtain⟨h1,h2⟩:=h;refine⟨eq_of_beq h1,λi j e=> ?_⟩;have hi:i < js.length:=(au.mp e).1;have q:=h2 i (bE.mpr hi);rw[e]at q;dsimp only at q;split at q
 ·rename_i x y e1 e2;simp only[aj,la,beq_iff_eq]at q;obtain⟨⟨rfl,q2⟩,q3⟩:=q;refine⟨x,e1,by rw[hN];exact e2, ?_,q3, ?_⟩
  ·unfold Vis;rw[h0];exact .inr q2
  ·show X.env.scope.names.lookup x=_\/X.env.scope.names.lookup x=_;rw[h0];exact q2
 ·cases q
theorem zW {X:Cx}{Y:Fx}{tg iter elt:Expr}{ifs:List Expr}{scope:Scope}{k:Nat}{js:List Nat}{fi:En->R (List T)}{tG:TG}{g:T->En->R En}{ft:En->R Bool}{fe:En->R T}(N' :List Str)(N:List Str)(sc0:Scope)(hN:X.N=N)(h0:X.env.scope=sc0)
  (h:(z1G scope sc0 && z1H N N' scope sc0 k js)=true) (cm:X.calm=true) (it:ym X Y tg iter fi) (gt:k8 X scope N' λXC=>PG XC tg tG) (gk:GOk tG g) (gn:GNo g) (tt:∀Y',Y'.cl=Y.cl->k8 X scope N' λXC=>ua XC Y' ifs ft)
  (el:∀Y',Y'.cl=Y.cl->z1C X scope N' Y'.E λXC=>Snd XC Y' elt fe) (hs:∀x,foldedSetIterable iter X.env x=pure x:=by intro _;rfl):Y7 X Y tg iter elt ifs scope N' k js fi tG g ft fe:=by
 rw[aj]at h;exact⟨Ky sc0 h0 h.1,xE N sc0 hN h0 h.2,cm,it,gt,gk,gn,tt,el,hs⟩
end PV
namespace PV
open PySem PySem.Spec PyProof.Rows L2 PySem.W
section
variable {X:Cx}{Y:Fx}{a b:Expr}{fa fb:En->R T}{pos pos' p p' :Pos}
end
section
variable {P:Program}{w:World}{K:al}{mg:Str->Option Value}{base:Heap}{N:List Str}{qual:Str}{scope:Scope}{f:Addr}{cd:Value}{A:Around}{outer:List Env}{s:Shared}{H:Hp}{E:XK}{Y:Fx}
end
end PV
namespace PySem.W
open PySem PySem.Calls PyProof.Rows PySem.Spec Builtin Builtin.ObjectAttr Builtin.Getset_descriptor
section
variable {prog:Program}{w:World}{A:Around}{E:Value->Shared->Prop}{s:Shared}{K:Frag}{x C:Addr}
end
end PySem.W
namespace PySem.W
open PySem PySem.Calls PyProof.Rows PySem.Spec Builtin Builtin.ObjectAttr Builtin.Getset_descriptor
section
variable {prog:Program}{w:World}{A:Around}{E:Value->Shared->Prop}{s:Shared}{K:Frag}{x C:Addr}
end
end PySem.W
namespace PySem.W
open PySem PySem.Calls PyProof.Rows PySem.Spec Builtin Builtin.ObjectAttr Builtin.Getset_descriptor
section
variable {prog:Program}{w:World}{A:Around}{E:Value->Shared->Prop}{s:Shared}{K:Frag}{x C:Addr}
end
end PySem.W
namespace PV
open PySem PySem.Spec PyProof.Rows L2 PySem.W
section
variable {X:Cx}{Y:Fx}{a b:Expr}{fa fb:En->R T}{pos pos' p p' :Pos}
end
section
variable {P:Program}{w:World}{K:al}{mg:Str->Option Value}{base:Heap}
end
end PV
namespace PySem.ZG
open PySem PySem.Spec PySem.Builtin.SmallTypes
structure ub (i:Addr) (fp:List Addr) (v:Nat->Option Value) (St:Nat->Heap->Prop):Prop where
 mem:i∈fp
 item:∀{prog:Program} {w:World} {A:Around} {E:Value->Shared->Prop} {s:Shared} {Q:Value->Shared->Prop} {k:Nat} {x:Value},St k s.heap->v k=some x->(∀h',St (k+1) h' ->bL i s.heap h' ->Q x { s with heap:=h' })->wpAny (model prog w) A (nextOf (.ref i)) Q E s
 stop:∀{prog:Program} {w:World} {A:Around} {E:Value->Shared->Prop} {s:Shared} {Q:Value->Shared->Prop} {k:Nat},A.handled=none->St k s.heap->v k=none->(∀h' e,hX i s.heap h' ->(∃o,h'.get? e=some o/\o.cls= .type "StopIteration")->E (.ref e) { s with heap:=h' })->wpAny (model prog w) A (nextOf (.ref i)) Q E s
 keep:∀{k:Nat} {h h' :Heap},St k h->(∀b∈fp,∀o,h.get? b=some o->h'.get? b=some o)->St k h'
 there:∀{k:Nat} {h:Heap},St k h->∀b∈fp,∃o,h.get? b=some o
theorem ub.but {i:Addr}{fp:List Addr}{v:Nat->Option Value}{St:Nat->Heap->Prop}(N:ub i fp v St){k:Nat}{h h' :Heap}{b:Addr}(x:St k h)(e:hX b h h')(n:b ∉ fp):St k h' :=
 N.keep x λc hc o q=>e c o (λz=>n (z ▸ hc)) q
theorem xF {i l:Addr}(hil:l ≠ i)(xs:Array Value):ub i [i,l] (λk=>xs[k]?) (λk h=>h.IsListIter i l k/\h.IsList l xs) where
 mem:= .head _
 item:=λst hx h=>wpAny_nextOf_list_item st.1 st.2 hx λh' a b=>h h' ⟨a,st.2.extBut b.extBut hil⟩ b
 stop:=λhh st hx h=>wpAny_nextOf_list_end hh st.1 st.2 hx h
 keep:=λst k=>⟨st.1.at λo e=>k i (.head _) o e,st.2.at λo e=>k l (.tail _ (.head _)) o e⟩
 there:=λst b hb=>by
  obtain⟨⟨o,e,_⟩,o2,e2,_⟩:=st;rcases ak.mp hb with z | hb
  ·exact⟨o,z ▸ e⟩
  ·exact⟨o2,(aC.mp hb) ▸ e2⟩
end PySem.ZG
namespace PySem.ZG
open PySem PySem.Spec PySem.Builtin.SmallTypes
section
variable {prog:Program}{w:World}{A:Around}{E:Value->Shared->Prop}{s:Shared}{it l:Addr}{k:Nat}{xs:Array Value}{Q:Value->Shared->Prop}
theorem uR (hit:s.heap.IsTupleIter it l k)(h:wpAny (model prog w) A.in1 (Builtin.«tuple_iterator.__next__» ⟨[.ref it],[]⟩) (λfin s' =>∃v,fin= .done (.ret v)/\Q v s') E s):wpAny (model prog w) A (nextOf (.ref it)) Q E s:=by
 unfold nextOf;exact aa (c6 (name:=aQ "__next__") hit.typeIs dW (bH dW hit.typeIs PySem.F.entry_tuple_iterator_next
  (de h (λfin s' ⟨v,e,q⟩=>⟨v,e,ai q⟩) λ_ _ z=>z) (PySem.F.args_tuple_iterator_next_1 _)))
theorem QK (hit:s.heap.IsTupleIter it l k)(ht:s.heap.IsTuple l xs){x:Value}(hx:xs[k]? =some x)(h:∀h',h'.IsTupleIter it l (k+1)->bL it s.heap h' ->Q x { s with heap:=h' }):wpAny (model prog w) A (nextOf (.ref it)) Q E s:=by
 refine uR hit ?_;obtain⟨o,ho,hc,hd⟩:=id hit;obtain⟨ol,hol,_,nl,hdl⟩:=ht;refine aa (m:=field (.ref it) 0) (bm ho hd (x:= .ref l) rfl ?_);rw[if_neg (show ¬((Value.ref l == Value.none)=true) by exact ay)]
 refine aa (m:=field (.ref it) 1) (bm ho hd (x:= .int k 0) rfl (aa (m:=seqItems? (.ref l)) (bF hol hdl ?_)));simp only[bh,hx];have g:=bK (Obj.mapFields (·.setIfInBounds 1 (rawInt (k+1:Nat)))) ho (Obj.isFreed_of_fields (il hd _));refine aa (wpAny_setField ho hd (by simp) (ai ⟨x,rfl,h _ ⟨_,g,(Obj.cls_mapFields ..).trans hc, ?_⟩ (dE ..)⟩))
 rw[il hd];simp[rawInt]
theorem QL (hh:A.handled=none)(hit:s.heap.IsTupleIter it l k)(ht:s.heap.IsTuple l xs)(hx:xs[k]? =none)
  (h:∀h' e,hX it s.heap h' ->(∃o,h'.get? e=some o/\o.cls= .type "StopIteration")->E (.ref e) { s with heap:=h' }):wpAny (model prog w) A (nextOf (.ref it)) Q E s:=by
 refine uR hit ?_;obtain⟨o,ho,hc,hd⟩:=id hit;obtain⟨ol,hol,_,nl,hdl⟩:=ht;refine aa (m:=field (.ref it) 0) (bm ho hd (x:= .ref l) rfl ?_);rw[if_neg (show ¬((Value.ref l == Value.none)=true) by exact ay)]
 refine aa (m:=field (.ref it) 1) (bm ho hd (x:= .int k 0) rfl (aa (m:=seqItems? (.ref l)) (bF hol hdl ?_)));simp only[bh,hx];refine aa (cF (aa (wpAny_setField ho hd (by simp) (aa (m:=newExc (.type "StopIteration") []) ?_))))
 simp only[newExc,newTuple];refine aa (aJ (aa (m:=firstArgMember _ _) (bb (a:=Value.none) (by first | rfl | (simp only[firstArgMember];rfl)) (aJ ?_ (by size_fits)))) (by size_fits))
 simp only[raiseNew];refine aa (wpAny_handled ?_);rw[show A.in1.handled=none from hh];exact aa (ai (wpAny_throw (h _ _ (((dE ..).extBut.push _).push _) ⟨_,ah _ rfl,rfl⟩)))
end
theorem Kz {i l:Addr}(hil:l ≠ i)(xs:Array Value):ub i [i,l] (λk=>xs[k]?) (λk h=>h.IsTupleIter i l k/\h.IsTuple l xs) where
 mem:= .head _
 item:=λst hx h=>QK st.1 st.2 hx λh' a b=>h h' ⟨a,st.2.extBut b.extBut hil⟩ b
 stop:=λhh st hx h=>QL hh st.1 st.2 hx h
 keep:=λst k=>by
  obtain⟨⟨o,e,r⟩,o2,e2,r2⟩:=st;exact⟨⟨o,k i (.head _) o e,r⟩,o2,k l (.tail _ (.head _)) o2 e2,r2⟩
 there:=λst b hb=>by
  obtain⟨⟨o,e,_⟩,o2,e2,_⟩:=st;rcases ak.mp hb with z | hb
  ·exact⟨o,z ▸ e⟩
  ·exact⟨o2,(aC.mp hb) ▸ e2⟩
end PySem.ZG
namespace PySem.ZG
open PySem PySem.Spec PySem.Builtin.SmallTypes
structure Ap (z TI TO i1 i2:Addr) (fp1 fp2:List Addr):Prop where
 Iz:TI ≠ z
 Oz:TO ≠ z
 IO:TI ≠ TO
 I1:TI ≠ i1
 I2:TI ≠ i2
 z1:z ∉ fp1
 z2:z ∉ fp2
 O1:TO ∉ fp1
 O2:TO ∉ fp2
 a:i1 ∉ fp2
 b:i2 ∉ fp1
section
variable {prog:Program}{w:World}{A:Around}{E:Value->Shared->Prop}{s:Shared}{z TI TO i1 i2:Addr}{fp1 fp2:List Addr}{v1 v2:Nat->Option Value}{S1 S2:Nat->Heap->Prop}{k:Nat}{x y a b:Value}
theorem Ap.ne1 (D:Ap z TI TO i1 i2 fp1 fp2)(N1:ub i1 fp1 v1 S1):i1 ≠ z/\i1 ≠ TO:=⟨λe=>D.z1 (e ▸ N1.mem),λe=>D.O1 (e ▸ N1.mem)⟩
theorem Ap.ne2 (D:Ap z TI TO i1 i2 fp1 fp2)(N2:ub i2 fp2 v2 S2):i2 ≠ z/\i2 ≠ TO:=⟨λe=>D.z2 (e ▸ N2.mem),λe=>D.O2 (e ▸ N2.mem)⟩
theorem xG {Q:Value->Shared->Prop}(N1:ub i1 fp1 v1 S1)(N2:ub i2 fp2 v2 S2)(D:Ap z TI TO i1 i2 fp1 fp2)(hz:IsZip s.heap z TI TO .none)(hTI:IsPair s.heap TI (.ref i1) (.ref i2))(hTO:IsPair s.heap TO a b)(p1:S1 k s.heap)(p2:S2 k s.heap)(hx:v1 k=some x)(hy:v2 k=some y)
  (hQ:∀h',IsZip h' z TI TO (rawInt s.heap.objs.size)->IsPair h' TO x y->S1 (k+1) h' ->S2 (k+1) h' ->IsPair h' s.heap.objs.size x y->
   (∀c o,c ≠ z->c ≠ TO->c ≠ i1->c ≠ i2->s.heap.get? c=some o->h'.get? c=some o)->Q (.ref s.heap.objs.size) { s with heap:=h' }):
  wpAny (model prog w) A (Builtin.«zip.__next__» ⟨[.ref z],[]⟩) (λfin s' =>∃v,fin= .done (.ret v)/\Q v s') E s:=by
 refine aa (m:=field (.ref z) 2) (bm hz rfl (x:= .bool false) rfl (aa (m:=field (.ref z) 3) (bm hz rfl (x:= .ref TI) rfl (aa (bF hTI rfl ?_)))));refine aa (m:=ownedTupleIsFree (.ref z)) ?_;unfold ownedTupleIsFree;refine aa (bm hz rfl (x:= .none) rfl (ai ?_));simp only[if_true];refine aa (cF (aa (bm hz rfl (x:= .ref TO) rfl (aa (aR hz (by simp) λg1 z1 e1=> ?_)))))
 replace z1:IsZip g1 z TI TO .ellipsis:=z1
 refine aa ?_;simp only[i_,lb,eK,List.forIn_nil];refine aa (aa (wpAny_onRaise (aa (m:=nextOf (.ref i1)) (N1.item (N1.but p1 e1.extBut D.z1) hx λg2 q1 e2=>ai ?_))));have t2:IsPair g2 TO a b:=e2.extBut _ _ (D.ne1 N1).2.symm (e1.extBut _ _ D.Oz hTO);refine aa (bF t2 rfl (aa (wpAny_updateSeq_pair t2 λg3 t3 e3=> ?_)))
 replace t3:IsPair g3 TO x b:=t3
 refine aa (dP (ai ?_));refine aa (aa (wpAny_onRaise (aa (m:=nextOf (.ref i2)) (N2.item (N2.but (N2.but (N2.but p2 e1.extBut D.z2) e2.extBut D.a) e3.extBut D.O2) hy λg4 q2 e4=>ai ?_))));have t4:IsPair g4 TO x b:=e4.extBut _ _ (D.ne2 N2).2.symm t3;refine aa (bF t4 rfl (aa (wpAny_updateSeq_pair t4 λg5 t5 e5=> ?_)))
 replace t5:IsPair g5 TO x y:=t5
 refine aa (dP (ai (ai ?_)));refine aa (bF t5 rfl (aa (wpAny_newTuple ?_)));have sz:g5.objs.size=s.heap.objs.size:=by rw[e5.1,e4.1,e3.1,e2.1,e1.1]
 have z5:IsZip g5 z TI TO .ellipsis:=e5.extBut _ _ D.Oz.symm (e4.extBut _ _ (D.ne2 N2).1.symm (e3.extBut _ _ D.Oz.symm (e2.extBut _ _ (D.ne1 N1).1.symm z1)));have k5:∀c o,c ≠ z->c ≠ TO->c ≠ i1->c ≠ i2->s.heap.get? c=some o->g5.get? c=some o:=λc o c1 c2 c3 c4 e=>
  e5.extBut _ _ c2 (e4.extBut _ _ c4 (e3.extBut _ _ c2 (e2.extBut _ _ c3 (e1.extBut _ _ c1 e))))
 have r1:S1 (k+1) g5:=N1.but (N1.but (N1.but q1 e3.extBut D.O1) e4.extBut D.b) e5.extBut D.O1;have r2:S2 (k+1) g5:=N2.but q2 e5.extBut D.O2;refine aa (m:=ownedTupleHandOut (.ref z) (.ref g5.objs.size)) ?_;unfold ownedTupleHandOut;have z6:IsZip (g5.push { cls:= .type "tuple",data:= .seq #[x,y] }) z TI TO .ellipsis:=ad _ z5;refine aa (aR z6 (by simp) λg7 z7 e7=> ?_)
 replace z7:IsZip g7 z TI TO (rawInt g5.objs.size):=z7
 refine aR z7 (by simp) λg8 z8 e8=> ?_
 replace z8:IsZip g8 z TI TO (rawInt g5.objs.size):=z8
 have up:∀c o,c ≠ z->g5.get? c=some o->g8.get? c=some o:=λc o c1 e=>e8.extBut _ _ c1 (e7.extBut _ _ c1 (ad _ e));have hn:g5.objs.size ≠ z:=cL (ao z5);have t8:IsPair g8 g5.objs.size x y:=e8.extBut _ _ hn (e7.extBut _ _ hn (ah _ rfl));rw[sz]at z8 t8;refine ai ⟨_,rfl, ?_⟩;show Q (.ref g5.objs.size) _;rw[sz];exact hQ g8 z8 (up _ _ D.Oz t5) (N1.keep r1 λc hc o e=>up c o (λq=>D.z1 (q ▸ hc)) e) (N2.keep r2 λc hc o e=>up c o (λq=>D.z2 (q ▸ hc)) e) t8 λc o c1 c2 c3 c4 e=>up c o c1 (k5 c o c1 c2 c3 c4 e)
theorem xH {Q:Fin->Shared->Prop}(hh:A.handled=none)(N1:ub i1 fp1 v1 S1)(N2:ub i2 fp2 v2 S2)(D:Ap z TI TO i1 i2 fp1 fp2)(hz:IsZip s.heap z TI TO .none)(hTI:IsPair s.heap TI (.ref i1) (.ref i2))(hTO:IsPair s.heap TO a b)(p1:S1 k s.heap)(p2:S2 k s.heap)(hend:v1 k=none\/v2 k=none)
  (hE:∀h' e,(∀c o,c ≠ z->c ≠ TO->c ≠ i1->c ≠ i2->s.heap.get? c=some o->h'.get? c=some o)->(∃o,h'.get? e=some o/\o.cls= .type "StopIteration")->E (.ref e) { s with heap:=h' }):
  wpAny (model prog w) A (Builtin.«zip.__next__» ⟨[.ref z],[]⟩) Q E s:=by
 refine aa (m:=field (.ref z) 2) (bm hz rfl (x:= .bool false) rfl (aa (m:=field (.ref z) 3) (bm hz rfl (x:= .ref TI) rfl (aa (bF hTI rfl ?_)))));refine aa (m:=ownedTupleIsFree (.ref z)) ?_;unfold ownedTupleIsFree;refine aa (bm hz rfl (x:= .none) rfl (ai ?_));simp only[if_true];refine aa (cF (aa (bm hz rfl (x:= .ref TO) rfl (aa (aR hz (by simp) λg1 z1 e1=> ?_)))))
 replace z1:IsZip g1 z TI TO .ellipsis:=z1
 refine aa ?_;simp only[i_,lb,eK,List.forIn_nil];have off:∀{g:Heap} {e:Addr} {oe:Obj},IsZip g z TI TO .ellipsis->g.get? e=some oe->oe.cls= .type "StopIteration"->e ≠ z:=λhg he hc q=>by
  subst q;rw[hg]at he;cases he;simp at hc
 cases hx:v1 k with
 | none=>
  refine aa (aa (wpAny_onRaise (aa (m:=nextOf (.ref i1)) (N1.stop hh (N1.but p1 e1.extBut D.z1) hx λg2 e e2 he=> ?_))));obtain⟨oe,ho,hc⟩:=he;have z2:IsZip g2 z TI TO .ellipsis:=e2 _ _ (D.ne1 N1).1.symm z1;exact aR z2 (by simp) λg3 _ e3=>hE g3 e (λc o c1 _ c3 _ q=>e3.extBut _ _ c1 (e2 _ _ c3 (e1.extBut _ _ c1 q))) ⟨oe,e3.extBut _ _ (off z2 ho hc) ho,hc⟩
 | some x=>
  have hy:v2 k=none:=by
   rcases hend with q | q
   ·rw[hx]at q;cases q
   ·exact q
  refine aa (aa (wpAny_onRaise (aa (m:=nextOf (.ref i1)) (N1.item (N1.but p1 e1.extBut D.z1) hx λg2 q1 e2=>ai ?_))));have t2:IsPair g2 TO a b:=e2.extBut _ _ (D.ne1 N1).2.symm (e1.extBut _ _ D.Oz hTO);refine aa (bF t2 rfl (aa (wpAny_updateSeq_pair t2 λg3 t3 e3=>aa (dP (ai ?_)))));refine aa (aa (wpAny_onRaise (aa (m:=nextOf (.ref i2)) (N2.stop hh (N2.but (N2.but (N2.but p2 e1.extBut D.z2) e2.extBut D.a) e3.extBut D.O2) hy λg4 e e4 he=> ?_))));obtain⟨oe,ho,hc⟩:=he;have z4:IsZip g4 z TI TO .ellipsis:=e4 _ _ (D.ne2 N2).1.symm (e3.extBut _ _ D.Oz.symm (e2.extBut _ _ (D.ne1 N1).1.symm z1));exact aR z4 (by simp) λg5 _ e5=>hE g5 e (λc o c1 c2 c3 c4 q=>e5.extBut _ _ c1 (e4 _ _ c4 (e3.extBut _ _ c2 (e2.extBut _ _ c3 (e1.extBut _ _ c1 q))))) ⟨oe,e5.extBut _ _ (off z4 ho hc) ho,hc⟩
theorem xI {Q:Option Value->Shared->Prop}(N1:ub i1 fp1 v1 S1)(N2:ub i2 fp2 v2 S2)(D:Ap z TI TO i1 i2 fp1 fp2)(hz:IsZip s.heap z TI TO .none)(hTI:IsPair s.heap TI (.ref i1) (.ref i2))(hTO:IsPair s.heap TO a b)(p1:S1 k s.heap)(p2:S2 k s.heap)(hx:v1 k=some x)(hy:v2 k=some y)
  (hQ:∀h',IsZip h' z TI TO (rawInt s.heap.objs.size)->IsPair h' TO x y->S1 (k+1) h' ->S2 (k+1) h' ->IsPair h' s.heap.objs.size x y->
   (∀c o,c ≠ z->c ≠ TO->c ≠ i1->c ≠ i2->s.heap.get? c=some o->h'.get? c=some o)->Q (some (.ref s.heap.objs.size)) { s with heap:=h' }):wpAny (model prog w) A (pyNext (.ref z)) Q E s:=by
 have ty:s.TypeIs (.ref z) "zip":=⟨_,hz,rfl⟩;unfold pyNext;exact aa (dj (c6 (name:=aQ "__next__") ty dq (bH dq ty fS
  (xG N1 N2 D hz hTI hTO p1 p2 hx hy λh' a1 a2 a3 a4 a5 a6=>ai (hQ h' a1 a2 a3 a4 a5 a6)) (fH _))))
theorem xJ {Q:Option Value->Shared->Prop}(hh:A.handled=none)(N1:ub i1 fp1 v1 S1)(N2:ub i2 fp2 v2 S2)(D:Ap z TI TO i1 i2 fp1 fp2)(hz:IsZip s.heap z TI TO .none)(hTI:IsPair s.heap TI (.ref i1) (.ref i2))(hTO:IsPair s.heap TO a b)(p1:S1 k s.heap)(p2:S2 k s.heap)(hend:v1 k=none\/v2 k=none)
  (hQ:∀h',(∀c o,c ≠ z->c ≠ TO->c ≠ i1->c ≠ i2->s.heap.get? c=some o->h'.get? c=some o)->Q none { s with heap:=h' }):wpAny (model prog w) A (pyNext (.ref z)) Q E s:=by
 have ty:s.TypeIs (.ref z) "zip":=⟨_,hz,rfl⟩;unfold pyNext;refine aa (dj (c6 (name:=aQ "__next__") ty dq (bH dq ty fS
  (xH hh N1 N2 D hz hTI hTO p1 p2 hend λh' e kp he=> ?_) (fH _))))
 obtain⟨o,ho,hc⟩:=he;exact aa (cC (T:="StopIteration") (b:=true) ⟨o,ho,hc⟩ isSubtype_stop (ai (hQ _ kp)))
end
end PySem.ZG
namespace PySem.ZG
open PySem PySem.Spec PySem.Builtin.SmallTypes
structure xK (l:Addr) (o:Obj) (P:Heap->Prop):Prop where
 go:∀{prog:Program} {w:World} {A:Around} {E:Value->Shared->Prop} {s:Shared} {Q:Value->Shared->Prop},P s.heap->Q (.ref s.heap.objs.size) { s with heap:=s.heap.push o }->wpAny (model prog w) A (pyIter (.ref l)) Q E s
 push:∀{h:Heap} (o' :Obj),P h->P (h.push o')
 fresh:o.isFreed=false
abbrev oL (l:Addr):Obj:={ cls:= .type "list_iterator",data:= .fields #[.ref l,.int 0 0] }
abbrev oT (l:Addr):Obj:={ cls:= .type "tuple_iterator",data:= .fields #[.ref l,.int 0 0] }
theorem xL (l:Addr)(xs:Array Value):xK l (oL l) (λh=>h.IsList l xs):=⟨λp q=>wpAny_pyIter_list p q,λo p=>Heap.IsList.push p o,rfl⟩
theorem KA (l:Addr)(xs:Array Value):xK l (oT l) (λh=>h.IsTuple l xs):=⟨λp q=>wpAny_pyIter_tuple p q,λo p=>Heap.IsTuple.push p o,rfl⟩
abbrev zh2 (h:Heap)(o1 o2:Obj):Heap:=(h.push o1).push o2
abbrev zh3 (h:Heap)(o1 o2:Obj):Heap:=(zh2 h o1 o2).push { cls:= .type "tuple",data:= .seq #[.ref h.objs.size,.ref (h.push o1).objs.size] }
abbrev zh4 (h:Heap)(o1 o2:Obj):Heap:=(zh3 h o1 o2).push { cls:= .type "tuple",data:= .seq #[.none,.none] }
abbrev zh5 (h:Heap)(o1 o2:Obj):Heap:=(zh4 h o1 o2).push { cls:= .type "zip",data:= .fields #[.none,.bool false,.bool false,.ref (zh2 h o1 o2).objs.size,.ref (zh3 h o1 o2).objs.size] }
theorem KC {l1 l2:Addr}{o1 o2:Obj}{P1 P2:Heap->Prop}(J1:xK l1 o1 P1)(J2:xK l2 o2 P2):
  Meets (Builtin.«zip.__new__» ⟨[.type "zip",.ref l1,.ref l2],[]⟩) (λ_ R s=>P1 s.heap/\P2 s.heap/\R (.ok (.ret (.ref (zh4 s.heap o1 o2).objs.size))) { s with heap:=zh5 s.heap o1 o2 }):=
 .of_wp λprog w A R s h=>by
  obtain⟨hp,g,d,tk,os⟩:=s;obtain⟨q1,q2,h⟩:=h;have hsub:=sub_zip;have c1:P1 (Shared.heap ⟨hp,g,d,tk,os⟩):=q1;have c2:P2 (Shared.heap ⟨hp.push o1,g,d,tk,os⟩):=J2.push o1 q2
  wp_walk using J1.go c1,J2.go c2
  exact⟨_,rfl,h⟩
end PySem.ZG
namespace PySem.ZG
open PySem PySem.Spec PySem.Builtin.SmallTypes
theorem xM {prog:Program}{w:World}{A:Around}{E:Value->Shared->Prop}{s:Shared}{l1 l2:Addr}{o1 o2:Obj}{P1 P2:Heap->Prop}{Q:Value->Shared->Prop}(J1:xK l1 o1 P1)(J2:xK l2 o2 P2)(q1:P1 s.heap)(q2:P2 s.heap)
  (h:∀h' n,n=s.heap.objs.size->IsZip h' (n+4) (n+2) (n+3) .none->IsPair h' (n+2) (.ref n) (.ref (n+1))->IsPair h' (n+3) .none .none->h'.get? n=some o1->h'.get? (n+1)=some o2->
   (∀c o,s.heap.get? c=some o->h'.get? c=some o)->Q (.ref (n+4)) { s with heap:=h' }):wpAny (model prog w) A (call (.type "zip") [.ref l1,.ref l2]) Q E s:=by
 refine callType_new PySem.F.called_zip (by decide) (PySem.F.typeCall_zip_2 _ _) (PySem.F.newCall_zip_2 _ _) (λobj=>PySem.F.args_object_init_3 obj _ _) PySem.F.entry_zip_new (KC J1 J2) ⟨q1,q2, ?_⟩
 have n1:(s.heap.push o1).objs.size=s.heap.objs.size+1:=bo ..;have n2:(zh2 s.heap o1 o2).objs.size=s.heap.objs.size+2:=by rw[bo,n1]
 have n3:(zh3 s.heap o1 o2).objs.size=s.heap.objs.size+3:=by rw[bo,n2]
 have n4:(zh4 s.heap o1 o2).objs.size=s.heap.objs.size+4:=by rw[bo,n3]
 have up:∀{h:Heap} {c:Addr} {o:Obj} (o' :Obj),h.get? c=some o->(h.push o').get? c=some o:=λo' e=>ad o' e;have e5:(zh5 s.heap o1 o2).get? (zh4 s.heap o1 o2).objs.size=some _:=ah _ rfl;have e4:(zh5 s.heap o1 o2).get? (zh3 s.heap o1 o2).objs.size=some _:=up _ (ah _ rfl);have e3:(zh5 s.heap o1 o2).get? (zh2 s.heap o1 o2).objs.size=some _:=up _ (up _ (ah _ rfl));have e2:(zh5 s.heap o1 o2).get? (s.heap.push o1).objs.size=some _:=up _ (up _ (up _ (ah _ J2.fresh)));have e1:(zh5 s.heap o1 o2).get? s.heap.objs.size=some _:=up _ (up _ (up _ (up _ (ah _ J1.fresh))));show _/\_;rw[n2,n3,n4]at e5;rw[n1,n2]at e3;rw[n3]at e4;rw[n1]at e2;rw[n4];exact⟨⟨_,e5,rfl⟩,h _ _ rfl e5 e3 e4 e1 e2 λc o q=>up _ (up _ (up _ (up _ (up _ q))))⟩
end PySem.ZG
namespace PV
open PySem PySem.Spec PyProof.Rows L2 PySem.ZG
inductive SK where
 | l | t
def SK.it:SK->Heap->Addr->Addr->Nat->Prop
 | .l=>λh i l k=>h.IsListIter i l k
 | .t=>λh i l k=>h.IsTupleIter i l k
def SK.has:SK->Heap->Addr->Array Value->Prop
 | .l=>λh l xs=>h.IsList l xs
 | .t=>λh l xs=>h.IsTuple l xs
def SK.sq (K:al):SK->Hp->Addr->List V->Prop
 | .l=>λH a xs=>SqL K H a xs
 | .t=>λH a xs=>SqT K H a xs
def SK.tr:SK->List V->HO
 | .l=> .lst
 | .t=> .tup
def SK.ob:SK->Addr->Obj
 | .l=>oL
 | .t=>oT
theorem SK.nx (k:SK){i l:Addr}(h:l ≠ i)(xs:Array Value):ub i [i,l] (λn=>xs[n]?) (λn hp=>k.it hp i l n/\k.has hp l xs):=by
 cases k with
 | l=>exact xF h xs
 | t=>exact Kz h xs
theorem SK.of (k:SK)(l:Addr)(xs:Array Value):xK l (k.ob l) (λh=>k.has h l xs):=by
 cases k with
 | l=>exact xL l xs
 | t=>exact KA l xs
theorem SK.start (k:SK){h:Heap}{i l:Addr}(e:h.get? i=some (k.ob l)):k.it h i l 0:=by
 cases k with
 | l=>exact⟨_,e,rfl,rfl⟩
 | t=>exact⟨_,e,rfl,rfl⟩
theorem SK.obj {k:SK}{h:Heap}{i l:Addr}{n:Nat}(x:k.it h i l n):∃o,h.get? i=some o/\∀v,o.data ≠ .cell v:=by
 cases k with
 | l=>obtain⟨o,e,_,d⟩:=x;exact⟨o,e,λv z=>by rw[d]at z;cases z⟩
 | t=>obtain⟨o,e,_,d⟩:=x;exact⟨o,e,λv z=>by rw[d]at z;cases z⟩
theorem SK.at_ {k:SK}{h h' :Heap}{i l:Addr}{n:Nat}(x:k.it h i l n)(q:∀o,h.get? i=some o->h'.get? i=some o):k.it h' i l n:=by
 cases k with
 | l=>obtain⟨o,e,r⟩:=x;exact⟨o,q o e,r⟩
 | t=>obtain⟨o,e,r⟩:=x;exact⟨o,q o e,r⟩
theorem SK.sqOf {K:al}(k:SK){H:Hp}{a:Addr}{xs:List V}(e:H a=some (k.tr xs)):k.sq K H a xs:=by
 cases k with
 | l=>exact SqL.of e
 | t=>exact SqT.of e
theorem Inv.seq {X:Cx}{pins:List (Addr×Obj)}{σ:Sg}{H:Hp}{s:Shared}(I:L2.Inv X pins σ H s)(k:SK){a:Addr}{xs:List V}(h:k.sq X.K H a xs):∃its:List Value,Z1 xs its/\k.has s.heap a its.toArray/\∃o,s.heap.get? a=some o:=by
 cases k with
 | l=>
  obtain⟨its,r,p,_⟩:=I.list h;obtain⟨o,_,e,_⟩:=id p;exact⟨its,r,p.isList,o,e⟩
 | t=>
  obtain⟨its,r,p,_⟩:=I.tuple h;obtain⟨o,e,_⟩:=id p;exact⟨its,r,p,o,e⟩
def Itz (K:al)(k1 k2:SK)(l1 l2:Addr):It:=
 ⟨λi H=>∃xs ys x y,k1.sq K H l1 xs/\k2.sq K H l2 ys/\xs[i]? =some x/\ys[i]? =some y,λi H v H' =>∃p x y,H p=none/\v= .ref p/\(∀xs,k1.sq K H l1 xs->xs[i]? =some x)/\(∀ys,k2.sq K H l2 ys->ys[i]? =some y)/\H' =upd H p (.tup [x,y]),
  λi H=>∃xs ys,k1.sq K H l1 xs/\k2.sq K H l2 ys/\(xs.length<=i\/ys.length<=i)⟩
theorem Inv.seq_inj {X:Cx}{pins:List (Addr×Obj)}{σ:Sg}{H:Hp}{s:Shared}(I:L2.Inv X pins σ H s)(k:SK){a:Addr}{xs ys:List V}(h:k.sq X.K H a xs)(h' :k.sq X.K H a ys):xs=ys:=by
 cases k with
 | l=>exact I.list_inj h h'
 | t=>exact I.tuple_inj h h'
theorem nN {a b:Nat}(h:a ≠ b): @Ne Addr a b:=h
theorem nM {a b c:Nat}(h:a ≠ b)(h' :a ≠ c):¬ @Membership.mem Addr (List Addr) _ [b,c] a:=λq=>by
 rcases ak.mp q with z | z
 ·exact h z
 ·exact h' (aC.mp z)
theorem QM {P:Program}{w:World}{K:al}{elts:List Expr}{kk:Nat}{pt:Pos}(k1 k2:SK){n l1 l2:Nat}(h1:l1 < n)(h2:l2 < n):
  yx P w K (.Tuple elts kk pt) (Itz K k1 k2 l1 l2) [n+4,n+2,n+3,n,n+1] (n+4)
   (λi h=>IsZip h (n+4) (n+2) (n+3) .none/\IsPair h (n+2) (.ref n) (.ref (n+1))/\(∃a b,IsPair h (n+3) a b)/\k1.it h n l1 i/\k2.it h (n+1) l2 i):=by
 have D:Ap (n+4) (n+2) (n+3) n (n+1) [n,l1] [n+1,l2]:=by
  refine⟨nN (by omega),nN (by omega),nN (by omega),nN (by omega),nN (by omega),nM (by omega) (by omega),nM (by omega) (by omega),nM (by omega) (by omega),nM (by omega) (by omega),nM (by omega) (by omega),nM (by omega) (by omega)⟩
 refine⟨by simp,λi h st b hb=> ?_,λi h h' st k=> ?_, ?_, ?_, ?_⟩
 ·obtain⟨hz,hI,⟨a,c,hO⟩,p1,p2⟩:=st;simp only[ak,bp,or_false]at hb;rcases hb with rfl | rfl | rfl | rfl | rfl
  ·exact⟨_,hz,λv z=>nomatch z⟩
  ·exact⟨_,hI,λv z=>nomatch z⟩
  ·exact⟨_,hO,λv z=>nomatch z⟩
  ·exact SK.obj p1
  ·exact SK.obj p2
 ·obtain⟨hz,hI,⟨a,c,hO⟩,p1,p2⟩:=st;exact⟨k _ (by simp) _ hz,k _ (by simp) _ hI,⟨a,c,k _ (by simp) _ hO⟩,SK.at_ p1 λo e=>k n (by simp) o e,SK.at_ p2 λo e=>k (n+1) (by simp) o e⟩
 ·intro X hP hw hK hc i pins s σ H E I hf st hg;subst hP hw hK;obtain⟨xs,ys,x,y,s1,s2,hx,hy⟩:=hg;obtain⟨hz,hI,⟨a,c,hO⟩,p1,p2⟩:=st;obtain⟨its1,r1,b1,_⟩:=Inv.seq I k1 s1;obtain⟨its2,r2,b2,_⟩:=Inv.seq I k2 s2;obtain⟨u,hu,ru⟩:=r1.get hx;obtain⟨v,hv,rv⟩:=r2.get hy;refine xI (k1.nx (aw h1) its1.toArray) (k2.nx (i:=n+1) (nN (by omega)) its2.toArray) D hz hI hO ⟨p1,b1⟩ ⟨p2,b2⟩ (x:=u) (y:=v) (by simpa using hu) (by simpa using hv) λg a1 a2 a3 a4 a5 kp=>⟨_,rfl, ?_⟩
  refine wpAny_letOwnedTupleGo_zip a1 λg2 z2 e2=> ?_;have hlt:n+4 < s.heap.objs.size:=ao hz;have ne:∀b:Nat,b<=n+4->s.heap.objs.size ≠ b:=λb hb=>by
   have hlt:n+4 < s.heap.objs.size:=hlt;omega
  have kp2:∀b o,b ∉ [n+4,n+2,n+3,n,n+1]->s.heap.get? b=some o->g2.get? b=some o:=λb o hb e=>by
   simp only[ak,bp,or_false,not_or]at hb;exact e2.extBut _ _ hb.1 (kp b o hb.1 hb.2.2.1 hb.2.2.2.1 hb.2.2.2.2 e)
  have g2P:IsPair g2 s.heap.objs.size u v:=e2.extBut _ _ (ne _ (am _)) a5;have g2I:IsPair g2 (n+2) (.ref n) (.ref (n+1)):=e2.extBut _ _ D.Iz (kp _ _ D.Iz D.IO D.I1 D.I2 hI);have g2O:IsPair g2 (n+3) u v:=e2.extBut _ _ D.Oz a2;have q1:k1.it g2 n l1 (i+1):=SK.at_ a3.1 λo e=>e2.extBut _ _ (nN (by omega)) e
  have q2:k2.it g2 (n+1) l2 (i+1):=SK.at_ a4.1 λo e=>e2.extBut _ _ (nN (by omega)) e
  have hfr:H s.heap.objs.size=none:=I.hok.fresh (am _);refine⟨.ref s.heap.objs.size,upd H s.heap.objs.size (.tup [x,y]),Inv.laidT (s:=s) (h' :=g2) (ch:=[n+4,n+2,n+3,n,n+1]) (tk:=s.toks) I hf kp2 (λb o hb _=> ?_) (am _)
   ⟨by rw[bI];show 2<=16777216;decide,[u,v],.cons ru (.cons rv .nil),⟨_,g2P,rfl,_,rfl⟩,.inr ⟨_,g2P,rfl⟩⟩,rfl,⟨_,x,y,hfr,rfl,λzs hq=>by rw[← Inv.seq_inj I k1 s1 hq];exact hx,λzs hq=>by rw[← Inv.seq_inj I k2 s2 hq];exact hy,rfl⟩,⟨z2,g2I,⟨u,v,g2O⟩,q1,q2⟩,λb hb=> ?_⟩
  ·simp only[ak,bp,or_false]at hb;rcases hb with rfl | rfl | rfl | rfl | rfl
   ·exact⟨_,z2⟩
   ·exact⟨_,g2I⟩
   ·exact⟨_,g2O⟩
   ·obtain⟨o',e',_⟩:=SK.obj q1;exact⟨o',e'⟩
   ·obtain⟨o',e',_⟩:=SK.obj q2;exact⟨o',e'⟩
  ·have hb2:(b:Nat)<=n+4:=by
    have hb:b=n+4\/b=n+2\/b=n+3\/b=n\/b=n+1:=by simpa using hb
    rcases hb with rfl | rfl | rfl | rfl | rfl
    ·exact am _
    ·exact eP (by decide) n
    ·exact eP (by decide) n
    ·exact dC _ _
    ·exact eP (by decide) n
   rw[zr λz=>ne b hb2 z.symm];exact(hf b hb).1
 ·intro X hP hw hK hc i pins s σ H E I hf st hg;subst hP hw hK;obtain⟨xs,ys,s1,s2,hend⟩:=hg;obtain⟨hz,hI,⟨a,c,hO⟩,p1,p2⟩:=st;obtain⟨its1,r1,b1,_⟩:=Inv.seq I k1 s1;obtain⟨its2,r2,b2,_⟩:=Inv.seq I k2 s2;have l1' :=r1.length;have l2' :=r2.length;refine xJ (I.ok.hd hc) (k1.nx (aw h1) its1.toArray) (k2.nx (i:=n+1) (nN (by omega)) its2.toArray) D hz hI hO ⟨p1,b1⟩ ⟨p2,b2⟩ (k:=i) ?_ λg kp=>⟨rfl, ?_⟩
  ·rcases hend with q | q
   ·exact .inl (bR (by rw[az,← l1'];exact q))
   ·exact .inr (bR (by rw[az,← l2'];exact q))
  ·have kp2:∀b o,b ∉ [n+4,n+3,n,n+1]->s.heap.get? b=some o->g.get? b=some o:=λb o hb e=>by
    simp only[ak,bp,or_false,not_or]at hb;exact kp b o hb.1 hb.2.1 hb.2.2.1 hb.2.2.2 e
   have nch:∀b u,H b=some u->b ∉ [n+4,n+3,n,n+1]:=λb u e hb=>by
    have hb' :b∈[n+4,n+2,n+3,n,n+1]:=by
     simp only[ak,bp,or_false]at hb ⊢;rcases hb with q | q | q | q
     ·exact .inl q
     ·exact .inr (.inr (.inl q))
     ·exact .inr (.inr (.inr (.inl q)))
     ·exact .inr (.inr (.inr (.inr q)))
    rw[(hf b hb').1]at e;cases e
   refine I.call' (s' :={ s with heap:=g }) (ch:=[n+4,n+3,n,n+1]) rfl ⟨λb o e _ _ hc=>kp2 b o hc e,λb o e _ _ hc=>⟨o.slots,kp2 b o hc e⟩,λb o e q _=>q,λb o e hc=>⟨o,kp2 b o hc e⟩,λb ys e=>e,λb o u e=>e,λb ps e=>⟨#[],by rw[e];simp⟩⟩ (λb u e=> ?_) I.bare λb hb=> ?_
   ·refine(I.hok b u e).stay (λc v hc q=>kp2 c v ?_ q) (λ_ q=>q) λ_ _ q=>q;rcases hc with rfl | hc
    ·exact nch c u e
    ·exact nch c _ hc
   ·have hb' :b∈[n+4,n+2,n+3,n,n+1]:=by
     simp only[ak,bp,or_false]at hb ⊢;rcases hb with q | q | q | q
     ·exact .inl q
     ·exact .inr (.inr (.inl q))
     ·exact .inr (.inr (.inr (.inl q)))
     ·exact .inr (.inr (.inr (.inr q)))
    obtain⟨f0,f1,f2,f3,f4,f5⟩:=hf b hb';exact⟨f3,f1,f4,f5⟩
 ·intro A i s Q E st h;exact wpAny_pyIter_zip st.1 h
def Qf (xs ys:List T):List T:=(xs.zip ys).map λp=>T.tup [p.1,p.2]
theorem QN {xs ys:List T}{i:Nat}{t:T}(h:(Qf xs ys)[i]? =some t):∃x y,xs[i]? =some x/\ys[i]? =some y/\t= .tup [x,y]:=by
 unfold Qf at h;rw[ax]at h;cases e:(xs.zip ys)[i]? with
 | none=>rw[e]at h;cases h
 | some p=>
  rw[e]at h;cases h;have:=ce.mp e;exact⟨p.1,p.2,this.1,this.2,rfl⟩
theorem uc (xs ys:List T):(Qf xs ys).length=min xs.length ys.length:=by unfold Qf;simp
theorem KD {K:al}{B1 H1:Hp}{k1 k2:SK}{a b:Addr}{xs ys:List V}{ts us:List T}(ha:B1 a=some (k1.tr xs))(hb:B1 b=some (k2.tr ys))(ra:zI B1 xs ts)(rb:zI B1 ys us):rI B1 H1 (Itz K k1 k2 a b) (Qf ts us):=λB2 H2 s1 s2=>by
 have a2:=k1.sqOf (K:=K) (s2 _ _ (s1 _ _ ha));have b2:=k2.sqOf (K:=K) (s2 _ _ (s1 _ _ hb));rw[uc];refine⟨λi hi=> ?_,λi t x H3 e y=> ?_,λi hi=>⟨xs,ys,a2,b2, ?_⟩⟩
 ·obtain⟨v,e1,_⟩:=ra.get (ac (show i < ts.length by omega))
  obtain⟨u,e2,_⟩:=rb.get (ac (show i < us.length by omega))
  exact⟨xs,ys,v,u,a2,b2,e1,e2⟩
 ·obtain⟨p,v,u,hp,rfl,y1,y2,rfl⟩:=y;obtain⟨t1,t2,et,eu,rfl⟩:=QN e;obtain⟨v',e1,r1⟩:=ra.get et;obtain⟨u',e2,r2⟩:=rb.get eu;have q1:=y1 xs a2;have q2:=y2 ys b2;rw[e1]at q1;cases q1;rw[e2]at q2;cases q2;have up:=zS.ge s2 (zw.new hp (.tup [v,u]));exact⟨zw.new hp _,.tup (jq hp _) (.cons ((r1.mono s1).mono up) (.cons ((r2.mono s1).mono up) .nil))⟩
 ·rw[ra.length,rb.length];omega
section
variable {X:Cx}{Y:Fx}{a b:Expr}{fa fb:En->R T}{pos p pt:Pos}{elts:List Expr}{kk:Nat}
theorem KF {ta:TA}(hg:Gl X "zip")(hm:X.mg "zip"=none)(ha:PA X [a,b] ta)(hs:starEach [a,b] X.env=[(false,eval a X.env),(false,eval b X.env)])(hs2:starEach [b] X.env=[(false,eval b X.env)]):
  PI X (.Tuple elts kk pt) (.Call (.Name "zip" p) [a,b] [] pos) (λσ H R=>ta σ H λvs H1=>∃k1 k2 l1 l2 xs ys,vs=[.ref l1,.ref l2]/\H1 l1=some (SK.tr k1 xs)/\H1 l2=some (SK.tr k2 ys)/\R (Itz X.K k1 k2 l1 l2) H1):=by
 intro pins s σ H R I h;refine Call_ (ZS I hg hm PyProof.Rows.Boot.«zip» (aN (thn (ha pos pins s σ H _ I h) λus s1 ⟨vs,H1,I1,r1,q1⟩=> ?_) (by rw[hs,hs2]) (by rw[hs2];rfl)))
 obtain⟨k1,k2,l1,l2,xs,ys,e,h1,h2,q⟩:=q1;subst e;obtain⟨u,v,rfl,ru,rv⟩:=UI r1;obtain rfl:u=Value.ref l1:=ru;obtain rfl:v=Value.ref l2:=rv;obtain⟨its1,_,b1,o1,e1⟩:=Inv.seq I1 k1 (k1.sqOf h1);obtain⟨its2,_,b2,o2,e2⟩:=Inv.seq I1 k2 (k2.sqOf h2);refine xM (k1.of l1 its1.toArray) (k2.of l2 its2.toArray) b1 b2 λg n hn z1 z2 z3 z4 z5 kp=>wpAny_pyIter_zip z1 ?_;subst hn;have f:∀b∈[s1.heap.objs.size+4,s1.heap.objs.size+2,s1.heap.objs.size+3,s1.heap.objs.size,s1.heap.objs.size+1],WY X pins H1 b:=λb hb=>by
  have hb' :s1.heap.objs.size<=b:=by
   simp only[ak,bp,or_false]at hb;rcases hb with rfl | rfl | rfl | rfl | rfl
   ·exact dC _ _
   ·exact dC _ _
   ·exact dC _ _
   ·exact am _
   ·exact dC _ _
  exact I1.fpOk hb' (I1.hok.fresh hb')
 exact⟨s1.heap.objs.size+4,_,_,_,H1,rfl,I1.kept (t' :=s1.toks) kp,QM k1 k2 (ao e1) (ao e2),⟨z1,z2,⟨_,_,z3⟩,SK.start k1 z4,SK.start k2 z5⟩,f,q⟩
def j3:T->R (List T)
 | .lst xs=> .ok xs
 | .tup xs=> .ok xs
 | _=> .bad
def Qg (fa fb:En->R T):En->R (List T):=λρ=>(fa ρ).bind λt=>(fb ρ).bind λu=>(j3 t).bind λxs=>(j3 u).bind λys=> .ok (Qf xs ys)
theorem Ye {B:Hp}{v:V}{t:T}{xs:List T}(r:Rep B v t)(e:j3 t= .ok xs):∃(k:SK) (a:Addr) (vs:List V),v= .ref a/\B a=some (k.tr vs)/\zI B vs xs:=by
 cases r with
 | lst h r=>cases e;exact⟨.l,_,_,rfl,h,r⟩
 | tup h r=>cases e;exact⟨.t,_,_,rfl,h,r⟩
 | _=>cases e
theorem uS (t:T)(c:Nat):j3 t ≠ .ex c:=by cases t <;> exact λz=>nomatch z
theorem z1I (hg:Gl X "zip")(hm:X.mg "zip"=none)(ha:Snd X Y a fa)(hb:Snd X Y b fb)(hs:starEach [a,b] X.env=[(false,eval a X.env),(false,eval b X.env)]:=by exact st2 rfl rfl)(hs2:starEach [b] X.env=[(false,eval b X.env)]:=by exact st1 rfl):
  ym X Y (.Tuple elts kk pt) (.Call (.Name "zip" p) [a,b] [] pos) (Qg fa fb):= .mk λρ=>
 PI.imp (KF hg hm (zo (ha ρ) (zo (hb ρ) zU hs2) (by rw[hs,hs2])) hs hs2) λσ H R ⟨B,I,q⟩=>step I q λt v H1 _ s1 r1 I1 q1=>step I1 q1 λu v' H2 _ s2 r2 I2 q2=>by
  cases e1:j3 t with
  | bad=>rw[e1]at q2;exact q2.elim
  | ex c=>exact absurd e1 (uS _ _)
  | ok xs=>
   rw[e1]at q2;cases e2:j3 u with
   | bad=>rw[e2]at q2;exact q2.elim
   | ex c=>exact absurd e2 (uS _ _)
   | ok ys=>
    rw[e2]at q2;obtain⟨k1,a1,vs1,rfl,h1,w1⟩:=Ye (r1.mono (zS.ge I1.sB s2)) e1;obtain⟨k2,a2,vs2,rfl,h2,w2⟩:=Ye r2 e2;exact⟨k1,k2,a1,a2,vs1,vs2,rfl,I2.sB _ _ h1,I2.sB _ _ h2,ZX I2 (show Po Y rI _ H2 (.ok (Qf xs ys)) R from q2) (KD h1 h2 w1 w2)⟩
end
end PV
namespace PV
open PySem PySem.Spec PyProof.Rows L2
section
variable {X:Cx}{Y:Fx}{a b:Expr}{fa fb:En->R T}{pos p p' pos' :Pos}
def W5:T->R T
 | .bl b=> .ok (.int (b2 b))
 | .int i=> .ok (.int i)
 | _=> .bad
theorem z1J (v:V)(t:T)(B H:Hp)(Q:VK)(r:Rep B v t)(sB:zw B H)(q:Po Y rC B H (W5 t) Q):
  (∃i,[v]=[V.int i]/\Q (.int i) H)\/∃k,[v]=[V.bl k]/\Q (.int (if k then 1 else 0)) H:=by
 cases r with
 | int i=>exact .inl ⟨i,rfl,po0 sB q rfl (.int i)⟩
 | bl k=>exact .inr ⟨k,rfl,po0 sB q rfl (by cases k <;> exact .int _)⟩
 | _=>exact q.elim
theorem KG (gl:Gl X "int")(mg:X.mg "int"=none)(ha:Snd X Y a fa)(hs:St1 X a:=by exact st1 rfl):Snd X Y (.Call (.Name "int" p) [a] [] pos) (ap1 W5 fa):=
 vY yF z1J gl mg (PyProof.Rows.Boot.«int») ha hs
theorem Yf:Zq X (.type "range") (λxs H Q=>∃i j,xs=[.int i,.int j]/\∀r,H r=none->Q (.ref r) (upd H r (.rng i j))):=by
 intro pins s σ H xs us Q I r h;obtain⟨i,j,rfl,q⟩:=h;obtain⟨u,v,rfl,ru,rv⟩:=UI r;obtain⟨t,rfl⟩:=ru;obtain⟨t',rfl⟩:=rv;exact call_range_2 ⟨.ref s.heap.objs.size,_,I.laid (t' :=s.toks+1) (λb o e=>ad _ e) (am _) (show Z7 X.prog X.w _ _ _ (.rng i j) from ⟨_,_,_,ah _ rfl⟩),rfl,q _ (I.hok.fresh (am _))⟩
def Qh (lo:Int)(n:Nat):List V:=(aX n).map λ(i:Nat)=>V.int (lo+(i:Int))
theorem wE (hh:X.A.handled=none):Zq X (.type "list") (λxs H Q=>∃r lo hi,xs=[.ref r]/\H r=some (.rng lo hi)/\(-1000000 < lo/\lo < 1000000/\ -1000000 < hi/\hi < 1000000)/\∀l,H l=none->Q (.ref l) (upd H l (.lst (Qh lo (hi - lo).toNat)))):=by
 intro pins s σ H xs us Q I rv h;obtain⟨r,lo,hi,rfl,e,⟨c1,c2,c3,c4⟩,q⟩:=h;obtain⟨u,rfl,ru⟩:=ZI rv;obtain rfl:u=Value.ref r:=ru;obtain⟨t,v,v',eo⟩:=(show Z7 X.prog X.w H s.heap r (.rng lo hi) from I.hok r _ e);have hn:fD lo hi 1=((hi - lo).toNat:Int):=by rw[rangeSize_one];split <;> omega
 refine call_list_range (n:=(hi - lo).toNat) hh eo (small_one (by omega) (by omega) (by omega) (by omega)) hn (by omega) λh' tk acc c kp eo' hacc=> ?_
 have hv:Z1 (Qh lo (hi - lo).toNat) acc.toList:=by
  have key:∀(n:Nat) (lo:Int) (vs:List Value),vs.length=n->(∀(j:Nat) (v:Value),vs[j]? =some v->∃t,v=Value.int (lo+(j:Int)) t)->Z1 (Qh lo n) vs:=by
   intro n
   induction n with
   | zero=>
    intro lo vs hl _;rw[List.eq_nil_of_length_eq_zero hl];exact .nil
   | succ n ih=>
    intro lo vs hl hv;cases vs with
    | nil=>cases hl
    | cons v vs=>
     have e:Qh lo (n+1)=V.int (lo+0) :: Qh (lo+1) n:=by
      unfold Qh;rw[dS,ar,aF];refine congrArg _ (bc λj _=> ?_);show V.int (lo+((j+1:Nat):Int))=V.int (lo+1+(j:Int));congr 1;omega
     rw[e];refine .cons (hv 0 v rfl) (ih (lo+1) vs (by simpa using hl) λj x hx=> ?_)
     obtain⟨t,z⟩:=hv (j+1) x (by simpa using hx)
     exact⟨t,by rw[z];congr 1;omega⟩
  refine key _ lo acc.toList (by simpa using hacc.1) λj v hj=> ?_
  obtain⟨t,z⟩:=hacc.2 j v (by simpa using hj)
  exact⟨t,by rw[z];congr 1;omega⟩
 have hz:(Qh lo (hi - lo).toNat).length<=sizeLine:=by
  rw[bI];unfold Qh;rw[af,bu];omega
 exact⟨.ref s.heap.objs.size,_,I.laid (t' :=tk) kp (am _) (show Z7 X.prog X.w _ h' _ (.lst _) from ⟨hz,acc.toList,c,hv,by simpa using eo'⟩),rfl,q _ (I.hok.fresh (am _))⟩
def GY (fi:En->R (List T)):En->R T:=λρ=>(fi ρ).bind λts=> .ok (.lst ts)
theorem Yg {B:Hp}(lo:Int)(n:Nat):zI B (Qh lo n) (rng lo n):=by
 unfold Qh rng
 induction aX n with
 | nil=>exact .nil
 | cons i is ih=>exact .cons (.int _) ih
theorem xN (hh:X.A.handled=none)(gl:Gl X "list")(mg:X.mg "list"=none)(gl' :Gl X "range")(mg' :X.mg "range"=none)(ha:Snd X Y a fa)(hb:Snd X Y b fb)
  (hs:starEach [a,b] X.env=[(false,eval a X.env),(false,eval b X.env)]:=by exact st2 rfl rfl) (hs2:St1 X b:=by exact st1 rfl):Snd X Y (.Call (.Name "list" p) [.Call (.Name "range" p') [a,b] [] pos'] [] pos) (GY (J0 fa fb)):= .mk λρ=>
 PE.imp (ZT (wE hh) gl mg PyProof.Rows.Boot.«list» (zo (ZT Yf gl' mg' boot_range (zo (ha ρ) (zo (hb ρ) zU hs2) (by rw[hs,hs2])) (by decide) (by decide) (by rw[hs,hs2]) (by rw[hs2];rfl)) zU (st1 rfl)) (by decide) (by decide) (st1 rfl) rfl) λσ H Q ⟨B,I,q⟩=>by
  have q:Po Y rC B H ((fa ρ).bind λt=>(fb ρ).bind λt' =>(match t,t' with | .int i,.int j=>if -1000000 < i/\i < 1000000/\ -1000000 < j/\j < 1000000 then R.ok (rng i (j - i).toNat) else .bad | _,_=> .bad).bind λts=> .ok (.lst ts)) Q:=by
   revert q;unfold GY J0;cases fa ρ with
   | ok t=>cases fb ρ <;> exact λq=>q
   | ex c=>exact λq=>q
   | bad=>exact λq=>q
  refine step I q λt v H1 _ s1 r1 I1 q1=>step I1 q1 λt' v' H2 _ s2 r2 I2 q2=> ?_;cases r1 with
  | int i=>
   cases r2 with
   | int j=>
    by_cases c: -1000000 < i/\i < 1000000/\ -1000000 < j/\j < 1000000
    ·dsimp only at q2;rw[if_pos c]at q2;refine⟨i,j,rfl,λr hr=>⟨r,i,j,rfl,zv,c,λl hl=> ?_⟩⟩;have hlr:l ≠ r:=λz=>by rw[z,zv]at hl;cases hl
     have hl2:H2 l=none:=by rw[zr hlr]at hl;exact hl
     refine q2 _ _ (zw.new hr _ |>.trans (zw.new hl _)) (.lst ?_ (Yg _ _))
     rw[Zi hl2,zv]
    ·dsimp only at q2;rw[if_neg c]at q2;exact q2.elim
   | _=>exact q2.elim
  | _=>cases r2 <;> exact q2.elim
def mvS (i j:Nat):En->RS:=λρ=>match ρ[j]? with
 | some (.ow ts)=> .nx ((ρ.set j (.vl (.lst ts))).set i (.vl (.lst ts)))
 | _=> .bad
theorem SI.give {Y:Fx}{B:Hp}{ρ:En}{σ:Sg}{H:Hp}(I:SI Y B ρ σ H){j:Nat}{ts:List T}(hj:ρ[j]? =some (.ow ts)):∃(a:Addr) (B' :Hp),σ[j]? =some (some (V.ref a))/\zw B B' /\Rep B' (.ref a) (.lst ts)/\SI Y B' (ρ.set j (.vl (.lst ts))) σ H:=by
 obtain⟨a,xs,e,b0,h0,hh,rr,d⟩:=I.ow j ts hj;have s1:zw B (upd B a (.lst xs)):=zw.new b0 _;have rp:Rep (upd B a (.lst xs)) (.ref a) (.lst ts):= .lst zv (rr.mono s1);refine⟨a,_,e,s1,rp,⟨I.s0,I.sH,λb o q=> ?_,λb o q=> ?_,by rw[cx];exact I.len,λk t q=> ?_,λk us q=> ?_,λk c q=> ?_⟩⟩
 ·by_cases hb:b=a
  ·subst hb;rw[zv]at q;cases q;exact hh
  ·rw[zr hb]at q;exact I.sB b o q
 ·rw[zr λz=>by rw[z,h0]at q;cases q];exact I.old b o q
 ·rcases zZ q with ⟨rfl,z⟩ | ⟨_,z⟩
  ·cases z;exact⟨_,e,rp⟩
  ·obtain⟨v,e1,r⟩:=I.vl k t z;exact⟨v,e1,r.mono s1⟩
 ·rcases zZ q with ⟨rfl,z⟩ | ⟨hk,z⟩
  ·cases z
  ·obtain⟨a',xs',e',b0',h0',hh',rr',d'⟩:=I.ow k us z;have hne:a' ≠ a:=λw=>by subst w;exact d k us hk z e'
   refine⟨a',xs',e',by rw[zr hne];exact b0',h0',hh',rr'.mono s1,λm ws hm hw=> ?_⟩
   rcases zZ hw with ⟨rfl,w⟩ | ⟨_,w⟩
   ·cases w
   ·exact d' m ws hm w
 ·rcases zZ q with ⟨rfl,z⟩ | ⟨_,z⟩
  ·cases z
  ·obtain⟨a',e',r⟩:=I.xc k c z;exact⟨a',e',s1 _ _ r⟩
theorem s_mv {i j:Nat}{x y:Str}{yp:Pos}(hv:PE X (.Name y yp) (Qb j))(hN:X.N.Nodup)(hi:X.N[i]? =some x)(hx:L2.Loc X.env.scope x)(hs:swapsWith (.Name y yp) (some (.Name x p')) pos.line X.env=pure false:=by rfl)
  (hf:X.fn x=true\/X.env.scope.names.lookup x=some .local:=by first | exact .inl rfl | exact .inr rfl | assumption):wA X Y (.Assign [.Name x p'] (.Name y yp) pos) (mvS i j):= .mk λρ=>
 PS.imp (uI hN hi hx hv hs hf) λD σ H ⟨B,I,q⟩=>by
  unfold mvS at q;split at q
  ·rename_i ts e;obtain⟨a,B',e1,s1,r,J⟩:=I.give e;exact⟨_,e1,q _ _ B' s1 (J.setV i r)⟩
  ·exact q.elim
end
section
variable {X:Cx}{Y:Fx}{a b:Expr}{fa fb:En->R T}{pos p p' pos' :Pos}
end
def Zc:List T->Option (List Int)
 | []=>some []
 | .int i :: r=>match Zc r with | some l=>some (i :: l) | none=>none
 | _ :: _=>none
def xO:T->R T
 | .lst ts=>match Zc ts with | some l=> .ok (.int l.sum) | none=> .bad
 | _=> .bad
def GZ:En->RS:=λ_=> .bad
theorem z1K {X:Cx}{Y:Fx}{st:Stmt}:wA X Y st GZ:= .mk λρ=>λpins s σ H D I ⟨B,J,q⟩=>q.elim
theorem ud:∀{H:Hp} {xs:List V} {ts:List T} {its:List Value} {is:List Int},zI H xs ts->Z1 xs its->Zc ts=some is->∃ps:List (Int×Tok),its=ps.map (λp=>Value.int p.1 p.2)/\ps.map (·.1)=is
 | _,_,_,_,is,.nil,.nil,h=>by
  have h' :some []=some is:=h;cases h';exact⟨[],rfl,rfl⟩
 | H,_,_,_,is,.cons (v:=x) (t:=t) r rs,.cons (b:=u) rv vs,h=>by
  cases r with
  | int i=>
   unfold Zc at h;split at h
   ·rename_i l e;cases h;obtain⟨ps,h1,h2⟩:=ud rs vs e;obtain⟨tk,rfl⟩:=rv;exact⟨(i,tk) :: ps,by rw[h1];rfl,by rw[ar,h2]⟩
   ·cases h
  | _=>cases h
section
variable {X:Cx}{Y:Fx}{a b:Expr}{fa fb:En->R T}{pos p p' pos' :Pos}
theorem Yh (hh:X.A.handled=none):Zq X (.builtin "sum") (λvs H Q=>∃l xs ts is,vs=[.ref l]/\H l=some (.lst xs)/\zI H xs ts/\Zc ts=some is/\Q (.int is.sum) H):=by
 intro pins s σ H vs us Q I rv h;obtain⟨l,xs,ts,is,rfl,hl,r,hk,q⟩:=h;obtain⟨u,rfl,ru⟩:=ZI rv;obtain rfl:u=Value.ref l:=ru;obtain⟨its,rv,p,_⟩:=zP I (.inl hl) r;obtain⟨ps,h1,h2⟩:=ud r rv hk;have e:its.toArray=intItems ps.toArray:=by rw[h1];simp[intItems]
 rw[e]at p;refine sum_intListG hh p λh' tk t' kp=> ?_;have e2:preSum (numAt ps.toArray) ps.toArray.size=is.sum:=by
  rw[preSum_eq,List.take_of_length_le (by simp),← h2]
 rw[e2];exact⟨.int is.sum,H,I.kept (t' :=tk) kp,⟨t',rfl⟩,q⟩
theorem z1L (hh:X.A.handled=none)(gl:Gl X "sum")(mg:X.mg "sum"=none)(ha:jw X Y a fa)(hs:St1 X a:=by exact st1 rfl):Snd X Y (.Call (.Name "sum" p) [a] [] pos) (ap1 xO fa):=
 uM (Yh hh) (λv t B H Q r sB q=>by
  cases r with
  | @lst l xs ts h r=>
   have q:Po Y rC B H (match Zc ts with | some k=> .ok (.int k.sum) | none=> .bad) Q:=q
   split at q
   ·rename_i k e;exact⟨l,xs,ts,k,rfl,h,r,e,po0 sB q rfl (.int _)⟩
   ·exact q.elim
  | _=>exact q.elim) gl mg boot_sum ha hs
end
section
variable {X:Cx}{Y:Fx}{a b:Expr}{fa fb:En->R T}{pos p p' pos' :Pos}
end
section
variable {X:Cx}{Y:Fx}{tg iter elt:Expr}{ifs:List Expr}{scope:Scope}{pos pos' :Pos}{N' :List Str}{k:Nat}{js:List Nat}{fi:En->R (List T)}{tG:TG}{g:T->En->R En}{ft:En->R Bool}{fe:En->R T}
end
section
variable {P:Program}{w:World}{K:al}{mg:Str->Option Value}{base:Heap}
end
end PV
namespace PySem.RV
open PySem PySem.Spec PyProof.Rows PySem.Builtin.SmallTypes
theorem wF:Manifest.owners.lookup (String.ofList "desrever".toList.reverse)=some Manifest.sig_reversed:=by kernel_rfl
theorem j7:Slot "reversed" "__next__" "reversed.__next__":=
 .of (owner:="reversed") (n:="__next__") (by rw[bn,aO];kernel_rfl) (by decide+kernel) (by decide+kernel) (by decide+kernel)
  (by first | exact .inl (by decide+kernel) | exact .inr (by decide+kernel)) (by rw[bV];kernel_rfl)
theorem we:entryFor table "reversed.__next__"=some Builtin.«reversed.__next__»:=entryFor_of_tree (by kernel_rfl)
theorem Wu (a:Value):argsOk "reversed.__next__" ⟨[a],[]⟩:=by
 unfold argsOk;rw[signature?_of (id:="reversed.__next__") (n:="__txen__".toList) (o:="desrever".toList) (by kernel_rfl) wF];kernel_rfl
theorem Wv:Slot "reversed" "__iter__" "reversed.__iter__":=
 .of (owner:="reversed") (n:="__iter__") (by rw[bn,aO];kernel_rfl) (by decide+kernel) (by decide+kernel) (by decide+kernel)
  (by first | exact .inl (by decide+kernel) | exact .inr (by decide+kernel)) (by rw[bV];kernel_rfl)
theorem Yi (a:Value):argsOk "reversed.__iter__" ⟨[a],[]⟩:=by
 unfold argsOk;rw[signature?_of (id:="reversed.__iter__") (n:="__reti__".toList) (o:="desrever".toList) (by kernel_rfl) wF];kernel_rfl
theorem UO:entryFor table "reversed.__iter__"=some Builtin.«dict_keyiterator.__iter__»:=
 entryFor_alias (id' :="dict_keyiterator.__iter__") (by kernel_rfl) (by first | rfl | decide+kernel | (unfold String.splitOn;simp+decide [String.splitOnAux])) (by decide+kernel) (by kernel_rfl)
theorem KH:typeLookup (.type "tuple") "__reversed__"=pure none:=by rw[bn,aO];kernel_rfl
theorem KI:isSubtype (.type "tuple") (.type "dict")=pure false:=by rw[bV];kernel_rfl
abbrev IsRv (h:Heap)(it:Addr)(v:Value)(i:Int):Prop:=h.get? it=some { cls:= .type "reversed",data:= .fields #[v,rawInt i] }
section
variable {prog:Program}{w:World}{A:Around}{E:Value->Shared->Prop}{s:Shared}{it l:Addr}{xs:Array Value}
theorem JX {v:Value}{i:Int}(x:IsRv s.heap it v i):s.TypeIs (.ref it) "reversed":=⟨_,x,rfl⟩
theorem next_item {i:Nat}{x:Value}{Q:Option Value->Shared->Prop}(hit:IsRv s.heap it (.ref l) (i:Int))(ht:IsTup s.heap l xs)(hf:(xs.size:Int) < 2 ^ 63)(hx:xs[i]? =some x)
  (hQ:∀h' tk,IsRv h' it (.ref l) ((i:Int) - 1)->bL it s.heap h' ->Q (some x) { s with heap:=h',toks:=tk }):wpAny (model prog w) A (pyNext (.ref it)) Q E s:=by
 unfold pyNext;refine aa (dj (c6 (name:=aQ "__next__") (JX hit) j7 (bH j7 (JX hit) we ?_ (Wu _))));unfold Builtin.«reversed.__next__»;refine aa (bb (a:=(Value.ref it,[])) rfl ?_);dsimp only;refine aa (bm hit rfl (x:= .ref l) rfl ?_);refine aa (bm hit rfl (x:=rawInt (i:Int)) rfl ?_);show wpAny _ _ (if (i:Int) < 0 then _ else _) _ _ s
 rw[if_neg (by omega)]
 have hi:i < xs.size:=(Array.getElem?_eq_some_iff.mp hx).1;have hT:=ht.typeIs (s:=s);refine aa (cy hT slot_tuple_getitem.lookup ?_);show wpAny _ _ (if (some _:Option Value).isNone=true then _ else _) _ _ s
 rw[if_neg (by simp)]
 refine aa (wpAny_mkInt ?_);refine aa (dj (getItem_tuple (s:={ s with toks:=s.toks+1 }) ht (by omega) (by omega) (seqIndex_of (by omega) (by omega)) (by simpa using hx) ?_))
 dsimp only;refine aa (bm (s:={ s with toks:=s.toks+1 }) hit rfl (x:=rawInt (i:Int)) rfl ?_);show wpAny _ _ (setField (.ref it) 1 (rawInt ((i:Int) - 1)) >>= _) _ _ _;refine aa (aR (s:={ s with toks:=s.toks+1 }) hit (by simp) λg1 z1 e1=> ?_)
 exact ai ⟨x,rfl,ai (hQ g1 _ z1 e1)⟩
theorem next_end {Q:Option Value->Shared->Prop}(hh:A.handled=none)(hit:IsRv s.heap it (.ref l) (-1))
  (hQ:∀h',hX it s.heap h' ->Q none { s with heap:=h' }):wpAny (model prog w) A (pyNext (.ref it)) Q E s:=by
 unfold pyNext;refine aa (dj (c6 (name:=aQ "__next__") (JX hit) j7 (bH j7 (JX hit) we ?_ (Wu _))));unfold Builtin.«reversed.__next__»;refine aa (bb (a:=(Value.ref it,[])) rfl ?_);dsimp only;refine aa (bm hit rfl (x:= .ref l) rfl ?_);refine aa (bm hit rfl (x:=rawInt (-1)) rfl ?_);show wpAny _ _ (if (-1:Int) < 0 then _ else _) _ _ s
 rw[if_pos (by decide)]
 refine aa (cF ?_);refine aa (show wpAny _ _ (do setField (.ref it) 1 (rawInt (-1));setField (.ref it) 0 .none) _ _ _ from ?_)
 refine aa (aR hit (by simp) λg1 z1 e1=> ?_)
 refine aR (s:={ s with heap:=g1 }) z1 (by simp) λg2 z2 e2=> ?_
 refine aa (show wpAny _ _ (newExc (.type "StopIteration") [] >>= λe=>raiseNew e) _ _ _ from ?_);refine aa ?_;simp only[newExc,newTuple];refine aa (aJ (aa (m:=firstArgMember _ _) (bb (a:=Value.none) (by first | rfl | (simp only[firstArgMember];rfl)) (aJ ?_ (by size_fits)))) (by size_fits))
 simp only[raiseNew];refine aa (wpAny_handled ?_);rw[show A.in1.handled=none from hh];refine aa (ai (wpAny_throw ?_));refine aa (cC (T:="StopIteration") (b:=true) ⟨_,ah _ rfl,rfl⟩ isSubtype_stop ?_);exact ai (hQ _ (((e1.extBut.trans e2.extBut).push _).push _))
theorem iter_rv {v:Value}{i:Int}{Q:Value->Shared->Prop}(hit:IsRv s.heap it v i)(h:Q (.ref it) s):wpAny (model prog w) A (pyIter (.ref it)) Q E s:=by
 refine wpAny_pyIter_slot (JX hit) Wv (bH Wv (JX hit) UO ?_ (Yi _));show wpAny _ _ (ret (.ref it)) _ _ s;exact ai ⟨_,rfl,"reversed",_,JX hit,j7.lookup,h⟩
theorem V7:mroOf (.type "reversed")=pure [.type "reversed",.type "object"]:=by rw[mroOf_type];kernel_rfl
theorem KJ:typeLookup (.type "reversed") "__new__"=pure (some (.builtin "reversed.__new__")):=by rw[bn,aO];kernel_rfl
theorem xP:Bind.madeBy (.type "reversed")=pure (some "reversed.__new__"):=madeBy_type V7 KJ (by decide+kernel)
theorem V8:isSubtype (.type "reversed") (.type "reversed")=pure true:=by rw[bV];kernel_rfl
theorem KK (a:Value):newClass "reversed" ⟨[.type "reversed",a],[]⟩=pure (.type "reversed",[a]):=by
 unfold newClass;simp only[isType,V8,pure_bind,fr,aB,if_false]
theorem Yj:entryFor table "reversed.__new__"=some Builtin.«reversed.__new__»:=entryFor_of_tree (by kernel_rfl)
theorem QO {Q:Fin->Shared->Prop}(ht:IsTup s.heap l xs)(hf:(xs.size:Int) < 2 ^ 63)
  (h:∀tk,Q (.done (.ret (.ref s.heap.objs.size))) { s with heap:=s.heap.push { cls:= .type "reversed",data:= .fields #[.ref l,rawInt ((xs.size:Int) - 1)] },toks:=tk }):
  wpAny (model prog w) A (Builtin.«reversed.__new__» ⟨[.type "reversed",.ref l],[]⟩) Q E s:=by
 have hT:=ht.typeIs (s:=s);unfold Builtin.«reversed.__new__»;refine aa (bb (KK _) ?_)
 try dsimp only
 refine aa (bb (a:=()) (by first | rfl | kernel_rfl) ?_)
 refine aa (bb (a:=()) (by first | rfl | kernel_rfl) ?_)
 try dsimp only
 refine aa (cy hT KH ?_)
 try dsimp only
 refine aa (m:=(do
   if ← isInstance (.ref l) (.type "dict") then return false
   match ← specialOf (.ref l) "__getitem__" with
   | none=>return false
   | some (.builtin id)=>
    if ["tuple.__getitem__","str.__getitem__","bytes.__getitem__","bytearray.__getitem__","memoryview.__getitem__","numpy.ndarray.__getitem__","sqlite3.Row.__getitem__"].contains id then return true
    if id == "sqlite3.Blob.__getitem__" then return false
    unsupported "reversed.__new__:is-it-a-sequence"
   | some _=>return true)) ?_
 refine aa (cC hT KI ?_);rw[if_neg (by simp)]
 refine aa (cy hT slot_tuple_getitem.lookup ?_);dsimp only;rw[if_pos (by decide)]
 refine ai ?_;rw[if_neg (by simp)]
 refine aa (len_tuple ht hf ?_);refine aa (bb (a:=some (xs.size:Int)) rfl ?_);dsimp only;refine aa (show wpAny _ _ (newObj (.type "reversed") (.fields #[.ref l,rawInt ((xs.size:Int) - 1)])) _ _ _ from ?_);exact aJ (ai (h _)) (by size_fits)
theorem Yk:Slot "reversed" "__init__" "object.__init__":=
 .of (owner:="object") (n:="__init__") (by rw[bn,aO];kernel_rfl) (by decide+kernel) (by decide+kernel) (by decide+kernel)
  (by first | exact .inl (by decide+kernel) | exact .inr (by decide+kernel)) (by rw[bV];kernel_rfl)
theorem Yl:TypeCalled "reversed" "reversed.__new__" "object.__init__":=
 ⟨by decide+kernel,by decide+kernel,⟨_,_,V7⟩,xP,by decide+kernel,by rw[bV];kernel_rfl,Yk⟩
theorem QP (a:Value):checkTypeCall "reversed" ⟨[a],[]⟩=pure ():=by kernel_rfl
theorem QQ (a:Value):checkBuiltinCall "reversed.__new__" ⟨[.type "reversed",a],[]⟩=pure ():=by kernel_rfl
theorem call_rvT {Q:Value->Shared->Prop}(ht:IsTup s.heap l xs)(hf:(xs.size:Int) < 2 ^ 63)
  (h:∀tk,Q (.ref s.heap.objs.size) { s with heap:=s.heap.push { cls:= .type "reversed",data:= .fields #[.ref l,rawInt ((xs.size:Int) - 1)] },toks:=tk }):wpAny (model prog w) A (call (.type "reversed") [.ref l]) Q E s:=by
 refine callType_new (S:=λ_ R s=>(∃xs,IsTup s.heap l xs/\(xs.size:Int) < 2 ^ 63/\∀tk,R (.ok (.ret (.ref s.heap.objs.size))) { s with heap:=s.heap.push { cls:= .type "reversed",data:= .fields #[.ref l,rawInt ((xs.size:Int) - 1)] },toks:=tk })) Yl (by decide) (QP _) (QQ _) (λobj=>PySem.F.args_object_init_2 obj _) Yj (.of_wp λprog w A R s h=> ?_) ⟨xs,ht,hf,λtk=> ?_⟩
 ·obtain⟨xs,h1,h2,h3⟩:=h;exact QO h1 h2 λtk=>⟨_,rfl,h3 tk⟩
 ·exact⟨⟨_,ah _ rfl,rfl⟩,h tk⟩
end
end PySem.RV
namespace PySem.RV
open PySem PySem.Spec PyProof.Rows
theorem QR:typeLookup (.type "list_reverseiterator") "__len__"=pure none:=by rw[bn,aO];kernel_rfl
theorem xQ:typeLookup (.type "list_reverseiterator") "__length_hint__"=pure (some (.builtin "list_reverseiterator.__length_hint__")):=by rw[bn,aO];kernel_rfl
section
variable {prog:Program}{w:World}{A:Around}{E:Value->Shared->Prop}{s:Shared}{I:Addr}{fp wr:List Addr}{G:Array GenState->Array GenState->Prop}{n:Nat}{P:Nat->Value->Prop}{St:Nat->Shared->Prop}
theorem UP {Q:List Value->Shared->Prop}(W:WalksS prog w A.in1 I fp wr G n P St)(hT:∀i s,St i s->s.TypeIs (.ref I) "list_reverseiterator")(hst:St 0 s)(hfp:∀b∈fp,b < s.heap.objs.size)(hI:I∈fp)
  (hQ:∀s' acc,Moved wr G s s' ->ItemsOf P acc n->Q acc.toList s') (hn:n<=sizeLine):wpAny (model prog w) A (collect (.ref I)) Q E s:=by
 have nf:s.heap.objs.size ∉ fp:=λz=>bg _ (hfp _ z);have nI:s.heap.objs.size ≠ I:=λz=>nf (z ▸ hI);unfold collect;refine aa (wpAny_runValue (aM h7 ?_));rw[aE h9 _];refine(show wpAny _ A.in1 (newList [] >>= λl=>again (.builtin "list.__iadd__" ⟨[l,.ref I],[]⟩)) _ _ s from ?_);refine aa (aJ (ai ⟨a_ dX _,aM iG ?_⟩));rw[aE dX _];have g0:=W.frame 0 s (s.heap.push { cls:= .type "list",data:= .seq ([]:List Value).toArray }) s.toks hst (am _) λb _ o e=>ad _ e;have g1:(s.heap.push { cls:= .type "list",data:= .seq ([]:List Value).toArray }).get? s.heap.objs.size=some { cls:= .type "list",data:= .seq ([]:List Value).toArray }:=ah _ rfl;have g2:bW (.ref s.heap.objs.size) (.ref I)=false:=by simp[bW,nI]
 refine(show wpAny _ A.in1 (bM (.ref s.heap.objs.size) (.ref I) (.ref s.heap.objs.size)) _ _ _ from ?_);unfold bM;refine aa (df (hT 0 _ g0) ?_);rw[if_neg (by rw[g2];decide)]
 refine aa (W.self 0 _ _ _ g0 (aa (bQ ?_)));unfold c8;refine aa (cy (hT 0 _ g0) QR ?_);refine(show wpAny _ A.in1 (specialOf (Value.ref I) (aQ "__length_hint__") >>= _) _ _ _ from ?_);refine aa (cy (hT 0 _ g0) xQ ?_);generalize hid:("list_reverseiterator.__length_hint__":String)=id0
 wp_delta
 rw[show splitId id0=some ("list_reverseiterator","__length_hint__") from by subst hid;decide+kernel]
 subst hid;refine aa (cC (b:=true) (hT 0 _ g0) (by rw[bV];kernel_rfl) ?_)
 refine ai ?_;rw[if_neg (by decide)]
 refine ai ⟨a_ eQ _,codeAny_extend_loopS W hn _ nf _ n 0 _ _ _ rfl (b9 _) g0 g1 (l6 P) λs' acc' c' hm hS' hacc=> ?_⟩;refine(show wpAny _ A (load s.heap.objs.size >>= _) _ _ s' from ?_);exact aa (wpAny_load hS' (ai (hQ s' acc' (Moved.drop_new (o:={ cls:= .type "list",data:= .seq ([]:List Value).toArray }) (tk:=s.toks) hm (am _)) hacc)))
theorem KL {Q₁:Value->Shared->Prop}(W:WalksS prog w A.in1.in1 I fp wr G n P St)(hT:∀i s,St i s->s.TypeIs (.ref I) "list_reverseiterator")(hst:St 0 s)(hfp:∀b∈fp,b < s.heap.objs.size)(hI:I∈fp)
  (h:∀s' acc,Moved wr G s s' ->ItemsOf P acc n->Q₁ (.ref s'.heap.objs.size) { s' with heap:=s'.heap.push { cls:= .type "tuple",data:= .seq acc } }) (hsz:n<=sizeLine):
  codeAny (model prog w) A (.call (.builtin "tuple.__new__") ⟨[.type "tuple",.ref I],[]⟩) (wants Q₁ E) s:=by
 refine codeAny_of_tree ?_;refine(show wpAny _ A.in1 (do checkBuiltinCall "tuple.__new__" ⟨[.type "tuple",.ref I],[]⟩;again (.builtin "tuple.__new__" ⟨[.type "tuple",.ref I],[]⟩)) _ _ s from ?_)
 refine aa (bb (iH _) (ai ⟨a_ dY _,aM iI ?_⟩));rw[aE dY _];have hsub:=sub_tuple_self;have hinit:=init_tuple_lookup;have hmh:=madeHere_tuple;have ty:=hT 0 s hst
 wp_walk using df ty,UP (hn:=hsz) W hT hst hfp hI
 intro s' acc hm hacc;have e:acc.toList.toArray=acc:=by simp
 refine(show wpAny _ _ (ck acc.toList.toArray >>= λv=>ret v) _ _ _ from ?_);unfold ck;refine aa (aJ (ai ?_) (by rw[e];show acc.size<=sizeLine;rw[hacc.1];exact hsz))
 rw[e];exact h s' acc hm hacc
theorem tuple_lr {Q:Value->Shared->Prop}(W:WalksS prog w A.in1.in1.in1 I fp wr G n P St)(hT:∀i s,St i s->s.TypeIs (.ref I) "list_reverseiterator")(hst:St 0 s)(hfp:∀b∈fp,b < s.heap.objs.size)(hI:I∈fp)
  (hQ:∀s' acc,Moved wr G s s' ->ItemsOf P acc n->Q (.ref s'.heap.objs.size) { s' with heap:=s'.heap.push { cls:= .type "tuple",data:= .seq acc } }) (hsz:n<=sizeLine):
  wpAny (model prog w) A (call (.type "tuple") [.ref I]) Q E s:=
 callType_codes (Q₁:=λobj s₁=>s₁.TypeIs obj "tuple"/\Q obj s₁) dy (im _) i8
  (KL (hsz:=hsz) W hT hst hfp hI λs' acc hm hacc=>⟨⟨_,ah _ rfl,rfl⟩,hQ s' acc hm hacc⟩) λobj s₁ h₁=>
   ⟨h₁.1,hZ obj _,object_init_meets dy.init.lookup dy.made (by decide) prog w A.in1 _ s₁ ⟨h₁.1,rfl,h₁.2⟩⟩
end
end PySem.RV
namespace PV
open PySem PySem.Spec PyProof.Rows L2
def z1M (K:al)(a:Addr)(n:Nat):It:=
 ⟨λi H=>∃xs x,SqT K H a xs/\xs.length=n/\xs.reverse[i]? =some x,λi H x H' =>H' =H/\∀xs,SqT K H a xs->xs.reverse[i]? =some x,λi H=>∃xs,SqT K H a xs/\xs.length=n/\n<=i⟩
def z1N (K:al)(a:Addr)(n:Nat):It:=
 ⟨λi H=>∃xs x,SqL K H a xs/\xs.length=n/\xs.reverse[i]? =some x,λi H x H' =>H' =H/\∀xs,SqL K H a xs->xs.reverse[i]? =some x,λi H=>∃xs,SqL K H a xs/\xs.length=n/\n<=i⟩
theorem V9 {α:Type}{xs:List α}{i:Nat}{x:α}(h:xs.reverse[i]? =some x):i < xs.length/\xs[xs.length - 1 - i]? =some x:=by
 have hi:=(au.mp h).1;rw[bJ]at hi;rw[dr hi]at h;exact⟨hi,h⟩
theorem QS {P:Program}{w:World}{K:al}{tg:Expr}(a it:Addr)(n:Nat):yx P w K tg (z1M K a n) [it] it (λi h=>i<=n/\RV.IsRv h it (.ref a) ((n:Int) - 1 - (i:Int))) where
 mem:=by simp
 obj:=λi h st b hb=>by
  have e:b=it:=by simpa using hb
  subst e;exact⟨_,st.2,λv z=>nomatch z⟩
 keep:=λi h h' st k=>⟨st.1,k it (by simp) _ st.2⟩
 item:=by
  intro X hP hw hK hc i pins s σ H E I hf st hg;subst hP hw hK;obtain⟨xs,x,hq,hn,hx⟩:=hg;obtain⟨its,rv,p,hz⟩:=I.tuple hq;obtain⟨hi,hx'⟩:=V9 hx;obtain⟨u,hu,ru⟩:=rv.get hx';obtain⟨f0,f1,f2,f3,f4,f5⟩:=hf it (by simp)
  have hl:=rv.length;have e:(n:Int) - 1 - (i:Int)=((xs.length - 1 - i:Nat):Int):=by omega
  have hit:=st.2;rw[e]at hit;have hb:(its.toArray.size:Int) < 2 ^ 63:=by
   rw[bI]at hz;simp;omega
  refine RV.next_item hit p hb (x:=u) (by simpa using hu) λh' tk st' sb=> ?_
  have I1:Inv X pins σ H { s with heap:=h',toks:=tk }:=I.turned (t' :=tk) (λb o hb e=>(sb.2 b hb).trans e) f0 f1 f3 f4 f5;have e2:((xs.length - 1 - i:Nat):Int) - 1=(n:Int) - 1 - ((i+1:Nat):Int):=by omega
  rw[e2]at st';exact⟨u,rfl,UD (s:={ s with heap:=h',toks:=tk }) st' rfl rfl (by decide) ⟨x,H,I1,ru,⟨rfl,λys hy=>by rw[I.tuple_inj hy hq];exact hx⟩,⟨by omega,st'⟩,λb hb=>(hf b hb).1⟩⟩
 done:=by
  intro X hP hw hK hc i pins s σ H E I hf st hg;subst hP hw hK;obtain⟨xs,hq,hn,hx⟩:=hg;obtain⟨f0,f1,f2,f3,f4,f5⟩:=hf it (by simp)
  have hit:=st.2;have h1:=st.1;rw[show (n:Int) - 1 - (i:Int)= -1 by omega]at hit
  exact RV.next_end (I.ok.hd hc) hit λh' eb=>⟨rfl,I.turned (t' :=s.toks) (λb o hb e=>eb b o hb e) f0 f1 f3 f4 f5⟩
 self:=λ_ _ _ _ _ st h=>RV.iter_rv st.2 h
theorem QT {P:Program}{w:World}{K:al}{tg:Expr}(a it:Addr)(n:Nat):yx P w K tg (z1N K a n) [it] it (λi h=>i<=n/\h.IsRevIter it a ((n:Int) - 1 - (i:Int))) where
 mem:=by simp
 obj:=λi h st b hb=>by
  have e:b=it:=by simpa using hb
  subst e;obtain⟨o,e,c,d⟩:=st.2;exact⟨o,e,λv z=>by rw[d]at z;cases z⟩
 keep:=λi h h' st k=>⟨st.1,st.2.at λo e=>k it (by simp) o e⟩
 item:=by
  intro X hP hw hK hc i pins s σ H E I hf st hg;subst hP hw hK;obtain⟨xs,x,hq,hn,hx⟩:=hg;obtain⟨its,rv,p,hz⟩:=I.list hq;obtain⟨hi,hx'⟩:=V9 hx;obtain⟨u,hu,ru⟩:=rv.get hx';obtain⟨f0,f1,f2,f3,f4,f5⟩:=hf it (by simp)
  have e:(n:Int) - 1 - (i:Int)=((xs.length - 1 - i:Nat):Int):=by omega
  have hit:=st.2;rw[e]at hit;refine wpAny_pyNext_rev_item hit p.isList (x:=u) (by simpa using hu) λh' st' sb=> ?_
  have I1:Inv X pins σ H { s with heap:=h' }:=I.turned (t' :=s.toks) (λb o hb e=>(sb.2 b hb).trans e) f0 f1 f3 f4 f5;have e2:((xs.length - 1 - i:Nat):Int) - 1=(n:Int) - 1 - ((i+1:Nat):Int):=by omega
  rw[e2]at st';obtain⟨o,e,c,d⟩:=id st';exact⟨u,rfl,UD (s:={ s with heap:=h' }) e c d (by decide) ⟨x,H,I1,ru,⟨rfl,λys hy=>by rw[I.list_inj hy hq];exact hx⟩,⟨by omega,st'⟩,λb hb=>(hf b hb).1⟩⟩
 done:=by
  intro X hP hw hK hc i pins s σ H E I hf st hg;subst hP hw hK;obtain⟨xs,hq,hn,hx⟩:=hg;obtain⟨f0,f1,f2,f3,f4,f5⟩:=hf it (by simp)
  have hit:=st.2;have h1:=st.1;rw[show (n:Int) - 1 - (i:Int)= -1 by omega]at hit
  exact wpAny_pyNext_rev_end (I.ok.hd hc) hit λh' eb=>⟨rfl,I.turned (t' :=s.toks) (λb o hb e=>eb b o hb e) f0 f1 f3 f4 f5⟩
 self:=λ_ _ _ _ _ st h=>wpAny_pyIter_revIter st.2 h
theorem zI.rev {H:Hp}:∀{vs:List V} {ts:List T},zI H vs ts->zI H vs.reverse ts.reverse
 | _,_,.nil=> .nil
 | _,_,.cons r t=>by rw[bv,bv];exact(zI.rev t).append (.cons r .nil)
theorem KM {K:al}{B1 H1:Hp}{a:Addr}{xs:List V}{ts:List T}(h:B1 a=some (.tup xs))(r:zI B1 xs ts):rI B1 H1 (z1M K a xs.length) ts.reverse:=λB2 H2 s1 s2=>by
 have h2:=s2 _ _ (s1 _ _ h);have hr:=r.rev;refine⟨λi hi=> ?_,λi t x H3 e y=> ?_,λi hi=>⟨xs,SqT.of h2,rfl,by rw[bJ]at hi;rw[r.length];exact hi⟩⟩
 ·obtain⟨v,e,_⟩:=hr.get (ac hi);exact⟨xs,v,SqT.of h2,rfl,e⟩
 ·obtain⟨rfl,y⟩:=y;obtain⟨v,e1,r1⟩:=hr.get e;have:=y xs (SqT.of h2);rw[e1]at this;cases this;refine⟨zw.refl _, ?_⟩;rw[zS.self B2 _ s2];exact r1.mono s1
theorem KN {K:al}{B1 H1:Hp}{a:Addr}{xs:List V}{ts:List T}(h:B1 a=some (.lst xs))(r:zI B1 xs ts):rI B1 H1 (z1N K a xs.length) ts.reverse:=λB2 H2 s1 s2=>by
 have h2:=s2 _ _ (s1 _ _ h);have hr:=r.rev;refine⟨λi hi=> ?_,λi t x H3 e y=> ?_,λi hi=>⟨xs,SqL.of h2,rfl,by rw[bJ]at hi;rw[r.length];exact hi⟩⟩
 ·obtain⟨v,e,_⟩:=hr.get (ac hi);exact⟨xs,v,SqL.of h2,rfl,e⟩
 ·obtain⟨rfl,y⟩:=y;obtain⟨v,e1,r1⟩:=hr.get e;have:=y xs (SqL.of h2);rw[e1]at this;cases this;refine⟨zw.refl _, ?_⟩;rw[zS.self B2 _ s2];exact r1.mono s1
def Va (fa:En->R T):En->R (List T):=λρ=>(fa ρ).bind λt=>(j3 t).bind λxs=> .ok xs.reverse
def QU:T->R T
 | .lst xs=>if xs.length<=bnd then .ok (.tup xs.reverse) else .bad
 | _=> .bad
section
variable {X:Cx}{Y:Fx}{a b tg:Expr}{fa fb:En->R T}{pos p p' pos' :Pos}
theorem KO {ta:TA}(hg:Gl X "reversed")(hm:X.mg "reversed"=none)(ha:PA X [a] ta)(hs:St1 X a:=by exact st1 rfl):
  PI X tg (.Call (.Name "reversed" p) [a] [] pos) (λσ H R=>ta σ H λvs H1=>∃l xs,vs=[.ref l]/\((H1 l=some (.lst xs)/\R (z1N X.K l xs.length) H1)\/(H1 l=some (.tup xs)/\R (z1M X.K l xs.length) H1))):=by
 intro pins s σ H R I h;refine Call_ (ZS I hg hm boot_reversed (aN (thn (ha pos pins s σ H _ I h) λus s1 ⟨vs,H1,I1,r1,q1⟩=> ?_) hs rfl));obtain⟨l,xs,e,q⟩:=q1;subst e;obtain⟨u,rfl,ru⟩:=ZI r1;obtain rfl:u=Value.ref l:=ru;have ok:∀b∈[s1.heap.objs.size],WY X pins H1 b:=λb hb=>by
  have e:b=s1.heap.objs.size:=by simpa using hb
  subst e;exact I1.fpOk (am _) (I1.hok.fresh (am _))
 rcases q with ⟨hl,q⟩ | ⟨hl,q⟩
 ·obtain⟨its,rv,p,hz⟩:=I1.list (SqL.of hl);have e:((its.toArray.size:Nat):Int) - 1=(xs.length:Int) - 1 - ((0:Nat):Int):=by have:=rv.length;simp;omega
  refine call_reversed_list p.isList ?_;rw[e];have st:(s1.heap.push (revObj l ((xs.length:Int) - 1 - ((0:Nat):Int)))).IsRevIter s1.heap.objs.size l ((xs.length:Int) - 1 - ((0:Nat):Int)):=⟨_,ah _ rfl,rfl,rfl⟩;refine wpAny_pyIter_revIter (s:={ s1 with heap:=s1.heap.push (revObj l ((xs.length:Int) - 1 - ((0:Nat):Int))) }) st ?_;exact⟨s1.heap.objs.size,[s1.heap.objs.size],_,_,H1,rfl,I1.kept (t' :=s1.toks) (λb o e=>ad _ e),QT l _ xs.length,⟨b9 _,st⟩,ok,q⟩
 ·obtain⟨its,rv,p,hz⟩:=I1.tuple (SqT.of hl);have hlen:=rv.length;have e:((its.toArray.size:Nat):Int) - 1=(xs.length:Int) - 1 - ((0:Nat):Int):=by simp;omega
  refine RV.call_rvT p (by rw[bI]at hz;simp;omega) λtk=> ?_
  rw[e];refine RV.iter_rv (s:={ s1 with heap:=_,toks:=tk }) (ah _ rfl) ?_;exact⟨s1.heap.objs.size,[s1.heap.objs.size],_,_,H1,rfl,I1.kept (t' :=tk) (λb o e=>ad _ e),QS l _ xs.length,⟨b9 _,ah _ rfl⟩,ok,q⟩
theorem z1O (hg:Gl X "reversed")(hm:X.mg "reversed"=none)(ha:Snd X Y a fa)(hs:St1 X a:=by exact st1 rfl):ym X Y tg (.Call (.Name "reversed" p) [a] [] pos) (Va fa):= .mk λρ=>
 PI.imp (KO hg hm (zo (ha ρ) zU hs) hs) λσ H R ⟨B,I,q⟩=>step I q λt v H1 _ s1 r1 I1 q1=>by
  cases r1 with
  | @tup l xs ts h r=>exact⟨l,xs,rfl,.inr ⟨I1.sB _ _ h,ZX I1 (show Po Y rI _ H1 (.ok ts.reverse) R from q1) (KM h r)⟩⟩
  | @lst l xs ts h r=>exact⟨l,xs,rfl,.inl ⟨I1.sB _ _ h,ZX I1 (show Po Y rI _ H1 (.ok ts.reverse) R from q1) (KN h r)⟩⟩
  | _=>exact q1.elim
theorem uT:∀{xs ys:List V} {us ws:List Value},Z1 xs us->Z1 ys ws->Z1 (xs++ys) (us++ws)
 | _,_,_,_,.nil,q=>q
 | _,_,_,_,.cons r t,q=> .cons r (uT t q)
theorem J8:∀{xs:List V} {us:List Value},Z1 xs us->Z1 xs.reverse us.reverse
 | _,_,.nil=> .nil
 | _,_,.cons r t=>by rw[bv,bv];exact uT (J8 t) (.cons r .nil)
theorem Ym {its:List Value}{acc:Array Value}(h:ItemsOf (λi v=>its.toArray[its.toArray.size - 1 - i]? =some v) acc its.toArray.size):acc.toList=its.reverse:=by
 have h1:acc.size=its.length:=by
  have:=h.1;simpa using this
 have h2:=h.2;refine cu λi=> ?_
 by_cases hi:i < its.length
 ·have hlt:i < acc.toList.length:=by simp;omega
  have e:=ac hlt;have:=h2 i _ (by rw[← Array.getElem?_toList];exact e)
  rw[dr hi,e,← this];simp
 ·rw[aD (by simp;omega),aD (by simp;omega)]
theorem KP (hh:X.A.handled=none)(gl:Gl X "tuple")(mg:X.mg "tuple"=none)(gl' :Gl X "reversed")(mg' :X.mg "reversed"=none)(ha:Snd X Y a fa)(hs:St1 X a:=by exact st1 rfl)(hs' :St1 X (.Call (.Name "reversed" p') [a] [] pos'):=by exact st1 rfl):
  Snd X Y (.Call (.Name "tuple" p) [.Call (.Name "reversed" p') [a] [] pos'] [] pos) (ap1 QU fa):= .mk λρ=>by
 intro pins s σ H Q I ⟨B,J,q⟩;have hq:tS Y rC fa ρ σ H (λv H1=>∃l xs,v= .ref l/\H1 l=some (.lst xs)/\xs.length<=sizeLine/\∀t,H1 t=none->Q (.ref t) (upd H1 t (.tup xs.reverse))):=by
  refine step J q λt v H1 _ s1 r1 I1 q1=> ?_;cases r1 with
  | @lst l xs ts h r=>
   have q1:Po Y rC _ H1 (if ts.length<=bnd then .ok (.tup ts.reverse) else .bad) Q:=q1
   split at q1
   ·rename_i hb;exact⟨l,xs,rfl,I1.sB _ _ h,by rw[r.length];exact Zz hb,λt ht=>K3 I1.sB q1 rfl r.rev ht⟩
   ·exact q1.elim
  | _=>exact q1.elim
 refine bZ (ZS I gl mg PyProof.Rows.Boot.«tuple» (aN (e:= .Call (.Name "reversed" p') [a] [] pos') (rest:=[]) ?_ hs' rfl));rw[hs'];show wpAny _ _ (spliced [(false,eval (.Call (.Name "reversed" p') [a] [] pos') X.env)]) _ _ s;refine eW (bZ (ZS I gl' mg' boot_reversed (aN (e:=a) (rest:=[]) ?_ hs rfl)));refine thn ((zo (ha ρ) zU hs) pos' pins s σ H (λvs H1=>∃l xs,vs=[.ref l]/\H1 l=some (.lst xs)/\xs.length<=sizeLine/\∀t,H1 t=none->Q (.ref t) (upd H1 t (.tup xs.reverse))) I ?_) λus s1 ⟨vs,H1,I1,r1,l,xs,e,hl,hz,q1⟩=> ?_
 ·obtain⟨B',J',q'⟩:=hq;refine⟨B',J', ?_⟩;revert q';cases fa ρ with
  | bad=>exact λq' =>q'
  | ex c=>exact λq' =>q'
  | ok t=>
   intro q' v H1 s1 r1;obtain⟨l,xs,rfl,h⟩:=q' v H1 s1 r1;exact⟨l,xs,rfl,h⟩
 subst e;obtain⟨u,rfl,ru⟩:=ZI r1;obtain rfl:u=Value.ref l:=ru;obtain⟨its,rv,pl,_⟩:=I1.list (SqL.of hl);have hlt:l < s1.heap.objs.size:=I1.hok.lt hl;refine call_reversed_list pl.isList (fh ?_);have e0:((its.toArray.size:Nat):Int) - 1 - ((0:Nat):Int)=((its.toArray.size:Nat):Int) - 1:=by omega
 refine RV.tuple_lr (s:={ s1 with heap:=s1.heap.push (revObj l ((its.toArray.size:Int) - 1)) }) (Walks.listRev (A:=X.A.in1.in1.in1) hh s1.heap.objs.size l (aw hlt) its.toArray).toS (λi s st=>st.2.1.typeIs) ⟨b9 _,⟨_,ah _ rfl,rfl,by rw[e0];rfl⟩,pl.isList.push _⟩ (λb hb=> ?_) (by simp) (λs' acc hm hacc=> ?_) (by rw[az,← rv.length];exact hz)
 ·have hb:b=s1.heap.objs.size\/b=l:=by simpa using hb
  rcases hb with rfl | rfl
  ·rw[bo];exact cV _
  ·rw[bo];exact bT hlt
 obtain⟨h',g',d',tk',os'⟩:=s';have e1:g' =s1.gens:=hm.gens;have e2:d' =s1.drawn:=hm.drawn;have e3:os' =s1.os:=hm.os;subst e1 e2 e3;have kp:∀b o,s1.heap.get? b=some o->h'.get? b=some o:=λb o e=>hm.heap b o (λz=>by
  have z:b=s1.heap.objs.size:=by simpa using z
  have:=ao e;rw[z]at this;exact bg _ this) (ad _ e)
 have I2:Inv X pins σ H1 { s1 with heap:=h',toks:=tk' }:=I1.kept (t' :=tk') kp;have ea:acc=its.reverse.toArray:=by rw[← Ym hacc]
 rw[ea];refine⟨.ref h'.objs.size,upd H1 h'.objs.size (.tup xs.reverse),I2.laid (t' :=tk') (λb u e=>ad _ e) (am _) ⟨by rw[bJ];exact hz,its.reverse,J8 rv,⟨_,ah _ rfl,rfl,_,rfl⟩,.inr ⟨_,ah _ rfl,rfl⟩⟩,rfl,q1 _ (I2.hok.fresh (am _))⟩
end
section
variable {X:Cx}{Y:Fx}{a b:Expr}{fa fb:En->R T}{pos p p' pos' pt:Pos}{elts:List Expr}{kk:Nat}
end
section
variable {X:Cx}{Y:Fx}{a b:Expr}{fa fb:En->R T}{pos p p' pos' pt:Pos}{elts:List Expr}{kk:Nat}
end
end PV
namespace PySem.RV
open PySem PySem.Spec PyProof.Rows PySem.Builtin.SmallTypes
end PySem.RV
namespace PV
open PySem PySem.Spec PyProof.Rows L2
section
variable {X:Cx}{Y:Fx}{a:Expr}{fa:En->R T}{pos p pt:Pos}{elts:List Expr}{kk:Nat}
end
end PV
namespace PySem.RW37
open PySem PySem.Spec PyProof.Rows L2
section
variable {X:Cx}{pos:Pos}
end
end PySem.RW37
namespace PV
open PySem PySem.Spec PyProof.Rows L2 PySem.RW37
section
variable {X:Cx}{Y:Fx}{pos:Pos}{a b c:Expr}
def xR (fa:En->R T)(g:T->En->R En):En->RS:=λρ=>(fa ρ).s λt=>match g t ρ with
 | .ok ρ' => .nx ρ'
 | _=> .bad
theorem KQ {tg:Expr}{fa:En->R T}{g:T->En->R En}(ha:Snd X Y a fa)(hg:Kn X Y tg g)(hs:swapsWithSole [tg] a pos.line X.env=pure false:=by rfl)(hw:swappedStores [tg] a X.env=pure none:=by rfl)
  (h1:(assignEach [tg] X.env).map (·.2)=[assign tg X.env]:=by rfl):wA X Y (.Assign [tg] a pos) (xR fa g):= .mk λρ=>by
 obtain⟨tt,hp,hr⟩:=hg;refine PS.imp (kC (ha ρ) hp hs hw h1) λD σ H ⟨B,I,q⟩=>jZ I q λt v H1 _ s1 r1 I1 q1=>hr _ _ _ _ _ _ _ I1 r1 ?_;cases h:g t ρ with
 | ok ρ' =>
  rw[h]at q1;exact λσ' I' =>q1 _ _ _ (zw.refl _) I'
 | ex c=>rw[h]at q1;exact q1.elim
 | bad=>rw[h]at q1;exact q1.elim
end
end PV
namespace PV
open PySem PySem.Spec PyProof.Rows L2
def Ww (t t' :T):R T:=match t,t' with
 | .int i,.int j=> .ok (.int (if j > i then j else i))
 | _,_=> .bad
def z00:T->R T
 | .int i=> .ok (.int (if i < 0 then -i else i))
 | _=> .bad
def ZJ (f:Int->Int->Bool):Int->List Int->Int
 | i,[]=>i
 | i,j :: r=>ZJ f (if f j i then j else i) r
def z1P:T->R T
 | .lst ts=>match Zc ts with | some (i :: l)=> .ok (.int (ZJ (λa b=>decide (b < a)) i l)) | _=> .bad
 | _=> .bad
def z1Q:T->R T
 | .lst ts=>match Zc ts with | some (i :: l)=> .ok (.int (ZJ (λa b=>decide (a < b)) i l)) | _=> .bad
 | _=> .bad
theorem wG:∀(l:List Int) (i:Int),ZJ (λa b=>decide (b < a)) i l∈i :: l/\∀x∈i :: l,x<=ZJ (λa b=>decide (b < a)) i l
 | [],i=>⟨ae,λx h=>by simp at h;subst h;exact l7 _⟩
 | j :: r,i=>by
  unfold ZJ
  by_cases hj:i < j
  ·simp only[hj,decide_true,if_true];obtain⟨h1,h2⟩:=wG r j;refine⟨ab _ h1,λx hx=> ?_⟩;rcases ak.mp hx with rfl | hx
   ·exact dD (iJ hj) (h2 j ae)
   ·exact h2 x hx
  ·simp only[hj,decide_false,aB,if_false];obtain⟨h1,h2⟩:=wG r i;refine⟨?_,λx hx=> ?_⟩
   ·rcases ak.mp h1 with h | h
    ·rw[h];exact ae
    ·exact ab _ (ab _ h)
   ·rcases ak.mp hx with rfl | hx
    ·exact h2 x ae
    ·rcases ak.mp hx with rfl | hx
     ·exact dD (lm.mp hj) (h2 i ae)
     ·exact h2 x (ab _ hx)
theorem Wx (ps:List (Int×Tok))(i:Nat)(h:i < ps.length):numAt ps.toArray i=(ps.map (·.1))[i]'(by simpa using h):=by
 unfold numAt;simp[h]
section
variable {X:Cx}{Y:Fx}{a b:Expr}{fa fb:En->R T}{pos p p' pos' pt:Pos}{elts:List Expr}{kk:Nat}
theorem KR (hc:X.calm=true)(gl:Gl X "max")(mg:X.mg "max"=none)(ha:Snd X Y a fa)(hb:Snd X Y b fb)
  (hs:starEach [a,b] X.env=[(false,eval a X.env),(false,eval b X.env)]:=by exact st2 rfl rfl) (hs2:starEach [b] X.env=[(false,eval b X.env)]:=by exact st1 rfl):
  Snd X Y (.Call (.Name "max" p) [a,b] [] pos) (zc Ww fa fb):= .mk λρ=>
 PE.imp (ZW (yD hc) gl mg PyProof.Rows.Boot.«max» (zo (ha ρ) (zo (hb ρ) zU hs2) (by rw[hs,hs2])) (by decide) (by decide) (by rw[hs,hs2]) (by rw[hs2];rfl)) λσ H Q ⟨B,I,q⟩=>
  step I q λt v H1 _ s1 r1 I1 q1=>step I1 q1 λt' v' H2 _ s2 r2 I2 q2=>by
   cases r1 with
   | int i=>
    cases r2 with
    | int j=>exact⟨i,j,rfl,po0 I2.sB q2 rfl (.int _)⟩
    | _=>exact q2.elim
   | _=>cases r2 <;> exact q2.elim
theorem z1R (gl:Gl X "abs")(mg:X.mg "abs"=none)(ha:jw X Y a fa)(hs:St1 X a:=by exact st1 rfl):Snd X Y (.Call (.Name "abs" p) [a] [] pos) (ap1 z00 fa):=
 uM Qs (λv t B H Q r sB q=>by
  cases r with
  | int i=>exact⟨i,rfl,po0 sB q rfl (.int _)⟩
  | _=>exact q.elim) gl mg PyProof.Rows.Boot.«abs» ha hs
end
section
variable {X:Cx}{Y:Fx}{tg iter elt:Expr}{ifs:List Expr}{scope:Scope}{pos pos' :Pos}{N' :List Str}{k:Nat}{js:List Nat}{fi:En->R (List T)}{tG:TG}{g:T->En->R En}{ft:En->R Bool}{fe:En->R T}
end
def ltS (a b:Str):Bool:=decide (a.cps.toList < b.cps.toList)
def yn (x:Str):List Str->List Str
 | []=>[x]
 | y :: r=>if ltS y x then y :: yn x r else x :: y :: r
def W6:List Str->List Str
 | []=>[]
 | x :: r=>yn x (W6 r)
def QV:T->R T
 | .lst ts=>match wD ts with
  | some ys=>if ts.length < 64 then .ok (.lst ((W6 (dd [] ys)).map T.str)) else .bad
  | none=> .bad
 | _=> .bad
def QW (fa fb:En->R T):En->R T:=λρ=>(fa ρ).bind λt=>(fb ρ).bind λu=>match t with
 | .lst []=> .ok u
 | .lst ts=>match Zc ts with | some (i :: l)=> .ok (.int (ZJ (λa b=>decide (b < a)) i l)) | _=> .bad
 | _=> .bad
section
variable {prog:Program}{w:World}{A:Around}{R:Result->Shared->Prop}{I:Addr}{fp wr:List Addr}{n:Nat}{P:Nat->Value->Prop}{St:Nat->Heap->Prop}
theorem J9:(toString "max"++toString ".loop":String)="max.loop":=by decide
theorem QX (W:Walks prog w A.in1 I fp wr n P St)(bt:Nat->Nat->Bool)(hc:CmpOf prog w A.in1 .Gt P bt)(D:Addr)(hD:D ∉ fp)(kw:List (Str×Value)):
  ∀(q j:Nat) (s:Shared) (b0:Value) (e0:Nat),n - (j+1)=q->j+1<=n->St (j+1) s.heap->P (argBest bt j) b0->
  s.heap.get? D=some { cls:= .type "list",dict:=none,data:= .seq #[b0,b0] e0,slots:= #[] }->
  (∀v h' tk,P (argBest bt (n - 1)) v->(∀b o,b ∉ wr->b ≠ D->s.heap.get? b=some o->h'.get? b=some o)->R (.ok (.ret v)) { s with heap:=h',toks:=tk })->
  codeAny (model prog w) A (.builtin "max.loop" ⟨[.ref I,.none,.ref D],kw⟩) R s:=by
 have hDw:D ∉ wr:=λz=>hD (W.sub _ z);intro q
 induction q with
 | zero=>
  intro j s b0 e0 hq hj hst hb hg hR;have hjn:j+1=n:=by omega
  refine aM fI ?_;rw[aE cD _];show wpAny (model prog w) A.in1 (seqItems? (.ref D) >>= _) _ _ s;refine aa (bF hg rfl ?_);show wpAny (model prog w) A.in1 (tryCatch (pyNext (.ref I)) _ >>= _) _ _ s;refine aa (dz (W.done s _ _ (hjn ▸ hst) λh1 t1 k1=> ?_));have hg1:=k1 D _ hDw hg;show wpAny (model prog w) A.in1 (updateSeq D (λ_=> #[]) >>= _) _ _ _;refine aa (cJ hg1 rfl (aa (dP (ai ?_))));exact hR b0 _ t1 (by rw[← hjn];exact hb) λb o x y z=>(aP _ _ (bq y)).trans (k1 b o x z)
 | succ q ih=>
  intro j s b0 e0 hq hj hst hb hg hR;have hlt:j+1 < n:=by omega
  refine aM fI ?_;rw[aE cD _];show wpAny (model prog w) A.in1 (seqItems? (.ref D) >>= _) _ _ s;refine aa (bF hg rfl ?_);show wpAny (model prog w) A.in1 (tryCatch (pyNext (.ref I)) _ >>= _) _ _ s;refine aa (dz (W.item (j+1) s _ _ hlt hst λv h1 t1 hv hst1 k1=> ?_));have hg1:=k1 D _ hDw hg;show wpAny (model prog w) A.in1 (tryCatch (holding [v,v] (richCompare .Gt v b0 >>= _)) _ >>= _) _ _ _;refine aa (dz (bQ (aa (hc (j+1) (argBest bt j) v b0 _ _ _ hv hb ?_))));refine aa (bQ (br (aa (dP (ai ?_)))));cases hbt:bt (j+1) (argBest bt j) with
  | true=>
   simp only[if_true];refine aa (cJ hg1 rfl (aa (dP ?_)));rw[J9];refine ai ⟨a_ cD _,ih (j+1) _ v _ (by omega) hlt (W.frame _ _ _ hst1 λb x o z=> ?_) (by simp only[argBest,hbt,if_true];exact hv) (bK _ hg1 rfl) λv2 h2 t2 hv2 k2=> ?_⟩
   ·exact(aP _ _ (λy:D=b=>hD (by rw[y];exact x))).trans z
   ·exact hR v2 h2 t2 hv2 λb o x y z=>k2 b o x y ((aP _ _ (bq y)).trans (k1 b o x z))
  | false=>
   simp only[aB,if_false];refine aa (dP ?_);rw[J9];refine ai ⟨a_ cD _,ih (j+1) _ b0 e0 (by omega) hlt hst1 (by simp only[argBest,hbt,aB,if_false];exact hb) hg1 λv2 h2 t2 hv2 k2=> ?_⟩
   exact hR v2 h2 t2 hv2 λb o x y z=>k2 b o x y (k1 b o x z)
theorem Yn (W:Walks prog w A.in1 I fp wr n P St)(bt:Nat->Nat->Bool)(hc:CmpOf prog w A.in1 .Gt P bt)(D:Addr)(hD:D ∉ fp)(dn:Str)(dv:Value){s:Shared}{e0:Nat}(hst:St 0 s.heap)
  (hg:s.heap.get? D=some { cls:= .type "list",dict:=none,data:= .seq #[] e0,slots:= #[] })
  (h0:n=0->∀h' tk,(∀b o,b ∉ wr->b ≠ D->s.heap.get? b=some o->h'.get? b=some o)->R (.ok (.ret dv)) { s with heap:=h',toks:=tk })
  (hR:0 < n->∀v h' tk,P (argBest bt (n - 1)) v->(∀b o,b ∉ wr->b ≠ D->s.heap.get? b=some o->h'.get? b=some o)->R (.ok (.ret v)) { s with heap:=h',toks:=tk }):
  codeAny (model prog w) A (.builtin "max.loop" ⟨[.ref I,.none,.ref D],[(dn,dv)]⟩) R s:=by
 have hDw:D ∉ wr:=λz=>hD (W.sub _ z);refine aM fI ?_;rw[aE cD _];show wpAny (model prog w) A.in1 (seqItems? (.ref D) >>= _) _ _ s;refine aa (bF hg rfl ?_);show wpAny (model prog w) A.in1 (tryCatch (pyNext (.ref I)) _ >>= _) _ _ s;rcases io n with hz | hp
 ·refine aa (dz (W.done s _ _ (hz ▸ hst) λh1 t1 k1=> ?_));show wpAny (model prog w) A.in1 (rule _ >>= _) _ _ _;exact aa (cF (ai (h0 hz h1 t1 λb o x y z=>k1 b o x z)))
 ·refine aa (dz (W.item 0 s _ _ hp hst λv h1 t1 hv hst1 k1=> ?_));have hg1:=k1 D _ hDw hg;show wpAny (model prog w) A.in1 (updateSeq D (λ_=> #[v,v]) >>= _) _ _ _;refine aa (cJ hg1 rfl ?_);rw[J9];refine ai ⟨a_ cD _,QX W bt hc D hD _ _ 0 _ v _ rfl hp (W.frame _ _ _ hst1 λb x o z=> ?_) hv (bK _ hg1 rfl) λv2 h2 t2 hv2 k2=> ?_⟩
  ·exact(aP _ _ (λy:D=b=>hD (by rw[y];exact x))).trans z
  ·exact hR hp v2 h2 t2 hv2 λb o x y z=>k2 b o x y ((aP _ _ (bq y)).trans (k1 b o x z))
end
theorem QY (a v:Value):argsOk "max" ⟨[a],[(aQ "default",v)]⟩:=by unfold argsOk;kernel_rfl
section
variable {prog:Program}{w:World}{A:Around}{E:Value->Shared->Prop}{s:Shared}{l:Addr}{xs:Array (Int×Tok)}
theorem uU {Q:Value->Shared->Prop}{dv:Value}(hh:A.handled=none)(hl:s.heap.IsList l (intItems xs))
  (h0:xs.size=0->∀h' tk,(∀b o,s.heap.get? b=some o->h'.get? b=some o)->Q dv { s with heap:=h',toks:=tk })
  (h1:0 < xs.size->∀v h' tk,(intItems xs)[argBest (λi j=>decide (numAt xs i > numAt xs j)) (xs.size - 1)]? =some v->(∀b o,s.heap.get? b=some o->h'.get? b=some o)->Q v { s with heap:=h',toks:=tk }):
  wpAny (model prog w) A (call (.builtin "max") [.ref l] [(aQ "default",dv)]) Q E s:=by
 have hsz:(intItems xs).size=xs.size:=by simp[intItems]
 refine kmb_tree PySem.F.kind_max PySem.F.plain_max PySem.F.entry_max (QY _ _) ?_;show wpAny (model prog w) A.in1 (eS "max" ["key","default"] 0 ⟨[],[(aQ "default",dv)]⟩ >>= _) _ _ s;refine aa (bb (show eS "max" ["key","default"] 0 ⟨[],[(aQ "default",dv)]⟩=pure [none,some dv] from rfl) (aa (ai ?_)));refine aa (iter_intList hl λs2 e2 st hfp hlI=> ?_);subst e2;refine aa (aJ ?_);have hlt:l < s.heap.objs.size:=by obtain⟨_,z,_⟩:=hl;exact ao z
 have W:=ii (prog:=prog) (w:=w) (A:=A.in1) hh s.heap.objs.size l hlI (intItems xs);generalize hG:s.heap.push { cls:= .type "list_iterator",data:= .fields #[.ref l,.int 0 0] }=G at st hfp ⊢;have hDf:G.objs.size ∉ [s.heap.objs.size,l]:=λz=>bg _ (hfp _ z);have kp:∀h' :Heap,(∀b o,b ∉ [s.heap.objs.size]->b ≠ G.objs.size->(G.push { cls:= .type "list",data:= .seq ([]:List Value).toArray }).get? b=some o->h'.get? b=some o)->∀b o,s.heap.get? b=some o->h'.get? b=some o:=λh' k b o z=>by
  have hb:=ao z;have hg:G.get? b=some o:=by rw[← hG];exact ad _ z
  refine k b o (λy=> ?_) (λy=> ?_) (ad _ hg)
  ·rw[aC.mp y]at hb;exact bg _ hb
  ·have:=ao hg;rw[y]at this;exact bg _ this
 rw[J9];refine ai ⟨a_ cD _,Yn W _ (CmpOf.ints_gt (numAt xs) (λ_ _=>intItems_at)) G.objs.size hDf _ dv (W.frame _ _ _ st λb _ o z=>ad _ z) (ah _ rfl) (λhz h' tk k=> ?_) λhp v h' tk hv k=> ?_⟩
 ·exact h0 (by omega) h' tk (kp h' k)
 ·exact h1 (by omega) v h' tk (by rw[hsz]at hv;exact hv) (kp h' k)
end
section
variable {X:Cx}{Y:Fx}{a b:Expr}{fa fb:En->R T}{pos p p' pos' pt kp:Pos}{elts:List Expr}{kk:Nat}
theorem xS {ta tb:TE}(hh:X.A.handled=none)(gl:Gl X "max")(mg:X.mg "max"=none)(ha:PE X a ta)(hb:PE X b tb)(hs:St1 X a):
  PE X (.Call (.Name "max" p) [a] [⟨some "default",b,kp⟩] pos) (λσ H Q=>ta σ H λv H1=>tb σ H1 λu H2=>∃l xs ts,([v].length=1/\[u].length=1)/\v= .ref l/\H2 l=some (.lst xs)/\zI H2 xs ts/\
   ((ts=[]/\Q u H2)\/∃i is,Zc ts=some (i :: is)/\Q (.int (ZJ (λa b=>decide (b < a)) i is)) H2)):=by
 intro pins s σ H Q I h;refine bZ (ZS I gl mg PyProof.Rows.Boot.«max» ?_ (by decide) (by decide))
 refine callWith_kw (thn (zo (t:=GT) ha zU hs pos pins s σ H (λvs H1=>tb σ H1 λu H2=>∃l xs ts,(vs.length=1/\[u].length=1)/\vs.headD .non= .ref l/\H2 l=some (.lst xs)/\zI H2 xs ts/\
   ((ts=[]/\Q u H2)\/∃i is,Zc ts=some (i :: is)/\Q (.int (ZJ (λa b=>decide (b < a)) i is)) H2)) I h) λus s1 ⟨vs,H1,I1,r1,q1⟩=> ?_) (by rw[hs];rfl) (by rw[hs];rfl) rfl rfl
 refine thn (VV (nm:=some "default") (kpos:=kp) (t:=GT) hb kQ pos pins s1 σ H1 (λzs H2=>∃l xs ts,(vs.length=1/\zs.length=1)/\vs.headD .non= .ref l/\H2 l=some (.lst xs)/\zI H2 xs ts/\
   ((ts=[]/\Q (zs.headD .non) H2)\/∃i is,Zc ts=some (i :: is)/\Q (.int (ZJ (λa b=>decide (b < a)) i is)) H2)) I1 q1) λws s2 ⟨zs,H2,I2,rz,l,xs,ts,⟨l1,l2⟩,ev,hl,r,q2⟩=> ?_
 have hu:∃u,us=[u]/\Zf (.ref l) u:=by
  match vs,r1,l1,ev with
  | [v],r1,_,ev=>obtain rfl:v= .ref l:=ev;exact ZI r1
 have hw:∃z u,zs=[z]/\ws=[u]/\Zf z u:=by
  match zs,rz,l2 with
  | [z],rz,_=>obtain⟨u,e,r⟩:=ZI rz;exact⟨z,u,rfl,e,r⟩
 obtain⟨u,rfl,ru⟩:=hu;obtain⟨z,d,rfl,rfl,rd⟩:=hw;obtain rfl:u=Value.ref l:=ru;obtain⟨its,rv,pl,_⟩:=zP I2 (.inl hl) r;show wpAny _ _ (call (.builtin "max") [.ref l] [(aQ "default",d)]) _ _ _;rcases q2 with ⟨rfl,q2⟩ | ⟨i,is,hk,q2⟩
 ·have hn:its=[]:=by
   cases r with
   | nil=>cases rv;rfl
  have e:its.toArray=intItems (#[]:Array (Int×Tok)):=by rw[hn];simp[intItems]
  rw[e]at pl;exact uU hh pl (λ_ h' tk k=>⟨z,H2,I2.kept (t' :=tk) k,rd,q2⟩) (λz=>absurd z (by simp))
 ·obtain⟨ps,h1,h2⟩:=ud r rv hk;have e:its.toArray=intItems ps.toArray:=by rw[h1];simp[intItems]
  rw[e]at pl;have hlen:ps.length=is.length+1:=by have:=congrArg l5 h2;simpa using this
  refine uU hh pl (λz=>absurd z (by simp[hlen])) λ_ v h' tk hv k=> ?_
  obtain⟨t,rfl⟩:=intItems_at hv;obtain⟨b1,b2⟩:=argBest_gt (numAt ps.toArray) (ps.toArray.size - 1);have hsz:ps.toArray.size=ps.length:=by simp
  rw[hsz]at b1 b2 ⊢;obtain⟨m1,m2⟩:=wG is i;have e2:numAt ps.toArray (argBest (λi j=>decide (numAt ps.toArray i > numAt ps.toArray j)) (ps.length - 1))=ZJ (λa b=>decide (b < a)) i is:=by
   refine fY (m2 _ ?_) ?_
   ·rw[Wx ps _ (by omega),← h2]
    exact fJ _
   ·rw[← h2]at m1;obtain⟨j,hj,ej⟩:=cO.mp m1;rw[← ej];have hj' :j < ps.length:=by simpa using hj
    rw[← Wx ps j hj'];exact b2 j (by omega)
  rw[e2];exact⟨.int _,H2,I2.kept (t' :=tk) k,⟨t,rfl⟩,q2⟩
theorem KS (hh:X.A.handled=none)(gl:Gl X "max")(mg:X.mg "max"=none)(ha:jw X Y a fa)(hb:Snd X Y b fb)(hs:St1 X a:=by exact st1 rfl):Snd X Y (.Call (.Name "max" p) [a] [⟨some "default",b,kp⟩] pos) (QW fa fb):= .mk λρ=>
 PE.imp (xS hh gl mg (ha ρ) (hb ρ) hs) λσ H Q ⟨B,I,q⟩=>step I q λt v H1 _ s1 r1 I1 q1=>step I1 q1 λt' v' H2 _ s2 r2 I2 q2=>by
  have r1:=r1.mono s2;cases r1 with
  | @lst l xs ts h r=>
   cases ts with
   | nil=>exact⟨l,xs,[],⟨rfl,rfl⟩,rfl,h,r,.inl ⟨rfl,po0 I2.sB q2 rfl r2⟩⟩
   | cons t0 ts=>
    have q2:Po Y rC _ H2 (match Zc (t0 :: ts) with | some (i :: l)=> .ok (.int (ZJ (λa b=>decide (b < a)) i l)) | _=> .bad) Q:=q2
    split at q2
    ·rename_i i k e;exact⟨l,xs,t0 :: ts,⟨rfl,rfl⟩,rfl,h,r,.inr ⟨i,k,e,po0 I2.sB q2 rfl (.int _)⟩⟩
    ·exact q2.elim
  | _=>exact q2.elim
end
def jH:List T->Option (List (Str×Int))
 | []=>some []
 | .tup [.str x,.int i] :: r=>match jH r with | some l=>some ((x,i) :: l) | none=>none
 | _ :: _=>none
def Yo (t k:T):R T:=match t,k with
 | .tup ts,.str x=>match jH ts with
  | some l=>if (l.map (·.1)).Nodup then (match l.lookup x with | some i=> .ok (.int i) | none=> .bad) else .bad
  | none=> .bad
 | _,_=> .bad
def wH:T->R T
 | .tup ts=>match jH ts with
  | some l=>if (l.map (·.1)).Nodup then .ok (.int (l.map (·.2)).sum) else .bad
  | none=> .bad
 | _=> .bad
def QZ (j:Nat)(fa:En->R T)(g:List T->R T):En->RS:=λρ=>((fa ρ).bind λt=>(vE j ρ).bind λk=>(Yo t k).bind λx=>(wH t).bind λy=>g [x,y]).s λt=> .rt t
theorem xT (t:SetTable)(es:Array (Int×Value))(h:Int)(x:Value):(layNew t es h x).2.1.led=t.led:=by
 unfold layNew;split
 ·rename_i slot _ _;have e:∀(u:SetTable) (n:Nat),(u.orStandIn n).led=u.led:=λu n=>by
   unfold SetTable.orStandIn
   by_cases hz:u.fits n=true
   ·rw[if_pos hz]
   ·rw[if_neg hz];rfl
  exact e _ _
 ·rfl
theorem Yp (t:SetTable)(es:Array (Int×Value))(n:Nat):(relayAll t es n).2.1.led=t.led/\(t.plain=false->(relayAll t es n).2.1.plain=false):=by
 unfold relayAll;split
 ·rename_i t' order e;have h2:t'.led=t.led/\t'.plain=t.plain:=by
   unfold SetTable.relaid SetTable.laid at e;simp only[Option.bind_eq_bind,Option.bind_eq_some_iff,Option.pure_def,Option.some.injEq,Prod.mk.injEq]at e;obtain⟨_,_,e,_⟩:=e;rw[← e];exact⟨rfl,rfl⟩
  dsimp only;split
  ·exact⟨h2.1,λz=>h2.2.trans z⟩
  ·exact⟨rfl,λ_=>rfl⟩
 ·exact⟨rfl,λ_=>rfl⟩
section
variable {prog:Program}{w:World}{K:Type}[DecidableEq K]{knd:KeyKind prog w K}{A:Around}{E:Value->Shared->Prop}{s:Shared}
theorem Yq {b:Bool}{u:Shared}{F:Unit->Shared->Prop}(h:F () u):wpAny (model prog w) A (match b with | true=>rule "set.scan.the-table-gave-way" | false=>pure ()) F E u:=by
 cases b
 ·exact ai h
 ·exact cF h
theorem Yr {h:Heap}{a:Addr}{o:Obj}{es es' :Array (Int×Value)}{ep:Nat}{t t' :SetTable}(ho:h.get? a=some o)(hd:o.data= .set es ep t):
  (h.update a (lq es' t')).get? a=some { o with data:= .set es' (ep+1) t' }:=by
 rw[← putSet_of es' t' hd];exact bK (lq es' t') ho (by rw[putSet_of es' t' hd];rfl)
theorem xU {a:Addr}{o:Obj}{es:Array (Int×Value)}{ep:Nat}{t:SetTable}{k:K}{x:Value}{Q:Bool->Shared->Prop}(isk:knd.is k x=true)(sc:x.scannable=true)(np:plainKind x=false)
  (ho:s.heap.get? a=some o) (hd:o.data= .set es ep t) (hf:t.fits es.size=true) (el:ElemsOf knd es.toList) (room:es.size+1 < scanBound)
  (h0:(∃e∈es.toList,knd.is k e.2=true)->Q false s)
  (h1:(∀e∈es.toList,knd.is k e.2=false)->∀es' ep' t' h',es'.toList.Perm (es.toList++[(knd.hash k,x)])->t'.fits es'.size=true->t'.led=t.led->t'.plain=false->
   h'.get? a=some { o with data:= .set es' ep' t' }->bL a s.heap h' ->Q true { s with heap:=h' }):
  wpAny (model prog w) A (setAddHashed a x (knd.hash k)) Q E s:=by
 have hb:es.size < scanBound:=by omega
 unfold setAddHashed setAddHashedIn;refine bQ (aa (bi ho hd hf ?_));dsimp only;rw[byScan_of sc hb el];simp only[if_true];unfold setAddByScan;refine aa (aa (cF (aa (wpAny_setScan_of isk ho hd hf el ?_))));cases hr:es.toList.findIdx? (λe=>knd.is k e.2) with
 | some j=>
  obtain⟨hj,hp,_⟩:=List.findIdx?_eq_some_iff_getElem.mp hr;exact ai (ai (h0 ⟨_,fJ hj,hp⟩))
 | none=>
  dsimp only;have h1' :=h1 (λe he=>List.findIdx?_eq_none_iff.mp hr e he);have p1:=layNew_perm t es (knd.hash k) x;have f1:=layNew_fits t es (knd.hash k) x;have l1:=xT t es (knd.hash k) x;generalize layNew t es (knd.hash k) x=L at p1 f1 l1 ⊢;obtain⟨es1,t1,dm,gv⟩:=L;dsimp only at p1 f1 l1 ⊢;rw[iK]at p1;have n1:es1.size=es.size+1:=by rw[← aT,p1.length_eq];simp
  refine aa (Yq ?_);have main:∀t2:SetTable,t2.fits es1.size=true->t2.led=t.led->t2.plain=false->wpAny (model prog w) A (do
    storeSet a es1 t2
    if (!dm && t2.tooFull)=true then do
      (match (relayAll t2 es1 (cX es1.size)).2.2 with | true=>rule "set.scan.the-table-gave-way" | false=>pure ())
      storeSet a (relayAll t2 es1 (cX es1.size)).1 (relayAll t2 es1 (cX es1.size)).2.1
      pure (some true)
     else pure (some true)) (λr s' =>wpAny (model prog w) A (match r with | some added=>pure added | none=>setAddHashedIn a x (knd.hash k) 99999) Q E s') E s:=by
   intro t2 f2 l2 pl2;refine aa (wpAny_storeSet_of ho hd ?_ (fits_of_scanBound (by omega)))
   have g1:=Yr (es' :=es1) (t' :=t2) ho hd;have sb:=dE s.heap a (lq es1 t2);split
   ·have p2:=relayAll_perm t2 es1 (cX es1.size);have f3:=relayAll_fits t2 es1 (cX es1.size);have l3:=Yp t2 es1 (cX es1.size);generalize relayAll t2 es1 (cX es1.size)=M at p2 f3 l3 ⊢;obtain⟨es2,t3,gw⟩:=M;dsimp only at p2 f3 l3 ⊢;have n2:es2.size=es1.size:=by rw[← aT,p2.length_eq,aT]
    refine aa (Yq (aa (wpAny_storeSet_of g1 rfl ?_ (fits_of_scanBound (by omega)))))
    have g2:=Yr (es' :=es2) (t' :=t3) g1 rfl;exact ai (ai (h1' es2 _ t3 _ (p2.trans p1) f3 (l3.1.trans l2) (l3.2 pl2) g2 (sb.trans (dE _ a _))))
   ·exact ai (ai (h1' es1 _ t2 _ p1 f2 l2 pl2 g1 sb))
  split
  ·refine aa ?_;rw[hashByValue_scannable 8 sc,np];exact ai (main _ (SetTable.fits_plain_off f1) l1 rfl)
  ·rename_i hp;refine aa (ai ?_);exact main t1 f1 l1 (by simpa using hp)
end
theorem Zr:Slot "set_iterator" "__next__" "set_iterator.__next__":=
 .of (owner:="set_iterator") (n:="__next__") (by rw[bn,aO];kernel_rfl) (by decide+kernel) (by decide+kernel) (by decide+kernel) (.inl (by decide+kernel)) (by rw[bV];kernel_rfl)
theorem jS:Slot "set_iterator" "__iter__" "set_iterator.__iter__":=
 .of (owner:="set_iterator") (n:="__iter__") (by rw[bn,aO];kernel_rfl) (by decide+kernel) (by decide+kernel) (by decide+kernel) (.inl (by decide+kernel)) (by rw[bV];kernel_rfl)
theorem wI:entryFor table "set_iterator.__next__"=some Builtin.«set_iterator.__next__»:=entryFor_of_tree (by kernel_rfl)
theorem wJ:entryFor table "set_iterator.__iter__"=some Builtin.«dict_keyiterator.__iter__»:=
 entryFor_alias (id' :="dict_keyiterator.__iter__") (by kernel_rfl) rfl (by decide+kernel) (by kernel_rfl)
theorem JY:entryFor table "set.__iter__"=some Builtin.«frozenset.__iter__»:=
 entryFor_alias (id' :="frozenset.__iter__") (by kernel_rfl) rfl (by decide+kernel) (by kernel_rfl)
theorem Wy (a:Value):argsOk "set_iterator.__next__" ⟨[a],[]⟩:=by unfold argsOk;kernel_rfl
theorem Wz (a:Value):argsOk "set_iterator.__iter__" ⟨[a],[]⟩:=by unfold argsOk;kernel_rfl
theorem Ys {M:Model}{A:Around}{E:Value->Shared->Prop}{s:Shared}{src:Source}{n:Nat}{Q:Nat->Shared->Prop}(hn:n ≠ 0)(h:∀i,i < n->Q i { s with drawn:=s.drawn.bump src }):wpAny M A (choose src n) Q E s:=λΓ p hΓ=>by
 unfold choose;rw[Sem.wp_choose];refine⟨hn, ?_⟩;have:=h _ (ip (M.w.draws src (s.drawn.get src)) (e_ hn));simpa using this
theorem jI {α:Type}:∀(l:List α) (i:Nat) (x:α),l[i]? =some x->(x :: l.eraseIdx i).Perm l
 | [],i,x,h=>by simp at h
 | y :: l,0,x,h=>by simp at h;subst h;simp
 | y :: l,i+1,x,h=>by
  have:=jI l i x (by simpa using h)
  rw[List.eraseIdx_cons_succ];exact(List.Perm.swap y x _).trans (this.cons y)
theorem Yt {M:Model}{A:Around}{E:Value->Shared->Prop}{α:Type}:∀(n:Nat) (xs:List α) (s:Shared) (Q:List α->Shared->Prop),xs.length=n->
  (∀ys d,ys.Perm xs->Q ys { s with drawn:=d })->wpAny M A (drawOrder n xs) Q E s
 | 0,xs,s,Q,hn,h=>by
  have:xs=[]:=cU.mp hn;subst this;unfold drawOrder;exact ai (h [] s.drawn (.refl _))
 | n+1,[],s,Q,hn,h=>by simp at hn
 | n+1,x :: xs,s,Q,hn,h=>by
  unfold drawOrder;refine aa (Ys (by simp) λi hi=> ?_)
  have e:(x :: xs)[i]? =some (x :: xs)[i]:=ac hi;rw[e];dsimp only;refine aa (Yt n _ _ _ (by rw[f6 hi];simpa using hn) λys d hp=> ?_)
  exact ai (h _ d ((hp.cons _).trans (jI _ _ _ e)))
theorem Yu {α:Type}(f:Nat->Nat):∀(n k:Nat) (l:List α) (out:Array α),l.length=n->(iL f n k l out).toList.Perm (out.toList++l)
 | 0,k,l,out,h=>by
  have:l=[]:=cU.mp h;subst this;unfold iL;simp
 | n+1,k,l,out,h=>by
  unfold iL;have hi:f k % l.length < l.length:=ip _ (by omega)
  have e:l[f k % l.length]? =some l[f k % l.length]:=ac hi;rw[e];dsimp only;refine(Yu f n (k+1) _ _ (by rw[f6 hi];omega)).trans ?_
  rw[iK,bS];exact(List.perm_append_left_iff _).mpr (jI _ _ _ e)
theorem Jw {α:Type}(f:Nat->Nat)(xs:Array α):(pickOrder f xs).toList.Perm xs.toList:=by
 unfold pickOrder;simpa using Yu f xs.size 0 xs.toList #[] (by simp)
abbrev siO (first:Value)(i:Nat)(S:Value)(n ep:Nat):Obj:={ cls:= .type "set_iterator",dict:=none,data:= .fields #[first,.int i 0,S,.int n 0,.int ep 0],slots:= #[] }
section
variable {prog:Program}{w:World}{A:Around}{E:Value->Shared->Prop}{s:Shared}{I S:Addr}{i ep j:Nat}{o:Obj}{es:Array (Int×Value)}{t:SetTable}
theorem ue {first Sv:Value}{n:Nat}{Q:Value->Shared->Prop}(hi:s.heap.get? I=some (siO first i Sv n ep))(h:Q (.ref I) s):wpAny (model prog w) A (pyIter (.ref I)) Q E s:=by
 have hT:s.TypeIs (.ref I) "set_iterator":=⟨_,hi,rfl⟩;refine wpAny_pyIter_slot hT jS (bH jS hT wJ ?_ (Wz _));show wpAny _ _ (ret (.ref I)) _ _ s;exact ai ⟨_,rfl,"set_iterator",_,hT,Zr.lookup,h⟩
theorem Yv {Q:Option Value->Shared->Prop}{h:Heap}(hh:A.handled=none)(hQ:∀h',(∀b o,h.get? b=some o->h'.get? b=some o)->Q none { s with heap:=h' }):
  wpAny (model prog w) A.in1 (newExc (.type "StopIteration") [] >>= λe=>(raiseNew e:Sem PySem.Fin)) (λfin s' =>∃v,fin= .done (.ret v)/\Q (some v) s')
   (λe s' =>wpAny (model prog w) A (isInstance e (.type "StopIteration")) (λb s'' =>b=true/\Q none s'') E s') { s with heap:=h }:=by
 refine aa ?_;simp only[newExc,newTuple];refine aa (aJ ?_ (by size_fits))
 refine aa (m:=firstArgMember _ _) (bb (a:=Value.none) (by first | rfl | (simp only[firstArgMember];rfl)) ?_)
 refine aJ ?_ (by size_fits)
 simp only[raiseNew];refine aa (wpAny_handled ?_);rw[show A.in1.handled=none from hh];refine aa (ai (wpAny_throw ?_));refine cC (T:="StopIteration") (b:=true) ⟨_,ah _ rfl,rfl⟩ isSubtype_stop ⟨rfl,hQ _ λb o e=> ?_⟩;exact ad _ (ad _ e)
theorem Yw {Q:Option Value->Shared->Prop}{first Sv:Value}{n:Nat}(hi:s.heap.get? I=some (siO first i Sv n ep))
  (h:wpAny (model prog w) A.in1 (Builtin.«set_iterator.__next__» ⟨[.ref I],[]⟩) (λfin s' =>∃v,fin= .done (.ret v)/\Q (some v) s')
   (λe s' =>wpAny (model prog w) A (isInstance e (.type "StopIteration")) (λb s'' =>b=true/\Q none s'') E s') s):wpAny (model prog w) A (pyNext (.ref I)) Q E s:=by
 have hT:s.TypeIs (.ref I) "set_iterator":=⟨_,hi,rfl⟩;unfold pyNext;refine aa (dj (c6 (name:=aQ "__next__") hT Zr (bH Zr hT wI (de h (λfin s' x=> ?_) λe s' x=> ?_) (Wy _))))
 ·obtain⟨v,e,q⟩:=x;exact⟨v,e,ai q⟩
 ·refine aa (de x (λb s'' y=> ?_) λ_ _ z=>z);obtain⟨rfl,q⟩:=y;exact ai q
theorem uV {Q:Option Value->Shared->Prop}{sl:Nat}(hh:A.handled=none)(hi:s.heap.get? I=some (siO (.int sl 0) i (.ref S) es.size ep))(ho:s.heap.get? S=some o)(hd:o.data= .set es ep t)(hf:t.fits es.size=true)
  (h:wpAny (model prog w) A.in1 (setNext S sl i ep) (λr s' =>s' =s/\match r with
   | some (x,nx)=>∀h',h'.get? I=some (siO (.int nx 0) (i+1) (.ref S) es.size ep)->bL I s.heap h' ->Q (some x) { s with heap:=h' }
   | none=>∀h',(∀b o,b ≠ I->s.heap.get? b=some o->h'.get? b=some o)->Q none { s with heap:=h' }) (λ_ _=>False) s):wpAny (model prog w) A (pyNext (.ref I)) Q E s:=by
 refine Yw hi ?_;unfold Builtin.«set_iterator.__next__»;refine aa (m:=slotArgs _ _ _) (bb (a:=(Value.ref I,[])) rfl ?_);dsimp only;refine aa (wpAny_fieldsOf hi rfl ?_);dsimp only;refine aa (m:=setEntries S) (aa (bi ho hd hf (ai ?_)));dsimp only;rw[if_neg (by simp)]
 simp only[bh];refine aa (de h (λr s' x=> ?_) λ_ _ x=>cQ x);obtain⟨rfl,x⟩:=x;cases r with
 | some p=>
  obtain⟨x0,nx⟩:=p;dsimp only at x ⊢;refine aa (aR hi (by simp) λh1 g1 b1=>aa (aR g1 (by simp) λh2 g2 b2=>ai ⟨_,rfl,x h2 ?_ (b1.trans b2)⟩))
  simpa[rawInt,siO] using g2
 | none=>
  dsimp only at x ⊢;refine aa (aR hi (by simp) λh1 g1 b1=>Yv hh λh2 k2=>x h2 λb o hb e=>k2 b o ((b1.2 b hb).trans e))
theorem Vb {Q:Option Value->Shared->Prop}{P:Addr}{pl:List Nat}{on:Nat}{od:Option Addr}{osl:Array (Option Value)}(hh:A.handled=none)(hi:s.heap.get? I=some (siO (.ref P) i (.ref S) es.size ep))(ho:s.heap.get? S=some o)(hd:o.data= .set es ep t)(hf:t.fits es.size=true)
  (hp:s.heap.get? P=some { cls:= .type "tuple",dict:=od,data:= .seq (pl.map λ(k:Nat)=>rawInt k).toArray on,slots:=osl })
  (h:match pl[i]? with
   | some k=>∃e,es[k]? =some e/\∀h',h'.get? I=some (siO (.ref P) (i+1) (.ref S) es.size ep)->bL I s.heap h' ->Q (some e.2) { s with heap:=h' }
   | none=>∀h',(∀b o,b ≠ I->s.heap.get? b=some o->h'.get? b=some o)->Q none { s with heap:=h' }):wpAny (model prog w) A (pyNext (.ref I)) Q E s:=by
 refine Yw hi ?_;unfold Builtin.«set_iterator.__next__»;refine aa (m:=slotArgs _ _ _) (bb (a:=(Value.ref I,[])) rfl ?_);dsimp only;refine aa (wpAny_fieldsOf hi rfl ?_);dsimp only;refine aa (m:=setEntries S) (aa (bi ho hd hf (ai ?_)));dsimp only;rw[if_neg (by simp)]
 refine aa (bF hp rfl ?_);dsimp only;have e0:(pl.map λ(k:Nat)=>rawInt k).toArray[(i:Int).toNat]? =(pl[i]?).map λ(k:Nat)=>rawInt k:=by simp
 rw[e0];cases hk:pl[i]? with
 | some k=>
  rw[hk]at h;obtain⟨e,he,x⟩:=h;simp only[lc,rawInt];refine aa (m:=setNextDrawn S _ _) (aa (bi ho hd hf ?_));simp only[bh,bne_self_eq_false,aB,if_false,he];refine ai (aa (aR hi (by simp) λh1 g1 b1=>ai ⟨_,rfl,x h1 ?_ b1⟩))
  simpa[rawInt,siO] using g1
 | none=>
  rw[hk]at h;simp only[Option.map_none];refine aa (aR hi (by simp) λh1 g1 b1=>aa (aR g1 (by simp) λh2 g2 b2=>Yv hh λh3 k3=>h h3 λb o hb e=>k3 b o ((b2.2 b hb).trans ((b1.2 b hb).trans e))))
end
structure Yx (w:World) (h:Heap) (S:Addr) (es:Array (Int×Value)) (ep:Nat) (t:SetTable):Prop where
 at_:h.get? S=some { cls:= .type "set",dict:=none,data:= .set es ep t,slots:= #[] }
 fits:t.fits es.size=true
 led:w.params.followText "set-order"=true\/t.led=true
 plain:t.plain=false\/es.size=0
theorem Yx.keep {w:World}{h h' :Heap}{S:Addr}{es:Array (Int×Value)}{ep:Nat}{t:SetTable}(x:Yx w h S es ep t)(e:∀o,h.get? S=some o->h'.get? S=some o):Yx w h' S es ep t:=⟨e _ x.at_,x.fits,x.led,x.plain⟩
theorem WA (j k:Nat):dZ #[j] k=if j < k then 1 else 0:=by
 show iM #[j] k 1 0 1=_;unfold iM;simp only[Nat.lt_add_one,Nat.zero_lt_one,if_true];have e:(#[j]:Array Nat).getD ((0+1) / 2) k=j:=rfl;rw[e];split <;> rfl
section
variable {prog:Program}{w:World}{A:Around}{E:Value->Shared->Prop}{s:Shared}{I S P:Addr}{i ep j:Nat}{es:Array (Int×Value)}{t:SetTable}
theorem ZB {M:Model}{Q:Bool->Shared->Prop}(h:Q (M.w.params.followText "set-order") s):wpAny M A setsByText Q E s:=by
 unfold setsByText;exact aa (wpAny_askSetting (ai h))
theorem UQ (hh:A.handled=none)(ht:w.params.followText "set-order"=true)(hne:S ≠ I):
  Walks prog w A I [I,S] [I] es.size (λi v=>∃e,(pickOrder (w.params.setOrder S ep) es)[i]? =some e/\v=e.2) (λi h=>h.get? I=some (siO (.int 0 0) i (.ref S) es.size ep)/\Yx w h S es ep t) where
 sub:=λb hb=>by simp at hb;simp[hb]
 frame:=λ_ _ _ st hk=>⟨hk I (by simp) _ st.1,st.2.keep λo e=>hk S (by simp) o e⟩
 item:=λi s Q E hi st hQ=>by
  have hz:i < (pickOrder (w.params.setOrder S ep) es).size:=by rw[← aT,(Jw _ es).length_eq,aT];exact hi
  have he:(pickOrder (w.params.setOrder S ep) es)[i]? =some (pickOrder (w.params.setOrder S ep) es)[i]:=bA hz;refine uV (sl:=0) hh st.1 st.2.at_ rfl st.2.fits ?_;unfold setNext;refine aa (bi st.2.at_ rfl st.2.fits (aa (ZB ?_)));have e0:(model prog w).w.params.followText "set-order"=true:=ht;simp only[e0,if_true,bne_self_eq_false,aB,if_false];refine aa (m:=setWalk S) ?_;unfold setWalk;refine aa (bi st.2.at_ rfl st.2.fits (aa (ZB ?_)));simp only[e0,if_true];refine aa (wpAny_askSetting (ai (ai ⟨rfl, ?_⟩)));have e1:∀f:Int×Value->Value×Nat,iq f (pickOrder ((model prog w).w.params.setOrder S ep) es)[i]? =some (f (pickOrder (w.params.setOrder S ep) es)[i]):=λf=>congrArg (iq f) he;rw[e1];intro h' g b;exact hQ _ h' s.toks ⟨_,he,rfl⟩ ⟨g,st.2.keep λo e=>(b.2 S hne).trans e⟩ λb' o hb e=>(b.2 b' (λz=>hb (by simp[z]))).trans e
 done:=λs Q E st hQ=>by
  have he:(pickOrder (w.params.setOrder S ep) es)[es.size]? =none:=bR (by rw[← aT,(Jw _ es).length_eq,aT];exact am _)
  refine uV (sl:=0) hh st.1 st.2.at_ rfl st.2.fits ?_;unfold setNext;refine aa (bi st.2.at_ rfl st.2.fits (aa (ZB ?_)));have e0:(model prog w).w.params.followText "set-order"=true:=ht;simp only[e0,if_true,bne_self_eq_false,aB,if_false];refine aa (m:=setWalk S) ?_;unfold setWalk;refine aa (bi st.2.at_ rfl st.2.fits (aa (ZB ?_)));simp only[e0,if_true];refine aa (wpAny_askSetting (ai (ai ⟨rfl, ?_⟩)));have e1:∀f:Int×Value->Value×Nat,iq f (pickOrder ((model prog w).w.params.setOrder S ep) es)[es.size]? =none:=λf=>congrArg (iq f) he;rw[e1];intro h' k;exact hQ h' s.toks λb o hb e=>k b o (λz=>hb (by simp[z])) e
 self:=λ_ _ _ _ st hQ=>ue st.1 hQ
theorem Yy (hh:A.handled=none)(ht:w.params.followText "set-order"=false)(hz:es.size<=1)(hne:S ≠ I):
  Walks prog w A I [I,S] [I] es.size (λi v=>∃e,es[i]? =some e/\v=e.2) (λi h=>h.get? I=some (siO (.int (if i=0 then 0 else t.place.getD 0 0+1:Nat) 0) i (.ref S) es.size ep)/\Yx w h S es ep t) where
 sub:=λb hb=>by simp at hb;simp[hb]
 frame:=λ_ _ _ st hk=>⟨hk I (by simp) _ st.1,st.2.keep λo e=>hk S (by simp) o e⟩
 item:=λi s Q E hi st hQ=>by
  obtain rfl:i=0:=by omega
  have h1:es.size=1:=by omega
  have he:es[0]? =some es[0]:=bA hi;have hp:t.place.size=1:=by have:=st.2.fits;simp only[SetTable.fits,aj,beq_iff_eq]at this;omega
  obtain⟨j,hj⟩:∃j,t.place= #[j]:=⟨t.place[0],by
   apply lr
   ·simp[hp]
   ·intro i h1 h2;simp at h2;subst h2;rfl⟩
  have hl:t.led=true:=st.2.led.resolve_left (by rw[ht];simp)
  refine uV (sl:=0) hh st.1 st.2.at_ rfl st.2.fits ?_;unfold setNext;refine aa (bi st.2.at_ rfl st.2.fits (aa (ZB ?_)));have e0:(model prog w).w.params.followText "set-order"=false:=ht;simp only[e0,aB,if_false];refine cb (λh=>absurd h ?_) (λ_=> ?_)
  ·show ¬ ((!t.plain && decide (es.size > 1))=true);simp[show ¬ (es.size > 1) by omega]
  refine aa (bb (a:=()) ?_ (ai ⟨rfl, ?_⟩))
  ·show (if (!t.led && !es.isEmpty)=true then unsupported "set:maker-not-led" else pure ())=pure ()
   rw[hl];rfl
  have e1:dZ t.place 0=0:=by rw[hj,WA];rfl
  have e2:t.place[0]? =some j:=by rw[hj];rfl
  rw[e1,he,e2];intro h' g b;have e3:t.place.getD 0 0=j:=by rw[hj];rfl
  refine hQ _ h' s.toks ⟨_,he,rfl⟩ ⟨?_,st.2.keep λo e=>(b.2 S hne).trans e⟩ λb' o hb e=>(b.2 b' (λz=>hb (by simp[z]))).trans e
  rw[e3];exact g
 done:=λs Q E st hQ=>by
  refine uV hh st.1 st.2.at_ rfl st.2.fits ?_;unfold setNext;refine aa (bi st.2.at_ rfl st.2.fits (aa (ZB ?_)));have e0:(model prog w).w.params.followText "set-order"=false:=ht;have hl:t.led=true:=st.2.led.resolve_left (by rw[ht];simp)
  simp only[e0,aB,if_false];refine cb (λh=>absurd h ?_) (λ_=> ?_)
  ·show ¬ ((!t.plain && decide (es.size > 1))=true);simp[show ¬ (es.size > 1) by omega]
  refine aa (bb (a:=()) ?_ (ai ⟨rfl, ?_⟩))
  ·show (if (!t.led && !es.isEmpty)=true then unsupported "set:maker-not-led" else pure ())=pure ()
   rw[hl];rfl
  have hp:t.place.size=es.size:=by have:=st.2.fits;simp only[SetTable.fits,aj,beq_iff_eq]at this;exact this.1
  have e1:es[dZ t.place (if es.size=0 then 0 else t.place.getD 0 0+1)]? =none:=by
   rcases io es.size with h0 | h0
   ·exact bR (by omega)
   ·have h1:t.place.size=1:=by omega
    obtain⟨j,hj⟩:∃j,t.place= #[j]:=⟨t.place[0],by
     apply lr
     ·simp[h1]
     ·intro i h1 h2;simp at h2;subst h2;rfl⟩
    have e3:t.place.getD 0 0=j:=by rw[hj];rfl
    rw[if_neg (by omega),e3,hj,WA,if_pos (by omega)]
    exact bR (by omega)
  rw[e1];intro h' k;exact hQ h' s.toks λb o hb e=>k b o (λz=>hb (by simp[z])) e
 self:=λ_ _ _ _ st hQ=>ue st.1 hQ
theorem uf (hh:A.handled=none)(pl:List Nat)(hpl:pl.Perm (aX es.size))(hne:S ≠ I)(hP:P ≠ I):
  Walks prog w A I [I,S,P] [I] es.size (λi v=>∃k e,pl[i]? =some k/\es[k]? =some e/\v=e.2) (λi h=>h.get? I=some (siO (.ref P) i (.ref S) es.size ep)/\Yx w h S es ep t/\h.get? P=some { cls:= .type "tuple",dict:=none,data:= .seq (pl.map λ(k:Nat)=>rawInt k).toArray 0,slots:= #[] }) where
 sub:=λb hb=>by simp at hb;simp[hb]
 frame:=λ_ _ _ st hk=>⟨hk I (by simp) _ st.1,st.2.1.keep λo e=>hk S (by simp) o e,hk P (by simp) _ st.2.2⟩
 item:=λi s Q E hi st hQ=>by
  have hl:pl.length=es.size:=by rw[hpl.length_eq,bu]
  have hi' :i < pl.length:=by omega
  have e1:pl[i]? =some pl[i]:=ac hi';have hk:pl[i] < es.size:=bE.mp (hpl.mem_iff.mp (fJ hi'));have e2:es[pl[i]]? =some es[pl[i]]:=bA hk;refine Vb hh st.1 st.2.1.at_ rfl st.2.1.fits st.2.2 ?_;rw[e1];refine⟨_,e2,λh' g b=> ?_⟩;exact hQ _ h' s.toks ⟨_,_,e1,e2,rfl⟩ ⟨g,st.2.1.keep λo e=>(b.2 S hne).trans e,(b.2 P hP).trans st.2.2⟩ λb' o hb e=>(b.2 b' (λz=>hb (by simp[z]))).trans e
 done:=λs Q E st hQ=>by
  have hl:pl.length=es.size:=by rw[hpl.length_eq,bu]
  refine Vb hh st.1 st.2.1.at_ rfl st.2.1.fits st.2.2 ?_;rw[show pl[es.size]? =none from aD (by omega)]
  intro h' k;exact hQ h' s.toks λb o hb e=>k b o (λz=>hb (by simp[z])) e
 self:=λ_ _ _ _ st hQ=>ue st.1 hQ
end
section
variable {prog:Program}{w:World}{A:Around}{E:Value->Shared->Prop}{s:Shared}{S:Addr}{ep:Nat}{es:Array (Int×Value)}{t:SetTable}
def KT (es:Array (Int×Value))(P:Nat->Value->Prop):Prop:=∃ord:List (Int×Value),ord.Perm es.toList/\∀i v,P i v->∃e,ord[i]? =some e/\v=e.2
theorem xV {Q:Value->Shared->Prop}(hh:A.handled=none)(hS:Yx w s.heap S es ep t)(hb:es.size<=100)
  (h:∀(I:Addr) (fp:List Addr) (P:Nat->Value->Prop) (St:Nat->Heap->Prop) (h' :Heap) (d:Drawn),Walks prog w A I fp [I] es.size P St->St 0 h' ->KT es P->s.heap.objs.size<=I->(∀b∈fp,b=S\/s.heap.objs.size<=b)->
   (∀b o,s.heap.get? b=some o->h'.get? b=some o)->Q (.ref I) { s with heap:=h',drawn:=d }):wpAny (model prog w) A (pyIter (.ref S)) Q E s:=by
 have hT:s.TypeIs (.ref S) "set":=⟨_,hS.at_,rfl⟩;have hlt:S < s.heap.objs.size:=ao hS.at_;refine wpAny_pyIter_slot hT ld (bH ld hT JY ?_ (F.args_set_iter_1 _));unfold Builtin.«frozenset.__iter__»;refine aa (m:=Builtin.Frozenset.slot0 _ _) (bb (a:=S) rfl ?_);refine aa (m:=Builtin.Frozenset.sizeOf S) (aa (m:=setEntries S) (aa (bi hS.at_ rfl hS.fits (ai (ai ?_)))));refine aa (m:=setDrawn S) ?_;unfold setDrawn;refine aa (bi hS.at_ rfl hS.fits (aa (ZB (ai ?_))));refine cb (λhd=> ?_) (λhd=> ?_)
 ·have hd:(!w.params.followText "set-order" && (!t.plain && decide (es.size > 1)))=true:=hd;refine aa (Yt es.size _ _ _ (by simp) λpl d hp=>aa (wpAny_newTuple ?_ (by rw[af,hp.length_eq,bu,bI];show es.size<=16777216;omega)))
  have g1:Yx w (s.heap.push { cls:= .type "tuple",data:= .seq (pl.map λ(i:Nat)=>rawInt i).toArray }) S es ep t:=hS.keep λo e=>ad _ e;refine aa (wpAny_setEpoch_of g1.at_ rfl g1.fits ?_);refine aa (aJ (ai ⟨_,rfl,"set_iterator",_,⟨_,ah _ rfl,rfl⟩,Zr.lookup, ?_⟩));refine h _ _ _ _ _ _ (uf (ep:=ep) (t:=t) hh pl hp (P:=s.heap.objs.size) ?_ ?_) ⟨ah _ rfl,g1.keep λo e=>ad _ e, ?_⟩ ?_ ?_ ?_ ?_
  ·have e:(s.heap.push { cls:= .type "tuple",data:= .seq (pl.map λ(i:Nat)=>rawInt i).toArray }).objs.size=s.heap.objs.size+1:=bo ..;exact aw (by rw[e];exact bT hlt)
  ·have e:(s.heap.push { cls:= .type "tuple",data:= .seq (pl.map λ(i:Nat)=>rawInt i).toArray }).objs.size=s.heap.objs.size+1:=bo ..;exact aw (by rw[e];exact cV _)
  ·exact ad _ (ah _ rfl)
  ·refine⟨pl.map λk=>es.getD k (0,.none), ?_,λi v ⟨k,e,a1,a2,a3⟩=>⟨e, ?_,a3⟩⟩
   ·have e1:=hp.map λk=>es.getD k (0,Value.none);refine e1.trans (.of_eq ?_);refine cu λi=> ?_;rw[ax]
    by_cases hi:i < es.size
    ·rw[cA hi];simp[ir,hi]
    ·rw[aD (by simp;omega)]
     simp;omega
   ·rw[ax,a1,lc,eT,a2];rfl
  ·have e:(s.heap.push { cls:= .type "tuple",data:= .seq (pl.map λ(i:Nat)=>rawInt i).toArray }).objs.size=s.heap.objs.size+1:=bo ..;show s.heap.objs.size<=(s.heap.push { cls:= .type "tuple",data:= .seq (pl.map λ(i:Nat)=>rawInt i).toArray }).objs.size;rw[e];exact dO _
  ·intro b hb;have e:(s.heap.push { cls:= .type "tuple",data:= .seq (pl.map λ(i:Nat)=>rawInt i).toArray }).objs.size=s.heap.objs.size+1:=bo ..;rcases ak.mp hb with z | hb
   ·right;rw[z]
    show s.heap.objs.size<=(s.heap.push { cls:= .type "tuple",data:= .seq (pl.map λ(i:Nat)=>rawInt i).toArray }).objs.size;rw[e];exact dO _
   ·rcases ak.mp hb with z | hb
    ·exact .inl z
    ·right;rw[aC.mp hb];exact am _
  ·intro b o e;exact ad _ (ad _ e)
 ·have hd:¬ ((!w.params.followText "set-order" && (!t.plain && decide (es.size > 1)))=true):=hd;refine aa (ai (aa (wpAny_setEpoch_of hS.at_ rfl hS.fits ?_)));refine aa (aJ (ai ⟨_,rfl,"set_iterator",_,⟨_,ah _ rfl,rfl⟩,Zr.lookup, ?_⟩));have hSp:Yx w (s.heap.push (siO (.int 0 0) 0 (.ref S) es.size ep)) S es ep t:=hS.keep λo e=>ad _ e;have fin:∀(P:Nat->Value->Prop) (St:Nat->Heap->Prop),Walks prog w A s.heap.objs.size [s.heap.objs.size,S] [s.heap.objs.size] es.size P St->St 0 (s.heap.push (siO (.int 0 0) 0 (.ref S) es.size ep))->KT es P->
    Q (.ref s.heap.objs.size) { s with heap:=s.heap.push (siO (.int 0 0) 0 (.ref S) es.size ep) }:=λP St W st od=>
   h _ _ _ _ _ s.drawn W st od (am _) (λb hb=>by
    rcases ak.mp hb with z | hb
    ·right;rw[z];exact am _
    ·exact .inl (aC.mp hb)) λb o e=>ad _ e
  cases ht:w.params.followText "set-order" with
  | true=>
   refine fin _ _ (UQ (t:=t) hh ht (aw hlt)) ⟨ah _ rfl,hSp⟩ ⟨(pickOrder (w.params.setOrder S ep) es).toList,Jw _ es,λi v ⟨e,a1,a2⟩=>⟨e,by simpa using a1,a2⟩⟩
  | false=>
   have hz:es.size<=1:=by
    rcases hS.plain with p | p
    ·rw[ht,p]at hd;simp at hd;exact hd
    ·omega
   exact fin _ _ (Yy (t:=t) hh ht hz (aw hlt)) ⟨ah _ rfl,hSp⟩ ⟨es.toList,.refl _,λi v ⟨e,a1,a2⟩=>⟨e,by simpa using a1,a2⟩⟩
theorem xW {Q:Bool->Shared->Prop}(hT:s.TypeIs (.ref S) "set")(h:Q false s):wpAny (model prog w) A (c8 (.ref S)) Q E s:=by
 unfold c8;refine aa (cy hT F.slot_set_len.lookup ?_);generalize hq:("set.__len__":String)=q
 wp_delta
 rw[show splitId q=some ("set","__len__") by subst hq;decide+kernel]
 subst hq;refine aa (cC (T:="set") (b:=true) hT (by rw[bV];kernel_rfl) (cb (λz=>absurd z (by decide)) λ_=> ?_))
 refine cb (λ_=>aa (df hT (ai h))) (λz=>absurd (by decide+kernel) z)
theorem UR {R:List Value->Shared->Prop}(hh:A.handled=none)(hS:Yx w s.heap S es ep t)(hb:es.size<=100)
  (h:∀(h' :Heap) (tk:Nat) (d:Drawn) (vs:List Value),(∀b o,s.heap.get? b=some o->h'.get? b=some o)->s.heap.objs.size<=h'.objs.size->vs.Perm (es.toList.map (·.2))->R vs { s with heap:=h',drawn:=d,toks:=tk }):
  wpAny (model prog w) A (collect (.ref S)) R E s:=by
 have hlt:S < s.heap.objs.size:=ao hS.at_;have hnl:es.size<=sizeLine:=by rw[bI];omega
 unfold collect;refine aa (wpAny_runValue (aM entry_proto_collect' ?_));rw[aE PySem.F.plain_proto_collect _];refine aa (m:=newList []) (aJ (ai ⟨a_ fK _,aM entry_list_iadd' ?_⟩));rw[aE fK _];generalize hG:s.heap.push { cls:= .type "list",data:= .seq ([]:List Value).toArray }=G;have gL:G.get? s.heap.objs.size=some { cls:= .type "list",data:= .seq #[] }:=by rw[← hG];exact ah _ rfl
 have gk:∀b o,s.heap.get? b=some o->G.get? b=some o:=λb o e=>by rw[← hG];exact ad _ e
 have gz:G.objs.size=s.heap.objs.size+1:=by rw[← hG];exact bo ..
 have gS:=hS.keep (h' :=G) (gk S);have hT:eD { s with heap:=G } (.ref S) "set":=⟨_,gS.at_,rfl⟩;have hne:s.heap.objs.size ≠ S:=cL hlt;show wpAny _ A.in1 (bM (.ref s.heap.objs.size) (.ref S) (.ref s.heap.objs.size)) _ _ _;unfold bM;refine aa (df hT ?_);have c1:bW (.ref s.heap.objs.size) (.ref S)=false:=by simp[bW,hne]
 have c2:(Value.type "set" == Value.type "list")=false:=by decide
 have c3:(Value.type "set" == Value.type "tuple")=false:=by decide
 simp only[c1,c2,c3,Bool.or_false,aB,if_false];refine aa (xV (A:=A.in1) (s:={ s with heap:=G }) hh gS hb λI fp P St h1 d W st od hI hfp k1=> ?_);refine aa (bQ (xW ⟨_,k1 S _ gS.at_,rfl⟩ ?_));have hLf:s.heap.objs.size ∉ fp:=λz=>by
  rcases hfp _ z with z | z
  ·exact hne z
  ·rw[gz]at z;exact absurd z (Nat.not_succ_le_self _)
 have loop:∀(h2:Heap) (c tk:Nat),St 0 h2->(∀b o,b ≠ s.heap.objs.size->h1.get? b=some o->h2.get? b=some o)->h2.get? s.heap.objs.size=some { cls:= .type "list",data:= .seq #[] c }->
   codeAny (model prog w) A (.builtin "list.extend.loop" ⟨[.ref s.heap.objs.size,.ref I,.ref s.heap.objs.size],[]⟩)
    (λq s' =>∃vs:List Value,vs.Perm (es.toList.map (·.2))/\∃(h' :Heap) (tk:Nat) (c' :Nat),q= .ok (.ret (.ref s.heap.objs.size))/\s' ={ s with heap:=h',drawn:=d,toks:=tk }/\(∀b o,s.heap.get? b=some o->h'.get? b=some o)/\
     h'.get? s.heap.objs.size=some { cls:= .type "list",dict:=none,data:= .seq vs.toArray c',slots:= #[] }) { s with heap:=h2,drawn:=d,toks:=tk }:=by
  intro h2 c tk st2 k2 g2;refine codeAny_extend_loopS W.toS hnl s.heap.objs.size hLf _ es.size 0 _ #[] c rfl (b9 _) st2 g2 (l6 _) λs' acc c' hm g3 ha=> ?_;obtain⟨ord,hp,ho⟩:=od;have ea:acc.toList=ord.map (·.2):=by
   refine cu λi=> ?_;rw[ax]
   by_cases hi:i < acc.size
   ·obtain⟨e,e1,e2⟩:=ho i acc[i] (ha.2 i acc[i] (bA hi));rw[e1];simp[hi,e2]
   ·have l2:ord.length=acc.size:=by rw[hp.length_eq,aT,ha.1]
    rw[aD (by simpa using hi),aD (by omega)];rfl
  refine⟨acc.toList,by rw[ea];exact hp.map _,s'.heap,s'.toks,c',rfl, ?_,λb o e=> ?_,by simpa using g3⟩
  ·rw[Moved.eq_with hm]
  ·have hbs:b ≠ s.heap.objs.size:=aw (ao e);refine hm.heap b o (λz=> ?_) (k2 b o hbs (k1 b o (gk b o e)));rcases ak.mp z with z | z
   ·exact hbs z
   ·have zz:s.heap.objs.size+1<=b:=by rw[aC.mp z,← gz];exact hI
    exact absurd (ao e) (Nat.not_lt.mpr (Nat.le_of_succ_le zz))
 have done:∀(q:Result) (s' :Shared),(∃vs:List Value,vs.Perm (es.toList.map (·.2))/\∃(h' :Heap) (tk:Nat) (c' :Nat),q= .ok (.ret (.ref s.heap.objs.size))/\s' ={ s with heap:=h',drawn:=d,toks:=tk }/\(∀b o,s.heap.get? b=some o->h'.get? b=some o)/\
     h'.get? s.heap.objs.size=some { cls:= .type "list",dict:=none,data:= .seq vs.toArray c',slots:= #[] })->q= .ok (.ret (.ref s.heap.objs.size))/\wpAny (model prog w) A (do
   let o ← load s.heap.objs.size
   match o.data with
   | .seq xs _=>pure xs.toList
   | _=>unsupported "internal:collect") R E s' :=by
  rintro q s' ⟨vs,hp,h',tk,c',rfl,rfl,k,g⟩
  refine⟨rfl,aa (wpAny_load g (ai ?_))⟩;exact h h' tk d vs k (eR (ao g)) hp
 have gL1:=k1 _ _ gL;refine cb (λ_=> ?_) (λ_=> ?_)
 ·refine aa (cF (aa ?_));show wpAny _ _ (updateSeq s.heap.objs.size (·.push .none) >>= λ_=>updateSeq s.heap.objs.size (·.pop)) _ _ _;have gL2:=bK (eY (·.push Value.none)) gL1 rfl;refine aa (cJ gL1 rfl (cJ (hz:=by seq_fits) gL2 rfl ?_))
  have gL3:=bK (eY (·.pop)) gL2 rfl;refine ai ⟨a_ ff _,cj (loop _ _ _ (W.frame 0 _ _ st λb hb o e=> ?_) (λb o hb e=> ?_) gL3) λq s' x=> ?_⟩
  ·have hbs:b ≠ s.heap.objs.size:=λz=>hLf (z ▸ hb);exact(aP _ _ (bq hbs)).trans ((aP _ _ (bq hbs)).trans e)
  ·exact(aP _ _ (bq hb)).trans ((aP _ _ (bq hb)).trans e)
  ·obtain⟨rfl,y⟩:=done q s' x;exact y
 ·refine ai ⟨a_ ff _,cj (loop _ _ _ st (λb o _ e=>e) gL1) λq s' x=> ?_⟩;obtain⟨rfl,y⟩:=done q s' x;exact y
end
def yo (prog:Program)(w:World)(h:Heap)(S:Addr)(acc:List Str):Prop:=∃es ep t ps,Yx w h S es ep t/\ElemsOf (strKind prog w) es.toList/\StrsAre (es.toList.map (·.2)) ps/\ps.Perm acc
theorem yo.keep {prog:Program}{w:World}{h h' :Heap}{S:Addr}{acc:List Str}(x:yo prog w h S acc)(e:∀o,h.get? S=some o->h'.get? S=some o):yo prog w h' S acc:=
 let ⟨es,ep,t,ps,a,r⟩:=x;⟨es,ep,t,ps,a.keep e,r⟩
theorem WB:∀{vs us:List Value},vs.Perm us->∀{ps:List Str},StrsAre us ps->∃qs,StrsAre vs qs/\qs.Perm ps:=by
 intro vs us hp ps h;refine⟨vs.map strOf,strsAre_map vs λv hv=>h.all v (hp.mem_iff.mp hv), ?_⟩;have:=hp.map strOf;rw[h.strs]at this;exact this
theorem Yz:∀{vs:List Value} {ps:List Str} (x:Str) (t:Tok),StrsAre vs ps->StrsAre (vs++[.str x t]) (ps++[x]):=by
 intro vs ps x t h
 induction h with
 | nil=>exact .cons x t .nil
 | cons y u _ ih=>exact .cons y u ih
theorem wK:∀{vs:List Value} {ps:List Str},StrsAre vs ps->vs.length=ps.length:=by
 intro vs ps h
 induction h with
 | nil=>rfl
 | cons y u _ ih=>simp[ih]
theorem v7:∀{vs:List Value} {ps:List Str} {x:Str},StrsAre vs ps->(x∈ps↔∃t,Value.str x t∈vs):=by
 intro vs ps x h
 induction h with
 | nil=>simp
 | cons y u _ ih=>
  rw[ak,ih];constructor
  ·rintro(rfl | ⟨t,e⟩)
   ·exact⟨u,by simp⟩
   ·exact⟨t,by simp[e]⟩
  ·rintro⟨t,e⟩
   rcases ak.mp e with e | e
   ·cases e;exact .inl rfl
   ·exact .inr ⟨t,e⟩
section
variable {prog:Program}{w:World}{A:Around}{E:Value->Shared->Prop}{s:Shared}{S:Addr}
theorem v8 {acc:List Str}{x:Str}{tk:Tok}{Q:Bool->Shared->Prop}(hS:yo prog w s.heap S acc)(hb:acc.length+1 < scanBound)
  (h:∀b h',bL S s.heap h' ->yo prog w h' S (if x∈acc then acc else acc++[x])->Q b { s with heap:=h' }):
  wpAny (model prog w) A (setAddHashed S (.str x tk) ((strKind prog w).hash x)) Q E s:=by
 obtain⟨es,ep,t,ps,hw,el,hs,hp⟩:=hS;have hz:es.size=acc.length:=by
  have h1:=wK hs;rw[af,aT]at h1;rw[h1,hp.length_eq]
 have isk:(strKind prog w).is x (.str x tk)=true:=strKind_is _ _ _ _;have key:x∈acc↔∃e∈es.toList,(strKind prog w).is x e.2=true:=by
  rw[← hp.mem_iff,v7 hs];constructor
  ·rintro⟨t',e⟩
   obtain⟨e,he,e2⟩:=aq.mp e;exact⟨e,he,by rw[e2];exact strKind_is _ _ _ _⟩
  ·rintro⟨e,he,e2⟩
   obtain⟨t',e3⟩:=i7 (x:=x) (v:=e.2) e2;exact⟨t',aq.mpr ⟨e,he,e3⟩⟩
 refine xU (knd:=strKind prog w) isk rfl rfl hw.at_ rfl hw.fits el (by omega) (λhm=> ?_) λhm es' ep' t' h' p' f' l' pl' g' sb=> ?_
 ·have:=h false s.heap (bL.refl _ _) (by rw[if_pos (key.mpr hm)];exact⟨es,ep,t,ps,hw,el,hs,hp⟩)
  exact this
 ·have hx:x ∉ acc:=λz=>by
   obtain⟨e,he,e2⟩:=key.mp z;rw[hm e he]at e2;cases e2
  refine h true h' sb ?_;rw[if_neg hx];have hs2:StrsAre ((es.toList++[((strKind prog w).hash x,Value.str x tk)]).map (·.2)) (ps++[x]):=by
   rw[cK];exact Yz x tk hs
  obtain⟨qs,h1,h2⟩:=WB (p'.map (·.2)) hs2;exact⟨es',ep',t',qs,⟨g',f',hw.led.imp id λz=>l'.trans z,.inl pl'⟩,(el.push isk rfl).perm p',h1,h2.trans (hp.append_right [x])⟩
end
section
variable {prog:Program}{w:World}{A:Around}{R:Result->Shared->Prop}{I:Addr}{fp wr:List Addr}{n:Nat}{P:Nat->Value->Prop}{St:Nat->Heap->Prop}
theorem YA (W:Walks prog w A.in1 I fp wr n P St)(S:Addr)(hSf:S ∉ fp)(val:Nat->Str)(hval:∀i v,P i v->∃t,v=Value.str (val i) t)(hb:n+1 < scanBound):
  ∀(k i:Nat) (acc:List Str) (s:Shared),n - i=k->i<=n->acc.length<=i->St i s.heap->yo prog w s.heap S acc->
   (∀h' tk,(∀b o,b ∉ S :: wr->s.heap.get? b=some o->h'.get? b=some o)->yo prog w h' S (dd acc ((fk i k).map val))->
    R (.ok (.ret .none)) { s with heap:=h',toks:=tk })->codeAny (model prog w) A (.builtin "set.update.loop" ⟨[.ref S,.ref I],[]⟩) R s:=by
 intro k
 induction k with
 | zero=>
  intro i acc s hk hi hal hst hS hR;obtain rfl:i=n:=by omega
  refine aM cW ?_;rw[aE b_ _];refine aa (m:=pyNext (.ref I)) (W.done s _ _ hst λh' tk hk' =>ai ?_);exact hR h' tk (λb o hb e=>hk' b o (λz=>hb (ab _ z)) e) (hS.keep (λo e=>hk' S o (λz=>hSf (W.sub _ z)) e))
 | succ k ih=>
  intro i acc s hk hi hal hst hS hR;refine aM cW ?_;rw[aE b_ _];refine aa (m:=pyNext (.ref I)) (W.item i s _ _ (by omega) hst λv h1 tk1 hP hst1 hk1=> ?_)
  obtain⟨t,rfl⟩:=hval i v hP;have hS1:=hS.keep (λo e=>hk1 S o (λz=>hSf (W.sub _ z)) e);refine aa (m:=holding [Value.str (val i) t] (setAdd S (.str (val i) t))) (bQ ?_);unfold setAdd;have isk:(strKind prog w).is (val i) (.str (val i) t)=true:=strKind_is _ _ _ _;refine bQ (aa ((strKind prog w).pyHash isk ?_));refine v8 (s:={ s with heap:=h1,toks:=tk1+1 }) hS1 (by omega) λb h2 hsb hS2=> ?_
  refine ai ⟨a_ b_ _,ih (i+1) _ _ (by omega) (by omega) ?_ (W.frame _ h1 _ hst1 λb hb o e=> ?_) hS2 λh3 tk3 hk3 hS4=> ?_⟩
  ·split
   ·omega
   ·rw[aA,aG];omega
  ·exact(hsb.2 b (λz:b=S=>hSf (z ▸ hb))).trans e
  ·rw[iX,ar]at hR;refine hR h3 tk3 (λb o hb e=>hk3 b o hb ?_) hS4;exact(hsb.2 b (λz:b=S=>hb (z ▸ ae))).trans (hk1 b o (λz=>hb (ab _ z)) e)
end
theorem wL {prog:Program}{w:World}{A:Around}{E:Value->Shared->Prop}{s:Shared}(a:Value){Q:Value->Shared->Prop}
  (h:Q (.ref s.heap.objs.size) { s with heap:=s.heap.push { cls:= .type "set",dict:=none,data:= .set #[] 0 (.fresh 0 0 (!w.params.followText "set-order")) } }):
  codeAny (model prog w) A (.call (.builtin "set.__new__") ⟨[.type "set",a],[]⟩) (wants Q E) s:=by
 refine codeAny_of_tree ?_;refine aa (m:=checkBuiltinCall "set.__new__" ⟨[.type "set",a],[]⟩) (bb (F.newCall_set_1 a) (ai ⟨a_ lf _,aM F.entry_set_new ?_⟩));rw[aE lf _];unfold Builtin.«set.__new__» Builtin.Frozenset.newClass;have hq:=sub_set_self;obtain⟨hp,g,d,tk,os⟩:=s;dsimp only
 wp_walk
 refine wpAny_askSetting (ai ?_);dsimp only;simp only[newObj];exact aa (wpAny_alloc (ai (ai h)))
section
variable {prog:Program}{w:World}{A:Around}{E:Value->Shared->Prop}{s:Shared}
set_option maxRecDepth 100000 in
set_option maxHeartbeats 3200000 in
theorem US {l:Addr}{its:List Value}{ys:List Str}{Q:Value->Shared->Prop}(hh:A.handled=none)(hl:s.heap.IsList l its.toArray)(hi:StrsAre its ys)(hb:its.length+1 < scanBound)
  (h:∀(h' :Heap) (tk:Nat),yo prog w h' s.heap.objs.size (dd [] ys)->(∀b o,b < s.heap.objs.size->s.heap.get? b=some o->h'.get? b=some o)->
   Q (.ref s.heap.objs.size) { s with heap:=h',toks:=tk }):wpAny (model prog w) A (call (.type "set") [.ref l]) Q E s:=by
 have getv:∀{its:List Value} {ys:List Str},StrsAre its ys->its.length=ys.length/\∀(i:Nat) (v:Value),its[i]? =some v->∃t,v=Value.str (ys.getD i ⟨#[]⟩) t:=λ{its ys} hi=>by
  induction hi with
  | nil=>exact⟨rfl,λi v e=>by simp at e⟩
  | cons y t _ ih=>
   refine⟨by simp[ih.1],λi v e=> ?_⟩
   cases i with
   | zero=>exact⟨t,by simpa using e.symm⟩
   | succ i=>exact ih.2 i v (by simpa using e)
 obtain⟨hlen,hget⟩:=getv hi;have hys:(fk 0 its.length).map (λi=>ys.getD i ⟨#[]⟩)=ys:=by
  rw[hlen];refine cu λi=> ?_;rw[ax]
  by_cases hi' :i < ys.length
  ·rw[hV hi',ac hi'];simp[ac hi']
  ·rw[aD (by simp;omega),aD (by omega)]
   rfl
 obtain⟨c,tl,hmro⟩:=bC.mro;have hmade:=bC.made;have hsub:=bC.sub;have h1:=bC.notType;have h2:=bC.canCreate;have hct:=iY (.ref l);refine wpAny_call (codeAny_of_tree (show wpAny _ _ (callAny (.type "set") _) _ _ _ from ?_));refine ai ⟨ij _ (by decide+kernel),aM iF ?_⟩
 rw[ik (weight_type_call_type "set" [.ref l] []) rfl]
 repeat any_goals (first | assumption | wp_step)
 refine cj (wL (.ref l) (E:=E) (Q:=λobj s₁=>∃led:Bool,led= !w.params.followText "set-order"/\obj= .ref s.heap.objs.size/\s₁={ s with heap:=s.heap.push { cls:= .type "set",dict:=none,data:= .set #[] 0 (.fresh 0 0 led) } }) ⟨_,rfl,rfl,rfl⟩) λr s₁ hr=> ?_;cases r with
 | error e=>exact hr
 | ok fl=>
  cases fl with
  | ret obj=>
   obtain⟨led,hled,rfl,rfl⟩:=hr;generalize hG:s.heap.push { cls:= .type "set",dict:=none,data:= .set #[] 0 (.fresh 0 0 led) }=G;have hS:G.get? s.heap.objs.size=some { cls:= .type "set",dict:=none,data:= .set #[] 0 (.fresh 0 0 led) }:=by rw[← hG];exact ah _ rfl
   have hGs:G.objs.size=s.heap.objs.size+1:=by rw[← hG,bo]
   have hGk:∀b o,s.heap.get? b=some o->G.get? b=some o:=λb o e=>by rw[← hG];exact ad _ e
   have hT:eD { s with heap:=G } (.ref s.heap.objs.size) "set":=⟨_,hS,rfl⟩;have hli:=bC.init.lookup;have hbi:=bC.init.bind (.ref s.heap.objs.size)
   repeat any_goals (first | assumption | wp_step)
   refine cj (codeAny_call_builtin (R:=wants (λr s₂=>r= .none/\∃h' tk,s₂={ s with heap:=h',toks:=tk }/\yo prog w h' s.heap.objs.size (dd [] ys)/\
     (∀b o,b < s.heap.objs.size->s.heap.get? b=some o->h'.get? b=some o)) E) bC.init.plain iZ (check_set_init_1 hT ?_)) λr₂ s₂ hr₂=> ?_
   ·obtain⟨⟨ocls,odict,odata,oslots⟩,hol,hcl,nl,hdl⟩:=hl;simp only at hcl hdl;subst hcl;subst hdl;have hol' :=hGk _ _ hol;have hsls:=F.sub_list_set;have hslf:=hW;have hne:(Value.type "list" == Value.type "dict")=false:=by decide
    have hl1:G.IsList l its.toArray:=⟨_,hol',rfl,nl,rfl⟩;have hlS:l < s.heap.objs.size:=ao hol;unfold Builtin.«set.__init__» noKeywords eM;generalize hPI:pyIter=PI
    wp_walk
    subst hPI;refine wpAny_pyIter_list hl1 (aa (wpAny_runValue ?_));have hSf:s.heap.objs.size ∉ [G.objs.size,l]:=by
     rw[hGs];intro z;rcases ak.mp z with z | z
     ·exact absurd z (aw (cV _))
     ·exact absurd (aC.mp z) (cL hlS)
    refine YA (ii (A:=A.in1.in1.in1) (by simp[hh]) G.objs.size l (by rw[hGs];exact aw (bT hlS)) its.toArray) s.heap.objs.size hSf (λi=>ys.getD i ⟨#[]⟩) (λi v e=>hget i v (by simpa using e)) (by simpa using hb) its.length 0 [] _ (by simp) (b9 _) (am _)
     ⟨⟨_,ah _ rfl,rfl,rfl⟩,hl1.push _⟩ ?_ ?_
    ·have hget' :(G.push { cls:= .type "list_iterator",data:= .fields #[.ref l,.int 0 0] }).get? s.heap.objs.size=some { cls:= .type "set",dict:=none,data:= .set #[] 0 (.fresh 0 0 led) }:=ad _ hS;exact⟨#[],0,_,[],⟨hget',rfl,by cases hw:w.params.followText "set-order" with | true=>exact .inl rfl | false=>exact .inr (by rw[hled,hw];rfl),.inr rfl⟩,(λe he=>by simp at he),.nil,.refl _⟩
    ·intro h' tk' hm hS';rw[hys]at hS';refine ai (show wpAny _ _ (ret Value.none) _ _ _ from ai ⟨rfl,h',tk',rfl,hS',λb o hb e=> ?_⟩);refine hm b o (λz=> ?_) (ad _ (hGk b o e));rcases ak.mp z with z | z
     ·exact absurd z (aw hb)
     ·have z' :b=G.objs.size:=aC.mp z;rw[hGs]at z';exact absurd z' (aw (bT hb))
   ·cases r₂ with
    | error e=>exact hr₂
    | ok fl₂=>
     cases fl₂ with
     | ret r=>
      obtain⟨rfl,h',tk,rfl,hS',hk'⟩:=hr₂
      repeat any_goals (first | assumption | wp_step)
      exact h _ _ hS' hk'
     | _=>exact hr₂.elim
  | _=>exact hr.elim
end
theorem Vc:∀(ys acc:List Str),(dd acc ys).length<=acc.length+ys.length
 | [],acc=>am _
 | y :: r,acc=>by
  unfold dd;refine ap (Vc r _) ?_;split
  ·simp only[av];omega
  ·simp only[av,aA,bY];omega
theorem ug (a:Str):ltS a a=false:=by unfold ltS;simp
theorem Vd {a b c:Str}(h:ltS a b=true)(k:ltS b c=true):ltS a c=true:=by
 unfold ltS at*;simp only[decide_eq_true_eq]at*;exact List.lt_trans h k
theorem YB {a b:Str}(h:ltS a b=false)(k:ltS b a=false):a=b:=by
 unfold ltS at*;simp only[decide_eq_false_iff_not]at*;have e:=j_ (l8.mp k) (l8.mp h);obtain⟨⟨x⟩⟩:=a;obtain⟨⟨y⟩⟩:=b;simp at e;rw[e]
theorem Jx (x:Str):∀ys:List Str,(yn x ys).Perm (x :: ys)
 | []=> .refl _
 | y :: ys=>by
  unfold yn;split
  ·exact((Jx x ys).cons y).trans (.swap x y ys)
  ·exact .refl _
theorem ZC:∀xs:List Str,(W6 xs).Perm xs
 | []=> .refl _
 | x :: xs=>(Jx x (W6 xs)).trans ((ZC xs).cons x)
def nlt (a b:Str):Prop:=ltS b a=false
theorem Ve {a b c:Str}(h:nlt a b)(k:nlt b c):nlt a c:=by
 unfold nlt at*;cases e:ltS c a with
 | false=>rfl
 | true=>
  cases e2:ltS a b with
  | true=>rw[Vd e e2]at k;cases k
  | false=>rw[YB e2 h]at e;rw[e]at k;cases k
theorem Jy (x:Str):∀ys:List Str,ys.Pairwise nlt->(yn x ys).Pairwise nlt
 | [],_=>by unfold yn;simp
 | y :: ys,h=>by
  unfold yn;rw[b7]at h;split
  ·rename_i hx;refine b7.mpr ⟨λz hz=> ?_,Jy x ys h.2⟩;rcases ak.mp ((Jx x ys).mem_iff.mp hz) with rfl | hz
   ·show ltS z y=false;cases e:ltS z y with
    | false=>rfl
    | true=>have:=Vd hx e;rw[ug]at this;cases this
   ·exact h.1 z hz
  ·rename_i hx;have hx:nlt x y:=by show ltS y x=false;simpa using hx
   refine b7.mpr ⟨λz hz=> ?_,b7.mpr h⟩;rcases ak.mp hz with rfl | hz
   ·exact hx
   ·exact Ve hx (h.1 z hz)
theorem Jz:∀xs:List Str,(W6 xs).Pairwise nlt
 | []=> .nil
 | x :: xs=>Jy x _ (Jz xs)
theorem wf:∀(xs ys:List Str),xs.Perm ys->xs.Pairwise nlt->ys.Pairwise nlt->xs=ys
 | [],ys,p,_,_=>(List.nil_perm.mp p).symm
 | x :: xs,[],p,_,_=>by cases List.perm_nil.mp p
 | x :: xs,y :: ys,p,h1,h2=>by
  rw[b7]at h1 h2;have e:x=y:=by
   have a1:nlt x y:=by
    rcases ak.mp (p.mem_iff.mpr (ae (a:=y) (l:=ys))) with z | z
    ·rw[z];exact ug x
    ·exact h1.1 y z
   have a2:nlt y x:=by
    rcases ak.mp (p.mem_iff.mp (ae (a:=x) (l:=xs))) with z | z
    ·rw[z];exact ug y
    ·exact h2.1 x z
   exact YB a2 a1
  subst e;rw[wf xs ys (List.Perm.cons_inv p) h1.2 h2.2]
theorem JA:∀(l:List Str) (p:Str),risingS p l=true->(p :: l).Pairwise nlt
 | [],p,_=>by simp
 | x :: r,p,h=>by
  have h:(!ltCps x.cps.toList p.cps.toList && risingS x r)=true:=h;rw[aj]at h;have h2:=JA r x h.2;have h1:nlt p x:=by
   have:=h.1;rw[ltCps_eq]at this;show decide (x.cps.toList < p.cps.toList)=false;simpa using this
  refine b7.mpr ⟨λz hz=> ?_,h2⟩;rcases ak.mp hz with rfl | hz
  ·exact h1
  ·exact Ve h1 ((b7.mp h2).1 z hz)
theorem uh:∀(l:List Str),sortedS l=true->l.Pairwise nlt
 | [],_=> .nil
 | x :: r,h=>JA r x h
theorem YC:∀{its:List Value} {ns:List Str},StrsAre its ns->Z1 (ns.map V.str) its:=by
 intro its ns h
 induction h with
 | nil=>exact .nil
 | cons n t _ ih=>exact .cons ⟨_,rfl⟩ ih
theorem v9:∀{ts:List T} {ys:List Str},wD ts=some ys->ys.length=ts.length:=by
 intro ts
 induction ts with
 | nil=>intro ys h;cases h;rfl
 | cons t ts ih=>
  intro ys h;cases t with
  | str x=>
   unfold wD at h;split at h
   ·rename_i l e;cases h;simp[ih e]
   ·cases h
  | _=>cases h
theorem WC {H:Hp}:∀ns:List Str,zI H (ns.map V.str) (ns.map T.str)
 | []=> .nil
 | n :: ns=> .cons (.str n) (WC ns)
section
variable {prog:Program}{w:World}{A:Around}{E:Value->Shared->Prop}{s:Shared}{S:Addr}
theorem UT {acc:List Str}{Q:Value->Shared->Prop}(hh:A.handled=none)(hS:yo prog w s.heap S acc)(hb:acc.length < 64)
  (h:∀(h' :Heap) (tk:Nat) (d:Drawn) (r:Addr) (vs:List Value) (n:Nat),(∀b o,s.heap.get? b=some o->h'.get? b=some o)->s.heap.objs.size<=r->StrsAre vs (W6 acc)->h'.get? r=some (seqObj "list" vs.toArray n)->Q (.ref r) { s with heap:=h',drawn:=d,toks:=tk }):
  wpAny (model prog w) A (call (.builtin "sorted") [.ref S]) Q E s:=by
 obtain⟨es,ep,t,ps,hw,el,hs,hp⟩:=hS;have hz:es.size=acc.length:=by
  have h1:=wK hs;rw[af,aT]at h1;rw[h1,hp.length_eq]
 refine Calls.call_function_entry kind_sorted plain_sorted entry_sorted (args_sorted1 _) ?_;unfold Builtin.«sorted»;refine aa (m:=checkCount "sorted" 1 1 _) (ai ?_);refine aa (UR (A:=A.in1) hh hw (by omega) λh1 tk d vs k1 z1 pv=> ?_)
 obtain⟨qs,q1,q2⟩:=WB pv hs;have hl:vs.length=acc.length:=by rw[wK q1,q2.length_eq,hp.length_eq]
 refine aa (wpAny_newList ?_ (by rw[hl,bI];show acc.length<=16777216;omega))
 have g1:(h1.push { cls:= .type "list",data:= .seq vs.toArray }).get? h1.objs.size=some (seqObj "list" vs.toArray 0):=ah _ rfl;refine aa (bQ (bH slot_list_sort ⟨_,g1,rfl⟩ entry_list_sort (list_sort_treeK strKind_oneLt g1 q1.keysOf (λv₁ v₂ rest e=>keyKind_strs (by rw[← e];exact q1)) (by omega) λst' a1 a2=>⟨_,rfl, ?_⟩) (args_list_sort _)))
 obtain⟨ss',b1,b2,b3⟩:=sorted_out_str q1 a1 a2;have e:ss' =W6 acc:=wf _ _ (b2.trans (q2.trans (hp.trans (ZC acc).symm))) (uh _ b3) (Jz acc);rw[e]at b1;obtain⟨n,g2⟩:=sortedHeap_at (out:=(arrOf st').map (·.2)) g1;refine ai ⟨_,rfl,h _ tk d h1.objs.size ((arrOf st').map (·.2)).toList n (λb o e=> ?_) ?_ b1 ?_⟩
 ·have e1:=k1 b o e;have lt1:=ao e1;exact(sortedHeap_old (aw lt1) (by rw[size_push'];exact bT lt1)).trans (ad _ e1)
 ·exact z1
 ·rw[Array.toArray_toList];exact g2
end
section
variable {X:Cx}{Y:Fx}{a b:Expr}{fa fb:En->R T}{pos pos' p p' :Pos}
theorem YD (hh:X.A.handled=none):Zq X (.type "set") (λvs H Q=>∃l xs ts ys,vs=[.ref l]/\H l=some (.lst xs)/\zI H xs ts/\wD ts=some ys/\ts.length < 64/\
  ∀q,H q=none->Q (.ref q) (upd H q (.ext λh=>yo X.prog X.w h q (dd [] ys)))):=by
 intro pins s σ H vs us Q I rv h;obtain⟨l,xs,ts,ys,rfl,hl,r,ey,hb,q⟩:=h;obtain⟨u,rfl,ru⟩:=ZI rv;obtain rfl:u=Value.ref l:=ru;obtain⟨its,rv,pl,hln,_⟩:=zP I (.inl hl) r;refine US hh pl (J7 r rv ey) (by unfold scanBound;omega) λh' tk hS hk=> ?_
 refine⟨.ref s.heap.objs.size,_,I.laid (t' :=tk) (λb u e=>hk b u (ao e) e) (am _) ?_,rfl,q _ (I.hok.fresh (am _))⟩;obtain⟨es,ep,t,ps,hw,_⟩:=id hS;exact⟨hS,⟨_,hw.at_⟩,λh1 h2 x e=>x.keep e⟩
theorem UU (hh:X.A.handled=none):Zq X (.builtin "sorted") (λvs H Q=>∃q φ acc,vs=[.ref q]/\H q=some (.ext φ)/\(∀h:Heap,φ h->yo X.prog X.w h q acc)/\acc.length < 64/\∀r,H r=none->Q (.ref r) (upd H r (.lst ((W6 acc).map V.str)))):=by
 intro pins s σ H vs us Q I rv h;obtain⟨l,φ,acc,rfl,hl,hφ,hn,q⟩:=h;obtain⟨u,rfl,ru⟩:=ZI rv;obtain rfl:u=Value.ref l:=ru;obtain⟨h1,_,_⟩:=(show Z7 X.prog X.w H s.heap l (.ext φ) from I.hok l _ hl);refine UT hh (hφ _ h1) hn λh' tk d r vs n k z1 hv g=> ?_;have I2:Inv X pins σ H { s with drawn:=d }:=⟨I.ok,I.os,I.bare,I.base,I.loc,I.cell,I.free,I.freeC,I.pin,I.hok,I.len⟩;refine⟨.ref r,upd H r (.lst ((W6 acc).map V.str)),Inv.laid (s:={ s with drawn:=d }) (t' :=tk) I2 k z1 ?_,rfl,q _ (I.hok.fresh z1)⟩;have hl2:(W6 acc).length=acc.length:=(ZC acc).length_eq;exact⟨by rw[af,bI];show (W6 acc).length<=16777216;omega,vs,n,YC hv,g⟩
theorem KU (hh:X.A.handled=none)(gl:Gl X "sorted")(mg:X.mg "sorted"=none)(gl' :Gl X "set")(mg' :X.mg "set"=none)(ha:jw X Y a fa)(hs:St1 X a:=by exact st1 rfl)(hs' :St1 X (.Call (.Name "set" p') [a] [] pos'):=by exact st1 rfl):
  Snd X Y (.Call (.Name "sorted" p) [.Call (.Name "set" p') [a] [] pos'] [] pos) (ap1 QV fa):= .mk λρ=>
 PE.imp (ZW (UU hh) gl mg PyProof.Rows.Boot.«sorted» (zo (ZT (YD hh) gl' mg' PyProof.Rows.Boot.«set» (zo (ha ρ) zU hs) (by decide) (by decide) hs rfl) zU hs') (by decide) (by decide) hs' rfl) λσ H Q ⟨B,I,q⟩=>
  step I q λt v H1 _ s1 r1 I1 q1=>by
   cases r1 with
   | @lst l xs ts h r=>
    have q1:Po Y rC _ H1 (match wD ts with | some ys=>if ts.length < 64 then .ok (.lst ((W6 (dd [] ys)).map T.str)) else .bad | none=> .bad) Q:=q1
    split at q1
    ·rename_i ys e;split at q1
     ·rename_i hl;have hn:(dd [] ys).length < 64:=by
       have h1:=Vc ys [];have h2:=v9 e;simp only[bY]at h1;omega
      refine⟨l,xs,ts,ys,rfl,h,r,e,hl,λz hz=>⟨z,_,_,rfl,zv,λh hh=>hh,hn,λr hr=> ?_⟩⟩;have hrz:r ≠ z:=λe=>by rw[e,zv]at hr;cases hr
      have hr1:H1 r=none:=by rw[zr hrz]at hr;exact hr
      exact q1 _ _ (λb o hb=>by
       have n1:b ≠ z:=λe=>by rw[e,hz]at hb;cases hb
       have n2:b ≠ r:=λe=>by rw[e,hr1]at hb;cases hb
       rw[zr n2,zr n1];exact hb) (.lst (by rw[Zi hr1,zv]) (WC _))
     ·exact q1.elim
    ·exact q1.elim
   | _=>exact q1.elim
end
def k9:T->T->R T
 | .int i,.int j=>if 0 < j/\j.natAbs.log2 < 9000 then .ok (.int (i / j)) else .bad
 | _,_=> .bad
section
variable {X:Cx}{Y:Fx}{a b:Expr}{fa fb:En->R T}{pos:Pos}
theorem KW:OpR X (binaryOp .FloorDiv) (L2.rI (λ_ j=>0 < j/\j.natAbs.log2 < 9000) λi j=> .int (i / j)):=opI λi j _ _ _ _ _ hc q=>by
 have h1:(0:Int) < j:=hc.1;exact floordiv_int (by omega) (by rw[eV i (by omega)];exact q) (.inl (PyProof.noPylong_of_log2 hc.2))
theorem xX:OpR X (binaryOp .FloorDiv) (rG Y k9):=by
 intro pins s σ H x y v u Q I rx ry h;obtain⟨B,t,t',sB,r,r',q⟩:=h;cases r with
 | int i=>
  cases r' with
  | int j=>
   by_cases hj:0 < j/\j.natAbs.log2 < 9000
   ·exact KW pins s σ H _ _ v u Q I rx ry ⟨i,j,rfl,rfl,hj,po0 sB q (if_pos hj) (.int _)⟩
   ·rw[show k9 (.int i) (.int j)= .bad from if_neg hj]at q;exact q.elim
  | _=>exact q.elim
 | _=>cases r' <;> exact q.elim
theorem z1S (ha:Snd X Y a fa)(hb:Snd X Y b fb):Snd X Y (.BinOp a .FloorDiv b pos) (zc k9 fa fb):=Wn xX ha hb
end
def big:Nat:=2 ^ 8000
def mlT:T->T->R T
 | .int i,.int j=>if i.natAbs < big/\j.natAbs < big then .ok (.int (i*j)) else .bad
 | _,_=> .bad
theorem uW {i:Int}(h:i.natAbs < big):i9 i<=2 ^ 20:=by
 unfold i9;split
 ·exact b9 _
 ·rename_i h0;have h0:i.natAbs ≠ 0:=λz=>h0 (by rw[Int.natAbs_eq_zero.mp z];rfl)
  have h1:i.natAbs.log2 < 8000:=(Nat.log2_lt h0).mpr h;have e:(2:Nat) ^ 20=1048576:=by decide
  omega
section
variable {X:Cx}{Y:Fx}{a b:Expr}{fa fb:En->R T}{pos:Pos}
theorem z1T:OpR X (binaryOp .Mult) (L2.rI (λi j=>i.natAbs < big/\j.natAbs < big) λi j=> .int (i*j)):=opI λi j _ _ _ _ _ hc q=>mul_int q (IntMulOk.of_bits (uW hc.1) (uW hc.2))
theorem KY:OpR X (binaryOp .Mult) (rG Y mlT):=by
 intro pins s σ H x y v u Q I rx ry h;obtain⟨B,t,t',sB,r,r',q⟩:=h;cases r with
 | int i=>
  cases r' with
  | int j=>
   by_cases hj:i.natAbs < big/\j.natAbs < big
   ·exact z1T pins s σ H _ _ v u Q I rx ry ⟨i,j,rfl,rfl,hj,po0 sB q (if_pos hj) (.int _)⟩
   ·rw[show mlT (.int i) (.int j)= .bad from if_neg hj]at q;exact q.elim
  | _=>exact q.elim
 | _=>cases r' <;> exact q.elim
theorem s_ml (ha:Snd X Y a fa)(hb:Snd X Y b fb):Snd X Y (.BinOp a .Mult b pos) (zc mlT fa fb):=Wn KY ha hb
end
theorem xY:typeLookup (.type "tuple") "keys"=pure none:=by rw[bn,aO];kernel_rfl
theorem xZ:typeLookup (.type "tuple") "__getattr__"=pure none:=by rw[bn,aO];kernel_rfl
section
variable {prog:Program}{w:World}{A:Around}{E:Value->Shared->Prop}{s:Shared}
theorem va {l:Addr}{its:Array Value}{n:Nat}{sl:Array (Option Value)}{u:Tok}{Q:PySem.Fin->Shared->Prop}(hh:A.handled=none)(hl:s.heap.get? l=some { cls:= .type "tuple",dict:=none,data:= .seq its n,slots:=sl })
  (h:∀h' tk e,Heap.NewAttrErr s.heap h' e (.ref l) "keys"->E (.ref e) { s with heap:=h',toks:=tk }):
  wpAny (model prog w) A (Builtin.«object.__getattribute__» ⟨[.ref l,.str "keys" u],[]⟩) Q E s:=by
 obtain⟨hp,g,d,tk,os⟩:=s;have hT:(⟨hp,g,d,tk,os⟩:Shared).TypeIs (.ref l) "tuple":=⟨_,hl,rfl⟩;have f1:=xY;unfold Builtin.«object.__getattribute__»
 repeat (any_goals (first | assumption | wp_step))
 exact wpAny_raiseAttrError hh h (attrMsg_fits (by decide+kernel) (by decide+kernel))
end
section
variable {prog:Program}{w:World}{A:Around}{E:Value->Shared->Prop}{s:Shared}
theorem X0 {l:Addr}{its:Array Value}{n:Nat}{sl:Array (Option Value)}{u:Tok}{R:Result->Shared->Prop}(hh:A.handled=none)(hl:s.heap.get? l=some { cls:= .type "tuple",dict:=none,data:= .seq its n,slots:=sl })
  (h:∀h' tk e,Heap.NewAttrErr s.heap h' e (.ref l) "keys"->R (.error (.ref e)) { s with heap:=h',toks:=tk }):
  codeAny (model prog w) A (.call (.builtin "tuple.__getattribute__") ⟨[.ref l,.str "keys" u],[]⟩) R s:=
 codeAny_call_builtin cG.plain F.entry_tuple_ga (cG.check _ _ _ _ _ _ _ _ (show s.TypeIs (.ref l) "tuple" from ⟨_,hl,rfl⟩) (F.args_tuple_getattribute_2 _ _) (va (A:=A.in1) hh hl h))
theorem X1 {l:Addr}{its:Array Value}{n:Nat}{sl:Array (Option Value)}{Q:Option Value->Shared->Prop}(hh:A.handled=none)(hl:s.heap.get? l=some { cls:= .type "tuple",dict:=none,data:= .seq its n,slots:=sl })
  (h:∀h' tk,(∀b o,s.heap.get? b=some o->h'.get? b=some o)->Q none { s with heap:=h',toks:=tk }):
  wpAny (model prog w) A (getAttr? (.ref l) "keys") Q E s:=by
 obtain⟨hp,g,d,tk,os⟩:=s;have hT:∀t,(⟨hp,g,d,t,os⟩:Shared).TypeIs (.ref l) "tuple":=λ_=>⟨_,hl,rfl⟩;have f1:=sub_AttributeError;have f2:=cG.lookup;have f3:=cG.bind (.ref l);have f5:=xZ;unfold getAttr? getAttrBy? getAttrBy
 repeat (any_goals (first | assumption | exact hT _ | wp_step))
 refine X0 (s:=⟨hp,g,d,tk+1,os⟩) hh hl λh' tk' e hx=> ?_;obtain⟨t',u',he⟩:=hx.there;have hE:(⟨h',g,d,tk',os⟩:Shared).TypeIs (.ref e) "AttributeError":=⟨_,he,rfl⟩;show wpAny _ _ (getattributeRaised _ _ _ _ _ _ _) _ _ _;unfold getattributeRaised
 repeat (any_goals (first | assumption | wp_step))
 exact h _ _ hx.keeps
end
def Zm (h:Heap)(its:List Value)(ps:List (Str×Int)):Prop:=Paired (λv (p:Str×Int)=>∃a t u n ob,v=Value.ref a/\h.get? a=some ob/\ob.cls= .type "tuple"/\ob.data= .seq #[.str p.1 t,.int p.2 u] n) its ps
theorem Zm.keep {h h' :Heap}{its:List Value}{ps:List (Str×Int)}(x:Zm h its ps)(k:∀b o,h.get? b=some o->h'.get? b=some o):Zm h' its ps:=
 Paired.mapP x λv p ⟨a,t,u,n,ob,e1,e2,e3⟩=>⟨a,t,u,n,ob,e1,k _ _ e2,e3⟩
theorem Zm.off {h h' :Heap}{D I:Addr}(k:∀b o,b ≠ D->b ≠ I->h.get? b=some o->h'.get? b=some o):∀{its:List Value} {ps:List (Str×Int)},Zm h its ps->(∀v a,v∈its->v=Value.ref a->a ≠ D/\a ≠ I)->Zm h' its ps
 | _,_,.nil,_=> .nil
 | _,_,.cons r q,ha=>by
  obtain⟨a,t,u,n,ob,e1,e2,e3⟩:=r;obtain⟨n1,n2⟩:=ha _ a ae e1;exact .cons ⟨a,t,u,n,ob,e1,k _ _ n1 n2 e2,e3⟩ (Zm.off k q λv b hv=>ha v b (ab _ hv))
def KVs (kvs:List (Key×Value))(ps:List (Str×Int)):Prop:=Paired (λ(q:Key×Value) (p:Str×Int)=>q.1=Sum.inr p.1/\∃t,q.2=Value.int p.2 t) kvs ps
theorem KVs.snoc:∀{kvs:List (Key×Value)} {ps:List (Str×Int)} {x:Str} {i:Int} {t:Tok},KVs kvs ps->KVs (kvs++[(Sum.inr x,.int i t)]) (ps++[(x,i)])
 | _,_,x,i,t,.nil=> .cons ⟨rfl,t,rfl⟩ .nil
 | _,_,x,i,t,.cons r q=> .cons r (KVs.snoc q)
theorem KVs.keys:∀{kvs:List (Key×Value)} {ps:List (Str×Int)},KVs kvs ps->kvs.map (·.1)=ps.map λp=>(Sum.inr p.1:Key)
 | _,_,.nil=>rfl
 | _,_,.cons r q=>by rw[ar,ar,r.1,KVs.keys q]
theorem KVs.len {kvs:List (Key×Value)}{ps:List (Str×Int)}(h:KVs kvs ps):kvs.length=ps.length:=by
 have:=congrArg l5 h.keys;simpa using this
theorem UV {kvs:List (Key×Value)}{k:Key}{v:Value}(h:k ∉ kvs.map (·.1)):stored kvs k v=kvs++[(k,v)]:=by
 unfold stored;rw[if_neg];intro z;rw[cY]at z;obtain⟨q,hq,e⟩:=z;exact h (aq.mpr ⟨q,hq,of_decide_eq_true e⟩)
section
variable {prog:Program}{w:World}{A:Around}{R:Result->Shared->Prop}{I:Addr}{fp wr:List Addr}{n:Nat}{P:Nat->Value->Prop}{St:Nat->Heap->Prop}
theorem uX:entryFor table "dict.update.loop"=some Builtin.«dict.update.loop»:=entryFor_of_tree (by kernel_rfl)
theorem Ja:plainId "dict.update.loop"=true:=by decide+kernel
theorem jJ {α β:Type}{F:α->β->Prop}:∀{xs:List α} {ys:List β} {i:Nat} {y:β},Paired F xs ys->ys[i]? =some y->∃x,xs[i]? =some x/\F x y
 | _,_,_,_,.nil,h=>by simp at h
 | _,_,0,y,.cons r _,h=>by simp at h;subst h;exact⟨_,rfl,r⟩
 | _,_,i+1,y,.cons _ q,h=>by
  obtain⟨x,e,r⟩:=jJ (i:=i) q (by simpa using h)
  exact⟨x,by simpa using e,r⟩
theorem wg {α β:Type}{F:α->β->Prop}:∀{xs:List α} {ys:List β},Paired F xs ys->xs.length=ys.length
 | _,_,.nil=>rfl
 | _,_,.cons _ q=>by simp[wg q]
theorem YE {l:Addr}{its:List Value}{ps:List (Str×Int)}(hh:A.handled=none)(I D:Addr)(hlI:l ≠ I)(hD:D ≠ I)(hDl:D ≠ l)(nd:(ps.map (·.1)).Nodup)(hps:ps.length<=sizeLine)(kw:Value):
  ∀(m i:Nat) (s:Shared) (kvs:List (Key×Value)) (tk0:Tok),ps.length - i=m->i<=ps.length->s.heap.IsTupleIter I l i->s.heap.IsTuple l its.toArray->Zm s.heap its ps->(∀v a,v∈its->v=Value.ref a->a ≠ D/\a ≠ I)->
   s.heap.DictOf (Zg prog w) D kvs->KVs kvs (ps.take i)->
   (∀h' tk kvs',(∀b o,b ≠ D->b ≠ I->s.heap.get? b=some o->h'.get? b=some o)->h'.DictOf (Zg prog w) D kvs' ->KVs kvs' ps->R (.ok (.ret kw)) { s with heap:=h',toks:=tk })->
   codeAny (model prog w) A (.builtin "dict.update.loop" ⟨[.ref D,.ref I,.int (i:Int) tk0,kw],[]⟩) R s:=by
 intro m
 induction m with
 | zero=>
  intro i s kvs tk0 hm hi hit ht hp ha hd hk hR;obtain rfl:i=ps.length:=by omega
  refine aM uX ?_;rw[aE Ja _];unfold Builtin.«dict.update.loop»;dsimp only;have hl:its.length=ps.length:=wg hp;refine aa (m:=pyNext (.ref I)) (wpAny_pyNext_tuple_end hh hit ht (by simp[hl]) λh' he=> ?_)
  rw[List.take_length]at hk;refine aa (m:=Builtin.Dict.addKeywords D []) (bb (a:=()) rfl (ai ?_));exact hR h' s.toks kvs (λb o _ hb e=>he b o hb e) (hd.extBut he hD) hk
 | succ m ih=>
  intro i s kvs tk0 hm hi hit ht hp ha hd hk hR;refine aM uX ?_;rw[aE Ja _];unfold Builtin.«dict.update.loop»;dsimp only;have hi' :i < ps.length:=by omega
  have ei:ps[i]? =some ps[i]:=ac hi';obtain⟨v,ev,a,t,u,n,ob,rfl,ga,ca,da⟩:=jJ hp ei;refine aa (m:=pyNext (.ref I)) (wpAny_pyNext_tuple_item hit ht (x:= .ref a) (by simpa using ev) λh1 hit1 sb=> ?_)
  obtain⟨naD,naI⟩:=ha _ a (bz ev) rfl;have ga1:h1.get? a=some ob:=(sb.2 a naI).trans ga;have hd1:h1.DictOf (Zg prog w) D kvs:=hd.sameBut sb hD;have hTa:eD { s with heap:=h1 } (.ref a) "tuple":=⟨_,ga1,ca⟩;refine aa (bQ (aa (dz ?_)));unfold Builtin.Dict.pairItems;refine aa (df hTa ?_);rw[if_pos (by decide)]
  refine aa (bF ga1 da (ai ?_));have hnew:(Sum.inr ps[i].1:Key) ∉ kvs.map (·.1):=by
   rw[hk.keys];intro z;obtain⟨p,hp',e⟩:=aq.mp z;have e:p.1=ps[i].1:=by injection e
   obtain⟨j,hj,ej⟩:=cO.mp hp';rw[cT]at hj;rw[fm]at ej;have hji:j < i:=by omega
   have:=(cf.mp nd) j i (by rw[af];omega) (by rw[af];exact hi') hji
   rw[k_,k_]at this;exact this (by rw[ej,e])
  have hz:kvs.length<=sizeLine:=by rw[hk.len,cT];exact ap (Nat.min_le_right _ _) hps
  refine bQ (wpAny_dictSet_pairs (hsz:=hz) (knd:=Zg prog w) (k:=Sum.inr ps[i].1) (Jo _ _ _ _) hd1 λh2 hd2 sb2=> ?_);rw[UV hnew]at hd2;refine ai ⟨a_ Ja _, ?_⟩;have hk2:KVs (kvs++[(Sum.inr ps[i].1,.int ps[i].2 u)]) (ps.take (i+1)):=by
   rw[List.take_succ,ei];exact hk.snoc
  have k12:∀b o,b ≠ D->b ≠ I->s.heap.get? b=some o->h2.get? b=some o:=λb o n1 n2 e=>(sb2.2 b n1).trans ((sb.2 b n2).trans e);have:=ih (i+1) { s with heap:=h2,toks:=s.toks+1 } _ 0 (by omega) (by omega) (hit1.extBut sb2.extBut (bq hD)) (Heap.IsTuple.at ht λo e=>k12 l o (bq hDl) hlI e) ?_ ha hd2 hk2 (λh' tk kvs' k' d' q' =>hR h' tk kvs' (λb o n1 n2 e=>k' b o n1 n2 (k12 b o n1 n2 e)) d' q')
  ·exact this
  ·exact hp.off k12 ha
end
theorem Zm.mem {h:Heap}:∀{its:List Value} {ps:List (Str×Int)},Zm h its ps->∀{v:Value} {a:Addr},v∈its->v=Value.ref a->∃o,h.get? a=some o
 | _,_,.nil,_,_,hv,_=>by simp at hv
 | _,_,.cons r q,v,a,hv,e=>by
  rcases ak.mp hv with z | hv
  ·obtain⟨b,t,u,n,ob,e1,e2,_⟩:=r;subst z;rw[e]at e1;cases e1;exact⟨_,e2⟩
  ·exact Zm.mem q hv e
section
variable {prog:Program}{w:World}{A:Around}{E:Value->Shared->Prop}{s:Shared}
theorem YF {l:Addr}{its:List Value}{ps:List (Str×Int)}{n:Nat}{sl:Array (Option Value)}{Q:Value->Shared->Prop}(hh:A.handled=none)(hl:s.heap.get? l=some { cls:= .type "tuple",dict:=none,data:= .seq its.toArray n,slots:=sl })
  (hp:Zm s.heap its ps) (nd:(ps.map (·.1)).Nodup) (hps:ps.length<=sizeLine)
  (h:∀h' tk kvs,(∀b o,s.heap.get? b=some o->h'.get? b=some o)->h'.DictOf (Zg prog w) s.heap.objs.size kvs->KVs kvs ps->Q (.ref s.heap.objs.size) { s with heap:=h',toks:=tk }):
  wpAny (model prog w) A (call (.type "dict") [.ref l]) Q E s:=by
 refine callType_codes (Q₁:=λobj s₁=>obj= .ref s.heap.objs.size/\s₁={ s with heap:=s.heap.push { cls:= .type "dict",data:= .dict #[] } }) F.kt_called_dict (F.kt_typeCall_dict_1 _) F.entry_dict_init (kt_code_dict_new _ ⟨rfl,rfl⟩) ?_
 rintro obj s₁ ⟨rfl,rfl⟩
 generalize hG:s.heap.push { cls:= .type "dict",data:= .dict #[] }=G;have hnew:G.DictOf (Zg prog w) s.heap.objs.size []:=by rw[← hG];exact Heap.DictOf.new s.heap
 have gk:∀b o,s.heap.get? b=some o->G.get? b=some o:=λb o e=>by rw[← hG];exact ad _ e
 have gz:G.objs.size=s.heap.objs.size+1:=by rw[← hG];exact bo ..
 have gl:=gk _ _ hl;have hlt:l < s.heap.objs.size:=ao hl;have hT:eD { s with heap:=G } (.ref l) "tuple":=⟨_,gl,rfl⟩;refine⟨hnew.typeIs,F.args_dict_init_2 _ _, ?_⟩;unfold Builtin.«dict.__init__»;refine aa (m:=fu "__init__" _) ?_;unfold fu;refine aa (wpAny_notOrdered_dict hnew.typeIs ?_);show wpAny _ _ (pure (s.heap.objs.size,[Value.ref l])) _ _ _;refine ai ?_;show wpAny _ _ (fL "dict.__init__" s.heap.objs.size (.ref l) [] .none) _ _ _;unfold fL;refine aa (df hT ?_);rw[if_pos (by decide)]
 refine aa (m:=getAttr? (.ref l) "keys") (X1 (A:=A.in1.in1) (s:={ s with heap:=G }) hh gl λh1 tk1 k1=> ?_);rw[if_pos (by rfl)]
 refine aa (cF ?_);have gl1:=k1 _ _ gl;have hL1:h1.IsTuple l its.toArray:=⟨_,gl1,rfl,n,rfl⟩;refine aa (m:=pyIter (.ref l)) (wpAny_pyIter_tuple hL1 ?_);generalize hG2:h1.push { cls:= .type "tuple_iterator",data:= .fields #[.ref l,.int 0 0] }=G2;have D0:s.heap.objs.size < h1.objs.size:=by
  obtain⟨o,_,_,e,_⟩:=id hnew;exact ao (k1 _ _ e)
 have k2:∀b o,h1.get? b=some o->G2.get? b=some o:=λb o e=>by rw[← hG2];exact ad _ e
 have gi:G2.get? h1.objs.size=some { cls:= .type "tuple_iterator",data:= .fields #[.ref l,.int 0 0] }:=by rw[← hG2];exact ah _ rfl
 have hd2:G2.DictOf (Zg prog w) s.heap.objs.size []:=by
  obtain⟨o,es,ep,e,r⟩:=hnew;exact⟨o,es,ep,k2 _ _ (k1 _ _ e),r⟩
 refine ai ⟨a_ Ja _, ?_⟩;refine YE (A:=A.in1) (its:=its) (ps:=ps) (l:=l) hh h1.objs.size s.heap.objs.size (aw (fT hlt D0)) (aw D0) (cL hlt) nd hps .none ps.length 0 _ [] 0 rfl (b9 _) ⟨_,gi,rfl,rfl⟩ ⟨_,k2 _ _ gl1,rfl,n,rfl⟩ (hp.keep λb o e=>k2 b o (k1 b o (gk b o e))) (λv a hv e=> ?_) hd2 .nil λh' tk kvs kk dd qq=> ?_
 ·obtain⟨o,eo⟩:=hp.mem hv e;have:=ao eo;exact⟨aw this,aw (fT this D0)⟩
 ·refine⟨rfl,h h' tk kvs (λb o e=>kk b o (aw (ao e)) (aw (fT (ao e) D0)) (k2 b o (k1 b o (gk b o e)))) dd qq⟩
end
abbrev kvV (ps:List (Str×Int)):List (Key×V):=ps.map λp=>(Sum.inr p.1,V.int p.2)
theorem KZ:∀{kvs:List (Key×Value)} {ps:List (Str×Int)},KVs kvs ps->KV (kvV ps) kvs
 | _,_,.nil=> .nil
 | _,_,.cons r q=>by
  obtain⟨e,t,e2⟩:=r;exact .cons ⟨e.symm,⟨t,e2⟩⟩ (KZ q)
theorem YG:∀{ps:List (Str×Int)} {kvs:List (Key×Value)},KV (kvV ps) kvs->KVs kvs ps
 | [],_,.nil=> .nil
 | p :: ps,_,.cons r q=>by
  obtain⟨e,t,e2⟩:=r;exact .cons ⟨e.symm,t,e2⟩ (YG q)
theorem Vf:∀{kvs:List (Key×Value)} {ps:List (Str×Int)} {x:Str} {i:Int},KVs kvs ps->ps.lookup x=some i->∃t,valueAt kvs (Sum.inr x)=some (.int i t)
 | _,_,x,i,.nil,h=>by simp at h
 | _,_,x,i,.cons (a:=q) (b:=p) r rs,h=>by
  obtain⟨e,t,e2⟩:=r;rw[aK]at h
  by_cases hx:x=p.1
  ·have:(x == p.1)=true:=by simp[hx]
   rw[this]at h;cases h;refine⟨t, ?_⟩;unfold valueAt;rw[lg,show decide (q.1=Sum.inr x)=true from decide_eq_true (by rw[e,hx])]
   simp[e2]
  ·have:(x == p.1)=false:=beq_eq_false_iff_ne.mpr hx;rw[this]at h;obtain⟨t',h'⟩:=Vf rs h;refine⟨t', ?_⟩;unfold valueAt at h' ⊢;rw[lg,show decide (q.1=Sum.inr x)=false from decide_eq_false (by rw[e];intro z;injection z with z;exact hx z.symm)]
   exact h'
theorem YH {t:T}{ts:List T}{ps:List (Str×Int)}(h:jH (t :: ts)=some ps):∃x i l,t= .tup [.str x,.int i]/\jH ts=some l/\ps=(x,i) :: l:=by
 unfold jH at h;split at h
 ·rename_i e;cases e
 ·rename_i x i r e;injection e with e1 e2;subst e1 e2;split at h
  ·rename_i l el;cases h;exact⟨x,i,l,rfl,el,rfl⟩
  ·cases h
 ·cases h
theorem YI:∀{ts:List T} {ps:List (Str×Int)},jH ts=some ps->ps.length=ts.length
 | [],_,h=>by cases h;rfl
 | t :: ts,ps,h=>by
  obtain⟨x,i,l,rfl,el,rfl⟩:=YH h;simp[YI el]
theorem z1U {H:Hp}{ys:List V}{x:Str}{i:Int}(h:zI H ys [.str x,.int i]):ys=[.str x,.int i]:=by
 cases h with
 | cons r1 h=>
  cases r1;cases h with
  | cons r2 h=>
   cases r2;cases h;rfl
theorem X2 {x:Str}{i:Int}{its:List Value}(h:Z1 [V.str x,V.int i] its):∃t u,its=[.str x t,.int i u]:=by
 obtain⟨u1,u2,rfl,⟨t1,rfl⟩,⟨t2,rfl⟩⟩:=UI h;exact⟨t1,t2,rfl⟩
theorem vb {X:Cx}{pins:List (Addr×Obj)}{σ:L2.St}{H:Hp}{s:Shared}(I:Inv X pins σ H s){v:V}{u:Value}{x:Str}{i:Int}(r:Rep H v (.tup [.str x,.int i]))(rv:Zf v u):
  ∃a t u' n ob,u=Value.ref a/\s.heap.get? a=some ob/\ob.cls= .type "tuple"/\ob.data= .seq #[.str x t,.int i u'] n:=by
 cases r with
 | @tup a ys _ ha ry=>
  obtain rfl:u=Value.ref a:=rv;have hy:=z1U ry;subst hy;obtain⟨_,its',rv',⟨ob,e1,e2,n,e3⟩,_⟩:=(show Z7 X.prog X.w H s.heap a (.tup _) from I.hok a _ ha);obtain⟨t1,t2,rfl⟩:=X2 rv';exact⟨a,t1,t2,n,ob,rfl,e1,e2,e3⟩
theorem uY {X:Cx}{pins:List (Addr×Obj)}{σ:L2.St}{H:Hp}{s:Shared}(I:Inv X pins σ H s):∀{xs:List V} {ts:List T} {its:List Value} {ps:List (Str×Int)},zI H xs ts->Z1 xs its->jH ts=some ps->Zm s.heap its ps/\∀(i:Int) t,its[0]? ≠ some (Value.int i t)
 | _,_,_,ps,.nil,.nil,h=>by cases h;exact⟨.nil,λ_ _ z=>by simp at z⟩
 | _,_,_,ps,.cons (t:=t) r rs,.cons (b:=u) rv vs,h=>by
  obtain⟨x,i,l,rfl,el,rfl⟩:=YH h;obtain⟨p1,_⟩:=uY I rs vs el;obtain⟨a,t1,t2,n,ob,rfl,e⟩:=vb I r rv;exact⟨.cons ⟨a,t1,t2,n,ob,rfl,e⟩ p1,λ_ _ z=>by simp at z⟩
section
variable {X:Cx}{Y:Fx}{a b:Expr}{fa fb:En->R T}{pos pos' p p' :Pos}
theorem g6 {pins:List (Addr×Obj)}{σ:L2.St}{H:Hp}{s:Shared}(I:Inv X pins σ H s):sysModules < s.heap.objs.size:=fT (by decide) (I.mod.glob.keeps I.bk).lt
theorem UW (hh:X.A.handled=none):Zq X (.type "dict") (λvs H Q=>∃l xs ts ps,vs=[.ref l]/\H l=some (.tup xs)/\zI H xs ts/\jH ts=some ps/\(ps.map (·.1)).Nodup/\
  ∀q,H q=none->Q (.ref q) (upd H q (.dK (kvV ps)))):=by
 intro pins s σ H vs us Q I rv h;obtain⟨l,xs,ts,ps,rfl,hl,r,ey,nd,q⟩:=h;obtain⟨u,rfl,ru⟩:=ZI rv;obtain rfl:u=Value.ref l:=ru;obtain⟨hz,its,rv,⟨⟨c,dd,da,sl⟩,ho,hc,n,hd⟩,hno⟩:=(show Z7 X.prog X.w H s.heap l (.tup xs) from I.hok l _ hl);dsimp only at hc hd;subst hc hd;obtain⟨pa,ni⟩:=uY I r rv ey;have hb:ps.length<=sizeLine:=by rw[YI ey,← r.length];exact hz
 have hdn:dd=none:=by
  rcases hno with ⟨i,t,e⟩ | ⟨o,e1,e2⟩
  ·exact absurd (by simpa using e) (ni i t)
  ·rw[ho]at e1;cases e1;exact e2
 subst hdn;refine YF hh ho pa nd hb λh' tk kvs k dd qq=> ?_;refine⟨.ref s.heap.objs.size,_,I.laid (t' :=tk) k (am _) ?_,rfl,q _ (I.hok.fresh (am _))⟩;exact⟨by rw[af];exact hb,beq_eq_false_iff_ne.mpr (bq (aw (g6 I))),kvs,KZ qq,dd⟩
theorem g9:IxR X (λx y H Q=>∃a ps k i,x= .ref a/\y= .str k/\H a=some (.dK (kvV ps))/\ps.lookup k=some i/\Q (.int i) H):=by
 intro value slice pins s σ H x y v u Q I rx ry h hs;obtain⟨p,ps,k,i,rfl,rfl,hp,he,q⟩:=h;cases rx;obtain⟨t,rfl⟩:=ry;obtain⟨hz,hS,vs,r,m⟩:=(show Z7 X.prog X.w H s.heap p (.dK (kvV ps)) from I.hok p _ hp);obtain⟨t',e⟩:=Vf (YG r) he;exact tail_any m.typeIs slot_dict_getitem.lookup (wpAny_getItem_of (knd:=Zg X.prog X.w) (k:=Sum.inr k) (Jo _ _ _ _) m.mapOf e ⟨.int i,H,I.tok _,⟨_,rfl⟩,q⟩) hs
theorem YJ:MtR X "dict.values" (λx xs H Q=>∃a ps,x= .ref a/\xs=[]/\H a=some (.dK (kvV ps))/\∀r,H r=none->Q (.ref r) (upd H r (.ext λh=>h.IsValuesView r a))):=by
 intro pins s σ H x xs v0 us Q I rx rv h;obtain⟨a,ps,rfl,rfl,ha,q⟩:=h;obtain rfl:v0=Value.ref a:=rx;cases rv;obtain⟨hz,hS,vs,r,m⟩:=(show Z7 X.prog X.w H s.heap a (.dK (kvV ps)) from I.hok a _ ha);refine call_meetsIn fv m.typeIs PySem.F.entry_dict_values (PySem.F.args_dict_values_1 _) (meets_dict_values (Zg X.prog X.w) a hS) ⟨⟨vs,m⟩, ?_⟩;have hle:s.heap.objs.size<=s.heap.objs.size:=am _;refine⟨.ref s.heap.objs.size,_,I.laid (t' :=s.toks) (λb o e=>ad _ e) hle ?_,rfl,q _ (I.hok.fresh hle)⟩;exact⟨⟨_,ah _ rfl,rfl,rfl⟩,⟨_,ah _ rfl⟩,λh1 h2 ⟨o,e1,e2⟩ e=>⟨o,e _ e1,e2⟩⟩
theorem YK (val:Nat->Int):∀n:Nat,preSum val n=((aX n).map val).sum
 | 0=>rfl
 | n+1=>by
  rw[fZ,cK,lh,← YK val n];simp[preSum]
theorem YL (hh:X.A.handled=none):Zq X (.builtin "sum") (λvs H Q=>∃r φ a ps,vs=[.ref r]/\H r=some (.ext φ)/\(∀h:Heap,φ h->h.IsValuesView r a)/\H a=some (.dK (kvV ps))/\Q (.int (ps.map (·.2)).sum) H):=by
 intro pins s σ H vs us Q I rv h;obtain⟨r,φ,a,ps,rfl,hr,hφ,ha,q⟩:=h;obtain⟨u,rfl,ru⟩:=ZI rv;obtain rfl:u=Value.ref r:=ru;obtain⟨h1,_,_⟩:=(show Z7 X.prog X.w H s.heap r (.ext φ) from I.hok r _ hr);obtain⟨hz,hS,vs,rr,m⟩:=(show Z7 X.prog X.w H s.heap a (.dK (kvV ps)) from I.hok a _ ha);obtain⟨ep,hat⟩:=m.dictAt;have hk:=YG rr;have K:=PySem.W.kdl_values (prog:=X.prog) (w:=X.w) (knd:=Zg X.prog X.w) (r:=r) (d:=a) (kvs:=vs) (ep:=ep);refine call_sum_walkAnyS ?_;obtain⟨oI,St,hit,W,st⟩:=K.iter X.A.in1 s hh ⟨hφ _ h1,hat⟩;refine hit _ _ ⟨s.heap.objs.size,_,_,_,_,_,_,λi=>((ps[i]?).map (·.2)).getD 0,rfl,W.toS,st,λb hb=> ?_,λi v hv=> ?_,λs' t' hm=> ?_⟩
 ·show b < (s.heap.push oI).objs.size;rw[size_push'];rcases ak.mp hb with e | hb
  ·rw[e];exact cV _
  ·rw[aC.mp hb];exact bT (I.hok.lt ha)
 ·obtain⟨k,hv⟩:=hv;have hi:i < ps.length:=by rw[← hk.len];exact(au.mp hv).1
  obtain⟨q',e1,e2,t,e3⟩:=jJ hk (ac hi);rw[hv]at e1;cases e1;exact⟨t,by dsimp only;rw[ac hi];exact e3⟩
 ·have kp:∀b o,s.heap.get? b=some o->s'.heap.get? b=some o:=λb o e=>
   hm.heap b o (λz=>absurd (ao e) (by rw[aC.mp z];exact bg _)) (ad _ e)
  rw[Moved.eq_with hm];have es:preSum (λi=>((ps[i]?).map (·.2)).getD 0) vs.length=(ps.map (·.2)).sum:=by
   rw[YK,hk.len];congr 1
   refine cu λi=> ?_;rw[ax,ax]
   by_cases hi:i < ps.length
   ·rw[cA hi,ac hi];simp[hi]
   ·rw[aD (by simp;omega),aD (by omega)];rfl
  rw[es];exact⟨.int _,H,I.kept (t' :=s'.toks) kp,⟨_,rfl⟩,q⟩
end
theorem X3 {t k v:T}(h:Yo t k= .ok v):∃ts ps x i,t= .tup ts/\k= .str x/\jH ts=some ps/\(ps.map (·.1)).Nodup/\ps.lookup x=some i/\v= .int i:=by
 unfold Yo at h;split at h
 ·rename_i ts x;split at h
  ·rename_i l e;split at h
   ·rename_i nd;split at h
    ·rename_i i ei;cases h;exact⟨ts,l,x,i,rfl,rfl,e,nd,ei,rfl⟩
    ·cases h
   ·cases h
  ·cases h
 ·cases h
theorem YM (t k:T):(∃v,Yo t k= .ok v)\/Yo t k= .bad:=by
 unfold Yo;split
 ·split
  ·split
   ·split
    ·exact .inl ⟨_,rfl⟩
    ·exact .inr rfl
   ·exact .inr rfl
  ·exact .inr rfl
 ·exact .inr rfl
section
variable {X:Cx}{Y:Fx}{a:Expr}{fa:En->R T}{pos pos' p p' :Pos}
theorem vc {t:T}{ts:List T}{ps:List (Str×Int)}(ht:t= .tup ts)(e:jH ts=some ps)(nd:(ps.map (·.1)).Nodup):wH t= .ok (.int (ps.map (·.2)).sum):=by
 subst ht;unfold wH;dsimp only;rw[e];dsimp only;rw[if_pos nd]
theorem X4 {i j k jf:Nat}{x y f:Str}{fo:Addr}{fd:FuncData}{ps:List Str}{g:List T->R T}{cl:Nat->Value}{p1 p2 p3 p4 p5 p6 p7 p8 p9 pa pb pc pd:Pos}(hij:i ≠ j)(hy:Y.cl=cl)(F:zV X.prog X.w X.K X.mg X.base CX0 jf fo fd ps (spP cl 2 g))(hr:JU k X.A)(hjf:jf<=k)(gf:Gl X f)
  (mf:X.mg f=some (.ref fo)) (kp:cS X.K (.ref fo)=true) (bd:L2.Binds X.K fd ps []) (hN:X.N.Nodup) (hi:X.N[i]? =some x) (hx:L2.Loc X.env.scope x) (gl:Gl X "dict") (mg:X.mg "dict"=none) (gs:Gl X "sum") (ms:X.mg "sum"=none)
  (pi:PE X (.Name x p3) (Qb i)) (pj:PE X (.Name y p4) (Qb j)) (ha:Snd X Y a fa) (pi' :PE X (.Name x p5) (Qb i):=by exact vN (by rfl) (by rfl)) (hs:St1 X a:=by exact st1 rfl)
  (hsw:swapsWith (.Call (.Name "dict" p2) [a] [] pa) (some (.Name x p1)) pb.line X.env=pure false:=by rfl) (hf:X.fn x=true\/X.env.scope.names.lookup x=some .local:=by first | exact .inl rfl | exact .inr rfl | assumption) (hd:(f == ("__debug__":Str))=false:=by decide)
  (hb:attributeBase (.Name x p5) "values" X.env (eval (.Name x p5) X.env)=eval (.Name x p5) X.env:=by rfl) (hli:(p6.endLine == p7.line)=true:=by rfl):
  UM X Y [.Assign [.Name x p1] (.Call (.Name "dict" p2) [a] [] pa) pb,.Return (some (.Call (.Name f p8) [.Subscript (.Name x p3) (.Name y p4) p9,.Call (.Name "sum" pc) [.Call (.Attribute (.Name x p5) "values" p6) [] [] p7] [] pd] [] pos)) pos'] (QZ j fa g):= .mk λρ=>by
 subst hy;have hh:=hr.hd;have st2' :starEach [.Subscript (.Name x p3) (.Name y p4) p9,.Call (.Name "sum" pc) [.Call (.Attribute (.Name x p5) "values" p6) [] [] p7] [] pd] X.env=(false,eval (.Subscript (.Name x p3) (.Name y p4) p9) X.env) :: starEach [.Call (.Name "sum" pc) [.Call (.Attribute (.Name x p5) "values" p6) [] [] p7] [] pd] X.env:=Zh rfl;have W:=(uH (uI hN hi hx (ZT (UW hh) gl mg PyProof.Rows.Boot.«dict» (zo (ha ρ) zU hs) (by decide) (by decide) hs rfl) hsw hf)
  (yv (vQ (pos:=pos') (yI (E:=Y.E) (p:=p8) (pos:=pos) F (hr.mono hjf) gf mf kp bd .nil Kx
   (zo (kR g9 pi pj (λ_ _=>rfl)) (zo (ZW (YL hh) gs ms PyProof.Rows.Boot.«sum» (zo (kW PySem.F.plainAttrs_dict fv PySem.F.type_dict_values YJ pi' hb hli) zU (st1 rfl)) (by decide) (by decide) (st1 rfl) rfl) zU (st1 rfl)) st2') hd st2' (jd rfl)))))
 intro pins s σ H D Iv ⟨B,I,q⟩;have hlen:i < σ.length:=by rw[Iv.len];exact(au.mp hi).1
 refine W pins s σ H D Iv ?_;have q' :PoS Y B ((fa ρ).s λt=>(((vE j ρ).bind λk=>(Yo t k).bind λx=>(wH t).bind λy=>g [x,y]).s λt=> .rt t)) D:=by
  have e:QZ j fa g ρ=((fa ρ).s λt=>(((vE j ρ).bind λk=>(Yo t k).bind λx=>(wH t).bind λy=>g [x,y]).s λt=> .rt t)):=by
   unfold QZ;cases fa ρ <;> rfl
  rw[← e];exact q
 refine jZ I q' λt v H1 _ s1 r1 I1 q1=> ?_;unfold vE at q1;split at q1
 ·rename_i kk e;obtain⟨u,eu,ru⟩:=I1.vl j kk e;have q1:PoS Y _ (((Yo t kk).bind λx=>(wH t).bind λy=>g [x,y]).s λt=> .rt t) D:=q1;rcases YM t kk with ⟨v',e'⟩ | e'
  ·obtain⟨ts,qs,z,m,rfl,rfl,e1,nd,ei,rfl⟩:=X3 e';rw[e']at q1;have q1:PoS Y _ (((wH (.tup ts)).bind λy=>g [.int m,y]).s λt=> .rt t) D:=q1;rw[vc rfl e1 nd]at q1;have q1:PoS Y _ ((g [.int m,.int (qs.map (·.2)).sum]).s λt=> .rt t) D:=q1;cases r1 with
   | @tup l xs _ h r=>
    cases ru;have g1:(σ.set i (some (V.ref l)))[i]? =some (some (V.ref l)):=by rw[bB hlen]
    refine⟨l,xs,ts,qs,rfl,I1.sB _ _ h,r.mono I1.sB,e1,nd,λw hw=> ?_⟩;have gi:(σ.set i (some (V.ref w)))[i]? =some (some (V.ref w)):=by rw[bB hlen]
    have gj:(σ.set i (some (V.ref w)))[j]? =some (some (V.str z)):=by rw[aV hij];exact eu
    refine⟨_,gi,_,gj,w,qs,z,m,rfl,rfl,zv,ei, ?_⟩;refine⟨_,gi,.inr (.inr (.inl ⟨rfl,.inl ⟨_,zv⟩⟩)),w,qs,rfl,rfl,zv,λy hy=> ?_⟩;have hyw:y ≠ w:=λe=>by rw[e,zv]at hy;cases hy
    have hy1:H1 y=none:=by rw[zr hyw]at hy;exact hy
    refine⟨y,_,w,qs,rfl,zv,λh z=>z,by rw[zr (bq hyw)];exact zv, ?_⟩
    have s13:zw H1 (upd (upd H1 w (.dK (kvV qs))) y (.ext λh=>h.IsValuesView y w)):=λb o hb=>by
     have n1:b ≠ w:=λe=>by rw[e,hw]at hb;cases hb
     have n2:b ≠ y:=λe=>by rw[e,hy1]at hb;cases hb
     rw[zr n2,zr n1];exact hb
    have I3:=I1.grow s13;refine⟨_,[.int m,.int (qs.map (·.2)).sum],rfl,I3.sB,.cons (.int _) (.cons (.int _) .nil), ?_⟩;revert q1;cases g [.int m,.int (qs.map (·.2)).sum] with
    | bad=>exact λq1=>q1
    | ex c=>exact λq1 d H' s sB=>q1 d H' (I3.sH.trans s) ((zS.ge I1.sB s13).trans sB)
    | ok t=>exact λq1 b H' s r=>q1 b H' (I3.sH.trans s) (r.mono (V0 I3.sH I3.old s I3.sB))
  ·rw[e']at q1;exact q1.elim
 ·exact q1.elim
end
def vd:T->T->R T
 | .tup ts,.int k=>if k=1/\ts ≠ [] then .ok (.tup ts) else zT (.tup ts) (.int k)
 | _,_=> .bad
theorem UX (l:Addr)(items:Array Value)(n:Nat)(dd:Option Addr)(sl:Array (Option Value))(u:Tok):
  Meets (Builtin.«tuple.__mul__» ⟨[.ref l,.int 1 u],[]⟩) (λ_ R s=>s.heap.get? l=some { cls:= .type "tuple",dict:=dd,data:= .seq items n,slots:=sl }/\R (.ok (.ret (Value.ref l))) s):=
 .of_wp λprog w A R s h=>by
  obtain⟨hp,g,d,tk,os⟩:=s;obtain⟨hl,h⟩:=h;have f1:=iT;unfold Builtin.«tuple.__mul__»
  wp_walk using wpAny_loadPart' hl
  exact⟨_,rfl,h⟩
theorem ve {prog:Program}{w:World}{A:Around}{E:Value->Shared->Prop}{s:Shared}{l:Addr}{its:List Value}{t:Tok}{Q:Value->Shared->Prop}(p:IsTup s.heap l its.toArray)(q:Q (.ref l) s):
  wpAny (model prog w) A (binaryOp .Mult (.ref l) (.int 1 t)) Q E s:=by
 obtain⟨⟨cls,dd,data,sl⟩,ho,hc,n,hd⟩:=id p;simp only at hc hd;subst hc hd;exact wpAny_binaryOp_repeat_ref (T:="tuple") (U:="int") (by decide) ⟨_,ho,rfl⟩ (λs' =>eh s' 1 t) j1 fX di jQ fE.lookup
  (dL di (eh s 1 t) fF (fj _ _) (jl 1 t l its.toArray n dd sl)
   ⟨ho,rfl,⟨_,ho,rfl⟩,dL eB ⟨_,ho,rfl⟩ iE (ig _ _) (UX l its.toArray n dd sl t) ⟨ho,q⟩⟩)
section
variable {X:Cx}{Y:Fx}{a b:Expr}{fa fb:En->R T}{pos:Pos}
theorem X5:OpR X (binaryOp .Mult) (rG Y vd):=by
 intro pins s σ H x y v u Q I rx ry h;obtain⟨B,t,t',sB,r,r',q⟩:=id h;cases r with
 | @tup l xs ts h1 r1=>
  cases r' with
  | int k=>
   by_cases hk:k=1/\ts ≠ []
   ·have eg:vd (.tup ts) (.int k)= .ok (.tup ts):=if_pos hk;obtain rfl:v=Value.ref l:=rx;obtain⟨tk,rfl⟩:=ry;obtain⟨rfl,_⟩:=hk;obtain⟨its,rv,p,_⟩:=I.tuple (SqT.of (sB _ _ h1));exact ve p ⟨.ref l,H,I,rfl,po0 sB q eg (.tup h1 r1)⟩
   ·have eg:vd (.tup ts) (.int k)=zT (.tup ts) (.int k):=if_neg hk;rw[eg]at q;exact yR pins s σ H _ _ v u Q I rx ry ⟨B,.tup ts,.int k,sB,.tup h1 r1,.int k,q⟩
  | _=>exact q.elim
 | _=>cases r' <;> exact q.elim
theorem z1V (ha:Snd X Y a fa)(hb:Snd X Y b fb):Snd X Y (.BinOp a .Mult b pos) (zc vd fa fb):=Wn X5 ha hb
end
def z1W:T->R T
 | .lst ts=>if ts.length<=bnd then .ok (.lst ts.reverse) else .bad
 | _=> .bad
theorem Vg {α β:Type}(f:α->Option β)(g:α->β):∀l:List α,(∀x∈l,f x=some (g x))->l.filterMap f=l.map g
 | [],_=>rfl
 | x :: l,h=>by
  rw[List.filterMap_cons_some (h x ae),Vg f g l λy hy=>h y (ab _ hy),ar]
theorem vf (its:Array Value):slicePick its none none (some (-1))=its.reverse:=by
 unfold slicePick;have hb:sliceBounds none none (some (-1)) its.size=((its.size:Int) - 1, -1, -1):=by
  unfold sliceBounds;simp
 rw[hb];dsimp only;have hr:sliceRange ((its.size:Int) - 1) (-1) (-1)=(aX its.size).map λk=>its.size - 1 - k:=by
  unfold sliceRange;have hc:(if (-1:Int) > 0 then (if (its.size:Int) - 1 < -1 then (-1 - ((its.size:Int) - 1)+ -1 - 1) / -1 else 0) else (if (its.size:Int) - 1 > -1 then ((its.size:Int) - 1 - -1 - -1 - 1) / (- -1) else 0)).toNat=its.size:=by
   rw[if_neg (by decide)]
   split
   ·rw[show (- -1:Int)=1 from rfl,Int.ediv_one];omega
   ·omega
  dsimp only;rw[hc];refine bc λk hk=> ?_;have:=bE.mp hk;omega
 rw[hr,List.filterMap_map,Vg _ (λk=>its.getD (its.size - 1 - k) .none) (aX its.size) (λk hk=>by
  have:=bE.mp hk;show its[its.size - 1 - k]? =_;rw[eT,bA (by omega)]
  rfl)]
 apply lr
 ·simp
 ·intro i h1 h2;simp at h1 h2 ⊢;rw[bA (by omega)]
  rfl
section
variable {X:Cx}{Y:Fx}{a:Expr}{fa:En->R T}{pos p2 p3 p4:Pos}{kc:Nat}
theorem gc {te:TE}(he:PE X a te):PE X (.Subscript a (.Slice none none (some (.UnaryOp .USub (.Constant (.int 1) kc p3) p4)) p2) pos) (λσ H Q=>te σ H λx H1=>∃l xs,x= .ref l/\H1 l=some (.lst xs)/\∀p,H1 p=none->Q (.ref p) (upd H1 p (.lst xs.reverse))):=by
 intro pins s σ H Q I h;refine Subscript_ (thn (he pins s σ H _ I h) λv s1 ⟨x,H1,I1,r1,q1⟩=> ?_);refine wpAny_Slice ?_;rw[evalPart_none];refine ai (ai ?_);have hst:PE X (.UnaryOp .USub (.Constant (.int 1) kc p3) p4) _:=kG vR vO;show wpAny _ _ (eval (.UnaryOp .USub (.Constant (.int 1) kc p3) p4) X.env) _ _ _;refine thn (hst pins s1 σ H1 (λy H' =>y=V.int (-1)/\H' =H1) I1 ⟨1,rfl,rfl,rfl⟩) λvu s2 ⟨y,H2,I2,r2,e1,e2⟩=> ?_;subst e1 e2;obtain⟨tk,rfl⟩:=r2;obtain⟨l,xs,rfl,hl,q⟩:=q1;obtain rfl:v=Value.ref l:=r1;generalize hG:s2.heap.push { cls:= .type "slice",data:= .fields #[Value.none,Value.none,Value.int (-1) tk] }=G;have I4:Inv X pins σ H2 { s2 with heap:=G }:=by rw[← hG];exact I2.kept (t' :=s2.toks) λb ob q=>ad _ q
 have hsl:G.IsSliceOf s2.heap.objs.size .none .none (.int (-1) tk):=by rw[← hG];exact Heap.IsSliceOf.new ..
 obtain⟨hz,its,n,rv,eo⟩:=(show Z7 X.prog X.w H2 G l (.lst xs) from I4.hok l _ hl);have hL:G.IsList l its.toArray:=⟨_,eo,rfl,n,rfl⟩;have hsz:its.toArray.size<=sizeLine:=by rw[az,← rv.length];exact hz
 refine tail_any (ops:=[.ref l,.ref s2.heap.objs.size]) (s:={ s2 with heap:=G }) hL.typeIs slot_list_getitem.lookup (wpAny_getItem_list_slice hL hsl .none .none (.int (-1) tk) (by decide) ?_ hsz) (by with_unfolding_all rfl)
 rw[vf];refine⟨.ref G.objs.size,upd H2 G.objs.size (.lst xs.reverse),I4.laid (t' :=s2.toks) (λb o e=>ad _ e) (am _) ?_,rfl,q _ (I4.hok.fresh (am _))⟩;exact⟨by rw[bJ];exact hz,its.reverse,0,J8 rv,by rw[List.reverse_toArray];exact ah _ rfl⟩
theorem z1X (ha:Snd X Y a fa):Snd X Y (.Subscript a (.Slice none none (some (.UnaryOp .USub (.Constant (.int 1) kc p3) p4)) p2) pos) (ap1 z1W fa):= .mk λρ=>
 PE.imp (gc (ha ρ)) λσ H Q ⟨B,I,q⟩=>step I q λt v H1 _ s1 r1 I1 q1=>by
  cases r1 with
  | @lst l xs ts h r=>
   have q1:Po Y rC _ H1 (if ts.length<=bnd then .ok (.lst ts.reverse) else .bad) Q:=q1
   split at q1
   ·exact⟨l,xs,rfl,I1.sB _ _ h,λz hz=>q1 _ _ (zw.new hz _) (.lst (jq hz _) (r.rev.mono (zS.ge I1.sB (zw.new hz _))))⟩
   ·exact q1.elim
  | _=>exact q1.elim
end
end PV
namespace PySem.RV
open PySem PySem.Spec PyProof.Rows PySem.Builtin.SmallTypes
theorem WD:Slot "reversed" "__length_hint__" "reversed.__length_hint__":=
 .of (owner:="reversed") (n:="__length_hint__") (by rw[bn,aO];kernel_rfl) (by decide+kernel) (by decide+kernel) (by decide+kernel)
  (by first | exact .inl (by decide+kernel) | exact .inr (by decide+kernel)) (by rw[bV];kernel_rfl)
theorem UY:entryFor table "reversed.__length_hint__"=some Builtin.«reversed.__length_hint__»:=entryFor_of_tree (by kernel_rfl)
theorem YN (a:Value):argsOk "reversed.__length_hint__" ⟨[a],[]⟩:=by
 unfold argsOk;rw[signature?_of (id:="reversed.__length_hint__") (n:="__tnih_htgnel__".toList) (o:="desrever".toList) (by kernel_rfl) wF];kernel_rfl
theorem vg:typeLookup (.type "reversed") "__len__"=pure none:=by rw[bn,aO];kernel_rfl
theorem X6:builtinKind "reversed.__length_hint__"=some .method:=by decide+kernel
theorem YO (self:Value):bindSpecial (.builtin "reversed.__length_hint__") self=pure (.builtin "reversed.__length_hint__",[self]):=by
 have hop:withoutEnding? "reversed.__length_hint__" "#opaque"=none:=by decide+kernel
 have hdat:withoutEnding? "reversed.__length_hint__" "#data"=none:=by decide+kernel
 simp only[bindSpecial,typeOf,builtinType,hop,hdat,X6];rfl
theorem tup_at {h h' :Heap}{l:Addr}{xs:Array Value}(t:IsTup h l xs)(k:∀o,h.get? l=some o->h'.get? l=some o):IsTup h' l xs:=let ⟨o,e,r⟩:=t;⟨o,k o e,r⟩
section
variable {prog:Program}{w:World}{A:Around}{E:Value->Shared->Prop}{s:Shared}{I l:Addr}{xs:Array Value}
theorem X7 {Q:Bool->Shared->Prop}(hit:IsRv s.heap I (.ref l) ((xs.size:Int) - 1))(ht:IsTup s.heap l xs)(hz:xs.size<=sizeLine)
  (h:∀b tk,s.toks<=tk->Q b { s with toks:=tk }):wpAny (model prog w) A (c8 (.ref I)) Q E s:=by
 have hf:(xs.size:Int) < 2 ^ 63:=by rw[bI]at hz;omega
 have hT:=JX hit;unfold c8;refine aa (cy hT vg ?_);refine(show wpAny _ A (specialOf (Value.ref I) (aQ "__length_hint__") >>= _) _ _ _ from ?_);refine aa (cy hT WD.lookup ?_);generalize hid:("reversed.__length_hint__":String)=id0
 wp_delta
 rw[show splitId id0=some ("reversed","__length_hint__") from by subst hid;decide+kernel]
 subst hid;refine aa (cC (b:=true) hT V8 ?_);refine cb (λz=>absurd z (by decide)) λ_=> ?_
 refine cb (λz=>absurd z (by decide+kernel)) λ_=> ?_
 refine aa (cF ?_);refine aa (bb (YO _) ?_);dsimp only;refine aa (dj (bH WD hT UY ?_ (YN _)));unfold Builtin.«reversed.__length_hint__»;refine aa (bb (a:=Value.ref I) rfl ?_);refine aa (bm hit rfl (x:= .ref l) rfl ?_);refine cb (λz=>absurd z (by simp)) λ_=> ?_
 refine aa (len_tuple ht hf ?_);refine aa (bb (a:=some (xs.size:Int)) rfl ?_);refine aa (bm (s:={ s with toks:=_ }) hit rfl (x:=rawInt ((xs.size:Int) - 1)) rfl ?_);refine(show wpAny _ _ (if (xs.size:Int) < (xs.size:Int) - 1+1 then _ else retInt ((xs.size:Int) - 1+1)) _ _ _ from ?_)
 rw[if_neg (by omega)]
 unfold retInt;refine aa (wpAny_mkInt ?_);refine ai ⟨_,rfl, ?_⟩;dsimp only;refine aa (bb (a:=some ((xs.size:Int) - 1+1)) rfl ?_);dsimp only;have e:(xs.size:Int) - 1+1=(xs.size:Int):=by omega
 rw[e];have c1:f7 (xs.size:Int)=true:=by unfold f7;simp;omega
 have c2:bU ((xs.size:Int)).toNat=false:=by unfold bU;simp;omega
 rw[if_neg (by rw[c1];decide),if_neg (by omega),if_neg (by rw[c2];decide)]
 exact ai (h _ _ (ap (dO _) (ap (dO _) (dO _))))
theorem vh (hh:A.handled=none)(hne:l ≠ I)(hz:xs.size<=sizeLine):Walks prog w A I [I,l] [I] xs.size (λi v=>xs[xs.size - 1 - i]? =some v) (λi h=>i<=xs.size/\IsRv h I (.ref l) ((xs.size:Int) - 1 - (i:Int))/\IsTup h l xs) where
 sub:=λb hb=>by simp at hb;simp[hb]
 frame:=λ_ _ _ x hk=>⟨x.1,hk I (by simp) _ x.2.1,tup_at x.2.2 λo e=>hk l (by simp) o e⟩
 item:=λi s Q E hi x hQ=>by
  have e:(xs.size:Int) - 1 - (i:Int)=((xs.size - 1 - i:Nat):Int):=by omega
  have hit:=x.2.1;rw[e]at hit;have hx:xs[xs.size - 1 - i]? =some (xs[xs.size - 1 - i]'(by omega)):=bA (by omega)
  refine next_item hit x.2.2 (by rw[bI]at hz;omega) hx λh' tk hit' hs' => ?_
  have e2:((xs.size - 1 - i:Nat):Int) - 1=(xs.size:Int) - 1 - ((i+1:Nat):Int):=by omega
  rw[e2]at hit';exact hQ _ h' tk hx ⟨hi,hit',tup_at x.2.2 λo eo=>(hs'.2 l hne).trans eo⟩ λb o hb eo=>hs'.extBut b o (λh=>hb (by simp[h])) eo
 done:=λs Q E x hQ=>by
  have e:(xs.size:Int) - 1 - (xs.size:Int)= -1:=by omega
  have hit:=x.2.1;rw[e]at hit;exact next_end hh hit λh' he' =>hQ h' s.toks λb o hb eo=>he' b o (λh=>hb (by simp[h])) eo
 self:=λ_ _ _ _ x hQ=>iter_rv x.2.1 hQ
theorem UZ {R:List Value->Shared->Prop}(hh:A.handled=none)(hit:IsRv s.heap I (.ref l) ((xs.size:Int) - 1))(ht:IsTup s.heap l xs)(hz:xs.size<=sizeLine)(hne:l ≠ I)
  (h:∀s' acc,Moved [I] (λa b=>b=a) s s' ->ItemsOf (λi v=>xs[xs.size - 1 - i]? =some v) acc xs.size->R acc.toList s'):wpAny (model prog w) A (collect (.ref I)) R E s:=by
 have W:=vh (prog:=prog) (w:=w) (A:=A.in1) (I:=I) (l:=l) (xs:=xs) hh hne hz;have nI:s.heap.objs.size ≠ I:=cL (ao hit);have nl:s.heap.objs.size ≠ l:=cL (let ⟨_,e,_⟩:=ht;ao e);have nf:s.heap.objs.size ∉ [I,l]:=by simp[nI,nl]
 unfold collect;refine aa (wpAny_runValue (aM h7 ?_));rw[aE h9 _];refine(show wpAny _ A.in1 (newList [] >>= λl=>again (.builtin "list.__iadd__" ⟨[l,.ref I],[]⟩)) _ _ s from ?_);refine aa (aJ (ai ⟨a_ dX _,aM iG ?_⟩));rw[aE dX _];generalize hG:s.heap.push { cls:= .type "list",data:= .seq ([]:List Value).toArray }=G;have gk:∀b o,s.heap.get? b=some o->G.get? b=some o:=λb o e=>by rw[← hG];exact ad _ e
 have gL:G.get? s.heap.objs.size=some { cls:= .type "list",data:= .seq #[] }:=by rw[← hG];exact ah _ rfl
 have gI:IsRv G I (.ref l) ((xs.size:Int) - 1):=gk _ _ hit;have gT:IsTup G l xs:=tup_at ht λo e=>gk _ _ e;have st:0<=xs.size/\IsRv G I (.ref l) ((xs.size:Int) - 1 - ((0:Nat):Int))/\IsTup G l xs:=⟨b9 _,by rw[show (xs.size:Int) - 1 - ((0:Nat):Int)=(xs.size:Int) - 1 by omega];exact gI,gT⟩
 have g2:bW (.ref s.heap.objs.size) (.ref I)=false:=by simp[bW,nI]
 refine(show wpAny _ A.in1 (bM (.ref s.heap.objs.size) (.ref I) (.ref s.heap.objs.size)) _ _ _ from ?_);unfold bM;refine aa (df (JX (s:={ s with heap:=G }) gI) ?_);rw[if_neg (by rw[g2];decide)]
 refine aa (iter_rv (s:={ s with heap:=G }) gI (aa (bQ (X7 (s:={ s with heap:=G }) gI gT hz λb tk htk=> ?_))));have mv:∀s',Moved [s.heap.objs.size,I] (λa b=>b=a) { s with heap:=G,toks:=tk } s' ->Moved [I] (λa b=>b=a) s s' :=λs' m=>⟨λb o hb e=>m.heap b o (λz=>by
  rcases ak.mp z with z | z
  ·exact absurd (ao e) (by rw[z];exact bg _)
  ·exact hb z) (gk b o e),m.gens,m.drawn,m.os,ap htk m.toks⟩
 have fin:∀(h2:Heap) (c:Nat),(∀b o,b ≠ s.heap.objs.size->G.get? b=some o->h2.get? b=some o)->h2.get? s.heap.objs.size=some { cls:= .type "list",dict:=none,data:= .seq #[] c,slots:= #[] }->
   codeAny (model prog w) A (.builtin "list.extend.loop" ⟨[.ref s.heap.objs.size,.ref I,.ref s.heap.objs.size],[]⟩) (λq s' =>∃acc c',q= .ok (.ret (.ref s.heap.objs.size))/\Moved [I] (λa b=>b=a) s s' /\ItemsOf (λi v=>xs[xs.size - 1 - i]? =some v) acc xs.size/\s'.heap.get? s.heap.objs.size=some { cls:= .type "list",dict:=none,data:= .seq acc c',slots:= #[] }) { s with heap:=h2,toks:=tk }:=by
  intro h2 c k2 g3;refine codeAny_extend_loopS W.toS hz _ nf _ xs.size 0 _ #[] c rfl (b9 _) (W.frame 0 _ h2 st λb hb o e=>k2 b o (λz=>nf (z ▸ hb)) e) g3 (l6 _) λs' acc c' m gS ha=> ?_;exact⟨acc,c',rfl,mv s' ⟨λb o hb e=>m.heap b o hb (k2 b o (λz=>hb (by rw[z];exact ae)) e),m.gens,m.drawn,m.os,m.toks⟩,ha,gS⟩
 have done:∀(q:Result) (s' :Shared),(∃acc c',q= .ok (.ret (.ref s.heap.objs.size))/\Moved [I] (λa b=>b=a) s s' /\ItemsOf (λi v=>xs[xs.size - 1 - i]? =some v) acc xs.size/\s'.heap.get? s.heap.objs.size=some { cls:= .type "list",dict:=none,data:= .seq acc c',slots:= #[] })->q= .ok (.ret (.ref s.heap.objs.size))/\wpAny (model prog w) A (do
   let o ← load s.heap.objs.size
   match o.data with
   | .seq xs _=>pure xs.toList
   | _=>unsupported "internal:collect") R E s' :=by
  rintro q s' ⟨acc,c',rfl,m,ha,g⟩
  exact⟨rfl,aa (wpAny_load g (ai (h s' acc m ha)))⟩
 cases b with
 | true=>
  refine(show wpAny _ A.in1 (rule "list.extend.makes-room" >>= λ_=>Builtin.List.listTouch (.ref s.heap.objs.size) >>= λ_=>
   again (.builtin "list.extend.loop" ⟨[.ref s.heap.objs.size,.ref I,.ref s.heap.objs.size],[]⟩)) _ _ _ from ?_)
  refine aa (cF (aa ?_));refine(show wpAny _ _ (updateSeq s.heap.objs.size (·.push .none) >>= λ_=>updateSeq s.heap.objs.size (·.pop)) _ _ _ from ?_);have gL2:=bK (eY (·.push Value.none)) gL rfl;refine aa (cJ gL rfl (cJ (hz:=by seq_fits) gL2 rfl ?_))
  have gL3:=bK (eY (·.pop)) gL2 rfl;refine ai ⟨a_ eQ _,cj (fin _ _ (λb o hb e=>(aP _ _ (bq hb)).trans ((aP _ _ (bq hb)).trans e)) gL3) λq s' x=> ?_⟩;obtain⟨rfl,y⟩:=done q s' x;exact y
 | false=>
  refine ai ⟨a_ eQ _,cj (fin _ _ (λb o _ e=>e) gL) λq s' x=> ?_⟩;obtain⟨rfl,y⟩:=done q s' x;exact y
theorem X8 {Q₁:Value->Shared->Prop}(hh:A.handled=none)(hit:IsRv s.heap I (.ref l) ((xs.size:Int) - 1))(ht:IsTup s.heap l xs)(hz:xs.size<=sizeLine)(hne:l ≠ I)
  (h:∀s' acc,Moved [I] (λa b=>b=a) s s' ->ItemsOf (λi v=>xs[xs.size - 1 - i]? =some v) acc xs.size->Q₁ (.ref s'.heap.objs.size) { s' with heap:=s'.heap.push { cls:= .type "tuple",data:= .seq acc } }):
  codeAny (model prog w) A (.call (.builtin "tuple.__new__") ⟨[.type "tuple",.ref I],[]⟩) (wants Q₁ E) s:=by
 refine codeAny_of_tree ?_;refine(show wpAny _ A.in1 (do checkBuiltinCall "tuple.__new__" ⟨[.type "tuple",.ref I],[]⟩;again (.builtin "tuple.__new__" ⟨[.type "tuple",.ref I],[]⟩)) _ _ s from ?_)
 refine aa (bb (iH _) (ai ⟨a_ dY _,aM iI ?_⟩));rw[aE dY _];have hsub:=sub_tuple_self;have hinit:=init_tuple_lookup;have hmh:=madeHere_tuple;have ty:=JX hit
 wp_walk using df ty,UZ (A:=A.in1) hh hit ht hz hne
 intro s' acc hm hacc;have e:acc.toList.toArray=acc:=by simp
 refine(show wpAny _ _ (ck acc.toList.toArray >>= λv=>ret v) _ _ _ from ?_);unfold ck;refine aa (aJ (ai ?_) (by rw[e];show acc.size<=sizeLine;rw[hacc.1];exact hz))
 rw[e];exact h s' acc hm hacc
theorem tuple_rv {Q:Value->Shared->Prop}(hh:A.handled=none)(hit:IsRv s.heap I (.ref l) ((xs.size:Int) - 1))(ht:IsTup s.heap l xs)(hz:xs.size<=sizeLine)(hne:l ≠ I)
  (hQ:∀s' acc,Moved [I] (λa b=>b=a) s s' ->ItemsOf (λi v=>xs[xs.size - 1 - i]? =some v) acc xs.size->Q (.ref s'.heap.objs.size) { s' with heap:=s'.heap.push { cls:= .type "tuple",data:= .seq acc } }):
  wpAny (model prog w) A (call (.type "tuple") [.ref I]) Q E s:=
 callType_codes (Q₁:=λobj s₁=>s₁.TypeIs obj "tuple"/\Q obj s₁) dy (im _) i8
  (X8 hh hit ht hz hne λs' acc hm hacc=>⟨⟨_,ah _ rfl,rfl⟩,hQ s' acc hm hacc⟩) λobj s₁ h₁=>
   ⟨h₁.1,hZ obj _,object_init_meets dy.init.lookup dy.made (by decide) prog w A.in1 _ s₁ ⟨h₁.1,rfl,h₁.2⟩⟩
end
end PySem.RV
namespace PV
open PySem PySem.Spec PyProof.Rows L2
def X9:T->R T
 | .tup xs=>if xs.length<=bnd then .ok (.tup xs.reverse) else .bad
 | _=> .bad
section
variable {X:Cx}{Y:Fx}{a:Expr}{fa:En->R T}{pos p p' pos' :Pos}
theorem Xa (hh:X.A.handled=none)(gl:Gl X "tuple")(mg:X.mg "tuple"=none)(gl' :Gl X "reversed")(mg' :X.mg "reversed"=none)(ha:Snd X Y a fa)(hs:St1 X a:=by exact st1 rfl)(hs' :St1 X (.Call (.Name "reversed" p') [a] [] pos'):=by exact st1 rfl):
  Snd X Y (.Call (.Name "tuple" p) [.Call (.Name "reversed" p') [a] [] pos'] [] pos) (ap1 X9 fa):= .mk λρ=>by
 intro pins s σ H Q I ⟨B,J,q⟩;have hq:tS Y rC fa ρ σ H (λv H1=>∃l xs,v= .ref l/\H1 l=some (.tup xs)/\xs.length<=sizeLine/\∀t,H1 t=none->Q (.ref t) (upd H1 t (.tup xs.reverse))):=by
  refine step J q λt v H1 _ s1 r1 I1 q1=> ?_;cases r1 with
  | @tup l xs ts h r=>
   have q1:Po Y rC _ H1 (if ts.length<=bnd then .ok (.tup ts.reverse) else .bad) Q:=q1
   split at q1
   ·rename_i hb;exact⟨l,xs,rfl,I1.sB _ _ h,by rw[r.length];exact Zz hb,λt ht=>K3 I1.sB q1 rfl r.rev ht⟩
   ·exact q1.elim
  | _=>exact q1.elim
 refine bZ (ZS I gl mg PyProof.Rows.Boot.«tuple» (aN (e:= .Call (.Name "reversed" p') [a] [] pos') (rest:=[]) ?_ hs' rfl));rw[hs'];show wpAny _ _ (spliced [(false,eval (.Call (.Name "reversed" p') [a] [] pos') X.env)]) _ _ s;refine eW (bZ (ZS I gl' mg' boot_reversed (aN (e:=a) (rest:=[]) ?_ hs rfl)));refine thn ((zo (ha ρ) zU hs) pos' pins s σ H (λvs H1=>∃l xs,vs=[.ref l]/\H1 l=some (.tup xs)/\xs.length<=sizeLine/\∀t,H1 t=none->Q (.ref t) (upd H1 t (.tup xs.reverse))) I ?_) λus s1 ⟨vs,H1,I1,r1,l,xs,e,hl,hz,q1⟩=> ?_
 ·obtain⟨B',J',q'⟩:=hq;refine⟨B',J', ?_⟩;revert q';cases fa ρ with
  | bad=>exact λq' =>q'
  | ex c=>exact λq' =>q'
  | ok t=>
   intro q' v H1 s1 r1;obtain⟨l,xs,rfl,h⟩:=q' v H1 s1 r1;exact⟨l,xs,rfl,h⟩
 subst e;obtain⟨u,rfl,ru⟩:=ZI r1;obtain rfl:u=Value.ref l:=ru;obtain⟨its,rv,pl,hz'⟩:=I1.tuple (SqT.of hl);have hlt:l < s1.heap.objs.size:=I1.hok.lt hl;have hsz:its.toArray.size<=sizeLine:=by rw[az,← rv.length];exact hz
 refine RV.call_rvT pl (by rw[bI]at hsz;omega) λtk=>(fh ?_)
 refine RV.tuple_rv (s:={ s1 with heap:=s1.heap.push { cls:= .type "reversed",data:= .fields #[.ref l,rawInt ((its.toArray.size:Int) - 1)] },toks:=tk }) hh (ah _ rfl) (RV.tup_at pl λo e=>ad _ e) hsz (aw hlt) λs' acc hm hacc=> ?_;obtain⟨h',g',d',tk',os'⟩:=s';have e1:g' =s1.gens:=hm.gens;have e2:d' =s1.drawn:=hm.drawn;have e3:os' =s1.os:=hm.os;subst e1 e2 e3;have kp:∀b o,s1.heap.get? b=some o->h'.get? b=some o:=λb o e=>hm.heap b o (λz=>by
  have z:b=s1.heap.objs.size:=by simpa using z
  have:=ao e;rw[z]at this;exact bg _ this) (ad _ e)
 have I2:Inv X pins σ H1 { s1 with heap:=h',toks:=tk' }:=I1.kept (t' :=tk') kp;have ea:acc=its.reverse.toArray:=by rw[← Ym hacc]
 rw[ea];refine⟨.ref h'.objs.size,upd H1 h'.objs.size (.tup xs.reverse),I2.laid (t' :=tk') (λb u e=>ad _ e) (am _) ⟨by rw[bJ];exact hz,its.reverse,J8 rv,⟨_,ah _ rfl,rfl,_,rfl⟩,.inr ⟨_,ah _ rfl,rfl⟩⟩,rfl,q1 _ (I2.hok.fresh (am _))⟩
end
section
variable {X:Cx}{Y:Fx}{a b c:Expr}{fa fb fc:En->R T}{pos p:Pos}
section
variable {pa:Pos}
end
end
section
variable {X:Cx}{Y:Fx}{a b c:Expr}{fa fb fc:En->R T}{pos p p1 p2 p3:Pos}{kc:Nat}
end
section
variable {X:Cx}{Y:Fx}{a:Expr}{fa:En->R T}{pos p pt:Pos}{elts:List Expr}{kk:Nat}
end
end PV
namespace PV
open PySem PySem.W PyProof.Rows
section
variable {α β:Type}
def Gd (lt:Nat->Nat->Bool)(n:Nat):KasT α->(α->Prop)->Prop
 | .ret a,P=>P a
 | .ask i j k,P=>(i < n/\j < n/\i ≠ j)/\Gd lt n (k (lt i j)) P
theorem Gd.mono {lt:Nat->Nat->Bool}{n:Nat}{P P' :α->Prop}(h:∀a,P a->P' a):∀(t:KasT α),Gd lt n t P->Gd lt n t P'
 | .ret a,g=>h a g
 | .ask i j k,⟨h1,g⟩=>⟨h1,Gd.mono h _ g⟩
theorem Gd.bind {lt:Nat->Nat->Bool}{n:Nat}{P:β->Prop}{f:α->KasT β}:∀(t:KasT α),Gd lt n t (λa=>Gd lt n (f a) P)->Gd lt n (t.bind f) P
 | .ret a,g=>g
 | .ask i j k,⟨h1,g⟩=>⟨h1,Gd.bind _ g⟩
end
section
variable {O:KeyOrd}{n:Nat}{key:Nat->O.α}
abbrev kp (key:Nat->O.α)(p:Array Nat)(i:Nat):O.α:=key (p.getD i 0)
structure Pm (n:Nat) (p:Array Nat):Prop where
 sz:p.size=n
 pm:p.toList.Perm (aX n)
theorem Pm.lt {p:Array Nat}(h:Pm n p){i:Nat}(hi:i < n):p.getD i 0 < n:=by
 have hs:i < p.size:=by rw[h.sz];exact hi
 have e:p.getD i 0=p[i]:=by simp[ir,hs]
 rw[e];exact bE.mp (h.pm.mem_iff.mp (Array.getElem_mem_toList hs))
theorem Pm.inj {p:Array Nat}(h:Pm n p){i j:Nat}(hi:i < n)(hj:j < n)(e:p.getD i 0=p.getD j 0):i=j:=by
 have hs:i < p.size:=by rw[h.sz];exact hi
 have hs' :j < p.size:=by rw[h.sz];exact hj
 have e1:p.getD i 0=p[i]:=by simp[ir,hs]
 have e2:p.getD j 0=p[j]:=by simp[ir,hs']
 rw[e1,e2]at e;have nd:p.toList.Nodup:=h.pm.nodup_iff.mpr fM;have:=(fB (i:=i) (j:=j) (h₀:=by simpa using hs) (h₁:=by simpa using hs') nd).mp (by simpa using e)
 exact this
def So (key:Nat->O.α)(p:Array Nat)(m:Nat):Prop:=∀i j,i < j->j < m->O.klt (kp key p i) (kp key p j)
theorem Xb {p q:Array Nat}{i j:Nat}(h:p[i]? =q[j]?):p.getD i 0=q.getD j 0:=by
 have e:∀(a:Array Nat) (k:Nat),a.getD k 0=(a[k]?).getD 0:=λa k=>by simp
 rw[e,e,h]
variable (hk:∀i j,i < n->j < n->key i=key j->i=j)
include hk
theorem gh {p:Array Nat}(h:Pm n p){i j:Nat}(hi:i < n)(hj:j < n)(hij:i ≠ j)(hf:O.blt (kp key p i) (kp key p j)=false):O.klt (kp key p j) (kp key p i):=by
 cases q:O.blt (kp key p j) (kp key p i) with
 | true=>exact q
 | false=>exact absurd (h.inj hi hj (hk _ _ (h.lt hi) (h.lt hj) (O.total _ _ hf q))) hij
omit hk in
theorem So.snoc {p:Array Nat}{m:Nat}(h:So key p m)(h1:1<=m)(hl:O.klt (kp key p (m - 1)) (kp key p m)):So key p (m+1):=λi j hij hj=>by
 by_cases hjm:j=m
 ·subst hjm
  by_cases him:i=j - 1
  ·rw[him];exact hl
  ·exact fw (h i (j - 1) (by omega) (by omega)) (iN hl)
 ·exact h i j hij (by omega)
theorem YQ {p:Array Nat}(hp:Pm n p):∀(f m:Nat),1<=m->m+f=n->So key p m->Gd (λi j=>O.blt (key i) (key j)) n (kas_asc p f m) λr=>m<=r/\r<=n/\So key p r/\(r < n->O.klt (kp key p r) (kp key p (r - 1)))
 | 0,m,_,hm,h=>⟨am _,by omega,h,λz=>by omega⟩
 | f+1,m,h1,hm,h=>by
  refine⟨⟨hp.lt (by omega),hp.lt (by omega),λz=>absurd (hp.inj (by omega) (by omega) z) (by omega)⟩, ?_⟩
  show Gd _ n (if O.blt (kp key p m) (kp key p (m - 1))=true then .ret m else kas_asc p f (m+1)) _
  cases q:O.blt (kp key p m) (kp key p (m - 1)) with
  | true=>exact⟨am _,by omega,h,λ_=>q⟩
  | false=>
   rw[if_neg (by simp)]
   exact Gd.mono (λr ⟨a,b,c⟩=>⟨by omega,b,c⟩) _ (YQ hp f (m+1) (by omega) (by omega) (h.snoc h1 (gh hk hp (by omega) (by omega) (by omega) q)))
def De (key:Nat->O.α)(p:Array Nat)(m:Nat):Prop:=∀i j,i < j->j < m->O.klt (kp key p j) (kp key p i)
theorem YR {p:Array Nat}(hp:Pm n p):∀(f m:Nat),2<=m->m+f=n->De key p m->Gd (λi j=>O.blt (key i) (key j)) n (kas_desc f p m 0) λr=>r.1=p/\r.2.2=0/\m<=r.2.1/\r.2.1<=n/\De key p r.2.1
 | 0,m,_,hm,h=>⟨rfl,rfl,am _,by show m<=n;omega,h⟩
 | f+1,m,h1,hm,h=>by
  refine⟨⟨hp.lt (by omega),hp.lt (by omega),λz=>absurd (hp.inj (by omega) (by omega) z) (by omega)⟩, ?_⟩
  show Gd _ n (if O.blt (kp key p m) (kp key p (m - 1))=true then (if 0 > 0 then kas_desc f (kas_rev p (m - (0+1)) m) (m+1) 0 else kas_desc f p (m+1) 0) else .ask (p.getD (m - 1) 0) (p.getD m 0) λd=>if d=true then .ret (p,m,0) else kas_desc f p (m+1) (0+1)) _
  cases q:O.blt (kp key p m) (kp key p (m - 1)) with
  | true=>
   rw[if_pos rfl,if_neg (by omega)]
   refine Gd.mono (λr ⟨a,b,c,d⟩=>⟨a,b,by omega,d⟩) _ (YR hp f (m+1) (by omega) (by omega) λi j hij hj=> ?_)
   by_cases hjm:j=m
   ·subst hjm
    by_cases him:i=j - 1
    ·rw[him];exact q
    ·exact fw (show O.klt (kp key p j) (kp key p (j - 1)) from q) (iN (h i (j - 1) (by omega) (by omega)))
   ·exact h i j hij (by omega)
  | false=>
   rw[if_neg (by simp)]
   refine⟨⟨hp.lt (by omega),hp.lt (by omega),λz=>absurd (hp.inj (by omega) (by omega) z) (by omega)⟩, ?_⟩
   have q2:O.blt (kp key p (m - 1)) (kp key p m)=true:=gh hk hp (by omega) (by omega) (by omega) q
   show Gd _ n (if O.blt (kp key p (m - 1)) (kp key p m)=true then .ret (p,m,0) else _) _
   rw[if_pos q2];exact⟨rfl,rfl,am _,by show m<=n;omega,h⟩
omit hk in
theorem Vh {p:Array Nat}(hp:Pm n p)(i j:Nat):Pm n (kas_rev p i j):=⟨(mirror_size _ _ _ _).trans hp.sz,(Array.perm_iff_toList_perm.mp (mirror_perm p i j _)).trans hp.pm⟩
omit hk in
theorem YS {p:Array Nat}(hp:Pm n p){m k:Nat}(hm:m<=n)(hk' :k < m):(kas_rev p 0 m).getD k 0=p.getD (m - 1 - k) 0:=by
 refine Xb ?_;unfold kas_rev;rw[getElem?_mirror_all (by rw[hp.sz];exact hm),if_pos ⟨b9 _,hk'⟩]
 congr 1
 omega
theorem ZK {p:Array Nat}(hp:Pm n p)(h2:2<=n):Gd (λi j=>O.blt (key i) (key j)) n (kas_count n p) λr=>1<=r.1/\r.1<=n/\Pm n r.2/\So key r.2 r.1:=by
 unfold kas_count;refine Gd.bind _ (Gd.mono (λm ⟨a,b,c,d⟩=> ?_) _ (YQ hk hp (n - 1) 1 (am _) (by omega) λi j hij hj=>by omega))
 by_cases hmn:m=n
 ·rw[if_pos (by simpa using hmn)]
  exact⟨a,b,hp,c⟩
 ·rw[if_neg (by simpa using hmn)]
  by_cases hm1:m > 1
  ·rw[if_pos hm1];refine⟨⟨hp.lt (by omega),hp.lt (by omega),λz=>absurd (hp.inj (by omega) (by omega) z) (by omega)⟩, ?_⟩
   have q:O.blt (kp key p 0) (kp key p (m - 1))=true:=c 0 (m - 1) (by omega) (by omega)
   show Gd _ n (if O.blt (kp key p 0) (kp key p (m - 1))=true then .ret (m,p) else _) _
   rw[if_pos q];exact⟨a,b,hp,c⟩
  ·rw[if_neg hm1];have e:m=1:=by omega
   subst e;unfold kas_descPart;have d1:=d (by omega)
   refine Gd.bind _ (Gd.mono (λr ⟨r1,r2,r3,r4,r5⟩=> ?_) _ (YR hk hp (n - (1+1)) (1+1) (by omega) (by omega) λi j hij hj=>by
    have:i=0/\j=1:=by omega
    rw[this.1,this.2];exact d1))
   rw[r2,if_neg (by omega),r1]
   unfold kas_tail3;refine Gd.bind _ (Gd.mono (λm' ⟨x1,x2,x3,_⟩=>⟨by show 1<=m';omega,x2,Vh hp 0 r.2.1,x3⟩) _ (YQ hk (Vh hp 0 r.2.1) (n - r.2.1) r.2.1 (by omega) (by omega) λi j hij hj=> ?_))
   unfold kp;rw[YS hp r4 (by omega),YS hp r4 hj]
   exact r5 _ _ (by omega) (by omega)
omit hk in
end
end PV
namespace PV
open PySem PySem.Spec PyProof.Rows L2
section
variable {P:Program}{w:World}{H:Hp}{h:Heap}
end
section
variable {X:Cx}{Y:Fx}{a:Expr}{fa:En->R T}{p pos:Pos}
end
section
open PySem.W PySem.Calls
variable {O:KeyOrd}{n:Nat}{key:Nat->O.α}
end
section
variable {prog:Program}{w:World}{A:Around}{E:Value->Shared->Prop}{s:Shared}
open PySem.W PySem.Calls
end
section
variable {X:Cx}{Y:Fx}{a:Expr}{fa:En->R T}{p pos:Pos}
end
end PV
namespace PV
open PySem PySem.Spec PyProof.Rows L2
section
variable {X:Cx}{Y:Fx}{a b:Expr}{fa:En->R T}{pos p p1 p2 p3 lp sp' :Pos}
end
section
variable {prog:Program}{w:World}{A:Around}{E:Value->Shared->Prop}{s:Shared}
open HT in
open HT in
end
section
variable {X:Cx}{Y:Fx}{a:Expr}{fa:En->R T}{pos p2 p3 p4:Pos}{kc:Nat}
end
end PV
namespace PV
open PySem PySem.Spec PyProof.Rows L2
def gm (f:En->R Bool):En->R Bool:=λρ=>match f (frz ρ) with
 | .ok b=> .ok b
 | _=> .bad
theorem z1Y {X:Cx}{Y:Fx}{e:Expr}{f:En->R Bool}(h:wy X Y e f):wy X Y e (gm f):= .mk λρ=>PT.imp (h (frz ρ)) λσ H Q ⟨B,I,q⟩=>by
 refine⟨_,I.frz, ?_⟩;unfold gm at q;cases r:f (frz ρ) with
 | ok b=>rw[r]at q;exact q
 | ex c=>rw[r]at q;exact q.elim
 | bad=>rw[r]at q;exact q.elim
end PV
namespace G
open PySem PySem.Spec PyProof.Rows L2 PV
def b_u:En->RS:=
  zn (Js (ap1 (u9 "int") (vB 0)) (notE (ap1 (u9 "bool") (vB 0))))
def f_u:List T->R T:=λts=>zg (b_u  (en0 1 ts))
def b_1q (c_u:List T->R T):En->RS:=
  zn (Js (za 1 c_u (z9 (vE 0) (ze))) (Js (za 1 c_u (z9 (vE 1) (ze))) (ch3E leC leC leC (vB 2) (vB 0) (vB 1) (vB 3))))
def z01:List T->R T:=λts=>zg (b_1q (f_u) (en0 4 ts))
def b_k:En->RS:=
  zn (Js (ap1 (u9 "tuple") (vB 0)) (chE leC leC (vB 1) (ap1 ZO (vB 0)) (vB 2)))
def f_k:List T->R T:=λts=>zg (b_k  (en0 3 ts))
def b_1f:En->RS:=
  zj (ifS (orT (Qd (u8 (ap1 (u9 "str") (vB 0)))) (Qd (chT leC leC (cE (.int 1)) (ap1 ZO (vB 0)) (cE (.int 3))))) (zn (cE (.bl false))) (nxS))
  (zn (ap1 vZ (zJ (Zv (vE 0)) (zt 0) (zQ) (chE leC leC (cE (.str "a")) (vB 0) (cE (.str "z"))) 1 [])))
def ka:List T->R T:=λts=>zg (b_1f  (en0 1 ts))
def z02 (c_u:List T->R T)(c_k:List T->R T)(c_1f:List T->R T):En->RS:=
  zn (Js (za 3 c_k (z9 (vE 0) (z9 (cE (.int 2)) (z9 (cE (.int 2)) (ze))))) (Js (za 1 c_1f (z9 (zc ixT (vE 0) (cE (.int 0))) (ze))) (Js (za 1 c_u (z9 (zc ixT (vE 0) (cE (.int 1))) (ze))) (chE leC leC (cE (.int 1)) (zc ixT (vE 0) (cE (.int 1))) (cE (.int 20))))))
def Xc:List T->R T:=λts=>zg (z02 (f_u) (f_k) (ka) (en0 1 ts))
def z03 (c_k:List T->R T)(c_1d:List T->R T):En->RS:=
  zj (ifS (orT (Qd (u8 (za 3 c_k (z9 (vE 0) (z9 (cE (.int 1)) (z9 (cE (.int 4)) (ze))))))) (Qd (u8 (ap1 vZ (zJ (Zv (vE 0)) (zt 0) (zQ) (za 1 c_1d (z9 (vE 0) (ze))) 1 []))))) (zn (cE (.bl false))) (nxS))
  (zj (zD 1 (zJ (Zv (vE 0)) (zt 0) (zQ) (zc ixT (vE 0) (cE (.int 0))) 1 []))
  (zn (jY eqC (ap1 QJ (vB 1)) (ap1 ZO (vB 1)))))
def gp:List T->R T:=λts=>zg (z03 (f_k) (Xc) (en0 2 ts))
def b_g (c_1q:List T->R T)(c_g:List T->R T)(c_13:List T->R T)(c_1n:List T->R T):En->RS:=
  zj (ifS (orT (zk eqC (vB 1) (cE (.int 0))) (orT (Qd (u8 (ap1 (u9 "tuple") (vB 0)))) (zk eqC (ap1 ZO (vB 0)) (cE (.int 0))))) (zn (cE (.bl false))) (nxS))
  (zj (ifS (zk eqC (zc ixT (vE 0) (cE (.int 0))) (cE (.str "whole"))) (zn (Js (jY eqC (ap1 ZO (vB 0)) (cE (.int 3))) (za 4 c_1q (z9 (zc ixT (vE 0) (cE (.int 1))) (z9 (zc ixT (vE 0) (cE (.int 2))) (z9 (yj (cE (.int 20))) (z9 (cE (.int 20)) (ze)))))))) (nxS))
  (zj (ifS (zk eqC (zc ixT (vE 0) (cE (.int 0))) (cE (.str "pick"))) (zn (Js (jY eqC (ap1 ZO (vB 0)) (cE (.int 2))) (za 1 c_13 (z9 (zc ixT (vE 0) (cE (.int 1))) (ze))))) (nxS))
  (zj (ifS (zk eqC (zc ixT (vE 0) (cE (.int 0))) (cE (.str "row"))) (zn (Js (jY eqC (ap1 ZO (vB 0)) (cE (.int 2))) (za 2 c_1n (z9 (zc ixT (vE 0) (cE (.int 1))) (z9 (zc J6 (vE 1) (cE (.int 1))) (ze)))))) (nxS))
  (zj (ifS (zk eqC (zc ixT (vE 0) (cE (.int 0))) (cE (.str "many"))) (zn (Js (jY eqC (ap1 ZO (vB 0)) (cE (.int 4))) (Js (za 4 c_1q (z9 (zc ixT (vE 0) (cE (.int 2))) (z9 (zc ixT (vE 0) (cE (.int 3))) (z9 (cE (.int 0)) (z9 (cE (.int 3)) (ze)))))) (za 2 c_g (z9 (zc ixT (vE 0) (cE (.int 1))) (z9 (zc J6 (vE 1) (cE (.int 1))) (ze))))))) (nxS))
  (zn (cE (.bl false)))))))
def z04 (c_k:List T->R T)(c_g:List T->R T):En->RS:=
  zn (Js (za 3 c_k (z9 (vE 0) (z9 (cE (.int 1)) (z9 (cE (.int 3)) (ze))))) (ap1 vZ (zJ (Zv (vE 0)) (zt 0) (zQ) (za 2 c_g (z9 (vE 0) (z9 (vE 1) (ze)))) 1 [1])))
def S_g:Nat->Nat->List T->R T
 | 0,_=>λ_=> .bad
 | n+1,0=>λts=>zg (b_g (z01) (S_g n 0) (gp) (S_g n 1) (en0 2 ts))
 | n+1,_=>λts=>zg (z04 (f_k) (S_g n 0) (en0 2 ts))
abbrev f_g (n:Nat):List T->R T:=S_g n 0
abbrev f_1n (n:Nat):List T->R T:=S_g n 1
def b_4 (c_g:List T->R T):En->RS:=
  zn (za 2 c_g (z9 (vE 0) (z9 (cE (.int 3)) (ze))))
def f_4:List T->R T:=λts=>zg (b_4 (f_g 20) (en0 1 ts))
def b_8 (c_4:List T->R T):En->RS:=
  ifS (Qd (u8 (za 1 c_4 (z9 (vE 0) (ze))))) (GZ) (nxS)
def f_8:List T->R T:=λts=>zg (b_8 (f_4) (en0 1 ts))
def b_5 (c_5:List T->R T):En->RS:=
  zj (ifS (zk eqC (zc ixT (vE 0) (cE (.int 0))) (cE (.str "whole"))) (zn (Z4 (z9 (cE (.str "whole")) (z9 (yj (zc ixT (vE 0) (cE (.int 2)))) (z9 (yj (zc ixT (vE 0) (cE (.int 1)))) (ze)))))) (nxS))
  (zj (ifS (zk eqC (zc ixT (vE 0) (cE (.int 0))) (cE (.str "pick"))) (zn (Z4 (z9 (cE (.str "pick")) (z9 (ap1 X9 (zc ixT (vE 0) (cE (.int 1)))) (ze))))) (nxS))
  (zj (ifS (zk eqC (zc ixT (vE 0) (cE (.int 0))) (cE (.str "row"))) (zn (Z4 (z9 (cE (.str "row")) (z9 (ap1 Qe (zJ (Va (zc ixT (vE 0) (cE (.int 1)))) (zt 0) (zQ) (za 1 c_5 (z9 (vE 0) (ze))) 1 [])) (ze))))) (nxS))
  (zn (Z4 (z9 (cE (.str "many")) (z9 (za 1 c_5 (z9 (zc ixT (vE 0) (cE (.int 1))) (ze))) (z9 (zc ixT (vE 0) (cE (.int 2))) (z9 (zc ixT (vE 0) (cE (.int 3))) (ze)))))))))
def S_5:Nat->Nat->List T->R T
 | 0,_=>λ_=> .bad
 | n+1,_=>λts=>zg (b_5 (S_5 n 0) (en0 1 ts))
abbrev f_5 (n:Nat):List T->R T:=S_5 n 0
def b_e (c_8:List T->R T)(c_5:List T->R T):En->RS:=
  zj (jt (za 1 c_8 (z9 (vE 0) (ze))))
  (zn (za 1 c_5 (z9 (vE 0) (ze))))
def f_e:List T->R T:=λts=>zg (b_e (f_8) (f_5 8) (en0 1 ts))
def b_n:En->RS:=
  zj (zD 1 (jz (z9 (Z4 (ze)) (ze))))
  (zj (jk (Zv (vE 0)) (zt 2) (zj (uN 3 (ze))
  (zj (jk (Zv (vE 1)) (zt 4) (yl 3 (zJ (Zv (vE 2)) (zt 0) (zQ) (zc zA (vE 1) (Z4 (z9 (vE 0) (ze)))) 1 [4])))
  (mvS 1 3))))
  (zn (vE 1)))
def f_n:List T->R T:=λts=>zg (b_n  (en0 5 ts))
def b_c (c_c:List T->R T)(c_n:List T->R T):En->RS:=
  zj (ifS (zk eqC (zc ixT (vE 0) (cE (.int 0))) (cE (.str "whole"))) (zn (GY (J0 (zc ixT (vE 0) (cE (.int 1))) (zc zA (zc ixT (vE 0) (cE (.int 2))) (cE (.int 1)))))) (nxS))
  (zj (ifS (zk eqC (zc ixT (vE 0) (cE (.int 0))) (cE (.str "pick"))) (zn (zJ (Zv (zc ixT (vE 0) (cE (.int 1)))) (zN 0 1) (zQ) (vE 0) 2 [])) (nxS))
  (zj (ifS (zk eqC (zc ixT (vE 0) (cE (.int 0))) (cE (.str "row"))) (zn (za 1 c_n (z9 (zJ (Zv (zc ixT (vE 0) (cE (.int 1)))) (zt 0) (zQ) (za 1 c_c (z9 (vE 0) (ze))) 1 []) (ze)))) (nxS))
  (zj (uN 1 (ze))
  (zj (jk (J0 (zc ixT (vE 0) (cE (.int 2))) (zc zA (zc ixT (vE 0) (cE (.int 3))) (cE (.int 1)))) (zt 2) (yl 1 (za 1 c_n (z9 (zc zT (jz (z9 (za 1 c_c (z9 (zc ixT (vE 0) (cE (.int 1))) (ze))) (ze))) (vE 2)) (ze)))))
  (zn (vE 1))))))
def S_c:Nat->Nat->List T->R T
 | 0,_=>λ_=> .bad
 | n+1,_=>λts=>zg (b_c (S_c n 0) (f_n) (en0 3 ts))
abbrev f_c (n:Nat):List T->R T:=S_c n 0
def b_7 (c_7:List T->R T)(c_1s:List T->R T):En->RS:=
  zj (ifS (zk eqC (zc ixT (vE 0) (cE (.int 0))) (cE (.str "whole"))) (zn (Z4 (z9 (zc ixT (vE 0) (cE (.int 1))) (z9 (zc ixT (vE 0) (cE (.int 2))) (ze))))) (nxS))
  (zj (ifS (zk eqC (zc ixT (vE 0) (cE (.int 0))) (cE (.str "pick"))) (zn (Z4 (z9 (cE (.int 0)) (z9 (cE (.int 0)) (ze))))) (nxS))
  (zj (ifS (zk eqC (zc ixT (vE 0) (cE (.int 0))) (cE (.str "row"))) (zj (zD 1 (zJ (Zv (zc ixT (vE 0) (cE (.int 1)))) (zt 0) (zQ) (za 1 c_7 (z9 (vE 0) (ze))) 1 []))
  (zn (Z4 (z9 (ap1 xO (zJ (Zv (vE 1)) (zN 0 1) (zQ) (vE 0) 2 [])) (z9 (ap1 xO (zJ (Zv (vE 1)) (zN 0 1) (zQ) (vE 1) 2 [])) (ze)))))) (nxS))
  (zn (za 1 c_1s (z9 (vE 0) (ze))))))
def gq (c_7:List T->R T):En->RS:=
  zj (zD 1 (za 1 c_7 (z9 (zc ixT (vE 0) (cE (.int 1))) (ze))))
  (zn (Z4 (z9 (zc Jt (zc zT (zc ixT (vE 0) (cE (.int 2))) (zc ixT (vE 1) (cE (.int 0)))) (zc zT (zc ixT (vE 0) (cE (.int 3))) (zc ixT (vE 1) (cE (.int 0))))) (z9 (zc Ww (zc zT (zc ixT (vE 0) (cE (.int 2))) (zc ixT (vE 1) (cE (.int 1)))) (zc zT (zc ixT (vE 0) (cE (.int 3))) (zc ixT (vE 1) (cE (.int 1))))) (ze)))))
def S_7:Nat->Nat->List T->R T
 | 0,_=>λ_=> .bad
 | n+1,0=>λts=>zg (b_7 (S_7 n 0) (S_7 n 1) (en0 2 ts))
 | n+1,_=>λts=>zg (gq (S_7 n 0) (en0 2 ts))
abbrev f_7 (n:Nat):List T->R T:=S_7 n 0
abbrev f_1s (n:Nat):List T->R T:=S_7 n 1
def b_1 (c_8:List T->R T)(c_7:List T->R T):En->RS:=
  zj (jt (za 1 c_8 (z9 (vE 0) (ze))))
  (zn (za 1 c_7 (z9 (vE 0) (ze))))
def f_1:List T->R T:=λts=>zg (b_1 (f_8) (f_7 8) (en0 1 ts))
def z05:En->RS:=
  zj (Zl (zk neC (vB 1) (cE (.int 0))) (zj (zD 2 (zc jP (vE 0) (vE 1)))
  (zj (zD 0 (vE 1))
  (zD 1 (vE 2)))) (2 ^ 9000))
  (zn (vE 0))
def gr:List T->R T:=λts=>zg (z05  (en0 3 ts))
def b_l (c_1g:List T->R T):En->RS:=
  zj (zD 2 (za 2 c_1g (z9 (ap1 z00 (vB 0)) (z9 (vE 1) (ze)))))
  (zn (Z4 (z9 (zc k9 (vE 0) (vE 2)) (z9 (zc k9 (vE 1) (vE 2)) (ze)))))
def f_l:List T->R T:=λts=>zg (b_l (gr) (en0 3 ts))
def b_v (c_l:List T->R T):En->RS:=
  zn (za 2 c_l (z9 (zc mlT (zc ixT (vE 0) (cE (.int 0))) (zc ixT (vE 1) (cE (.int 0)))) (z9 (zc mlT (zc ixT (vE 0) (cE (.int 1))) (zc ixT (vE 1) (cE (.int 1)))) (ze))))
def f_v:List T->R T:=λts=>zg (b_v (f_l) (en0 2 ts))
def z06 (c_l:List T->R T):En->RS:=
  zn (za 2 c_l (z9 (zc zA (zc mlT (zc ixT (vE 0) (cE (.int 0))) (zc ixT (vE 1) (cE (.int 1)))) (zc mlT (zc ixT (vE 1) (cE (.int 0))) (zc ixT (vE 0) (cE (.int 1))))) (z9 (zc mlT (zc ixT (vE 0) (cE (.int 1))) (zc ixT (vE 1) (cE (.int 1)))) (ze))))
def gu:List T->R T:=λts=>zg (z06 (f_l) (en0 2 ts))
def z07 (c_1l:List T->R T):En->RS:=
  zj (zD 1 (Z4 (z9 (cE (.int 0)) (z9 (cE (.int 1)) (ze)))))
  (zj (jk (Zv (vE 0)) (zt 2) (zD 1 (za 2 c_1l (z9 (vE 1) (z9 (vE 2) (ze))))))
  (zn (vE 1)))
def z08:List T->R T:=λts=>zg (z07 (gu) (en0 3 ts))
def b_r (c_l:List T->R T)(c_v:List T->R T)(c_1m:List T->R T)(c_r:List T->R T):En->RS:=
  zj (ifS (zk eqC (zc ixT (vE 0) (cE (.int 0))) (cE (.str "whole"))) (zn (za 2 c_l (z9 (zc zA (zc ixT (vE 0) (cE (.int 1))) (zc ixT (vE 0) (cE (.int 2)))) (z9 (cE (.int 2)) (ze))))) (nxS))
  (zj (ifS (zk eqC (zc ixT (vE 0) (cE (.int 0))) (cE (.str "pick"))) (zn (Z4 (z9 (cE (.int 0)) (z9 (cE (.int 1)) (ze))))) (nxS))
  (zj (ifS (zk eqC (zc ixT (vE 0) (cE (.int 0))) (cE (.str "row"))) (zn (za 1 c_1m (z9 (zJ (Zv (zc ixT (vE 0) (cE (.int 1)))) (zt 0) (zQ) (za 1 c_r (z9 (vE 0) (ze))) 1 []) (ze)))) (nxS))
  (zj (zD 1 (za 2 c_l (z9 (zc zA (zc ixT (vE 0) (cE (.int 2))) (zc ixT (vE 0) (cE (.int 3)))) (z9 (cE (.int 2)) (ze)))))
  (zn (za 2 c_v (z9 (vE 1) (z9 (za 1 c_r (z9 (zc ixT (vE 0) (cE (.int 1))) (ze))) (ze))))))))
def S_r:Nat->Nat->List T->R T
 | 0,_=>λ_=> .bad
 | n+1,_=>λts=>zg (b_r (f_l) (f_v) (z08) (S_r n 0) (en0 2 ts))
abbrev f_r (n:Nat):List T->R T:=S_r n 0
def b_9 (c_8:List T->R T)(c_r:List T->R T):En->RS:=
  zj (jt (za 1 c_8 (z9 (vE 0) (ze))))
  (zn (za 1 c_r (z9 (vE 0) (ze))))
def f_9:List T->R T:=λts=>zg (b_9 (f_8) (f_r 20) (en0 1 ts))
def b_1p:En->RS:=
  zj (ifS (zk ltC (vB 1) (ap1 ZO (vB 0))) (zn (zc ixT (vE 0) (vE 1))) (nxS))
  (zj (ifS (zk eqC (vB 0) (jz (ze))) (zn (cE (.int 0))) (nxS))
  (zn (zc zA (zc zT (zc ixT (vE 0) (zc jP (vE 1) (ap1 ZO (vB 0)))) (cE (.int 31))) (vE 1))))
def gx:List T->R T:=λts=>zg (b_1p  (en0 2 ts))
def b_f (c_1p:List T->R T):En->RS:=
  zj (zD 3 (zc jP (zc zT (zc zA (za 2 c_1p (z9 (vE 0) (z9 (vE 1) (ze)))) (zc zT (cE (.int 6151)) (zc zA (vE 1) (cE (.int 1))))) (cE (.int 40692))) (cE (.int 2147483399))))
  (zn (zc jP (zc jP (zc zA (zc zT (vE 3) (vE 3)) (zc Jr (vE 3) (cE (.int 31)))) (cE (.int 2147483629))) (vE 2)))
def f_f:List T->R T:=λts=>zg (b_f (gx) (en0 4 ts))
def z09 (c_f:List T->R T):En->RS:=
  zj (zD 2 (cE (.str "abcdefghijklmnopqrstuvwxyz")))
  (zj (ifS (zk gtC (za 3 c_f (z9 (vE 0) (z9 (vE 1) (z9 (cE (.int 6)) (ze))))) (cE (.int 0))) (zn (zc ixT (jz (z9 (cE (.str "a")) (z9 (cE (.str "b")) (z9 (cE (.str "ab")) (z9 (cE (.str "cab")) (ze)))))) (za 3 c_f (z9 (vE 0) (z9 (zc zA (vE 1) (cE (.int 1))) (z9 (cE (.int 4)) (ze))))))) (nxS))
  (zn (ap1 (Kt "") (zJ (j2 (zc zA (cE (.int 1)) (za 3 c_f (z9 (vE 0) (z9 (zc zA (vE 1) (cE (.int 1))) (z9 (cE (.int 3)) (ze))))))) (zt 0) (zQ) (zc ixT (vE 3) (za 3 c_f (z9 (vE 1) (z9 (zc zA (zc zA (vE 2) (cE (.int 2))) (vE 0)) (z9 (cE (.int 26)) (ze)))))) 1 [0,1,2]))))
def kb:List T->R T:=λts=>zg (z09 (f_f) (en0 3 ts))
def z0a (c_f:List T->R T)(c_19:List T->R T):En->RS:=
  zj (ifS (zk gtC (za 3 c_f (z9 (vE 0) (z9 (vE 1) (z9 (cE (.int 3)) (ze))))) (cE (.int 0))) (zj (zD 2 (zc J6 (za 3 c_f (z9 (vE 0) (z9 (zc zA (vE 1) (cE (.int 1))) (z9 (cE (.int 7)) (ze))))) (cE (.int 3))))
  (zj (ifS (zk eqC (za 3 c_f (z9 (vE 0) (z9 (zc zA (vE 1) (cE (.int 3))) (z9 (cE (.int 8)) (ze))))) (cE (.int 0))) (zD 2 (zc ixT (jz (z9 (yj (cE (.int 20))) (z9 (cE (.int 17)) (z9 (cE (.int 20)) (ze))))) (za 3 c_f (z9 (vE 0) (z9 (zc zA (vE 1) (cE (.int 4))) (z9 (cE (.int 3)) (ze))))))) (nxS))
  (zn (Z4 (z9 (cE (.str "whole")) (z9 (vE 2) (z9 (zc Jt (cE (.int 20)) (zc zA (vE 2) (za 3 c_f (z9 (vE 0) (z9 (zc zA (vE 1) (cE (.int 2))) (z9 (cE (.int 4)) (ze))))))) (ze)))))))) (nxS))
  (zj (uN 3 (ze))
  (zj (jk (j2 (zc zA (cE (.int 1)) (za 3 c_f (z9 (vE 0) (z9 (zc zA (vE 1) (cE (.int 1))) (z9 (cE (.int 4)) (ze))))))) (zt 4) (zj (zD 5 (za 2 c_19 (z9 (vE 0) (z9 (zc zA (zc zA (vE 1) (cE (.int 5))) (zc zT (cE (.int 5)) (vE 4))) (ze)))))
  (ifS (zk WZ (vB 5) (vB 3)) (Y2 3 (vE 5)) (nxS))))
  (zn (Z4 (z9 (cE (.str "pick")) (z9 (ap1 Qe (zJ (xB (vE 3)) (zN 0 1) (zQ) (Z4 (z9 (vE 1) (z9 (zc zA (cE (.int 1)) (za 3 c_f (z9 (vE 2) (z9 (zc zA (zc zA (vE 3) (cE (.int 30))) (vE 0)) (z9 (cE (.int 20)) (ze)))))) (ze)))) 2 [0,1])) (ze)))))))
def gy:List T->R T:=λts=>zg (z0a (f_f) (kb) (en0 6 ts))
def b_o (c_f:List T->R T)(c_1b:List T->R T)(c_o:List T->R T):En->RS:=
  zj (zD 3 (za 3 c_f (z9 (vE 0) (z9 (vE 1) (z9 (cE (.int 5)) (ze))))))
  (zj (ifS (orT (zk eqC (vB 2) (cE (.int 1))) (zk ltC (vB 3) (cE (.int 2)))) (zn (za 2 c_1b (z9 (vE 0) (z9 (zc zA (vE 1) (cE (.int 1))) (ze))))) (nxS))
  (zj (ifS (zk ltC (vB 3) (cE (.int 4))) (zj (zD 4 (zJ (j2 (zc zA (cE (.int 1)) (za 3 c_f (z9 (vE 0) (z9 (zc zA (vE 1) (cE (.int 1))) (z9 (cE (.int 3)) (ze))))))) (zt 0) (zQ) (za 3 c_o (z9 (vE 1) (z9 (zc zA (zc zA (zc zT (cE (.int 3)) (vE 2)) (cE (.int 40))) (zc zT (cE (.int 50)) (vE 0))) (z9 (zc J6 (vE 3) (cE (.int 1))) (ze))))) 1 [0,1,2]))
  (zn (Z4 (z9 (cE (.str "row")) (z9 (ap1 Qe (vE 4)) (ze)))))) (nxS))
  (zj (zD 5 (za 3 c_f (z9 (vE 0) (z9 (zc zA (vE 1) (cE (.int 1))) (z9 (cE (.int 3)) (ze))))))
  (zn (Z4 (z9 (cE (.str "many")) (z9 (za 3 c_o (z9 (vE 0) (z9 (zc zA (zc zT (cE (.int 3)) (vE 1)) (cE (.int 40))) (z9 (zc J6 (vE 2) (cE (.int 1))) (ze))))) (z9 (vE 5) (z9 (zc Jt (cE (.int 3)) (zc zA (vE 5) (za 3 c_f (z9 (vE 0) (z9 (zc zA (vE 1) (cE (.int 2))) (z9 (cE (.int 3)) (ze))))))) (ze))))))))))
def S_o:Nat->Nat->List T->R T
 | 0,_=>λ_=> .bad
 | n+1,_=>λts=>zg (b_o (f_f) (gy) (S_o n 0) (en0 6 ts))
abbrev f_o (n:Nat):List T->R T:=S_o n 0
def b_i (c_c:List T->R T)(c_i:List T->R T):En->RS:=
  zj (ifS (zk inC (zc ixT (vE 0) (cE (.int 0))) (Z4 (z9 (cE (.str "whole")) (z9 (cE (.str "pick")) (ze))))) (zn (ap1 ZO (za 1 c_c (z9 (vE 0) (ze))))) (nxS))
  (zj (zD 1 (ifE (zk eqC (zc ixT (vE 0) (cE (.int 0))) (cE (.str "row"))) (zJ (Zv (zc ixT (vE 0) (cE (.int 1)))) (zt 0) (zQ) (za 1 c_i (z9 (vE 0) (ze))) 1 []) (jz (ze))))
  (zj (zD 2 (cE (.int 1)))
  (zj (jk (Zv (vE 1)) (zt 3) (zD 2 (zc zT (vE 2) (vE 3))))
  (zj (ifS (zk eqC (zc ixT (vE 0) (cE (.int 0))) (cE (.str "many"))) (zj (zD 4 (za 1 c_i (z9 (zc ixT (vE 0) (cE (.int 1))) (ze))))
  (zj (zD 2 (zc zA (ap1 W5 (jY eqC (zc ixT (vE 0) (cE (.int 2))) (cE (.int 0)))) (zc zT (vE 4) (ap1 W5 (chE leC leC (zc ixT (vE 0) (cE (.int 2))) (cE (.int 1)) (zc ixT (vE 0) (cE (.int 3))))))))
  (zj (zD 2 (zc zA (vE 2) (zc zT (zc zT (vE 4) (vE 4)) (ap1 W5 (chE leC leC (zc ixT (vE 0) (cE (.int 2))) (cE (.int 2)) (zc ixT (vE 0) (cE (.int 3))))))))
  (zD 2 (zc zA (vE 2) (zc zT (zc zT (zc zT (vE 4) (vE 4)) (vE 4)) (ap1 W5 (jY eqC (zc ixT (vE 0) (cE (.int 3))) (cE (.int 3)))))))))) (nxS))
  (zn (vE 2))))))
def S_i:Nat->Nat->List T->R T
 | 0,_=>λ_=> .bad
 | n+1,_=>λts=>zg (b_i (f_c 8) (S_i n 0) (en0 5 ts))
abbrev f_i (n:Nat):List T->R T:=S_i n 0
def z0b (c_o:List T->R T)(c_i:List T->R T):En->RS:=
  zj (zD 3 (za 3 c_o (z9 (vE 0) (z9 (vE 1) (z9 (cE (.int 3)) (ze))))))
  (zj (jk (j2 (cE (.int 3))) (zt 4) (zj (ifS (zk leC (za 1 c_i (z9 (vE 3) (ze))) (vB 2)) (zn (vE 3)) (nxS))
  (zD 3 (za 3 c_o (z9 (vE 0) (z9 (zc zA (zc zA (vE 1) (cE (.int 500))) (zc zT (cE (.int 700)) (vE 4))) (z9 (cE (.int 2)) (ze))))))))
  (zn (ifE (zk leC (za 1 c_i (z9 (vE 3) (ze))) (vB 2)) (vE 3) (Z4 (z9 (cE (.str "whole")) (z9 (yj (cE (.int 1))) (z9 (cE (.int 2)) (ze))))))))
def vi:List T->R T:=λts=>zg (z0b (f_o 8) (f_i 8) (en0 5 ts))
def b_h:En->RS:=
  zn (zJ (Zv (zc ixT (vE 0) (cE (.int 1)))) (zt 0) (zQ) (zc ixT (vE 0) (cE (.int 0))) 1 [])
def f_h:List T->R T:=λts=>zg (b_h  (en0 1 ts))
def b_m (c_u:List T->R T)(c_k:List T->R T)(c_h:List T->R T)(c_1k:List T->R T):En->RS:=
  zj (ifS (zk eqC (zc ixT (vE 0) (cE (.int 0))) (cE (.str "whole"))) (zn (Js (za 1 c_u (z9 (vE 1) (ze))) (chE leC leC (zc ixT (vE 0) (cE (.int 1))) (vB 1) (zc ixT (vE 0) (cE (.int 2)))))) (nxS))
  (zj (ifS (zk eqC (zc ixT (vE 0) (cE (.int 0))) (cE (.str "pick"))) (zn (jY inC (vB 1) (za 1 c_h (z9 (vE 0) (ze))))) (nxS))
  (zj (ifS (zk eqC (zc ixT (vE 0) (cE (.int 0))) (cE (.str "row"))) (zn (Js (za 3 c_k (z9 (vE 1) (z9 (ap1 ZO (zc ixT (vE 0) (cE (.int 1)))) (z9 (ap1 ZO (zc ixT (vE 0) (cE (.int 1)))) (ze))))) (za 2 c_1k (z9 (zc ixT (vE 0) (cE (.int 1))) (z9 (vE 1) (ze)))))) (nxS))
  (zn (Js (za 3 c_k (z9 (vE 1) (z9 (zc ixT (vE 0) (cE (.int 2))) (z9 (zc ixT (vE 0) (cE (.int 3))) (ze))))) (za 2 c_1k (z9 (zc zT (jz (z9 (zc ixT (vE 0) (cE (.int 1))) (ze))) (ap1 ZO (vB 1))) (z9 (vE 1) (ze))))))))
def gA (c_m:List T->R T):En->RS:=
  zn (ap1 vZ (zJ (Qg (vE 0) (vE 1)) (zN 0 1) (zQ) (za 2 c_m (z9 (vE 0) (z9 (vE 1) (ze)))) 2 []))
def S_m:Nat->Nat->List T->R T
 | 0,_=>λ_=> .bad
 | n+1,0=>λts=>zg (b_m (f_u) (f_k) (f_h) (S_m n 1) (en0 2 ts))
 | n+1,_=>λts=>zg (gA (S_m n 0) (en0 2 ts))
abbrev f_m (n:Nat):List T->R T:=S_m n 0
abbrev f_1k (n:Nat):List T->R T:=S_m n 1
def b_y (c_8:List T->R T)(c_m:List T->R T):En->RS:=
  zj (jt (za 1 c_8 (z9 (vE 0) (ze))))
  (zn (za 2 c_m (z9 (vE 0) (z9 (vE 1) (ze)))))
def f_y:List T->R T:=λts=>zg (b_y (f_8) (f_m 20) (en0 2 ts))
def z0c (c_y:List T->R T):En->RS:=
  ifS (Qd (u8 (za 2 c_y (z9 (vE 0) (z9 (vE 1) (ze)))))) (GZ) (nxS)
def kd:List T->R T:=λts=>zg (z0c (f_y) (en0 2 ts))
def b_t (c_t:List T->R T):En->RS:=
  zj (ifS (u8 (ap1 (u9 "tuple") (vB 0))) (zn (ap1 Qe (zJ (Va (vE 0)) (zt 0) (zQ) (za 1 c_t (z9 (vE 0) (ze))) 1 []))) (nxS))
  (zn (ifE (u8 (ap1 (u9 "str") (vB 0))) (vE 0) (yj (vE 0))))
def S_t:Nat->Nat->List T->R T
 | 0,_=>λ_=> .bad
 | n+1,_=>λts=>zg (b_t (S_t n 0) (en0 1 ts))
abbrev f_t (n:Nat):List T->R T:=S_t n 0
def z0d (c_10:List T->R T)(c_t:List T->R T):En->RS:=
  zj (jt (za 2 c_10 (z9 (vE 0) (z9 (vE 1) (ze)))))
  (zn (za 1 c_t (z9 (vE 1) (ze))))
def Vi:List T->R T:=λts=>zg (z0d (kd) (f_t 8) (en0 2 ts))
def z0e:En->RS:=
  zj (zD 2 (zc Ww (zc ixT (vE 0) (cE (.int 1))) (zc ixT (vE 1) (cE (.int 1)))))
  (zj (zD 3 (zc Jt (zc ixT (vE 0) (cE (.int 2))) (zc ixT (vE 1) (cE (.int 2)))))
  (zn (ifE (zk leC (vB 2) (vB 3)) (Z4 (z9 (cE (.str "whole")) (z9 (vE 2) (z9 (vE 3) (ze))))) (cE .non))))
def gB:List T->R T:=λts=>zg (z0e  (en0 4 ts))
def z0f (c_h:List T->R T):En->RS:=
  zj (zD 2 (za 1 c_h (z9 (vE 1) (ze))))
  (zj (zD 3 (zJ (Zv (zc ixT (vE 0) (cE (.int 1)))) (zt 0) (zk inC (zc ixT (vE 0) (cE (.int 0))) (vB 1)) (vE 0) 1 [2]))
  (zn (ifE (zk gtC (ap1 ZO (vB 3)) (cE (.int 0))) (Z4 (z9 (cE (.str "pick")) (z9 (ap1 Qe (vE 3)) (ze)))) (cE .non))))
def gC:List T->R T:=λts=>zg (z0f (f_h) (en0 4 ts))
def z0g:En->RS:=
  zj (ifS (zk eqC (zc ixT (vE 0) (cE (.int 0))) (cE (.str "row"))) (zn (zc ixT (vE 0) (cE (.int 1)))) (nxS))
  (zj (ifS (GX (zk eqC (zc ixT (vE 0) (cE (.int 0))) (cE (.str "many"))) (chT leC leC (zc ixT (vE 0) (cE (.int 2))) (vB 1) (zc ixT (vE 0) (cE (.int 3))))) (zn (zc vd (Z4 (z9 (zc ixT (vE 0) (cE (.int 1))) (ze))) (vE 1))) (nxS))
  (zn (Z4 (ze))))
def ke:List T->R T:=λts=>zg (z0g  (en0 2 ts))
def b_d (c_1c:List T->R T)(c_1j:List T->R T)(c_1i:List T->R T)(c_1a:List T->R T)(c_1t:List T->R T):En->RS:=
  zj (ifS (zk eqC (zc ixT (vE 0) (cE (.int 0))) (cE (.str "row"))) (zn (za 2 c_1j (z9 (zc ixT (vE 0) (cE (.int 1))) (z9 (za 2 c_1c (z9 (vE 1) (z9 (ap1 ZO (zc ixT (vE 0) (cE (.int 1)))) (ze)))) (ze))))) (nxS))
  (zj (ifS (zk eqC (zc ixT (vE 1) (cE (.int 0))) (cE (.str "row"))) (zn (za 2 c_1j (z9 (za 2 c_1c (z9 (vE 0) (z9 (ap1 ZO (zc ixT (vE 1) (cE (.int 1)))) (ze)))) (z9 (zc ixT (vE 1) (cE (.int 1))) (ze))))) (nxS))
  (zj (ifS (zk neC (zc ixT (vE 0) (cE (.int 0))) (zc ixT (vE 1) (cE (.int 0)))) (zn (cE .non)) (nxS))
  (zj (ifS (zk eqC (zc ixT (vE 0) (cE (.int 0))) (cE (.str "whole"))) (zn (za 2 c_1i (z9 (vE 0) (z9 (vE 1) (ze))))) (nxS))
  (zj (ifS (zk eqC (zc ixT (vE 0) (cE (.int 0))) (cE (.str "pick"))) (zn (za 2 c_1a (z9 (vE 0) (z9 (vE 1) (ze))))) (nxS))
  (zn (za 2 c_1t (z9 (vE 0) (z9 (vE 1) (ze)))))))))
def z0h (c_d:List T->R T):En->RS:=
  zj (ifS (zk neC (ap1 ZO (vB 0)) (ap1 ZO (vB 1))) (zn (cE .non)) (nxS))
  (zj (zD 2 (zJ (Qg (vE 0) (vE 1)) (zN 0 1) (zQ) (za 2 c_d (z9 (vE 0) (z9 (vE 1) (ze)))) 2 []))
  (zj (ifS (zk inC (cE .non) (vB 2)) (zn (cE .non)) (nxS))
  (zn (Z4 (z9 (cE (.str "row")) (z9 (ap1 Qe (vE 2)) (ze)))))))
def z0i (c_d:List T->R T):En->RS:=
  zj (zD 2 (zc Ww (zc ixT (vE 0) (cE (.int 2))) (zc ixT (vE 1) (cE (.int 2)))))
  (zj (zD 3 (zc Jt (zc ixT (vE 0) (cE (.int 3))) (zc ixT (vE 1) (cE (.int 3)))))
  (zj (ifS (zk gtC (vB 2) (vB 3)) (zn (cE .non)) (nxS))
  (zj (zD 4 (za 2 c_d (z9 (zc ixT (vE 0) (cE (.int 1))) (z9 (zc ixT (vE 1) (cE (.int 1))) (ze)))))
  (zj (ifS (zk jr (vB 4) (cE .non)) (zn (Z4 (z9 (cE (.str "many")) (z9 (vE 4) (z9 (vE 2) (z9 (vE 3) (ze))))))) (nxS))
  (zn (ifE (zk eqC (vB 2) (cE (.int 0))) (Z4 (z9 (cE (.str "many")) (z9 (zc ixT (vE 0) (cE (.int 1))) (z9 (cE (.int 0)) (z9 (cE (.int 0)) (ze)))))) (cE .non)))))))
def S_d:Nat->Nat->List T->R T
 | 0,_=>λ_=> .bad
 | n+1,0=>λts=>zg (b_d (ke) (S_d n 1) (gB) (gC) (S_d n 2) (en0 2 ts))
 | n+1,1=>λts=>zg (z0h (S_d n 0) (en0 3 ts))
 | n+1,_=>λts=>zg (z0i (S_d n 0) (en0 5 ts))
abbrev f_d (n:Nat):List T->R T:=S_d n 0
abbrev f_1j (n:Nat):List T->R T:=S_d n 1
abbrev f_1t (n:Nat):List T->R T:=S_d n 2
def b_x (c_8:List T->R T)(c_d:List T->R T):En->RS:=
  zj (jt (za 1 c_8 (z9 (vE 0) (ze))))
  (zj (jt (za 1 c_8 (z9 (vE 1) (ze))))
  (zn (za 2 c_d (z9 (vE 0) (z9 (vE 1) (ze))))))
def f_x:List T->R T:=λts=>zg (b_x (f_8) (f_d 20) (en0 2 ts))
def b_2 (c_z:List T->R T)(c_w:List T->R T):En->RS:=
  zj (ifS (zk eqC (zc ixT (vE 0) (cE (.int 0))) (cE (.str "whole"))) (zn (zc zA (zc J6 (zc ixT (vE 0) (cE (.int 2))) (zc ixT (vE 0) (cE (.int 1)))) (cE (.int 1)))) (nxS))
  (zj (ifS (zk eqC (zc ixT (vE 0) (cE (.int 0))) (cE (.str "pick"))) (zn (ap1 ZO (zc ixT (vE 0) (cE (.int 1))))) (nxS))
  (zj (ifS (zk eqC (zc ixT (vE 0) (cE (.int 0))) (cE (.str "row"))) (zn (za 1 c_z (z9 (zc ixT (vE 0) (cE (.int 1))) (ze)))) (nxS))
  (zn (za 2 c_w (z9 (vE 0) (z9 (zc zA (zc ixT (vE 0) (cE (.int 3))) (cE (.int 1))) (ze)))))))
def b_z (c_2:List T->R T):En->RS:=
  zj (zD 1 (cE (.int 1)))
  (zj (jk (Zv (vE 0)) (zt 2) (zD 1 (zc zT (vE 1) (za 1 c_2 (z9 (vE 2) (ze))))))
  (zn (vE 1)))
def b_w (c_z:List T->R T):En->RS:=
  zn (ap1 xO (zJ (J0 (zc ixT (vE 0) (cE (.int 2))) (vE 1)) (zt 0) (zQ) (za 1 c_z (z9 (zc zT (jz (z9 (zc ixT (vE 1) (cE (.int 1))) (ze))) (vE 0)) (ze))) 1 [0]))
def S_2:Nat->Nat->List T->R T
 | 0,_=>λ_=> .bad
 | n+1,0=>λts=>zg (b_2 (S_2 n 1) (S_2 n 2) (en0 1 ts))
 | n+1,1=>λts=>zg (b_z (S_2 n 0) (en0 3 ts))
 | n+1,_=>λts=>zg (b_w (S_2 n 1) (en0 2 ts))
abbrev f_2 (n:Nat):List T->R T:=S_2 n 0
abbrev f_z (n:Nat):List T->R T:=S_2 n 1
abbrev f_w (n:Nat):List T->R T:=S_2 n 2
def z0j (c_2:List T->R T)(c_x:List T->R T):En->RS:=
  zj (zD 2 (za 2 c_x (z9 (vE 0) (z9 (vE 1) (ze)))))
  (zn (Js (jY jr (vB 2) (cE .non)) (jY eqC (za 1 c_2 (z9 (vE 2) (ze))) (za 1 c_2 (z9 (vE 0) (ze))))))
def y0:List T->R T:=λts=>zg (z0j (f_2 20) (f_x) (en0 3 ts))
def z0k (c_x:List T->R T):En->RS:=
  zn (jY Qc (za 2 c_x (z9 (vE 0) (z9 (vE 1) (ze)))) (cE .non))
def Vj:List T->R T:=λts=>zg (z0k (f_x) (en0 2 ts))
def z0l (c_8:List T->R T)(c_2:List T->R T):En->RS:=
  zj (jt (za 1 c_8 (z9 (vE 0) (ze))))
  (zn (za 1 c_2 (z9 (vE 0) (ze))))
def kf:List T->R T:=λts=>zg (z0l (f_8) (f_2 20) (en0 1 ts))
def b_b:En->RS:=
  zj (ifS (zk eqC (zc ixT (vE 0) (cE (.int 0))) (cE (.str "row"))) (zn (zc ixT (vE 0) (cE (.int 1)))) (nxS))
  (zj (ifS (zk eqC (zc ixT (vE 0) (cE (.int 0))) (cE (.str "many"))) (zn (Z4 (z9 (zc ixT (vE 0) (cE (.int 1))) (ze)))) (nxS))
  (zn (Z4 (ze))))
def f_b:List T->R T:=λts=>zg (b_b  (en0 1 ts))
def b_s (c_b:List T->R T)(c_s:List T->R T):En->RS:=
  zn (zc zA (cE (.int 1)) (QW (zJ (Zv (za 1 c_b (z9 (vE 0) (ze)))) (zt 0) (zQ) (za 1 c_s (z9 (vE 0) (ze))) 1 []) (cE (.int 0))))
def S_s:Nat->Nat->List T->R T
 | 0,_=>λ_=> .bad
 | n+1,_=>λts=>zg (b_s (f_b) (S_s n 0) (en0 1 ts))
abbrev f_s (n:Nat):List T->R T:=S_s n 0
def b_a (c_8:List T->R T)(c_s:List T->R T):En->RS:=
  zj (jt (za 1 c_8 (z9 (vE 0) (ze))))
  (zn (za 1 c_s (z9 (vE 0) (ze))))
def f_a:List T->R T:=λts=>zg (b_a (f_8) (f_s 8) (en0 1 ts))
def z0m (c_l:List T->R T):En->RS:=
  QZ 1 (zc ixT (vE 0) (cE (.int 1))) c_l
def z0n:List T->R T:=λts=>zg (z0m (f_l) (en0 3 ts))
def b_p (c_2:List T->R T)(c_v:List T->R T)(c_1h:List T->R T)(c_1o:List T->R T):En->RS:=
  zj (ifS (zk eqC (zc ixT (vE 0) (cE (.int 0))) (cE (.str "whole"))) (zn (Z4 (z9 (cE (.int 1)) (z9 (za 1 c_2 (z9 (vE 0) (ze))) (ze))))) (nxS))
  (zj (ifS (zk eqC (zc ixT (vE 0) (cE (.int 0))) (cE (.str "pick"))) (zn (za 2 c_1h (z9 (vE 0) (z9 (vE 1) (ze))))) (nxS))
  (zj (ifS (zk eqC (zc ixT (vE 0) (cE (.int 0))) (cE (.str "row"))) (zn (za 2 c_1o (z9 (zc ixT (vE 0) (cE (.int 1))) (z9 (vE 1) (ze))))) (nxS))
  (zj (zD 2 (Z4 (z9 (cE (.int 1)) (z9 (zc zA (zc J6 (zc ixT (vE 0) (cE (.int 3))) (zc ixT (vE 0) (cE (.int 2)))) (cE (.int 1))) (ze)))))
  (zn (za 2 c_v (z9 (vE 2) (z9 (za 2 c_1o (z9 (zc zT (jz (z9 (zc ixT (vE 0) (cE (.int 1))) (ze))) (ap1 ZO (vB 1))) (z9 (vE 1) (ze)))) (ze))))))))
def gD (c_v:List T->R T)(c_p:List T->R T):En->RS:=
  zj (zD 2 (Z4 (z9 (cE (.int 1)) (z9 (cE (.int 1)) (ze)))))
  (zj (jk (Qg (vE 0) (vE 1)) (zN 3 4) (zD 2 (za 2 c_v (z9 (vE 2) (z9 (za 2 c_p (z9 (vE 3) (z9 (vE 4) (ze)))) (ze))))))
  (zn (vE 2)))
def S_p:Nat->Nat->List T->R T
 | 0,_=>λ_=> .bad
 | n+1,0=>λts=>zg (b_p (f_2 20) (f_v) (z0n) (S_p n 1) (en0 3 ts))
 | n+1,_=>λts=>zg (gD (f_v) (S_p n 0) (en0 5 ts))
abbrev f_p (n:Nat):List T->R T:=S_p n 0
abbrev f_1o (n:Nat):List T->R T:=S_p n 1
def b_6 (c_10:List T->R T)(c_p:List T->R T):En->RS:=
  zj (jt (za 2 c_10 (z9 (vE 0) (z9 (vE 1) (ze)))))
  (zn (za 2 c_p (z9 (vE 0) (z9 (vE 1) (ze)))))
def f_6:List T->R T:=λts=>zg (b_6 (kd) (f_p 20) (en0 2 ts))
def b_3 (c_h:List T->R T)(c_b:List T->R T)(c_3:List T->R T):En->RS:=
  zj (ifS (zk eqC (zc ixT (vE 0) (cE (.int 0))) (cE (.str "pick"))) (zn (za 1 c_h (z9 (vE 0) (ze)))) (nxS))
  (zj (uN 1 (ze))
  (zj (jk (Zv (za 1 c_b (z9 (vE 0) (ze)))) (zt 2) (yl 1 (za 1 c_3 (z9 (vE 2) (ze)))))
  (zn (vE 1))))
def S_3:Nat->Nat->List T->R T
 | 0,_=>λ_=> .bad
 | n+1,_=>λts=>zg (b_3 (f_h) (f_b) (S_3 n 0) (en0 3 ts))
abbrev f_3 (n:Nat):List T->R T:=S_3 n 0
def z0o (c_8:List T->R T)(c_3:List T->R T):En->RS:=
  zj (jt (za 1 c_8 (z9 (vE 0) (ze))))
  (zn (ap1 QV (za 1 c_3 (z9 (vE 0) (ze)))))
def Vk:List T->R T:=λts=>zg (z0o (f_8) (f_3 8) (en0 1 ts))
def b_q (c_q:List T->R T):En->RS:=
  zj (ifS (u8 (ap1 (u9 "tuple") (vB 0))) (zn (ap1 Qe (ap1 z1W (zJ (Zv (vE 0)) (zt 0) (zQ) (za 1 c_q (z9 (vE 0) (ze))) 1 [])))) (nxS))
  (zn (ifE (u8 (ap1 (u9 "str") (vB 0))) (vE 0) (zc J6 (cE (.int 0)) (vE 0))))
def S_q:Nat->Nat->List T->R T
 | 0,_=>λ_=> .bad
 | n+1,_=>λts=>zg (b_q (S_q n 0) (en0 1 ts))
abbrev f_q (n:Nat):List T->R T:=S_q n 0
def b_j (c_h:List T->R T)(c_1r:List T->R T)(c_12:List T->R T):En->RS:=
  zj (ifS (zk eqC (zc ixT (vE 0) (cE (.int 0))) (cE (.str "whole"))) (zn (zc zA (zc ixT (vE 0) (cE (.int 1))) (vE 1))) (nxS))
  (zj (ifS (zk eqC (zc ixT (vE 0) (cE (.int 0))) (cE (.str "pick"))) (zn (zc ixT (za 1 c_h (z9 (vE 0) (ze))) (vE 1))) (nxS))
  (zj (ifS (zk eqC (zc ixT (vE 0) (cE (.int 0))) (cE (.str "row"))) (zn (za 2 c_12 (z9 (zc ixT (vE 0) (cE (.int 1))) (z9 (vE 1) (ze))))) (nxS))
  (zn (za 2 c_1r (z9 (vE 0) (z9 (vE 1) (ze)))))))
def kg (c_w:List T->R T)(c_12:List T->R T):En->RS:=
  zj (zD 2 (zc ixT (vE 0) (cE (.int 2))))
  (zj (Zl (zk leC (za 2 c_w (z9 (vE 0) (z9 (zc zA (vE 2) (cE (.int 1))) (ze)))) (vB 1)) (zD 2 (zc zA (vE 2) (cE (.int 1)))) (8))
  (zn (za 2 c_12 (z9 (zc zT (jz (z9 (zc ixT (vE 0) (cE (.int 1))) (ze))) (vE 2)) (z9 (zc J6 (vE 1) (za 2 c_w (z9 (vE 0) (z9 (vE 2) (ze))))) (ze))))))
def Xd (c_2:List T->R T)(c_j:List T->R T):En->RS:=
  zj (uN 2 (ze))
  (zj (zD 3 (vE 1))
  (zj (jk (Va (vE 0)) (zt 4) (zj (zD 5 (za 1 c_2 (z9 (vE 4) (ze))))
  (zj (Y2 2 (za 2 c_j (z9 (vE 4) (z9 (zc jP (vE 3) (vE 5)) (ze)))))
  (zD 3 (zc Jr (vE 3) (vE 5))))))
  (zn (ap1 QU (vE 2)))))
def S_j:Nat->Nat->List T->R T
 | 0,_=>λ_=> .bad
 | n+1,0=>λts=>zg (b_j (f_h) (S_j n 1) (S_j n 2) (en0 2 ts))
 | n+1,1=>λts=>zg (kg (f_w 20) (S_j n 2) (en0 3 ts))
 | n+1,_=>λts=>zg (Xd (f_2 20) (S_j n 0) (en0 6 ts))
abbrev f_j (n:Nat):List T->R T:=S_j n 0
abbrev f_1r (n:Nat):List T->R T:=S_j n 1
abbrev f_12 (n:Nat):List T->R T:=S_j n 2
def z0p (c_8:List T->R T)(c_2:List T->R T)(c_j:List T->R T):En->RS:=
  zj (jt (za 1 c_8 (z9 (vE 0) (ze))))
  (zj (zD 1 (za 1 c_2 (z9 (vE 0) (ze))))
  (zj (ifS (zk gtC (vB 1) (cE (.int 500))) (GZ) (nxS))
  (zn (zJ (j2 (vE 1)) (zt 0) (zQ) (za 2 c_j (z9 (vE 1) (z9 (vE 0) (ze)))) 1 [0]))))
def Xe:List T->R T:=λts=>zg (z0p (f_8) (f_2 20) (f_j 20) (en0 2 ts))
def b_0 (c_4:List T->R T)(c_y:List T->R T)(c_1e:List T->R T)(c_16:List T->R T)(c_c:List T->R T)(c_14:List T->R T)(c_a:List T->R T)(c_18:List T->R T)(c_1:List T->R T)(c_e:List T->R T)(c_15:List T->R T)(c_11:List T->R T)(c_17:List T->R T)(c_6:List T->R T)(c_9:List T->R T)(c_q:List T->R T):En->RS:=
  zj (Kw 1 2 (z9 (za 3 c_14 (z9 (vE 0) (z9 (cE (.int 0)) (z9 (cE (.int 60)) (ze))))) (z9 (za 3 c_14 (z9 (vE 0) (z9 (cE (.int 90000)) (z9 (cE (.int 60)) (ze))))) (ze))))
  (zj (zD 3 (za 1 c_e (z9 (vE 1) (ze))))
  (zj (ifS (orT (zk jr (za 1 c_4 (z9 (vE 3) (ze))) (cE (.bl true))) (zk neC (za 1 c_e (z9 (vE 3) (ze))) (vB 1))) (zn (cE (.bl false))) (nxS))
  (zj (ifS (orT (zk neC (za 1 c_1e (z9 (vE 3) (ze))) (za 1 c_1e (z9 (vE 1) (ze)))) (zk neC (za 1 c_a (z9 (vE 3) (ze))) (za 1 c_a (z9 (vE 1) (ze))))) (zn (cE (.bl false))) (nxS))
  (zj (uN 4 (ze))
  (zj (jk (Zv (za 1 c_c (z9 (vE 1) (ze)))) (zt 5) (zj (zD 6 (za 2 c_15 (z9 (vE 1) (z9 (vE 5) (ze)))))
  (zj (ifS (orT (zk neC (vB 6) (za 1 c_q (z9 (vE 5) (ze)))) (orT (zk jr (za 2 c_y (z9 (vE 3) (z9 (vE 6) (ze)))) (cE (.bl true))) (zk neC (za 2 c_15 (z9 (vE 3) (z9 (vE 6) (ze)))) (vB 5)))) (zn (cE (.bl false))) (nxS))
  (zj (ifS (zk neC (za 2 c_6 (z9 (vE 3) (z9 (vE 6) (ze)))) (za 2 c_6 (z9 (vE 1) (z9 (vE 5) (ze))))) (zn (cE (.bl false))) (nxS))
  (Y2 4 (vE 6))))))
  (zj (ifS (gm (orT (zk neC (zJ (Zv (za 1 c_16 (z9 (vE 3) (ze)))) (zt 0) (zk WZ (vB 0) (vB 1)) (vE 0) 1 [4]) (jz (ze))) (zk neC (za 1 c_18 (z9 (vE 3) (ze))) (za 1 c_18 (z9 (vE 1) (ze)))))) (zn (cE (.bl false))) (nxS))
  (zj (xR (za 1 c_1 (z9 (vE 1) (ze))) (zN 7 8))
  (zj (xR (za 1 c_9 (z9 (vE 1) (ze))) (zN 9 10))
  (zj (ifS (orT (zk neC (za 1 c_1 (z9 (vE 3) (ze))) (Z4 (z9 (zc J6 (cE (.int 0)) (vE 8)) (z9 (zc J6 (cE (.int 0)) (vE 7)) (ze))))) (zk neC (za 1 c_9 (z9 (vE 3) (ze))) (Z4 (z9 (zc J6 (cE (.int 0)) (vE 9)) (z9 (vE 10) (ze)))))) (zn (cE (.bl false))) (nxS))
  (zj (ifS (zk neC (za 2 c_11 (z9 (vE 3) (z9 (za 1 c_e (z9 (vE 2) (ze))) (ze)))) (za 2 c_11 (z9 (vE 1) (z9 (vE 2) (ze))))) (zn (cE (.bl false))) (nxS))
  (zn (jY eqC (za 2 c_17 (z9 (vE 3) (z9 (za 1 c_e (z9 (vE 2) (ze))) (ze)))) (za 2 c_17 (z9 (vE 1) (z9 (vE 2) (ze))))))))))))))))
def f_0:List T->R T:=λts=>zg (b_0 (f_4) (f_y) (kf) (Xe) (f_c 8) (vi) (f_a) (Vk) (f_1) (f_e) (Vi) (y0) (Vj) (f_6) (f_9) (f_q 8) (en0 11 ts))
end G
namespace G
open PySem L2 PV
abbrev scr (ns:List Int):T:= .fz (ns.map T.int)
theorem Xf (ns:List Int)(k:Int)(h0:0<=k):∃c,gx [scr ns,.int k]= .ok (.int c):=by
 have e1:gx [scr ns,.int k]=zg (if decide (k < ((ns.map T.int).length:Int))=true then (atT (ns.map T.int) k).s (λt=> .rt t) else
   match (eqC (scr ns) (.lst [])).s (λb=>if b=true then RS.rt (.int 0) else .nx [.vl (scr ns),.vl (.int k)]) with
   | .nx ρ' =>zn (zc zA (zc zT (zc ixT (vE 0) (zc jP (vE 1) (ap1 ZO (vB 0)))) (cE (.int 31))) (vE 1)) ρ'
   | r=>r):=by
  show zg (match (if decide (k < ((ns.map T.int).length:Int))=true then (atT (ns.map T.int) k).s (λt=>RS.rt t) else .nx [.vl (scr ns),.vl (.int k)]) with
   | .nx ρ' =>_
   | r=>r)=_
  cases decide (k < ((ns.map T.int).length:Int)) with
  | true=>
   rw[if_pos rfl,if_pos rfl];unfold atT;cases atI (ns.map T.int) k <;> rfl
  | false=>rfl
 rw[e1,af]
 by_cases hk:k < (ns.length:Int)
 ·obtain⟨v,hv⟩:∃v,ns[k.toNat]? =some v:=⟨ns[k.toNat]'(by omega),ac (by omega)⟩
  have ea:atI (ns.map T.int) k=some (.int v):=by
   have:k=((k.toNat:Nat):Int):=by omega
   rw[this];exact jp (by rw[ax,hv];rfl)
  rw[decide_eq_true hk,if_pos rfl];exact⟨v,by unfold atT;rw[ea];rfl⟩
 ·rw[decide_eq_false hk,if_neg ay];cases ns with
  | nil=>exact⟨0,rfl⟩
  | cons x xs=>
   have hm0:=f_ k (show (((x :: xs).length:Nat):Int) ≠ 0 by simp only[av];omega)
   have hm1:=f8 k (show (0:Int) < (((x :: xs).length:Nat):Int) by simp only[av];omega)
   obtain⟨v,hv⟩:∃v,(x :: xs)[(k % (((x :: xs).length:Nat):Int)).toNat]? =some v:=⟨_,ac (by omega)⟩
   have ea:atI ((x :: xs).map T.int) (k % (((x :: xs).length:Nat):Int))=some (.int v):=by
    have e:k % (((x :: xs).length:Nat):Int)=(((k % (((x :: xs).length:Nat):Int)).toNat:Nat):Int):=by omega
    rw[e];exact jp (by rw[ax,hv];rfl)
   have cm:W4 v 31:= .inr ⟨by decide,by decide⟩
   have hp:(0:Int) < (((x :: xs).map T.int).length:Int):=by simp only[af,av];omega
   refine⟨v*31+k, ?_⟩;show zg (((((if 0 < (((x :: xs).map T.int).length:Int) then R.ok (T.int (k % (((x :: xs).map T.int).length:Int))) else .bad).bind λy=>ixT (scr (x :: xs)) y).bind λa=>zT a (.int 31)).bind λa=>zA a (.int k)).s λt=> .rt t)=_
   rw[if_pos hp];show zg ((((atT ((x :: xs).map T.int) (k % (((x :: xs).map T.int).length:Int))).bind λa=>zT a (.int 31)).bind λa=>zA a (.int k)).s λt=> .rt t)=_;rw[af];unfold atT;rw[ea];show zg ((((if W4 v 31 then R.ok (T.int (v*31)) else .bad)).bind λa=>zA a (.int k)).s λt=> .rt t)=_
   rw[if_pos cm];rfl
theorem Z9 (ns:List Int)(k m:Int)(h0:0<=k)(hm:0 < m):∃p,f_f [scr ns,.int k,.int m]= .ok (.int p)/\0<=p/\p < m:=by
 obtain⟨c,hc⟩:=Xf ns k h0;have cm1:W4 6151 (k+1):= .inl ⟨by decide,by decide⟩
 have cm2:W4 (c+6151*(k+1)) 40692:= .inr ⟨by decide,by decide⟩
 generalize hd:(c+6151*(k+1))*40692 % 2147483399=d;have hd0:0<=d:=by rw[← hd];exact f_ _ (by decide)
 have hd1:d < 2147483399:=by rw[← hd];exact f8 _ (by decide)
 have cm3:W4 d d:= .inl ⟨by omega,by omega⟩
 refine⟨(d*d+d / 31) % 2147483629 % m, ?_,f_ _ (by omega),f8 _ hm⟩
 have e1:f_f [scr ns,.int k,.int m]=zg (match ((((((gx [scr ns,.int k]).bind λx=>(zT (.int 6151) (.int (k+1))).bind λy=>zA x y).bind λx=>zT x (.int 40692)).bind λx=>jP x (.int 2147483399))).s λt=>RS.nx [.vl (scr ns),.vl (.int k),.vl (.int m),.vl t]) with
   | .nx ρ' =>zn (zc jP (zc jP (zc zA (zc zT (vE 3) (vE 3)) (zc Jr (vE 3) (cE (.int 31)))) (cE (.int 2147483629))) (vE 2)) ρ'
   | r=>r):=rfl
 rw[e1,hc];show zg (match (((((if W4 6151 (k+1) then R.ok (T.int (6151*(k+1))) else .bad).bind λy=>zA (.int c) y).bind λx=>zT x (.int 40692)).bind λx=>jP x (.int 2147483399)).s λt=>RS.nx [.vl (scr ns),.vl (.int k),.vl (.int m),.vl t]) with
   | .nx ρ' =>_
   | r=>r)=_
 rw[if_pos cm1];show zg (match ((((if W4 (c+6151*(k+1)) 40692 then R.ok (T.int ((c+6151*(k+1))*40692)) else .bad)).bind λx=>jP x (.int 2147483399)).s λt=>RS.nx [.vl (scr ns),.vl (.int k),.vl (.int m),.vl t]) with
   | .nx ρ' =>_
   | r=>r)=_
 rw[if_pos cm2];show zg (zn (zc jP (zc jP (zc zA (zc zT (vE 3) (vE 3)) (zc Jr (vE 3) (cE (.int 31)))) (cE (.int 2147483629))) (vE 2)) [.vl (scr ns),.vl (.int k),.vl (.int m),.vl (.int ((c+6151*(k+1))*40692 % 2147483399))])=_;rw[hd];show zg (((((if W4 d d then R.ok (T.int (d*d)) else .bad).bind λx=>zA x (.int (d / 31))).bind λx=>jP x (.int 2147483629)).bind λx=>jP x (.int m)).s λt=>RS.rt t)=_
 rw[if_pos cm3];show zg ((if 0 < m then R.ok (T.int ((d*d+d / 31) % 2147483629 % m)) else .bad).s λt=>RS.rt t)=_
 rw[if_pos hm];rfl
theorem YT {ft:En->R Bool}{fe:En->R T}:∀(ts:List T) (ρ:En) (x:Sl),zy (zt 0) ft fe ts (ρ.set 0 x)=zy (zt 0) ft fe ts ρ
 | [],_,_=>rfl
 | t :: ts,ρ,x=>by
  unfold zy zt;rw[List.set_set]
theorem ZL {ft:En->R Bool}{fe:En->R T}{p:T->Bool}{h:T->T}:∀(ts:List T) (ρ:En),(∀t∈ts,ft (ρ.set 0 (.vl t))= .ok (p t)/\(p t=true->fe (ρ.set 0 (.vl t))= .ok (h t)))->zy (zt 0) ft fe ts ρ= .ok ((ts.filter p).map h)
 | [],_,_=>rfl
 | t :: ts,ρ,H=>by
  obtain⟨h1,h2⟩:=H t ae;have ih:=ZL ts ρ λu hu=>H u (ab _ hu);have e:zy (zt 0) ft fe (t :: ts) ρ=(ft (ρ.set 0 (.vl t))).bind λk=>if k=true then (fe (ρ.set 0 (.vl t))).bind λv=>(zy (zt 0) ft fe ts (ρ.set 0 (.vl t))).bind λvs=> .ok (v :: vs) else zy (zt 0) ft fe ts (ρ.set 0 (.vl t)):=rfl
  rw[e,h1,YT,ih];show (if p t=true then _ else _)=_
  cases hp:p t with
  | true=>rw[if_pos rfl,h2 hp,List.filter_cons_of_pos hp];rfl
  | false=>rw[if_neg ay,List.filter_cons_of_neg (by rw[hp];exact ay)]
theorem YU {fe:En->R T}{h:T->T}(ts:List T)(ρ:En)(H:∀t∈ts,fe (ρ.set 0 (.vl t))= .ok (h t)):zy (zt 0) zQ fe ts ρ= .ok (ts.map h):=by
 have:=ZL (ft:=zQ) (fe:=fe) (p:=λ_=>true) (h:=h) ts ρ λt ht=>⟨rfl,λ_=>H t ht⟩;rw[this,List.filter_eq_self.mpr (λ_ _=>rfl)]
theorem zK {fe:En->R T}{h:T->T}{k:Nat}{js:List Nat}{ρ:En}(ts:List T)(hl:ts.length<=bnd)(H:∀t∈ts,fe ((wB k js ρ).set 0 (.vl t))= .ok (h t)):zL (zt 0) zQ fe k js ρ ts= .ok (ts.map h):=by
 unfold zL;rw[if_pos hl,YU ts _ H];rfl
theorem Jb (p:T->Bool):∀ts:List T,u0 (ts.map λt=>T.bl (p t))=some (ts.all p)
 | []=>rfl
 | t :: ts=>by
  show (match u0 (ts.map λt=>T.bl (p t)) with | some j=>some (p t && j) | none=>none)=_
  rw[Jb p ts];rfl
def isW:T->Bool
 | .int _=>true
 | _=>false
theorem uZ (t:T):f_u [t]= .ok (.bl (isW t)):=by cases t <;> rfl
def y3 (a b:Nat):T->Bool
 | .tup xs=>decide (a<=xs.length) && decide (xs.length<=b)
 | _=>false
theorem ZD (t:T)(a b:Nat):f_k [t,.int a,.int b]= .ok (.bl (y3 a b t)):=by
 cases t with
 | tup xs=>
  show zg ((if decide ((a:Int)<=(xs.length:Int))=true then R.ok (T.bl (decide ((xs.length:Int)<=(b:Int)))) else .ok (.bl false)).s λt=> .rt t)=_
  have e1:decide ((a:Int)<=(xs.length:Int))=decide (a<=xs.length):=by simp
  have e2:decide ((xs.length:Int)<=(b:Int))=decide (xs.length<=b):=by simp
  rw[e1,e2];show _=R.ok (T.bl (decide (a<=xs.length) && decide (xs.length<=b)));cases decide (a<=xs.length) <;> rfl
 | _=>rfl
def jT (lo hi:Int):T->T->Bool
 | .int i,.int j=>decide (lo<=i) && decide (i<=j) && decide (j<=hi)
 | _,_=>false
theorem YV (t u:T)(lo hi:Int):z01 [t,u,.int lo,.int hi]= .ok (.bl (jT lo hi t u)):=by
 cases t with
 | int i=>
  cases u with
  | int j=>
   show zg ((if decide (lo<=i)=true then (if decide (i<=j)=true then R.ok (T.bl (decide (j<=hi))) else .ok (.bl false)) else .ok (.bl false)).s λt=> .rt t)=_
   show _=R.ok (T.bl (decide (lo<=i) && decide (i<=j) && decide (j<=hi)));cases decide (lo<=i) <;> cases decide (i<=j) <;> rfl
  | _=>rfl
 | _=>cases u <;> rfl
def Zk (c:Nat):Bool:=decide (97<=c) && decide (c<=122)
def Zy:T->Bool
 | .str x=>decide (1<=x.length) && decide (x.length<=3) && x.cps.toList.all Zk
 | _=>false
theorem Vl (a b:Nat):decide ([a] < [b])=decide (a < b):=by
 by_cases h:a < b
 ·rw[decide_eq_true h];exact decide_eq_true (List.Lex.rel h)
 ·rw[decide_eq_false h];refine decide_eq_false λz=> ?_;cases z with
  | rel h' =>exact h h'
  | cons h' =>cases h'
theorem Xg (c:Nat)(ρ:En):chE leC leC (cE (.str "a")) (vB 0) (cE (.str "z")) ((Sl.vl (.str ⟨#[c]⟩)) :: ρ)= .ok (.bl (Zk c)):=by
 have e1:leC (.str "a") (.str ⟨#[c]⟩)= .ok (decide (97<=c)):=by
  show R.ok (!decide ([c] < [97]))=_;rw[Vl]
  by_cases h:c < 97
  ·rw[decide_eq_true h,decide_eq_false (by omega)];rfl
  ·rw[decide_eq_false h,decide_eq_true (by omega)];rfl
 have e2:leC (.str ⟨#[c]⟩) (.str "z")= .ok (decide (c<=122)):=by
  show R.ok (!decide ([122] < [c]))=_;rw[Vl]
  by_cases h:122 < c
  ·rw[decide_eq_true h,decide_eq_false (by omega)];rfl
  ·rw[decide_eq_false h,decide_eq_true (by omega)];rfl
 show (leC (.str "a") (.str ⟨#[c]⟩)).bind (λk=>if k=true then (leC (.str ⟨#[c]⟩) (.str "z")).bind λk' =>R.ok (T.bl k') else R.ok (T.bl false))=_
 rw[e1,e2];unfold Zk;show (if decide (97<=c)=true then R.ok (T.bl (decide (c<=122))) else .ok (.bl false))=_
 cases decide (97<=c) <;> rfl
def gE:T->Prop
 | .str x=>x.length<=bnd
 | _=>True
theorem Xh (t:T)(ht:gE t):ka [t]= .ok (.bl (Zy t)):=by
 cases t with
 | str x=>
  have hx:x.length<=bnd:=ht;have e0:ZO (.str x)= .ok (.int x.length):=if_pos hx;have ec:zL (zt 0) zQ (chE leC leC (cE (.str "a")) (vB 0) (cE (.str "z"))) 1 [] [.vl (.str x)] (ju x)= .ok (x.cps.toList.map λc=>T.bl (Zk c)):=by
   have hs:(ju x).length<=bnd:=by unfold ju;rw[af,aT];exact hx
   have:=zK (fe:=chE leC leC (cE (.str "a")) (vB 0) (cE (.str "z"))) (h:=λt=>match t with | .str y=>T.bl (Zk (y.cps.toList.headD 0)) | t=>t) (k:=1) (js:=[]) (ρ:=[.vl (.str x)]) (ju x) hs λt ht=>by
    unfold ju at ht;obtain⟨c,_,rfl⟩:=aq.mp ht;exact Xg c []
   rw[this];unfold ju;rw[aF];rfl
  have ea:u0 (x.cps.toList.map λc=>T.bl (Zk c))=some (x.cps.toList.all Zk):=by
   have:=Jb (λt=>match t with | .str y=>Zk (y.cps.toList.headD 0) | _=>true) (ju x)
   unfold ju at this;rw[aF,iC]at this;exact this
  have e1:ka [.str x]=zg (match ((((ZO (.str x)).bind λy=>(leC (.int 1) y).bind λk=>if k=true then leC y (.int 3) else .ok false).bind λb=> .ok (!b)).s λk=>if k=true then RS.rt (.bl false) else .nx [.vl (.str x)]) with
    | .nx ρ' =>zn (ap1 vZ (zJ (Zv (vE 0)) (zt 0) (zQ) (chE leC leC (cE (.str "a")) (vB 0) (cE (.str "z"))) 1 [])) ρ'
    | r=>r):=rfl
  rw[e1,e0];have c1:decide ((1:Int)<=(x.length:Int))=decide (1<=x.length):=by
   by_cases h:1<=x.length
   ·rw[decide_eq_true h];exact decide_eq_true (by omega)
   ·rw[decide_eq_false h];exact decide_eq_false (by omega)
  have c2:decide ((x.length:Int)<=(3:Int))=decide (x.length<=3):=by
   by_cases h:x.length<=3
   ·rw[decide_eq_true h];exact decide_eq_true (by omega)
   ·rw[decide_eq_false h];exact decide_eq_false (by omega)
  show zg (match ((((if decide ((1:Int)<=(x.length:Int))=true then R.ok (decide ((x.length:Int)<=(3:Int))) else .ok false)).bind λb=> .ok (!b)).s λk=>if k=true then RS.rt (.bl false) else .nx [.vl (.str x)]) with
    | .nx ρ' =>_
    | r=>r)=_
  rw[c1,c2];show _=R.ok (T.bl (decide (1<=x.length) && decide (x.length<=3) && x.cps.toList.all Zk));cases decide (1<=x.length) with
  | false=>rfl
  | true=>
   cases decide (x.length<=3) with
   | false=>rfl
   | true=>
    show zg ((((zL (zt 0) zQ (chE leC leC (cE (.str "a")) (vB 0) (cE (.str "z"))) 1 [] [.vl (.str x)] (ju x)).bind λvs=> .ok (.lst vs)).bind vZ).s λt=> .rt t)=_;rw[ec];show zg ((match u0 (x.cps.toList.map λc=>T.bl (Zk c)) with | some k=>R.ok (T.bl k) | none=> .bad).s λt=> .rt t)=_
    rw[ea];rfl
 | _=>rfl
theorem bOk {α β:Type}(a:α)(f:α->R β):(R.ok a).bind f=f a:=rfl
theorem Zt {α:Type}(a:α)(f:α->RS):(R.ok a).s f=f a:=rfl
theorem jB (r:R T):zg (r.s λt=> .rt t)=r:=by cases r <;> rfl
theorem Zd (f:En->R T)(ρ:En):zn f ρ=(f (frz ρ)).s λt=> .rt t:=rfl
theorem zl {g:List T->R T}{f:En->R T}{ρ:En}:za 1 g (z9 f ze) ρ=(f ρ).bind λx=>g [x]:=by
 unfold za z9 ze;cases f ρ <;> rfl
theorem zB {g:List T->R T}{f f' :En->R T}{ρ:En}:za 2 g (z9 f (z9 f' ze)) ρ=(f ρ).bind λx=>(f' ρ).bind λy=>g [x,y]:=by
 unfold za z9 ze;cases f ρ with
 | ok a=>cases f' ρ <;> rfl
 | ex c=>rfl
 | bad=>rfl
theorem ZE {g:List T->R T}{f f' f'' :En->R T}{ρ:En}:za 3 g (z9 f (z9 f' (z9 f'' ze))) ρ=(f ρ).bind λx=>(f' ρ).bind λy=>(f'' ρ).bind λz=>g [x,y,z]:=by
 unfold za z9 ze;cases f ρ with
 | ok a=>
  cases f' ρ with
  | ok b=>cases f'' ρ <;> rfl
  | ex c=>rfl
  | bad=>rfl
 | ex c=>rfl
 | bad=>rfl
theorem z1Z {g:List T->R T}{f f' f'' f3:En->R T}{ρ:En}:za 4 g (z9 f (z9 f' (z9 f'' (z9 f3 ze)))) ρ=(f ρ).bind λx=>(f' ρ).bind λy=>(f'' ρ).bind λz=>(f3 ρ).bind λw=>g [x,y,z,w]:=by
 unfold za z9 ze;cases f ρ with
 | ok a=>
  cases f' ρ with
  | ok b=>
   cases f'' ρ with
   | ok c=>cases f3 ρ <;> rfl
   | ex c=>rfl
   | bad=>rfl
  | ex c=>rfl
  | bad=>rfl
 | ex c=>rfl
 | bad=>rfl
def z0q (r k:R T):R T:=r.bind λx=>match x with
 | .bl true=>k
 | .bl false=> .ok (.bl false)
 | _=> .bad
theorem JB (f g:En->R T)(ρ:En):Js f g ρ=z0q (f ρ) (g ρ):=rfl
theorem Zn (a:Bool)(k:R T):z0q (.ok (.bl a)) k=if a=true then k else .ok (.bl false):=by cases a <;> rfl
theorem v0 {t:T}{ρ:En}:vE 0 (.vl t :: ρ)= .ok t:=rfl
theorem v1 {t:T}{a:Sl}{ρ:En}:vE 1 (a :: .vl t :: ρ)= .ok t:=rfl
theorem w0 {t:T}{ρ:En}:vB 0 (.vl t :: ρ)= .ok t:=rfl
theorem w1 {t:T}{a:Sl}{ρ:En}:vB 1 (a :: .vl t :: ρ)= .ok t:=rfl
theorem Z3 {t:T}{ρ:En}:cE t ρ= .ok t:=rfl
theorem zh {g:T->T->R T}{f f' :En->R T}{ρ:En}:zc g f f' ρ=(f ρ).bind λx=>(f' ρ).bind λy=>g x y:=rfl
theorem ZP {t:T}{ρ:En}:frz (.vl t :: ρ)= .vl t :: frz ρ:=rfl
theorem JZ {ρ:En}:frz (.un :: ρ)= .un :: frz ρ:=rfl
theorem ZU:frz []=[]:=rfl
theorem Xi {g g' :T->T->R Bool}{fa fb fc:En->R T}{ρ:En}:chE g g' fa fb fc ρ=(fa ρ).bind λx=>(fb ρ).bind λy=>(g x y).bind λk=>if k=true then (fc ρ).bind λz=>(g' y z).bind λk' => .ok (.bl k') else .ok (.bl false):=rfl
theorem Zs {g:T->R T}{f:En->R T}{ρ:En}:ap1 g f ρ=(f ρ).bind g:=rfl
theorem ui {i j:Int}:leC (.int i) (.int j)= .ok (decide (i<=j)):=rfl
theorem j8 {g:T->T->R Bool}{f f' :En->R T}{ρ:En}:jY g f f' ρ=(f ρ).bind λx=>(f' ρ).bind λy=>(g x y).bind λb=> .ok (.bl b):=rfl
theorem jK {xs:List T}:ZO (.tup xs)= .ok (.int xs.length):=rfl
theorem gF {xs:List T}:ZO (.lst xs)= .ok (.int xs.length):=rfl
mutual
def sOk:T->Prop
 | .str x=>x.length<=bnd
 | .tup xs=>u3 xs
 | .lst xs=>u3 xs
 | .fz xs=>u3 xs
 | _=>True
def u3:List T->Prop
 | []=>True
 | t :: ts=>sOk t/\u3 ts
end
theorem jC:∀{ts:List T} {t:T},u3 ts->t∈ts->sOk t
 | u :: ts,t,h,hm=>by
  have h' :sOk u/\u3 ts:=by simpa only[u3] using h
  rcases ak.mp hm with rfl | hm
  ·exact h'.1
  ·exact jC h'.2 hm
theorem sOk.str {t:T}(h:sOk t):gE t:=by
 cases t with
 | str x=>
  have h' :x.length<=bnd:=by simpa only[sOk] using h
  exact h'
 | _=>trivial
theorem wM {xs:List T}(h:sOk (.tup xs)):u3 xs:=by simpa only[sOk] using h
def zG:T->Bool
 | .tup [w,.int i]=>Zy w && decide (1<=i) && decide (i<=20)
 | _=>false
theorem YW (t:T)(ht:sOk t):Xc [t]= .ok (.bl (zG t)):=by
 have e:Xc [t]=zg (z02 f_u f_k ka [.vl t]):=rfl;rw[e,z02];simp only[Zd,jB,ZP,ZU,JB,ZE,zl,v0,Z3,bOk,zh,Xi];rw[show f_k [t,.int 2,.int 2]= .ok (.bl (y3 2 2 t)) from ZD t 2 2,Zn];cases t with
 | tup xs=>
  match xs,ht with
  | [],_=>rfl
  | [_],_=>rfl
  | _ :: _ :: _ :: _,_=>simp[y3,zG]
  | [w,n],ht=>
   have hw:sOk w:=jC (wM ht) (by simp)
   show (if true=true then z0q (ka [w]) (z0q (f_u [n]) ((leC (.int 1) n).bind λk=>if k=true then (leC n (.int 20)).bind λk' =>R.ok (T.bl k') else .ok (.bl false))) else _)=_
   rw[if_pos rfl,Xh w hw.str,uZ,Zn,Zn];cases n with
   | int i=>
    show (if Zy w=true then (if true=true then (if decide (1<=i)=true then R.ok (T.bl (decide (i<=20))) else .ok (.bl false)) else _) else _)=R.ok (T.bl (Zy w && decide (1<=i) && decide (i<=20)))
    cases Zy w <;> cases decide (1<=i) <;> rfl
   | _=>
    show (if Zy w=true then (if false=true then _ else R.ok (T.bl false)) else R.ok (T.bl false))=R.ok (T.bl false)
    cases Zy w <;> rfl
 | _=>rfl
theorem Z0 (f g:En->RS)(ρ:En):zj f g ρ=match f ρ with | .nx ρ' =>g ρ' | r=>r:=rfl
theorem j4 (g:En->R Bool)(f1 f2:En->RS)(ρ:En):ifS g f1 f2 ρ=(g ρ).s λk=>if k=true then f1 ρ else f2 ρ:=rfl
theorem wN (f g:En->R Bool)(ρ:En):orT f g ρ=(f ρ).bind λx=>if x=true then .ok true else g ρ:=rfl
theorem U0 (f:En->R Bool)(ρ:En):Qd f ρ=(f ρ).bind λx=> .ok (!x):=rfl
theorem wj (f:En->R T)(ρ:En):u8 f ρ=(f ρ).bind tru:=rfl
theorem WE (k:Bool):tru (.bl k)= .ok k:=rfl
theorem JC (i:Nat)(f:En->R T)(ρ:En):zD i f ρ=(f ρ).s λt=> .nx (ρ.set i (.vl t)):=rfl
theorem zu {g:T->T->R Bool}{f f' :En->R T}{ρ:En}:zk g f f' ρ=(f ρ).bind λx=>(f' ρ).bind λy=>g x y:=rfl
theorem zH {fi:En->R (List T)}{g:T->En->R En}{ft:En->R Bool}{fe:En->R T}{k:Nat}{js:List Nat}{ρ:En}:zJ fi g ft fe k js ρ=(fi ρ).bind λts=>(zL g ft fe k js ρ ts).bind λvs=> .ok (.lst vs):=rfl
theorem ZF {f:En->R T}{ρ:En}:Zv f ρ=(f ρ).bind Jv:=rfl
def Z6:T->Str
 | .tup (.str w :: _)=>w
 | _=>⟨#[]⟩
def U1:T->Bool
 | .tup cs=>decide (1<=cs.length) && decide (cs.length<=4) && cs.all zG && decide ((dd [] (cs.map Z6)).length=cs.length)
 | _=>false
theorem WF {c:T}(h:zG c=true):∃w n,c= .tup [.str w,n]:=by
 unfold zG at h;split at h
 ·rename_i w i;cases w with
  | str x=>exact⟨x,_,rfl⟩
  | _=>cases h
 ·cases h
theorem wk:∀{cs:List T},cs.all zG=true->wD (cs.map λc=>T.str (Z6 c))=some (cs.map Z6)
 | [],_=>rfl
 | c :: cs,h=>by
  rw[c9,aj]at h;have ih:=wk h.2;show (match wD (cs.map λc=>T.str (Z6 c)) with | some ys=>some (Z6 c :: ys) | none=>none)=_
  rw[ih];rfl
theorem y6 (t:T)(ht:sOk t):gp [t]= .ok (.bl (U1 t)):=by
 have e:gp [t]=zg (z03 f_k Xc [.vl t,.un]):=rfl;rw[e,z03];simp only[Z0,j4,wN,U0,wj,ZE,v0,Z3,bOk];rw[show f_k [t,.int 1,.int 4]= .ok (.bl (y3 1 4 t)) from ZD t 1 4];simp only[bOk,WE];cases t with
 | tup cs=>
  have hl:y3 1 4 (.tup cs)=(decide (1<=cs.length) && decide (cs.length<=4)):=rfl;rw[hl];show _=R.ok (T.bl (decide (1<=cs.length) && decide (cs.length<=4) && cs.all zG && decide ((dd [] (cs.map Z6)).length=cs.length)));cases h14:(decide (1<=cs.length) && decide (cs.length<=4)) with
  | false=>rfl
  | true=>
   rw[aj,decide_eq_true_eq,decide_eq_true_eq]at h14;have hb:cs.length<=bnd:=ap h14.2 (by decide)
   have ec:zL (zt 0) zQ (za 1 Xc (z9 (vE 0) ze)) 1 [] [.vl (.tup cs),.un] cs= .ok (cs.map λc=>T.bl (zG c)):=
    zK (h:=λc=>T.bl (zG c)) cs hb λc hc=>by
     show za 1 Xc (z9 (vE 0) ze) [.vl c]=_;rw[zl,v0,bOk];exact YW c (jC (wM ht) hc)
   simp only[fr,aB,if_false,Zs,zH,ZF,v0,bOk,Jv,ec];have ea:vZ (.lst (cs.map λc=>T.bl (zG c)))= .ok (.bl (cs.all zG)):=by
    show (match u0 (cs.map λc=>T.bl (zG c)) with | some k=>R.ok (T.bl k) | none=> .bad)=_
    rw[Jb]
   rw[ea];simp only[bOk,WE,Zt];cases hall:cs.all zG with
   | false=>rfl
   | true=>
    have ew:zL (zt 0) zQ (zc ixT (vE 0) (cE (.int 0))) 1 [] [.vl (.tup cs),.un] cs= .ok (cs.map λc=>T.str (Z6 c)):=
     zK (h:=λc=>T.str (Z6 c)) cs hb λc hc=>by
      obtain⟨w,n,rfl⟩:=WF (aI.mp hall c hc);rfl
    simp only[fr,aB,if_false,nxS,JC,zH,ZF,v0,bOk,Jv,ew,Zt,Zd];show zg (((QJ (.lst (cs.map λc=>T.str (Z6 c)))).bind λx=>(ZO (.lst (cs.map λc=>T.str (Z6 c)))).bind λy=>(eqC x y).bind λb=>R.ok (T.bl b)).s λt=> .rt t)=_;have el:QJ (.lst (cs.map λc=>T.str (Z6 c)))= .ok (.int (dd [] (cs.map Z6)).length):=by
     show (match wD (cs.map λc=>T.str (Z6 c)) with | some ys=>if (cs.map λc=>T.str (Z6 c)).length+1 < 4096 then R.ok (T.int (dd [] ys).length) else .bad | none=> .bad)=_
     rw[wk hall];exact if_pos (by rw[af];omega)
    rw[el,gF,af,jB];show R.ok (T.bl (((dd [] (cs.map Z6)).length:Int) == (cs.length:Int)))=_;congr 2
    by_cases hq:(dd [] (cs.map Z6)).length=cs.length
    ·rw[decide_eq_true hq,hq];simp
    ·rw[decide_eq_false hq];simp only[dG,beq_eq_false_iff_ne];omega
 | _=>rfl
def isS (w:Str):T->Bool
 | .str s=>s == w
 | _=>false
theorem eqS (h:T)(w:Str):eqC h (.str w)= .ok (isS w h):=by cases h <;> rfl
theorem eqI (i j:Int):eqC (.int i) (.int j)= .ok (i == j):=rfl
theorem at0 {h:T}{r:List T}:ixT (.tup (h :: r)) (.int 0)= .ok h:=by
 show atT (h :: r) 0=_;unfold atT;rw[show atI (h :: r) 0=some h from jp (j:=0) rfl]
theorem at1 {h a:T}{r:List T}:ixT (.tup (h :: a :: r)) (.int 1)= .ok a:=by
 show atT (h :: a :: r) 1=_;unfold atT;rw[show atI (h :: a :: r) 1=some a from jp (j:=1) rfl]
theorem at2 {h a b:T}{r:List T}:ixT (.tup (h :: a :: b :: r)) (.int 2)= .ok b:=by
 show atT (h :: a :: b :: r) 2=_;unfold atT;rw[show atI (h :: a :: b :: r) 2=some b from jp (j:=2) rfl]
theorem at3 {h a b c:T}{r:List T}:ixT (.tup (h :: a :: b :: c :: r)) (.int 3)= .ok c:=by
 show atT (h :: a :: b :: c :: r) 3=_;unfold atT;rw[show atI (h :: a :: b :: c :: r) 3=some c from jp (j:=3) rfl]
def JD (k:T->Bool):T->Bool
 | .tup ks=>decide (1<=ks.length) && decide (ks.length<=3) && ks.all k
 | _=>false
def WG:List T->Bool
 | [a,b]=>jT (-20) 20 a b
 | _=>false
def YX:List T->Bool
 | [c]=>U1 c
 | _=>false
def gG (k:T->Bool):List T->Bool
 | [c]=>JD k c
 | _=>false
def YY (k:T->Bool):List T->Bool
 | [c,a,b]=>jT 0 3 a b && k c
 | _=>false
def y7 (k:T->Bool):T->Bool
 | .tup (h :: r)=>if isS "whole" h=true then WG r else if isS "pick" h=true then YX r else if isS "row" h=true then gG k r else if isS "many" h=true then YY k r else false
 | _=>false
def isK:Nat->T->Bool
 | 0,_=>false
 | d+1,t=>y7 (isK d) t
theorem YZ {α:Type}(xs:List α)(n:Nat):((xs.length:Int) == (n:Int))=decide (xs.length=n):=by
 by_cases h:xs.length=n
 ·rw[decide_eq_true h,h];simp
 ·rw[decide_eq_false h,beq_eq_false_iff_ne];omega
theorem Vm {f:En->R T}{ρ:En}:yj f ρ=(f ρ).bind λx=>match x with | .int i=> .ok (.int (-i)) | _=> .bad:=rfl
theorem jm {i j:Int}:J6 (.int i) (.int j)= .ok (.int (i - j)):=rfl
set_option maxHeartbeats 1000000 in
theorem Xj {n:Nat}{d:Nat}{k:T->Bool}(H0:∀t,sOk t->S_g n 0 [t,.int d]= .ok (.bl (k t)))(H1:∀t,sOk t->S_g n 1 [t,.int d]= .ok (.bl (JD k t)))(t:T)(ht:sOk t):
  S_g (n+1) 0 [t,.int ((d+1:Nat):Int)]= .ok (.bl (y7 k t)):=by
 have e:S_g (n+1) 0 [t,.int ((d+1:Nat):Int)]=zg (b_g z01 (S_g n 0) gp (S_g n 1) [.vl t,.vl (.int ((d+1:Nat):Int))]):=rfl;have hL:(((d+1:Nat):Int) == 0)=false:=by rw[beq_eq_false_iff_ne];omega
 have hL1:((d+1:Nat):Int) - 1=(d:Int):=by omega
 rw[e,b_g];simp only[Z0,j4,wN,U0,wj,zu,w0,w1,Z3,bOk,eqI,hL,aB,if_false,Zs];cases t with
 | tup xs=>
  cases xs with
  | nil=>rfl
  | cons h r=>
   have hs:=wM ht;have hm:∀u∈r,sOk u:=λu hu=>jC hs (ab _ hu);have z0:(((h :: r).length:Int) == 0)=false:=by rw[beq_eq_false_iff_ne];simp only[av];omega
   have ti:u9 "tuple" (.tup (h :: r))= .ok (.bl true):=rfl;simp only[ti,bOk,WE,fr,aB,if_false,jK,eqI,z0,Zt,nxS,zh,v0,v1,Z3,at0,eqS,Zd,ZP,ZU,JB,j8,Zs,w0,z1Z,zl,zB,Vm,jm,hL1];show _=R.ok (T.bl (if isS "whole" h=true then WG r else if isS "pick" h=true then YX r else if isS "row" h=true then gG k r else if isS "many" h=true then YY k r else false))
   have l3:(((h :: r).length:Int) == 3)=decide ((h :: r).length=3):=YZ (h :: r) 3;have l2:(((h :: r).length:Int) == 2)=decide ((h :: r).length=2):=YZ (h :: r) 2;have l4:(((h :: r).length:Int) == 4)=decide ((h :: r).length=4):=YZ (h :: r) 4;simp only[l2,l3,l4,Zn];cases isS "whole" h with
   | true=>
    simp only[if_true]
    match r,hm with
    | [],_=>rfl
    | [_],_=>rfl
    | _ :: _ :: _ :: _,_=>simp[WG,Zt,zg]
    | [a,b],_=>
     simp only[at1,at2,bOk,YV];rfl
   | false=>
    simp only[aB,if_false,v0,v1,w0,bOk,at0,Zt,ZP,ZU,jK,eqI,l2,l4,Zn,jm,hL1];cases isS "pick" h with
    | true=>
     simp only[if_true]
     match r,hm with
     | [],_=>rfl
     | _ :: _ :: _,_=>simp[YX,Zt,zg]
     | [c],hm=>
      simp only[at1,bOk,y6 c (hm c (by simp))]
      rfl
    | false=>
     simp only[aB,if_false,v0,v1,w0,bOk,at0,Zt,ZP,ZU,jK,eqI,l2,l4,Zn,jm,hL1];cases isS "row" h with
     | true=>
      simp only[if_true]
      match r,hm with
      | [],_=>rfl
      | _ :: _ :: _,_=>simp[gG,Zt,zg]
      | [c],hm=>
       simp only[at1,bOk,H1 c (hm c (by simp))]
       rfl
     | false=>
      simp only[aB,if_false,v0,v1,w0,bOk,at0,Zt,ZP,ZU,jK,eqI,l2,l4,Zn,jm,hL1];cases isS "many" h with
      | true=>
       simp only[if_true]
       match r,hm with
       | [],_=>rfl
       | [_],_=>rfl
       | [_,_],_=>rfl
       | _ :: _ :: _ :: _ :: _,_=>simp[YY,Zt,zg]
       | [c,a,b],hm=>
        simp only[at1,at2,at3,bOk,YV,H0 c (hm c (by simp)),Zn]
        show zg (match (if jT 0 3 a b=true then R.ok (T.bl (k c)) else .ok (.bl false)).s (λt=>RS.rt t) with | .nx _=>RS.rt (T.bl false) | r=>r)=R.ok (T.bl (jT 0 3 a b && k c))
        cases jT 0 3 a b <;> rfl
      | false=>rfl
 | _=>rfl
theorem gH {n:Nat}{d:Nat}{k:T->Bool}(H0:∀t,sOk t->S_g n 0 [t,.int d]= .ok (.bl (k t)))(t:T)(ht:sOk t):S_g (n+1) 1 [t,.int d]= .ok (.bl (JD k t)):=by
 have e:S_g (n+1) 1 [t,.int d]=zg (z04 f_k (S_g n 0) [.vl t,.vl (.int d)]):=rfl;rw[e,z04];simp only[Zd,jB,ZP,ZU,JB,ZE,v0,Z3,bOk];rw[show f_k [t,.int 1,.int 3]= .ok (.bl (y3 1 3 t)) from ZD t 1 3,Zn];cases t with
 | tup ks=>
  show (if (decide (1<=ks.length) && decide (ks.length<=3))=true then _ else _)=R.ok (T.bl (decide (1<=ks.length) && decide (ks.length<=3) && ks.all k))
  cases h13:(decide (1<=ks.length) && decide (ks.length<=3)) with
  | false=>rfl
  | true=>
   rw[aj,decide_eq_true_eq,decide_eq_true_eq]at h13;have hb:ks.length<=bnd:=ap h13.2 (by decide)
   have ec:zL (zt 0) zQ (za 2 (S_g n 0) (z9 (vE 0) (z9 (vE 1) ze))) 1 [1] [.vl (.tup ks),.vl (.int d)] ks= .ok (ks.map λc=>T.bl (k c)):=
    zK (h:=λc=>T.bl (k c)) ks hb λc hc=>by
     show za 2 (S_g n 0) (z9 (vE 0) (z9 (vE 1) ze)) [.vl c,.vl (.int d)]=_;rw[zB,v0,v1,bOk,bOk];exact H0 c (jC (wM ht) hc)
   simp only[if_true,Zs,zH,ZF,v0,bOk,Jv,ec];show (match u0 (ks.map λc=>T.bl (k c)) with | some k=>R.ok (T.bl k) | none=> .bad)=_
   rw[Jb];rfl
 | _=>rfl
theorem uj:∀(d n:Nat),2*d+1<=n->∀t,sOk t->S_g n 0 [t,.int d]= .ok (.bl (isK d t))
 | 0,n+1,_,t,_=>rfl
 | d+1,n+2,h,t,ht=>Xj (n:=n+1) (λu hu=>uj d (n+1) (by omega) u hu) (λu hu=>gH (λv hv=>uj d n (by omega) v hv) u hu) t ht
theorem wl (t:T)(ht:sOk t):f_4 [t]= .ok (.bl (isK 3 t)):=by
 have e:f_4 [t]=zg (b_4 (f_g 20) [.vl t]):=rfl;rw[e,b_4];simp only[Zd,jB,ZP,ZU,zB,v0,Z3,bOk];exact uj 3 20 (by omega) t ht
def inR (lo hi:Int):T->Bool
 | .int i=>decide (lo<=i) && decide (i<=hi)
 | _=>false
theorem WH:∀(ws acc:List Str),(dd acc ws).length<=acc.length+ws.length
 | [],acc=>am _
 | w :: ws,acc=>by
  unfold dd;have:=WH ws (if w∈acc then acc else acc++[w])
  by_cases h:w∈acc
  ·rw[if_pos h]at this ⊢;simp only[av];omega
  ·rw[if_neg h]at this ⊢;rw[aA,aG]at this;simp only[av];omega
theorem wO:∀(ws acc:List Str),((dd acc ws).length=acc.length+ws.length)↔∀(k:Nat) (w:Str),ws[k]? =some w->w ∉ acc++ws.take k
 | [],acc=>by simp[dd]
 | w :: ws,acc=>by
  unfold dd
  by_cases h:w∈acc
  ·rw[if_pos h];have:=WH ws acc;constructor
   ·intro e;simp only[av]at e;omega
   ·intro H;exact absurd (eG _ h) (H 0 w rfl)
  ·rw[if_neg h];have ih:=wO ws (acc++[w]);rw[aA,aG]at ih;rw[show acc.length+(w :: ws).length=acc.length+1+ws.length by simp only[av];omega,ih]
   constructor
   ·intro H k v e;cases k with
    | zero=>simp at e;subst e;simpa using h
    | succ k=>
     have:=H k v (by simpa using e)
     simpa[bS] using this
   ·intro H k v e;have:=H (k+1) v (by simpa using e)
    simpa[bS] using this
theorem ltI (i j:Int):ltC (.int i) (.int j)= .ok (decide (i < j)):=rfl
theorem v2 {t:T}{a b:Sl}{ρ:En}:vE 2 (a :: b :: .vl t :: ρ)= .ok t:=rfl
theorem v3 {t:T}{a b c:Sl}{ρ:En}:vE 3 (a :: b :: c :: .vl t :: ρ)= .ok t:=rfl
theorem w2 {t:T}{a b:Sl}{ρ:En}:vB 2 (a :: b :: .vl t :: ρ)= .ok t:=rfl
theorem w3 {t:T}{a b c:Sl}{ρ:En}:vB 3 (a :: b :: c :: .vl t :: ρ)= .ok t:=rfl
theorem w5 {t:T}{a b c d e:Sl}{ρ:En}:vB 5 (a :: b :: c :: d :: e :: .vl t :: ρ)= .ok t:=rfl
theorem v4 {t:T}{a b c d:Sl}{ρ:En}:vE 4 (a :: b :: c :: d :: .vl t :: ρ)= .ok t:=rfl
theorem uk (f g:En->R Bool)(ρ:En):GX f g ρ=(f ρ).bind λx=>if x=true then g ρ else .ok false:=rfl
theorem gJ {g g' :T->T->R Bool}{fa fb fc:En->R T}{ρ:En}:chT g g' fa fb fc ρ=(fa ρ).bind λx=>(fb ρ).bind λy=>(g x y).bind λk=>if k=true then (fc ρ).bind λz=>g' y z else .ok false:=rfl
theorem wP (w:Str):∀ws:List Str,JV (λy=>eqF 30 y (.str w)) (ws.map T.str)=some (decide (w∈ws))
 | []=>rfl
 | x :: ws=>by
  have ih:=wP w ws;show (match JV (λy=>eqF 30 y (.str w)) (ws.map T.str) with | none=>none | some c=>some ((x == w) || c))=_
  rw[ih];show some ((x == w) || decide (w∈ws))=_
  congr 1
  by_cases h:x=w
  ·subst h;simp
  ·have h' :¬ w=x:=λz=>h z.symm;simp[h,h']
theorem gK {i j:Nat}{f f' :En->R T}{ρ:En}:Kw i j (z9 f (z9 f' ze)) ρ=(f ρ).s λx=>(f' ρ).s λy=> .nx ((ρ.set i (.vl x)).set j (.vl y)):=by
 unfold Kw z9 ze;cases f ρ with
 | ok a=>cases f' ρ <;> rfl
 | ex c=>rfl
 | bad=>rfl
theorem gtI (i j:Int):gtC (.int i) (.int j)= .ok (decide (i > j)):=rfl
theorem Ze (i j:Int):zA (.int i) (.int j)= .ok (.int (i+j)):=rfl
theorem gM (p:Int)(h0:0<=p)(h1:p < 26):ixT (.str "abcdefghijklmnopqrstuvwxyz") (.int p)= .ok (.str ⟨#[97+p.toNat]⟩):=by
 have h:p=0\/p=1\/p=2\/p=3\/p=4\/p=5\/p=6\/p=7\/p=8\/p=9\/p=10\/p=11\/p=12\/p=13\/p=14\/p=15\/p=16\/p=17\/p=18\/p=19\/p=20\/p=21\/p=22\/p=23\/p=24\/p=25:=by omega
 rcases h with rfl|rfl|rfl|rfl|rfl|rfl|rfl|rfl|rfl|rfl|rfl|rfl|rfl|rfl|rfl|rfl|rfl|rfl|rfl|rfl|rfl|rfl|rfl|rfl|rfl|rfl <;> rfl
abbrev z0r:En->R T:=zc ixT (vE 3) (za 3 f_f (z9 (vE 1) (z9 (zc zA (zc zA (vE 2) (cE (.int 2))) (vE 0)) (z9 (cE (.int 26)) (ze)))))
theorem gN (ns:List Int)(k:Int)(h0:0<=k)(j:Nat):∃c:Nat,(97<=c/\c<=122)/\z0r [.vl (.int (j:Int)),.vl (scr ns),.vl (.int k),.vl (.str "abcdefghijklmnopqrstuvwxyz")]= .ok (.str ⟨#[c]⟩):=by
 obtain⟨p,e,p0,p1⟩:=Z9 ns (k+2+j) 26 (by omega) (by omega)
 refine⟨97+p.toNat,⟨by omega,by omega⟩, ?_⟩
 simp only[z0r,zh,v3,bOk,ZE,v1,v2,v0,Z3,Ze,e];exact gM p p0 p1
theorem y8 (ns:List Int)(k:Int)(h0:0<=k):∃w:Str,kb [scr ns,.int k]= .ok (.str w)/\Zy (.str w)=true:=by
 have e:kb [scr ns,.int k]=zg (z09 f_f [.vl (scr ns),.vl (.int k),.un]):=rfl;obtain⟨p,e0,p0,p1⟩:=Z9 ns k 6 h0 (by omega)
 have hset:∀t,([Sl.vl (scr ns),Sl.vl (.int k),.un]:En).set 2 (.vl t)=[Sl.vl (scr ns),Sl.vl (.int k),.vl t]:=λ_=>rfl;rw[e,z09];simp only[Z0,j4,JC,Z3,Zt,hset,zu,ZE,v0,v1,bOk,e0,gtI];cases hp:decide (p > 0) with
 | true=>
  obtain⟨q,e1,q0,q1⟩:=Z9 ns (k+1) 4 (by omega) (by omega)
  simp only[if_true,Zd,ZP,ZU,zh,ZE,v0,v1,Z3,bOk,Ze,e1];have hq:q=0\/q=1\/q=2\/q=3:=by omega
  rcases hq with rfl | rfl | rfl | rfl
  ·exact⟨"a",rfl,by decide⟩
  ·exact⟨"b",rfl,by decide⟩
  ·exact⟨"ab",rfl,by decide⟩
  ·exact⟨"cab",rfl,by decide⟩
 | false=>
  obtain⟨q,e1,q0,q1⟩:=Z9 ns (k+1) 3 (by omega) (by omega)
  simp only[aB,if_false,nxS,Zd,jB,ZP,ZU,Zs,zH];obtain⟨g,hg⟩:=l0.mp (gN ns k h0);have ei:j2 (zc zA (cE (.int 1)) (za 3 f_f (z9 (vE 0) (z9 (zc zA (vE 1) (cE (.int 1))) (z9 (cE (.int 3)) (ze)))))) [Sl.vl (scr ns),Sl.vl (.int k),.vl (.str "abcdefghijklmnopqrstuvwxyz")]= .ok (rng 0 (1+q).toNat):=by
   unfold j2;simp only[zh,ZE,v0,v1,Z3,bOk,Ze,e1];rw[if_pos ⟨by omega,by omega⟩]
  have ec:∀n:Nat,n<=3->zL (zt 0) zQ z0r 1 [0,1,2] [Sl.vl (scr ns),Sl.vl (.int k),.vl (.str "abcdefghijklmnopqrstuvwxyz")] (rng 0 n)= .ok ((rng 0 n).map λt=>match t with | .int j=> .str ⟨#[g j.toNat]⟩ | t=>t):=λn hn=>
   zK (rng 0 n) (by unfold rng;rw[af,bu];exact ap hn (by decide)) λt ht=>by
    unfold rng at ht;obtain⟨j,_,rfl⟩:=aq.mp ht;show z0r [.vl (.int (0+(j:Int))),.vl (scr ns),.vl (.int k),.vl (.str "abcdefghijklmnopqrstuvwxyz")]= .ok (.str ⟨#[g (0+(j:Int)).toNat]⟩);rw[Int.zero_add,bh];exact(hg j).2
  rw[ei,bOk,ec _ (by omega),bOk,bOk]
  have hw:∀j,Zk (g j)=true:=λj=>by
   obtain⟨a,b⟩:=(hg j).1;unfold Zk;rw[decide_eq_true a,decide_eq_true b];rfl
  have hq:q=0\/q=1\/q=2:=by omega
  rcases hq with rfl | rfl | rfl
  ·refine⟨⟨#[g 0]⟩,rfl, ?_⟩;show (Zk (g 0) && true)=true;rw[hw 0];rfl
  ·refine⟨⟨#[g 0,g 1]⟩,rfl, ?_⟩;show (Zk (g 0) && (Zk (g 1) && true))=true;rw[hw 0,hw 1];rfl
  ·refine⟨⟨#[g 0,g 1,g 2]⟩,rfl, ?_⟩;show (Zk (g 0) && (Zk (g 1) && (Zk (g 2) && true)))=true;rw[hw 0,hw 1,hw 2];rfl
theorem z20 (j:Int):zT (.int 5) (.int j)= .ok (.int (5*j)):=by
 show (if W4 5 j then R.ok (T.int (5*j)) else .bad)=_
 rw[if_pos (.inl ⟨by decide,by decide⟩)]
theorem W7 {f g:En->R T}{ρ:En}{x y:T}(hf:f ρ= .ok x)(hg:g ρ= .ok y):Z4 (z9 f (z9 g ze)) ρ= .ok (.tup [x,y]):=by
 unfold Z4 z9 ze;rw[hf,hg];rfl
theorem z21 {f g h:En->R T}{ρ:En}{x y z:T}(hf:f ρ= .ok x)(hg:g ρ= .ok y)(hh:h ρ= .ok z):Z4 (z9 f (z9 g (z9 h ze))) ρ= .ok (.tup [x,y,z]):=by
 unfold Z4 z9 ze;rw[hf,hg,hh];rfl
theorem z0s {f g h i:En->R T}{ρ:En}{x y z w:T}(hf:f ρ= .ok x)(hg:g ρ= .ok y)(hh:h ρ= .ok z)(hi:i ρ= .ok w):Z4 (z9 f (z9 g (z9 h (z9 i ze)))) ρ= .ok (.tup [x,y,z,w]):=by
 unfold Z4 z9 ze;rw[hf,hg,hh,hi];rfl
def Dst (ws:List Str):Prop:=∀(k:Nat) (w:Str),ws[k]? =some w->w ∉ ws.take k
theorem Dst.add {ws:List Str}(h:Dst ws){w:Str}(hw:w ∉ ws):Dst (ws++[w]):=λk x hx=>by
 by_cases hk:k < ws.length
 ·rw[b8 hk]at hx;rw[List.take_append_of_le_length (by omega)]
  exact h k x hx
 ·rw[aY (by omega)]at hx
  have hk' :k=ws.length:=by
   rcases Nat.lt_or_ge (k - ws.length) 1 with z | z
   ·omega
   ·rw[aD (by simpa using z)]at hx;cases hx
  subst hk';rw[Nat.sub_self]at hx;cases hx;rw[List.take_left']
  ·exact hw
  ·rfl
abbrev WI:En->RS:=zj (zD 5 (za 2 kb (z9 (vE 0) (z9 (zc zA (zc zA (vE 1) (cE (.int 5))) (zc zT (cE (.int 5)) (vE 4))) (ze)))))
  (ifS (zk WZ (vB 5) (vB 3)) (Y2 3 (vE 5)) (nxS))
theorem JE (ns:List Int)(k:Int)(h0:0<=k):∀(js:List Nat) (ws:List Str) (x4 x5:Sl),js.length+ws.length<=4->Dst ws->(∀w∈ws,Zy (.str w)=true)->
  ∃ws' y4 y5,ZA (zt 4) WI (js.map λ(j:Nat)=>T.int (0+(j:Int))) [.vl (scr ns),.vl (.int k),.un,.ow (ws.map T.str),x4,x5]= .nx [.vl (scr ns),.vl (.int k),.un,.ow (ws'.map T.str),y4,y5]/\ws'.length<=4/\Dst ws' /\(∀w∈ws',Zy (.str w)=true)/\(0 < js.length+ws.length->0 < ws'.length)
 | [],ws,x4,x5,hl,hd,hw=>⟨ws,x4,x5,rfl,by simpa using hl,hd,hw,λh=>by simpa using h⟩
 | j :: js,ws,x4,x5,hl,hd,hw=>by
  obtain⟨w,ew,hw'⟩:=y8 ns (k+5+5*(0+(j:Int))) (by omega)
  have hl' :js.length+ws.length+1<=4:=by simpa[av,Nat.add_right_comm] using hl
  have e:ZA (zt 4) WI ((j :: js).map λ(j:Nat)=>T.int (0+(j:Int))) [.vl (scr ns),.vl (.int k),.un,.ow (ws.map T.str),x4,x5]=match WI [.vl (scr ns),.vl (.int k),.un,.ow (ws.map T.str),.vl (.int (0+(j:Int))),x5] with
   | .nx ρ2=>ZA (zt 4) WI (js.map λ(j:Nat)=>T.int (0+(j:Int))) ρ2
   | .ct ρ2=>ZA (zt 4) WI (js.map λ(j:Nat)=>T.int (0+(j:Int))) ρ2
   | .bk ρ2=> .nx ρ2
   | r=>r:=rfl
  have eb:WI [.vl (scr ns),.vl (.int k),.un,.ow (ws.map T.str),.vl (.int (0+(j:Int))),x5]= .nx [.vl (scr ns),.vl (.int k),.un,.ow ((if w∈ws then ws else ws++[w]).map T.str),.vl (.int (0+(j:Int))),.vl (.str w)]:=by
   have w3o:∀(a b c:Sl) (ts:List T) (ρ:En),vB 3 (a :: b :: c :: .ow ts :: ρ)= .ok (.lst ts):=λ_ _ _ _ _=>rfl;have hset:∀t,([.vl (scr ns),.vl (.int k),.un,.ow (ws.map T.str),.vl (.int (0+(j:Int))),x5]:En).set 5 (.vl t)=[.vl (scr ns),.vl (.int k),.un,.ow (ws.map T.str),.vl (.int (0+(j:Int))),.vl t]:=λ_=>rfl;have en:WZ (.str w) (.lst (ws.map T.str))= .ok (!decide (w∈ws)):=by
    show ((match JV (λy=>eqF 30 y (.str w)) (ws.map T.str) with | some b=>R.ok b | none=> .bad)).bind (λb=>R.ok (!b))=_
    rw[wP];rfl
   simp only[WI,Z0,JC,zB,v0,v1,v4,zh,Z3,bOk,Ze,z20,ew,Zt,hset,j4,zu,w5,w3o,en]
   by_cases hm:w∈ws
   ·rw[decide_eq_true hm,if_pos hm];rfl
   ·rw[decide_eq_false hm,if_neg hm];have hb:(ws.map T.str).length < bnd:=by rw[af];exact bN (show ws.length<=4 by omega) (by decide)
    show (if (ws.map T.str).length < bnd then RS.nx _ else .bad)=_
    rw[if_pos hb,cK];rfl
  rw[e,eb]
  by_cases hm:w∈ws
  ·rw[if_pos hm];obtain⟨ws',y4,y5,r1,r2,r3,r4,r5⟩:=JE ns k h0 js ws (.vl (.int (0+(j:Int)))) (.vl (.str w)) (by omega) hd hw
   exact⟨ws',y4,y5,r1,r2,r3,r4,λ_=>r5 (by have:=List.length_pos_of_mem hm;omega)⟩
  ·rw[if_neg hm];obtain⟨ws',y4,y5,r1,r2,r3,r4,r5⟩:=JE ns k h0 js (ws++[w]) (.vl (.int (0+(j:Int)))) (.vl (.str w)) (by simp only[aA,av,bY];omega) (hd.add hm) (λx hx=>by
    rcases dh.mp hx with z | z
    ·exact hw x z
    ·rw[aC.mp z];exact hw')
   exact⟨ws',y4,y5,r1,r2,r3,r4,λ_=>r5 (by simp only[aA,av,bY];omega)⟩
abbrev gO:En->R T:=Z4 (z9 (vE 1) (z9 (zc zA (cE (.int 1)) (za 3 f_f (z9 (vE 2) (z9 (zc zA (zc zA (vE 3) (cE (.int 30))) (vE 0)) (z9 (cE (.int 20)) (ze)))))) (ze)))
theorem U2 (ns:List Int)(k:Int)(h0:0<=k):∀(ws:List Str) (i:Nat) (x0 x1:Sl),(∀w∈ws,Zy (.str w)=true)->∃cs:List T,zy (zN 0 1) zQ gO (((ws.map T.str).zipIdx i).map λp=>T.tup [.int (p.2:Nat),p.1]) [x0,x1,.vl (scr ns),.vl (.int k)]= .ok cs/\cs.all zG=true/\cs.map Z6=ws
 | [],i,x0,x1,_=>⟨[],rfl,rfl,rfl⟩
 | w :: ws,i,x0,x1,hw=>by
  obtain⟨p,e,p0,p1⟩:=Z9 ns (k+30+i) 20 (by omega) (by omega)
  obtain⟨cs,r1,r2,r3⟩:=U2 ns k h0 ws (i+1) (.vl (.int (i:Int))) (.vl (.str w)) λx hx=>hw x (ab _ hx);have ec:gO [.vl (.int (i:Int)),.vl (.str w),.vl (scr ns),.vl (.int k)]= .ok (.tup [.str w,.int (1+p)]):=by
   have ea:za 3 f_f (z9 (vE 2) (z9 (zc zA (zc zA (vE 3) (cE (.int 30))) (vE 0)) (z9 (cE (.int 20)) (ze)))) [.vl (.int (i:Int)),.vl (.str w),.vl (scr ns),.vl (.int k)]= .ok (.int p):=by
    simp only[ZE,v2,v3,v0,zh,Z3,bOk,Ze,e]
   have eb:zc zA (cE (.int 1)) (za 3 f_f (z9 (vE 2) (z9 (zc zA (zc zA (vE 3) (cE (.int 30))) (vE 0)) (z9 (cE (.int 20)) (ze))))) [.vl (.int (i:Int)),.vl (.str w),.vl (scr ns),.vl (.int k)]= .ok (.int (1+p)):=by
    rw[zh,ea];rfl
   exact W7 v1 eb
  refine⟨.tup [.str w,.int (1+p)] :: cs, ?_, ?_, ?_⟩
  ·show ((gO [.vl (.int (i:Int)),.vl (.str w),.vl (scr ns),.vl (.int k)]).bind λv=>(zy (zN 0 1) zQ gO (((ws.map T.str).zipIdx (i+1)).map λp=>T.tup [.int (p.2:Nat),p.1]) [.vl (.int (i:Int)),.vl (.str w),.vl (scr ns),.vl (.int k)]).bind λvs=>R.ok (v :: vs))=_;rw[ec,r1];rfl
  ·rw[c9,r2,Bool.and_true];show (Zy (.str w) && decide (1<=1+p) && decide (1+p<=20))=true;rw[hw w ae,decide_eq_true (by omega),decide_eq_true (by omega)];rfl
  ·rw[ar,r3];rfl
theorem qa (i j:Int):Jt (.int i) (.int j)= .ok (.int (if j < i then j else i)):=rfl
theorem Xk (ns:List Int)(k:Int)(h0:0<=k):∃t,gy [scr ns,.int k]= .ok t/\∀d,isK (d+1) t=true:=by
 have e:gy [scr ns,.int k]=zg (z0a f_f kb [.vl (scr ns),.vl (.int k),.un,.un,.un,.un]):=rfl;obtain⟨p,e0,p0,p1⟩:=Z9 ns k 3 h0 (by omega)
 rw[e,z0a,Z0];simp only[j4,zu,ZE,v0,v1,Z3,bOk,e0,gtI,Zt];cases hp:decide (p > 0) with
 | true=>
  obtain⟨q,e1,q0,q1⟩:=Z9 ns (k+1) 7 (by omega) (by omega)
  obtain⟨q3,e3,_,_⟩:=Z9 ns (k+3) 8 (by omega) (by omega)
  obtain⟨q4,e4,a4,b4⟩:=Z9 ns (k+4) 3 (by omega) (by omega)
  obtain⟨q2,e2,a2,b2⟩:=Z9 ns (k+2) 4 (by omega) (by omega)
  have hset:∀t x,([.vl (scr ns),.vl (.int k),x,.un,.un,.un]:En).set 2 (.vl t)=[.vl (scr ns),.vl (.int k),.vl t,.un,.un,.un]:=λ_ _=>rfl;have fin:∀low:Int, -20<=low->low<=20->∃t,zg (zn (Z4 (z9 (cE (.str "whole")) (z9 (vE 2) (z9 (zc Jt (cE (.int 20)) (zc zA (vE 2) (za 3 f_f (z9 (vE 0) (z9 (zc zA (vE 1) (cE (.int 2))) (z9 (cE (.int 4)) (ze))))))) (ze))))) [.vl (scr ns),.vl (.int k),.vl (.int low),.un,.un,.un])= .ok t/\∀d,isK (d+1) t=true:=by
   intro low hl1 hl2;refine⟨.tup [.str "whole",.int low,.int (if low+q2 < 20 then low+q2 else 20)], ?_,λd=> ?_⟩
   ·rw[Zd,jB];refine z21 rfl rfl ?_;simp only[ZP,JZ,ZU,zh,v2,v0,v1,ZE,Z3,bOk,Ze,e2,qa]
   ·show (decide (-20<=low) && decide (low<=_) && decide (_<=(20:Int)))=true;rw[decide_eq_true hl1,decide_eq_true (by split <;> omega),decide_eq_true (by split <;> omega)];rfl
  simp only[if_true,Z0,JC,j4,zh,ZE,v0,v1,Z3,bOk,Ze,e1,jm,Zt,hset,zu,e3,eqI];cases hq:(q3 == 0) with
  | true=>
   have h3:q4=0\/q4=1\/q4=2:=by omega
   rcases h3 with rfl | rfl | rfl
   ·obtain⟨t,r,s⟩:=fin (-20) (by omega) (by omega)
    refine⟨t, ?_,s⟩;rw[← r];simp only[if_true,e4,bOk];have hv:∀ρ,(jz (z9 (yj (cE (.int 20))) (z9 (cE (.int 17)) (z9 (cE (.int 20)) (ze)))) ρ)= .ok (.lst [.int (-20),.int 17,.int 20]):=λ_=>rfl;simp only[hv,bOk];have hx:ixT (.lst [.int (-20),.int 17,.int 20]) (.int 0)= .ok (.int (-20)):=rfl;simp only[hx,Zt,hset,Zd];generalize Z4 _ _=z;cases z <;> rfl
   ·obtain⟨t,r,s⟩:=fin (17) (by omega) (by omega)
    refine⟨t, ?_,s⟩;rw[← r];simp only[if_true,e4,bOk];have hv:∀ρ,(jz (z9 (yj (cE (.int 20))) (z9 (cE (.int 17)) (z9 (cE (.int 20)) (ze)))) ρ)= .ok (.lst [.int (-20),.int 17,.int 20]):=λ_=>rfl;simp only[hv,bOk];have hx:ixT (.lst [.int (-20),.int 17,.int 20]) (.int 1)= .ok (.int (17)):=rfl;simp only[hx,Zt,hset,Zd];generalize Z4 _ _=z;cases z <;> rfl
   ·obtain⟨t,r,s⟩:=fin (20) (by omega) (by omega)
    refine⟨t, ?_,s⟩;rw[← r];simp only[if_true,e4,bOk];have hv:∀ρ,(jz (z9 (yj (cE (.int 20))) (z9 (cE (.int 17)) (z9 (cE (.int 20)) (ze)))) ρ)= .ok (.lst [.int (-20),.int 17,.int 20]):=λ_=>rfl;simp only[hv,bOk];have hx:ixT (.lst [.int (-20),.int 17,.int 20]) (.int 2)= .ok (.int (20)):=rfl;simp only[hx,Zt,hset,Zd];generalize Z4 _ _=z;cases z <;> rfl
  | false=>
   obtain⟨t,r,s⟩:=fin (q - 3) (by omega) (by omega)
   refine⟨t, ?_,s⟩;rw[← r];simp only[aB,if_false,nxS,Zd];generalize Z4 _ _=z;cases z <;> rfl
 | false=>
  obtain⟨q,e1,q0,q1⟩:=Z9 ns (k+1) 4 (by omega) (by omega)
  simp only[aB,if_false,nxS,Z0];have ei:j2 (zc zA (cE (.int 1)) (za 3 f_f (z9 (vE 0) (z9 (zc zA (vE 1) (cE (.int 1))) (z9 (cE (.int 4)) (ze)))))) [.vl (scr ns),.vl (.int k),.un,.ow [],.un,.un]= .ok (rng 0 (1+q).toNat):=by
   unfold j2;simp only[zh,ZE,v0,v1,Z3,bOk,Ze,e1];rw[if_pos ⟨by omega,by omega⟩]
  have el:uN 3 ze [.vl (scr ns),.vl (.int k),.un,.un,.un,.un]= .nx [.vl (scr ns),.vl (.int k),.un,.ow [],.un,.un]:=rfl;rw[el];have hn:(aX (1+q).toNat).length=(1+q).toNat:=bu;obtain⟨ws,y4,y5,r1,r2,r3,r4,r5⟩:=JE ns k h0 (aX (1+q).toNat) [] .un .un (by rw[hn,bY];omega) (λk w h=>by cases h) (λw h=>by cases h)
  have hpos:0 < ws.length:=r5 (by rw[hn,bY];omega)
  have ef:jk (j2 (zc zA (cE (.int 1)) (za 3 f_f (z9 (vE 0) (z9 (zc zA (vE 1) (cE (.int 1))) (z9 (cE (.int 4)) (ze))))))) (zt 4) WI [.vl (scr ns),.vl (.int k),.un,.ow [],.un,.un]= .nx [.vl (scr ns),.vl (.int k),.un,.ow (ws.map T.str),y4,y5]:=by
   unfold jk;rw[ei,Zt];exact r1
  obtain⟨cs,s1,s2,s3⟩:=U2 ns k h0 ws 0 .un .un r4;have hcl:cs.length=ws.length:=by rw[← s3,af]
  refine⟨.tup [.str "pick",.tup cs], ?_,λd=> ?_⟩
  ·dsimp only;rw[ef];dsimp only;rw[Zd,jB];refine W7 rfl ?_;rw[Zs,zH];have ee:xB (vE 3) (frz [.vl (scr ns),.vl (.int k),.un,.ow (ws.map T.str),y4,y5])= .ok (JW (ws.map T.str)):=rfl;rw[ee,bOk];unfold zL;rw[if_pos (by unfold JW;rw[af,List.length_zipIdx,af];exact ap r2 (by decide))]
   have ec:zy (zN 0 1) zQ gO (JW (ws.map T.str)) (wB 2 [0,1] (frz [.vl (scr ns),.vl (.int k),.un,.ow (ws.map T.str),y4,y5]))= .ok cs:=s1;rw[ec];rfl
  ·show (decide (1<=cs.length) && decide (cs.length<=4) && cs.all zG && decide ((dd [] (cs.map Z6)).length=cs.length))=true;have hd:(dd [] (cs.map Z6)).length=cs.length:=by
    rw[s3,hcl];have:=(wO ws []).mpr (λk w h=>by simpa using r3 k w h)
    simpa using this
   rw[decide_eq_true (by omega),decide_eq_true (by omega),s2,decide_eq_true hd];rfl
theorem qb (c:Int)(j:Int)(hc:W4 c j):zT (.int c) (.int j)= .ok (.int (c*j)):=by
 show (if W4 c j then R.ok (T.int (c*j)) else .bad)=_
 rw[if_pos hc]
theorem gP (j:Int):zT (.int 3) (.int j)= .ok (.int (3*j)):=qb _ _ (.inl ⟨by decide,by decide⟩)
theorem gQ (j:Int):zT (.int 50) (.int j)= .ok (.int (50*j)):=qb _ _ (.inl ⟨by decide,by decide⟩)
abbrev z0t (c:List T->R T):En->R T:=za 3 c (z9 (vE 1) (z9 (zc zA (zc zA (zc zT (cE (.int 3)) (vE 2)) (cE (.int 40))) (zc zT (cE (.int 50)) (vE 0))) (z9 (zc J6 (vE 3) (cE (.int 1))) (ze))))
theorem ul (ns:List Int):∀(d n:Nat),d<=n->1<=d->∀k:Int,0<=k->∃t,S_o n 0 [scr ns,.int k,.int (d:Int)]= .ok t/\isK d t=true
 | d+1,n+1,hn,_,k,h0=>by
  have e:S_o (n+1) 0 [scr ns,.int k,.int ((d+1:Nat):Int)]=zg (b_o f_f gy (S_o n 0) [.vl (scr ns),.vl (.int k),.vl (.int ((d+1:Nat):Int)),.un,.un,.un]):=rfl;obtain⟨p,e0,p0,p1⟩:=Z9 ns k 5 h0 (by omega)
  obtain⟨l,el,hl⟩:=Xk ns (k+1) (by omega)
  have hset:([.vl (scr ns),.vl (.int k),.vl (.int ((d+1:Nat):Int)),.un,.un,.un]:En).set 3 (.vl (.int p))=[.vl (scr ns),.vl (.int k),.vl (.int ((d+1:Nat):Int)),.vl (.int p),.un,.un]:=rfl;rw[e,b_o];simp only[Z0,JC,j4,wN,zu,ZE,zB,v0,v1,v2,Z3,bOk,e0,Zt,hset,w2,w3,eqI,ltI,Ze,Zd,ZP,JZ,ZU,zh,el];have hd1:((((d+1:Nat):Int) == 1))=decide (d=0):=by
   by_cases h:d=0
   ·subst h;rfl
   ·rw[decide_eq_false h,beq_eq_false_iff_ne];omega
  rw[hd1]
  by_cases hleaf:d=0\/p < 2
  ·refine⟨l, ?_,hl d⟩;rcases hleaf with h | h
   ·rw[decide_eq_true h];rfl
   ·rw[decide_eq_true h];cases decide (d=0) <;> rfl
  ·have hd0:¬ d=0:=λz=>hleaf (.inl z);have hp2:¬ p < 2:=λz=>hleaf (.inr z);have hsub:((d+1:Nat):Int) - 1=(d:Int):=by omega
   rw[decide_eq_false hd0,decide_eq_false hp2];simp only[aB,if_false,Zt,nxS,w3,v0,v1,v2,bOk,ltI,Z3];cases hp:decide (p < 4) with
   | true=>
    obtain⟨q,e1,q0,q1⟩:=Z9 ns (k+1) 3 (by omega) (by omega)
    have hj:∀j:Nat,∃t,z0t (S_o n 0) [.vl (.int (0+(j:Int))),.vl (scr ns),.vl (.int k),.vl (.int ((d+1:Nat):Int))]= .ok t/\isK d t=true:=λj=>by
     obtain⟨t,r,s⟩:=ul ns d n (by omega) (by omega) (3*k+40+50*(0+(j:Int))) (by omega)
     refine⟨t, ?_,s⟩;simp only[z0t,ZE,v0,v1,v2,v3,zh,Z3,bOk,gP,gQ,Ze,jm,hsub,r]
    obtain⟨g,hg⟩:=l0.mp hj;have ei:j2 (zc zA (cE (.int 1)) (za 3 f_f (z9 (vE 0) (z9 (zc zA (vE 1) (cE (.int 1))) (z9 (cE (.int 3)) (ze)))))) [.vl (scr ns),.vl (.int k),.vl (.int ((d+1:Nat):Int)),.vl (.int p),.un,.un]= .ok (rng 0 (1+q).toNat):=by
     unfold j2;simp only[zh,ZE,v0,v1,Z3,bOk,Ze,e1];rw[if_pos ⟨by omega,by omega⟩]
    have ec:zL (zt 0) zQ (z0t (S_o n 0)) 1 [0,1,2] [.vl (scr ns),.vl (.int k),.vl (.int ((d+1:Nat):Int)),.vl (.int p),.un,.un] (rng 0 (1+q).toNat)= .ok ((rng 0 (1+q).toNat).map λt=>match t with | .int j=>g j.toNat | t=>t):=
     zK (rng 0 (1+q).toNat) (by unfold rng;rw[af,bu];exact ap (show (1+q).toNat<=3 by omega) (by decide)) λt ht=>by
      unfold rng at ht;obtain⟨j,_,rfl⟩:=aq.mp ht;show z0t (S_o n 0) [.vl (.int (0+(j:Int))),.vl (scr ns),.vl (.int k),.vl (.int ((d+1:Nat):Int))]= .ok (g (0+(j:Int)).toNat);rw[(hg j).1,Int.zero_add,bh]
    generalize hcs:((rng 0 (1+q).toNat).map λt=>match t with | .int j=>g j.toNat | t=>t)=cs at ec
    have hlen:cs.length=(1+q).toNat:=by rw[← hcs];unfold rng;rw[af,af,bu]
    have hall:∀t∈cs,isK d t=true:=λt ht=>by
     rw[← hcs]at ht;obtain⟨u,hu,rfl⟩:=aq.mp ht;unfold rng at hu;obtain⟨j,_,rfl⟩:=aq.mp hu;exact(hg _).2
    refine⟨.tup [.str "row",.tup cs], ?_, ?_⟩
    ·have hs4:([.vl (scr ns),.vl (.int k),.vl (.int ((d+1:Nat):Int)),.vl (.int p),.un,.un]:En).set 4 (.vl (.lst cs))=[.vl (scr ns),.vl (.int k),.vl (.int ((d+1:Nat):Int)),.vl (.int p),.vl (.lst cs),.un]:=rfl;simp only[if_true,zH,ei,bOk,ec,Zt,hs4,ZP,JZ,ZU];rfl
    ·show (decide (1<=cs.length) && decide (cs.length<=3) && cs.all (isK d))=true;rw[decide_eq_true (by omega),decide_eq_true (by omega),aI.mpr hall];rfl
   | false=>
    obtain⟨q,e1,q0,q1⟩:=Z9 ns (k+1) 3 (by omega) (by omega)
    obtain⟨q2,e2,_,_⟩:=Z9 ns (k+2) 3 (by omega) (by omega)
    obtain⟨t,r,s⟩:=ul ns d n (by omega) (by omega) (3*k+40) (by omega)
    refine⟨.tup [.str "many",t,.int q,.int (if q+q2 < 3 then q+q2 else 3)], ?_, ?_⟩
    ·have hs5:([.vl (scr ns),.vl (.int k),.vl (.int ((d+1:Nat):Int)),.vl (.int p),.un,.un]:En).set 5 (.vl (.int q))=[.vl (scr ns),.vl (.int k),.vl (.int ((d+1:Nat):Int)),.vl (.int p),.un,.vl (.int q)]:=rfl;simp only[aB,if_false,v0,v1,zh,Z3,bOk,Ze,e1,Zt,hs5,ZP,JZ,ZU,jB];refine z0s rfl ?_ rfl ?_
     ·simp only[ZE,v0,v1,v2,zh,Z3,bOk,gP,Ze,jm,hsub,r]
     ·have v5:∀{t:T} {a b c d e:Sl} {ρ:En},vE 5 (a :: b :: c :: d :: e :: .vl t :: ρ)= .ok t:=rfl;simp only[ZE,v0,v1,v5,zh,Z3,bOk,Ze,e2,qa]
    ·show (jT 0 3 (.int q) (.int _) && isK d t)=true;rw[s,Bool.and_true];show (decide (0<=q) && decide (q<=_) && decide (_<=(3:Int)))=true;rw[decide_eq_true (by omega),decide_eq_true (by split <;> omega),decide_eq_true (by split <;> omega)];rfl
mutual
def dep:T->Nat
 | .tup xs=>Qi xs+1
 | .lst xs=>Qi xs+1
 | _=>1
def Qi:List T->Nat
 | []=>0
 | t :: ts=>max (dep t) (Qi ts)
end
mutual
def siz:T->Nat
 | .tup xs=>Qj xs+1
 | .lst xs=>Qj xs+1
 | _=>1
def Qj:List T->Nat
 | []=>0
 | t :: ts=>siz t+Qj ts
end
theorem jU {w:Str}{t:T}(h:isS w t=true):t= .str w:=by
 cases t with
 | str s=>
  have:(s == w)=true:=h;rw[eq_of_beq this]
 | _=>cases h
theorem um {lo hi:Int}{t:T}(h:inR lo hi t=true):∃i,t= .int i:=by
 cases t with
 | int i=>exact⟨i,rfl⟩
 | _=>cases h
theorem Jc {lo hi:Int}{a b:T}(h:jT lo hi a b=true):∃i j,a= .int i/\b= .int j:=by
 cases a with
 | int i=>
  cases b with
  | int j=>exact⟨i,j,rfl,rfl⟩
  | _=>cases h
 | _=>cases h
structure Fit (D S:Nat) (t:T):Prop where
 so:sOk t
 dp:dep t<=D
 sz:siz t<=S
theorem y9 {c:T}(h:zG c=true):Fit 2 3 c:=by
 unfold zG at h;split at h
 ·rename_i w i;have hw:Zy w=true:=by
   rw[aj,aj]at h;exact h.1.1
  cases w with
  | str x=>
   have hx:(decide (1<=x.length) && decide (x.length<=3) && x.cps.toList.all Zk)=true:=hw;rw[aj,aj,decide_eq_true_eq,decide_eq_true_eq]at hx;refine⟨?_, ?_, ?_⟩
   ·simp only[sOk,u3,and_true];exact ap hx.1.2 (by decide)
   ·simp[dep,Qi]
   ·simp[siz,Qj]
  | _=>cases hw
 ·cases h
theorem fits {D S:Nat}:∀{cs:List T},(∀c∈cs,Fit D S c)->u3 cs/\Qi cs<=D/\Qj cs<=S*cs.length
 | [],_=>⟨by simp only[u3],b9 _,b9 _⟩
 | c :: cs,h=>by
  obtain⟨a,b,d⟩:=fits (cs:=cs) λx hx=>h x (ab _ hx);obtain⟨x,y,z⟩:=h c ae;refine⟨?_, ?_, ?_⟩
  ·simp only[u3];exact⟨x,a⟩
  ·simp only[Qi];omega
  ·simp only[Qj,av,Nat.mul_add,Nat.mul_one];omega
theorem Jd:∀(d:Nat) (t:T),isK d t=true->Fit (2*d+2) (15*4 ^ d) t
 | 0,_,h=>by cases h
 | d+1,t,h=>by
  have hpow:4 ^ (d+1)=4*4 ^ d:=by rw[dg,cM]
  have hone:1<=4 ^ d:=Nat.pow_pos (by omega)
  have h:y7 (isK d) t=true:=h;unfold y7 at h;split at h
  ·rename_i hd r;split at h
   ·rename_i e;rw[jU e];unfold WG at h;split at h
    ·obtain⟨i,j,rfl,rfl⟩:=Jc h;refine⟨by simp only[sOk,u3,and_true];decide,by simp only[dep,Qi];omega,by simp only[siz,Qj];omega⟩
    ·cases h
   ·split at h
    ·rename_i e;rw[jU e];unfold YX at h;split at h
     ·rename_i c;unfold U1 at h;split at h
      ·rename_i cs;rw[aj,aj,aj,decide_eq_true_eq,decide_eq_true_eq]at h;obtain⟨a,b,z⟩:=fits (D:=2) (S:=3) (cs:=cs) λc hc=>y9 (aI.mp h.1.2 c hc);refine⟨by simp only[sOk,u3,and_true];exact⟨by decide,a⟩,by simp only[dep,Qi];omega,by simp only[siz,Qj];omega⟩
      ·cases h
     ·cases h
    ·split at h
     ·rename_i e;rw[jU e];unfold gG at h;split at h
      ·rename_i c;unfold JD at h;split at h
       ·rename_i cs;rw[aj,aj,decide_eq_true_eq,decide_eq_true_eq]at h;obtain⟨a,b,z⟩:=fits (D:=2*d+2) (S:=15*4 ^ d) (cs:=cs) λc hc=>Jd d c (aI.mp h.2 c hc);have:15*4 ^ d*cs.length<=15*4 ^ d*3:=Nat.mul_le_mul_left _ h.1.2;refine⟨by simp only[sOk,u3,and_true];exact⟨by decide,a⟩,by simp only[dep,Qi];omega,by simp only[siz,Qj];omega⟩
       ·cases h
      ·cases h
     ·split at h
      ·rename_i e;rw[jU e];unfold YY at h;split at h
       ·rename_i c a b;rw[aj]at h;obtain⟨i,j,rfl,rfl⟩:=Jc h.1;obtain⟨x,y,z⟩:=Jd d c h.2;refine⟨by simp only[sOk,u3,and_true];exact⟨by decide,x⟩,by simp only[dep,Qi];omega,by simp only[siz,Qj];omega⟩
       ·cases h
      ·cases h
  ·cases h
theorem z22 {f:En->R T}{ρ:En}{x:T}(hf:f ρ= .ok x):Z4 (z9 f ze) ρ= .ok (.tup [x]):=by
 unfold Z4 z9 ze;rw[hf];rfl
theorem gR {xs ys:List T}(h:xs.length+ys.length<=bnd):zA (.tup xs) (.tup ys)= .ok (.tup (xs++ys)):=if_pos h
theorem wm (ρ:En):nxS ρ= .nx ρ:=rfl
inductive Kd where
 | whole (lo hi:Int)
 | pick (cs:List (Str×Int))
 | row (ks:List Kd)
 | many (k:Kd) (lo hi:Nat)
def Zu (c:Str×Int):T:= .tup [.str c.1,.int c.2]
mutual
def Kd.t:Kd->T
 | .whole lo hi=> .tup [.str "whole",.int lo,.int hi]
 | .pick cs=> .tup [.str "pick",.tup (cs.map Zu)]
 | .row ks=> .tup [.str "row",.tup (Kd.ts ks)]
 | .many k lo hi=> .tup [.str "many",k.t,.int (lo:Int),.int (hi:Int)]
def Kd.ts:List Kd->List T
 | []=>[]
 | k :: ks=>k.t :: Kd.ts ks
end
theorem Kd.ts_map:∀ks:List Kd,Kd.ts ks=ks.map Kd.t
 | []=>by simp only[Kd.ts,cN]
 | k :: ks=>by simp only[Kd.ts,ar,Kd.ts_map ks]
def Kd.Ok:Nat->Kd->Prop
 | 0,_=>False
 | _+1,.whole lo hi=> -20<=lo/\lo<=hi/\hi<=20
 | _+1,.pick cs=>1<=cs.length/\cs.length<=4/\(∀c∈cs,Zy (.str c.1)=true/\1<=c.2/\c.2<=20)/\Dst (cs.map (·.1))
 | d+1,.row ks=>1<=ks.length/\ks.length<=3/\∀k∈ks,Kd.Ok d k
 | d+1,.many k lo hi=>lo<=hi/\hi<=3/\Kd.Ok d k
theorem qc {c:T}(h:zG c=true):∃p:Str×Int,c=Zu p/\Zy (.str p.1)=true/\1<=p.2/\p.2<=20:=by
 unfold zG at h;split at h
 ·rename_i w i;rw[aj,aj,decide_eq_true_eq,decide_eq_true_eq]at h;cases w with
  | str x=>exact⟨(x,i),rfl,h.1.1,h.1.2,h.2⟩
  | _=>cases h.1.1
 ·cases h
theorem uo {α:Type}{P:T->Prop}{Q:α->Prop}{f:α->T}(H:∀t,P t->∃a,t=f a/\Q a):∀(ts:List T),(∀t∈ts,P t)->∃as:List α,ts=as.map f/\∀a∈as,Q a
 | [],_=>⟨[],rfl,λ_ h=>nomatch h⟩
 | t :: ts,h=>by
  obtain⟨a,rfl,ha⟩:=H t (h t ae);obtain⟨as,rfl,has⟩:=uo H ts λu hu=>h u (ab _ hu);exact⟨a :: as,rfl,λb hb=>by
   rcases ak.mp hb with rfl | hb
   ·exact ha
   ·exact has b hb⟩
theorem uq:∀(d:Nat) (t:T),isK d t=true->∃k:Kd,t=k.t/\k.Ok d
 | 0,_,h=>by cases h
 | d+1,t,h=>by
  have h:y7 (isK d) t=true:=h;unfold y7 at h;split at h
  ·rename_i hd r;split at h
   ·rename_i e;rw[jU e];unfold WG at h;split at h
    ·obtain⟨i,j,rfl,rfl⟩:=Jc h;have h:(decide (-20<=i) && decide (i<=j) && decide (j<=20))=true:=h;rw[aj,aj,decide_eq_true_eq,decide_eq_true_eq,decide_eq_true_eq]at h;exact⟨.whole i j,by simp only[Kd.t],h.1.1,h.1.2,h.2⟩
    ·cases h
   ·split at h
    ·rename_i e;rw[jU e];unfold YX at h;split at h
     ·rename_i c;unfold U1 at h;split at h
      ·rename_i cs;rw[aj,aj,aj,decide_eq_true_eq,decide_eq_true_eq,decide_eq_true_eq]at h;obtain⟨⟨⟨h1,h2⟩,h3⟩,h4⟩:=h;obtain⟨as,rfl,has⟩:=uo (λt ht=>qc ht) cs λc hc=>aI.mp h3 c hc;rw[af]at h1 h2;refine⟨.pick as,by simp only[Kd.t],h1,h2,has, ?_⟩
       have e1:(as.map Zu).map Z6=as.map (·.1):=by rw[aF];rfl
       rw[e1]at h4;have:=(wO (as.map (·.1)) []).mp (by rw[h4,af,af];simp)
       exact λk w hw hm=>this k w hw (by simpa using hm)
      ·cases h
     ·cases h
    ·split at h
     ·rename_i e;rw[jU e];unfold gG at h;split at h
      ·rename_i c;unfold JD at h;split at h
       ·rename_i cs;rw[aj,aj,decide_eq_true_eq,decide_eq_true_eq]at h;obtain⟨ks,rfl,hks⟩:=uo (λt ht=>uq d t ht) cs λc hc=>aI.mp h.2 c hc;rw[af]at h;exact⟨.row ks,by simp only[Kd.t,Kd.ts_map],h.1.1,h.1.2,hks⟩
       ·cases h
      ·cases h
     ·split at h
      ·rename_i e;rw[jU e];unfold YY at h;split at h
       ·rename_i c a b;rw[aj]at h;obtain⟨h1,h2⟩:=h;obtain⟨i,j,rfl,rfl⟩:=Jc h1;obtain⟨k,rfl,hk⟩:=uq d c h2;have h1:(decide (0<=i) && decide (i<=j) && decide (j<=3))=true:=h1;rw[aj,aj,decide_eq_true_eq,decide_eq_true_eq,decide_eq_true_eq]at h1;obtain⟨⟨a1,a2⟩,a3⟩:=h1;obtain⟨m,rfl⟩:=fN a1;obtain⟨n,rfl⟩:=fN (dD a1 a2);exact⟨.many k m n,by simp only[Kd.t],by omega,by omega,hk⟩
       ·cases h
      ·cases h
  ·cases h
def Zo (made:List (List T)):List (List T)->List (List T)
 | []=>made
 | ls :: r=>Zo (made.flatMap λa=>ls.map λx=>a++[x]) r
abbrev wQ (ls:List (List T)):List T:=(Zo [[]] ls).map T.tup
mutual
def Kd.all:Kd->List T
 | .whole lo hi=>(aX (hi+1 - lo).toNat).map λ(i:Nat)=>T.int (lo+(i:Int))
 | .pick cs=>cs.map λc=>T.str c.1
 | .row ks=>wQ (Kd.alls ks)
 | .many k lo hi=>(aX (hi+1 - lo)).flatMap λi=>wQ (ag (lo+i) k.all)
def Kd.alls:List Kd->List (List T)
 | []=>[]
 | k :: ks=>k.all :: Kd.alls ks
end
theorem Kd.alls_map:∀ks:List Kd,Kd.alls ks=ks.map Kd.all
 | []=>by simp only[Kd.alls,cN]
 | k :: ks=>by simp only[Kd.alls,ar,Kd.alls_map ks]
def prd:List Nat->Nat
 | []=>1
 | n :: r=>n*prd r
theorem JF:∀{ns:List Nat},(∀n∈ns,1<=n)->1<=prd ns
 | [],_=>am _
 | n :: ns,h=>db (h n ae) (JF λm hm=>h m (ab _ hm))
theorem Je {α β:Type}(f:α->List β)(n:Nat):∀as:List α,(∀a∈as,(f a).length=n)->(as.flatMap f).length=as.length*n
 | [],_=>by simp
 | a :: as,h=>by
  rw[bx,aA,h a ae,Je f n as λb hb=>h b (ab _ hb),av,dQ,cn,iB]
theorem JG:∀(ls:List (List T)) (made:List (List T)),(Zo made ls).length=made.length*prd (ls.map (·.length))
 | [],made=>by simp[Zo,prd]
 | l :: ls,made=>by
  rw[Zo,JG ls,Je _ l.length made λa _=>af ..,ar,prd,dk]
abbrev Vn:En->RS:=yl 3 (zJ (Zv (vE 2)) (zt 0) (zQ) (zc zA (vE 1) (Z4 (z9 (vE 0) (ze)))) 1 [4])
theorem U3 {L M:T}{l:List T}(hl:l.length<=bnd):∀(as:List (List T)) (acc:List T) (x:Sl),(∀a∈as,a.length<=1000)->acc.length+as.length*l.length<=bnd->
  ∃y,ZA (zt 4) Vn (as.map T.tup) [.vl L,.vl M,.vl (.lst l),.ow acc,x]= .nx [.vl L,.vl M,.vl (.lst l),.ow (acc++(as.flatMap λa=>l.map λx=>a++[x]).map T.tup),y]
 | [],acc,x,_,_=>⟨x,by simp[ZA]⟩
 | a :: as,acc,x,ha,hb=>by
  have ha1:=ha a ae;have hb1:bnd=16777216:=rfl;rw[av,dQ,cn]at hb;have ec:zL (zt 0) zQ (zc zA (vE 1) (Z4 (z9 (vE 0) (ze)))) 1 [4] [.vl L,.vl M,.vl (.lst l),.ow acc,.vl (.tup a)] l= .ok (l.map λx=>T.tup (a++[x])):=
   zK (h:=λx=>T.tup (a++[x])) l hl λx hx=>by
    show zc zA (vE 1) (Z4 (z9 (vE 0) (ze))) [.vl x,.vl (.tup a)]=_;rw[zh,v1,bOk,z22 v0,bOk];exact gR (by rw[aG];omega)
  have eb:Vn [.vl L,.vl M,.vl (.lst l),.ow acc,.vl (.tup a)]= .nx [.vl L,.vl M,.vl (.lst l),.ow (acc++l.map λx=>T.tup (a++[x])),.vl (.tup a)]:=by
   show ((zJ _ _ _ _ _ _ _).s λt=>match t with | .lst us=>if acc.length+us.length<=bnd then RS.nx _ else .bad | _=> .bad)=_
   rw[zH,ZF,v2,bOk];show (((zL _ _ _ _ _ _ l).bind _).s _)=_;rw[ec,bOk,Zt];show (if _ then _ else _)=_
   rw[if_pos (by rw[af];omega)]
   rfl
  obtain⟨y,ih⟩:=U3 hl as (acc++l.map λx=>T.tup (a++[x])) (.vl (.tup a)) (λb hb=>ha b (ab _ hb)) (by rw[aA,af];omega)
  refine⟨y, ?_⟩;have e:ZA (zt 4) Vn ((a :: as).map T.tup) [.vl L,.vl M,.vl (.lst l),.ow acc,x]=match Vn [.vl L,.vl M,.vl (.lst l),.ow acc,.vl (.tup a)] with
   | .nx ρ2=>ZA (zt 4) Vn (as.map T.tup) ρ2
   | .ct ρ2=>ZA (zt 4) Vn (as.map T.tup) ρ2
   | .bk ρ2=> .nx ρ2
   | r=>r:=rfl
  rw[e,eb];dsimp only;rw[ih,bx,cK,aF,bS];rfl
abbrev WJ:En->RS:=(zj (uN 3 (ze))
  (zj (jk (Zv (vE 1)) (zt 4) Vn)
  (mvS 1 3)))
theorem WK {L:T}(m:Nat):∀(ls:List (List T)) (made:List (List T)) (k:Nat) (x y z:Sl),(∀a∈made,a.length<=k)->k+ls.length<=1000->(∀l∈ls,1<=l.length)->made.length*prd (ls.map (·.length))<=bnd->1<=made.length->
  ∃x' y' z',ZA (zt 2) WJ (ls.map T.lst) [.vl L,.vl (.lst (made.map T.tup)),x,y,z]= .nx [.vl L,.vl (.lst ((Zo made ls).map T.tup)),x',y',z']
 | [],made,k,x,y,z,_,_,_,_,_=>⟨x,y,z,by simp[ZA,Zo]⟩
 | l :: ls,made,k,x,y,z,hk,hkl,hpos,hb,hm=>by
  have hpr:1<=prd (ls.map (·.length)):=JF λn hn=>by
   obtain⟨l',hl',rfl⟩:=aq.mp hn;exact hpos l' (ab _ hl')
  rw[ar,prd,← dk]at hb;have hb1:made.length*l.length<=bnd:=ap (c_ _ hpr) hb;have hll:l.length<=bnd:=ap (Nat.le_mul_of_pos_left _ hm) hb1;rw[av]at hkl;obtain⟨w,er⟩:=U3 (L:=L) (M:= .lst (made.map T.tup)) hll made [] z (λa ha=>ap (hk a ha) (by omega)) (by rw[bY];omega)
  rw[bP]at er;have es:WJ [.vl L,.vl (.lst (made.map T.tup)),.vl (.lst l),y,z]= .nx [.vl L,.vl (.lst ((made.flatMap λa=>l.map λx=>a++[x]).map T.tup)),.vl (.lst l),.vl (.lst ((made.flatMap λa=>l.map λx=>a++[x]).map T.tup)),w]:=by
   have e0:uN 3 (ze) [.vl L,.vl (.lst (made.map T.tup)),.vl (.lst l),y,z]= .nx [.vl L,.vl (.lst (made.map T.tup)),.vl (.lst l),.ow [],z]:=rfl;have e1:jk (Zv (vE 1)) (zt 4) Vn [.vl L,.vl (.lst (made.map T.tup)),.vl (.lst l),.ow [],z]= .nx [.vl L,.vl (.lst (made.map T.tup)),.vl (.lst l),.ow ((made.flatMap λa=>l.map λx=>a++[x]).map T.tup),w]:=er;unfold WJ;rw[Z0,e0];dsimp only;rw[Z0,e1];rfl
  obtain⟨x',y',z',ih⟩:=WK (L:=L) m ls (made.flatMap λa=>l.map λx=>a++[x]) (k+1) (.vl (.lst l)) (.vl (.lst ((made.flatMap λa=>l.map λx=>a++[x]).map T.tup))) w (λa ha=>by
   obtain⟨b,hb,hx⟩:=cg.mp ha;obtain⟨u,_,rfl⟩:=aq.mp hx;have:=hk b hb;rw[aA,aG];omega) (by omega) (λl' hl' =>hpos l' (ab _ hl')) (by
    rw[Je _ l.length made λa _=>af ..];exact hb) (by
    rw[Je _ l.length made λa _=>af ..];exact db hm (hpos l ae))
  refine⟨x',y',z', ?_⟩;have e:ZA (zt 2) WJ ((l :: ls).map T.lst) [.vl L,.vl (.lst (made.map T.tup)),x,y,z]=match WJ [.vl L,.vl (.lst (made.map T.tup)),.vl (.lst l),y,z] with
   | .nx ρ2=>ZA (zt 2) WJ (ls.map T.lst) ρ2
   | .ct ρ2=>ZA (zt 2) WJ (ls.map T.lst) ρ2
   | .bk ρ2=> .nx ρ2
   | r=>r:=rfl
  rw[e,es];exact ih
theorem qd (ls:List (List T))(hl:ls.length<=1000)(hpos:∀l∈ls,1<=l.length)(hb:prd (ls.map (·.length))<=bnd):f_n [.lst (ls.map T.lst)]= .ok (.lst (wQ ls)):=by
 obtain⟨x',y',z',er⟩:=WK (L:= .lst (ls.map T.lst)) 0 ls [[]] 0 .un .un .un (λa ha=>by rw[aC.mp ha];exact am _) (by omega) hpos (by rw[aG,cn];exact hb) (am _)
 have e:f_n [.lst (ls.map T.lst)]=zg (b_n [.vl (.lst (ls.map T.lst)),.un,.un,.un,.un]):=rfl;have e0:zD 1 (jz (z9 (Z4 (ze)) (ze))) [.vl (.lst (ls.map T.lst)),.un,.un,.un,.un]= .nx [.vl (.lst (ls.map T.lst)),.vl (.lst [.tup []]),.un,.un,.un]:=rfl;have e1:jk (Zv (vE 0)) (zt 2) WJ [.vl (.lst (ls.map T.lst)),.vl (.lst [.tup []]),.un,.un,.un]= .nx [.vl (.lst (ls.map T.lst)),.vl (.lst (wQ ls)),x',y',z']:=er;rw[e,b_n,Z0,e0];dsimp only;rw[Z0,e1];rfl
theorem j9 (n:Nat):∀m:Nat,prd (ag m n)=n ^ m
 | 0=>rfl
 | m+1=>by rw[aU,prd,j9 n m,dg,cM]
theorem Jf (ls:List (List T)):(wQ ls).length=prd (ls.map (·.length)):=by
 unfold wQ;rw[af,JG,aG,cn]
def pw (n lo hi:Nat):Nat:=((aX (hi+1 - lo)).map λi=>n ^ (lo+i)).sum
theorem ji (k:Kd)(lo hi:Nat):(Kd.many k lo hi).all.length=pw k.all.length lo hi:=by
 rw[Kd.all,List.length_flatMap,pw];congr 1
 refine bc λi _=> ?_;rw[Jf,aS,j9]
theorem jL (ks:List Kd):(Kd.row ks).all.length=prd (ks.map λk=>k.all.length):=by
 rw[Kd.all,Jf,Kd.alls_map,aF];rfl
theorem ZV (lo hi:Int):(Kd.whole lo hi).all.length=(hi+1 - lo).toNat:=by
 rw[Kd.all,af,bu]
theorem wR (cs:List (Str×Int)):(Kd.pick cs).all.length=cs.length:=by
 rw[Kd.all,af]
theorem Xl {lo hi:Nat}(h:lo<=hi)(h3:hi<=3):(lo=0/\hi=0)\/(lo=0/\hi=1)\/(lo=0/\hi=2)\/(lo=0/\hi=3)\/(lo=1/\hi=1)\/(lo=1/\hi=2)\/(lo=1/\hi=3)\/(lo=2/\hi=2)\/(lo=2/\hi=3)\/(lo=3/\hi=3):=by omega
def iv (b:Bool):Nat:=if b then 1 else 0
theorem Xm (n:Nat){lo hi:Nat}(h:lo<=hi)(h3:hi<=3):pw n lo hi=iv (lo == 0)+n*iv (decide (lo<=1) && decide (1<=hi))+n*n*iv (decide (lo<=2) && decide (2<=hi))+n*n*n*iv (hi == 3):=by
 rcases Xl h h3 with ⟨rfl,rfl⟩ | ⟨rfl,rfl⟩ | ⟨rfl,rfl⟩ | ⟨rfl,rfl⟩ | ⟨rfl,rfl⟩ | ⟨rfl,rfl⟩ | ⟨rfl,rfl⟩ | ⟨rfl,rfl⟩ | ⟨rfl,rfl⟩ | ⟨rfl,rfl⟩ <;>
  simp[pw,fZ,iv,dg]
 all_goals omega
theorem gU {n:Nat}(hn:1<=n){lo hi:Nat}(h:lo<=hi)(h3:hi<=3):1<=pw n lo hi:=by
 have h2:1<=n*n:=db hn hn;have h1:1<=n*n*n:=db h2 hn;rw[Xm n h h3];rcases Xl h h3 with ⟨rfl,rfl⟩ | ⟨rfl,rfl⟩ | ⟨rfl,rfl⟩ | ⟨rfl,rfl⟩ | ⟨rfl,rfl⟩ | ⟨rfl,rfl⟩ | ⟨rfl,rfl⟩ | ⟨rfl,rfl⟩ | ⟨rfl,rfl⟩ | ⟨rfl,rfl⟩ <;>
  simp[iv] <;> omega
theorem z23 {n N:Nat}(hn:n<=N){lo hi:Nat}(h:lo<=hi)(h3:hi<=3):pw n lo hi<=1+N+N*N+N*N*N:=by
 have h2:n*n<=N*N:=bG hn hn;have h1:n*n*n<=N*N*N:=bG h2 hn;rw[Xm n h h3];rcases Xl h h3 with ⟨rfl,rfl⟩ | ⟨rfl,rfl⟩ | ⟨rfl,rfl⟩ | ⟨rfl,rfl⟩ | ⟨rfl,rfl⟩ | ⟨rfl,rfl⟩ | ⟨rfl,rfl⟩ | ⟨rfl,rfl⟩ | ⟨rfl,rfl⟩ | ⟨rfl,rfl⟩ <;>
  simp[iv] <;> omega
theorem Vo {N:Nat}(hN:1<=N):∀(ns:List Nat),(∀n∈ns,n<=N)->prd ns<=N ^ ns.length
 | [],_=>am _
 | n :: ns,h=>by
  rw[prd,av,dg,cM];exact bG (Vo hN ns λm hm=>h m (ab _ hm)) (h n ae)
theorem Zw:∀(d:Nat) (k:Kd),k.Ok d->1<=k.all.length
 | 0,_,h=>h.elim
 | d+1,.whole lo hi,h=>by
  obtain⟨_,h2,_⟩:=h;rw[ZV];omega
 | d+1,.pick cs,h=>by
  rw[wR];exact h.1
 | d+1,.row ks,h=>by
  rw[jL];refine JF λn hn=> ?_;obtain⟨k,hk,rfl⟩:=aq.mp hn;exact Zw d k (h.2.2 k hk)
 | d+1,.many k lo hi,h=>by
  rw[ji];exact gU (Zw d k h.2.2) h.1 h.2.1
def mx:Nat->Nat
 | 0=>0
 | 1=>41
 | d+1=>1+mx d+mx d*mx d+mx d*mx d*mx d
theorem Vp (d:Nat):41<=mx (d+1):=by
 induction d with
 | zero=>exact am _
 | succ d ih=>
  show 41<=1+mx (d+1)+mx (d+1)*mx (d+1)+mx (d+1)*mx (d+1)*mx (d+1);omega
theorem qe (d:Nat)(n:Nat)(h:n<=41):n<=mx (d+1):=ap h (Vp d)
theorem Xn {N m:Nat}(hN:1<=N)(h:m<=3):N ^ m<=1+N+N*N+N*N*N:=by
 have:m=0\/m=1\/m=2\/m=3:=by omega
 rcases this with rfl | rfl | rfl | rfl <;> simp[dg] <;> omega
theorem jn:∀(d:Nat) (k:Kd),k.Ok d->k.all.length<=mx d
 | 0,_,h=>h.elim
 | d+1,.whole lo hi,h=>by
  obtain⟨h1,h2,h3⟩:=h;rw[ZV];exact qe d _ (by omega)
 | d+1,.pick cs,h=>by
  rw[wR];exact qe d _ (ap h.2.1 (by omega))
 | 1,.row ks,h=>by
  obtain⟨h1,h2,h3⟩:=h
  match ks,h1,h3 with
  | k :: _,_,h3=>exact(h3 k ae).elim
 | d+2,.row ks,h=>by
  obtain⟨h1,h2,h3⟩:=h;rw[jL];have hp:=ap (by omega:1<=41) (Vp d)
  have:=Vo hp (ks.map λk=>k.all.length) λn hn=>by
   obtain⟨k,hk,rfl⟩:=aq.mp hn;exact jn (d+1) k (h3 k hk)
  rw[af]at this;exact ap this (Xn hp h2)
 | 1,.many k lo hi,h=>h.2.2.elim
 | d+2,.many k lo hi,h=>by
  rw[ji];exact z23 (jn (d+1) k h.2.2) h.1 h.2.1
theorem zd {f g:En->RS}{ρ ρ' :En}(h:f ρ= .nx ρ'):zj f g ρ=g ρ' :=by rw[Z0,h]
theorem cs0 {x w:Str}{r:List T}{ρ:En}:zk eqC (zc ixT (vE 0) (cE (.int 0))) (cE (.str w)) (.vl (.tup (.str x :: r)) :: ρ)= .ok (x == w):=by
 rw[zu,zh,v0,bOk,Z3,bOk,at0,bOk,Z3,bOk,eqS];rfl
theorem j5 {a b:T}{r:List T}{ρ:En}:zc ixT (vE 0) (cE (.int 1)) (.vl (.tup (a :: b :: r)) :: ρ)= .ok b:=by
 rw[zh,v0,bOk,Z3,bOk,at1]
theorem W8 {a b c:T}{r:List T}{ρ:En}:zc ixT (vE 0) (cE (.int 2)) (.vl (.tup (a :: b :: c :: r)) :: ρ)= .ok c:=by
 rw[zh,v0,bOk,Z3,bOk,at2]
theorem ya {a b c d:T}{r:List T}{ρ:En}:zc ixT (vE 0) (cE (.int 3)) (.vl (.tup (a :: b :: c :: d :: r)) :: ρ)= .ok d:=by
 rw[zh,v0,bOk,Z3,bOk,at3]
theorem yb {f:En->R T}{ρ:En}{i:Int}(h:f ρ= .ok (.int i)):zc zA f (cE (.int 1)) ρ= .ok (.int (i+1)):=by
 rw[zh,h,bOk,Z3,bOk,Ze]
theorem ur {f g:En->R T}{ρ:En}{i j:Int}(hf:f ρ= .ok (.int i))(hg:g ρ= .ok (.int j))(h: -1000000 < i/\i < 1000000/\ -1000000 < j/\j < 1000000):J0 f g ρ= .ok (rng i (j - i).toNat):=by
 unfold J0;rw[hf,bOk,hg,bOk];exact if_pos h
theorem qf:∀(cs:List (Str×Int)) (x y:Sl),zy (zN 0 1) zQ (vE 0) (cs.map Zu) [x,y]= .ok (cs.map λc=>T.str c.1)
 | [],_,_=>rfl
 | c :: cs,x,y=>by
  have e:zy (zN 0 1) zQ (vE 0) ((c :: cs).map Zu) [x,y]=(zy (zN 0 1) zQ (vE 0) (cs.map Zu) [.vl (.str c.1),.vl (.int c.2)]).bind λvs=> .ok (.str c.1 :: vs):=rfl;rw[e,qf cs];rfl
theorem WL {x:T}{m:Nat}(h:m<=3):zT (.lst [x]) (.int (m:Int))= .ok (.lst (ag m [x]).flatten):=by
 unfold zT;dsimp only;have c:0<=(m:Int)/\(m:Int) < 1000000/\[x].length*(m:Int).toNat<=bnd:=by
  have hb:3<=bnd:=by decide
  refine⟨by omega,by omega, ?_⟩
  rw[aG,bh,cn];exact ap h hb
 rw[if_pos c,bh]
theorem ZY {α:Type}(x:α):∀m:Nat,(ag m [x]).flatten=ag m x
 | 0=>rfl
 | m+1=>by rw[aU,aU,cq,ZY x m];rfl
abbrev w4 (ca cr:List T->R T):En->RS:=yl 1 (za 1 cr (z9 (zc zT (jz (z9 (za 1 ca (z9 (zc ixT (vE 0) (cE (.int 1))) (ze))) (ze))) (vE 2)) (ze)))
theorem gW {f:En->R T}{ρ:En}{x:T}(hf:f ρ= .ok x):jz (z9 f ze) ρ= .ok (.lst [x]):=by
 unfold jz z9 ze;rw[hf];rfl
theorem WM {ca:List T->R T}{k:Kd}{t:T}{lo:Nat}{ws:List T}(hw:ca [t]= .ok (.lst ws))(hpos:1<=ws.length){a b c:T}:∀(js:List Nat) (acc:List T) (x:Sl),(∀j∈js,lo+j<=3)->acc.length+(js.map λj=>ws.length ^ (lo+j)).sum<=bnd->
  ∃y,ZA (zt 2) (w4 ca f_n) (js.map λ(j:Nat)=>T.int ((lo:Int)+(j:Int))) [.vl (.tup [a,t,b,c]),.ow acc,x]= .nx [.vl (.tup [a,t,b,c]),.ow (acc++js.flatMap λj=>wQ (ag (lo+j) ws)),y]
 | [],acc,x,_,_=>⟨x,by simp[ZA]⟩
 | j :: js,acc,x,hj,hb=>by
  have hj1:=hj j ae;have hb1:bnd=16777216:=rfl;rw[ar,dl]at hb;have er:f_n [.lst ((ag (lo+j) ws).map T.lst)]= .ok (.lst (wQ (ag (lo+j) ws))):=qd _ (by rw[aW];omega) (λl hl=>by rw[bj hl];exact hpos) (by rw[aS,j9];omega)
  have hlen:(wQ (ag (lo+j) ws)).length=ws.length ^ (lo+j):=by rw[Jf,aS,j9]
  have em:zT (.lst [.lst ws]) (.int ((lo:Int)+(j:Int)))= .ok (.lst ((ag (lo+j) ws).map T.lst)):=by
   have e1:(lo:Int)+(j:Int)=((lo+j:Nat):Int):=by omega
   rw[e1,WL (by omega),ZY,aS]
  have eb:w4 ca f_n [.vl (.tup [a,t,b,c]),.ow acc,.vl (.int ((lo:Int)+(j:Int)))]= .nx [.vl (.tup [a,t,b,c]),.ow (acc++wQ (ag (lo+j) ws)),.vl (.int ((lo:Int)+(j:Int)))]:=by
   have e1:za 1 f_n (z9 (zc zT (jz (z9 (za 1 ca (z9 (zc ixT (vE 0) (cE (.int 1))) (ze))) (ze))) (vE 2)) (ze)) [.vl (.tup [a,t,b,c]),.ow acc,.vl (.int ((lo:Int)+(j:Int)))]= .ok (.lst (wQ (ag (lo+j) ws))):=by
    have e0:za 1 ca (z9 (zc ixT (vE 0) (cE (.int 1))) (ze)) [.vl (.tup [a,t,b,c]),.ow acc,.vl (.int ((lo:Int)+(j:Int)))]= .ok (.lst ws):=by
     rw[zl,j5,bOk,hw]
    rw[zl,zh,gW e0,bOk,v2,bOk,em,bOk,er]
   show ((za 1 f_n _ _).s λt=>match t with | .lst us=>if acc.length+us.length<=bnd then RS.nx _ else .bad | _=> .bad)=_
   rw[e1,Zt];show (if _ then _ else _)=_
   rw[if_pos (by rw[hlen];omega)]
   rfl
  obtain⟨y,ih⟩:=WM (k:=k) hw hpos (a:=a) (b:=b) (c:=c) js (acc++wQ (ag (lo+j) ws)) (.vl (.int ((lo:Int)+(j:Int)))) (λi hi=>hj i (ab _ hi)) (by rw[aA,hlen];omega)
  refine⟨y, ?_⟩;have e:ZA (zt 2) (w4 ca f_n) ((j :: js).map λ(j:Nat)=>T.int ((lo:Int)+(j:Int))) [.vl (.tup [a,t,b,c]),.ow acc,x]=match w4 ca f_n [.vl (.tup [a,t,b,c]),.ow acc,.vl (.int ((lo:Int)+(j:Int)))] with
   | .nx ρ2=>ZA (zt 2) (w4 ca f_n) (js.map λ(j:Nat)=>T.int ((lo:Int)+(j:Int))) ρ2
   | .ct ρ2=>ZA (zt 2) (w4 ca f_n) (js.map λ(j:Nat)=>T.int ((lo:Int)+(j:Int))) ρ2
   | .bk ρ2=> .nx ρ2
   | r=>r:=rfl
  rw[e,eb];dsimp only;rw[ih,bx,bS]
theorem vj {ca:List T->R T}{a t:T}{lo hi:Nat}(h1:lo<=hi)(h2:hi<=3){x:Sl}{acc:List T}{r:RS}
  (el:ZA (zt 2) (w4 ca f_n) ((aX (hi+1 - lo)).map λ(j:Nat)=>T.int ((lo:Int)+(j:Int))) [.vl (.tup [a,t,.int (lo:Int),.int (hi:Int)]),.ow acc,x]=r):
  jk (J0 (zc ixT (vE 0) (cE (.int 2))) (zc zA (zc ixT (vE 0) (cE (.int 3))) (cE (.int 1)))) (zt 2) (w4 ca f_n) [.vl (.tup [a,t,.int (lo:Int),.int (hi:Int)]),.ow acc,x]=r:=by
 have hn:((hi:Int)+1 - (lo:Int)).toNat=hi+1 - lo:=by omega
 have hc: -1000000 < (lo:Int)/\(lo:Int) < 1000000/\ -1000000 < (hi:Int)+1/\(hi:Int)+1 < 1000000:=by omega
 have e:jk (J0 (zc ixT (vE 0) (cE (.int 2))) (zc zA (zc ixT (vE 0) (cE (.int 3))) (cE (.int 1)))) (zt 2) (w4 ca f_n) [.vl (.tup [a,t,.int (lo:Int),.int (hi:Int)]),.ow acc,x]=(J0 (zc ixT (vE 0) (cE (.int 2))) (zc zA (zc ixT (vE 0) (cE (.int 3))) (cE (.int 1))) [.vl (.tup [a,t,.int (lo:Int),.int (hi:Int)]),.ow acc,x]).s λts=>ZA (zt 2) (w4 ca f_n) ts [.vl (.tup [a,t,.int (lo:Int),.int (hi:Int)]),.ow acc,x]:=rfl;rw[e,ur W8 (yb ya) hc,Zt,hn];exact el
theorem gX {n L lo hi:Nat}(e:L=pw n lo hi)(h:L<=1000000):([]:List T).length+((aX (hi+1 - lo)).map λj=>n ^ (lo+j)).sum<=bnd:=by
 have h' :pw n lo hi<=bnd:=ap (e ▸ h) (by decide)
 unfold pw at h';rw[bY,iO];exact h'
theorem qg {ca:List T->R T}(d:Nat)(lo hi:Int)(h:(Kd.whole lo hi).Ok (d+1))(hl:(Kd.whole lo hi).all.length<=1000000)(H:∀k' :Kd,k'.Ok d->ca [k'.t]= .ok (.lst k'.all)):zg (b_c ca f_n (en0 3 [(Kd.whole lo hi).t]))= .ok (.lst (Kd.whole lo hi).all):=by
 have hb1:bnd=16777216:=rfl;have e:zg (b_c ca f_n (en0 3 [(Kd.whole lo hi).t]))=zg (b_c ca f_n [.vl (Kd.whole lo hi).t,.un,.un]):=rfl;rw[e,b_c,Z0,j4];obtain⟨h1,h2,h3⟩:=h;simp only[Kd.t];rw[cs0,Zt,show (("whole":Str) == "whole")=true from rfl,if_pos rfl,Zd,ZP,JZ,JZ,ZU];unfold GY;rw[ur j5 (yb W8) ⟨by omega,by omega,by omega,by omega⟩]
 rw[Kd.all];rfl
theorem vk {ca:List T->R T}(d:Nat)(cs:List (Str×Int))(h:(Kd.pick cs).Ok (d+1))(hl:(Kd.pick cs).all.length<=1000000)(H:∀k' :Kd,k'.Ok d->ca [k'.t]= .ok (.lst k'.all)):zg (b_c ca f_n (en0 3 [(Kd.pick cs).t]))= .ok (.lst (Kd.pick cs).all):=by
 have hb1:bnd=16777216:=rfl;have e:zg (b_c ca f_n (en0 3 [(Kd.pick cs).t]))=zg (b_c ca f_n [.vl (Kd.pick cs).t,.un,.un]):=rfl;rw[e,b_c,Z0,j4];simp only[Kd.t];rw[cs0,Zt,show (("pick":Str) == "whole")=false from rfl,if_neg ay,wm];dsimp only;rw[Z0,j4,cs0,Zt,show (("pick":Str) == "pick")=true from rfl,if_pos rfl,Zd,ZP,JZ,JZ,ZU,zH,ZF,j5,bOk];have hc:cs.length<=4:=h.2.1;have ec:zL (zN 0 1) zQ (vE 0) 2 [] [.vl (.tup [.str "pick",.tup (cs.map Zu)]),.un,.un] (cs.map Zu)= .ok (cs.map λc=>T.str c.1):=by
  unfold zL;rw[if_pos (by rw[af];omega)]
  show quiet (zy (zN 0 1) zQ (vE 0) (cs.map Zu) [.un,.un])=_;rw[qf];rfl
 show zg (match ((((R.ok (cs.map Zu)).bind λts=>(zL (zN 0 1) zQ (vE 0) 2 [] [.vl (.tup [.str "pick",.tup (cs.map Zu)]),.un,.un] ts).bind λvs=> .ok (.lst vs))).s λt=> .rt t) with | .nx ρ' =>_ | r=>r)=_
 rw[bOk,ec];rw[Kd.all];rfl
theorem Xo {ca:List T->R T}(d:Nat)(ks:List Kd)(h:(Kd.row ks).Ok (d+1))(hl:(Kd.row ks).all.length<=1000000)(H:∀k' :Kd,k'.Ok d->ca [k'.t]= .ok (.lst k'.all)):zg (b_c ca f_n (en0 3 [(Kd.row ks).t]))= .ok (.lst (Kd.row ks).all):=by
 have hb1:bnd=16777216:=rfl;have e:zg (b_c ca f_n (en0 3 [(Kd.row ks).t]))=zg (b_c ca f_n [.vl (Kd.row ks).t,.un,.un]):=rfl;rw[e,b_c,Z0,j4];obtain⟨h1,h2,h3⟩:=h;simp only[Kd.t];rw[cs0,Zt,show (("row":Str) == "whole")=false from rfl,if_neg ay,wm];dsimp only;rw[Z0,j4,cs0,Zt,show (("row":Str) == "pick")=false from rfl,if_neg ay,wm];dsimp only;rw[Z0,j4,cs0,Zt,show (("row":Str) == "row")=true from rfl,if_pos rfl,Zd,ZP,JZ,JZ,ZU,zl,zH,ZF,j5,bOk,Kd.ts_map];have ec:zL (zt 0) zQ (za 1 ca (z9 (vE 0) (ze))) 1 [] [.vl (.tup [.str "row",.tup (ks.map Kd.t)]),.un,.un] (ks.map Kd.t)= .ok ((ks.map Kd.all).map T.lst):=by
  unfold zL;rw[if_pos (by rw[af];omega)]
  show quiet (zy (zt 0) zQ _ (ks.map Kd.t) [.un])=_;have:∀(ks:List Kd) (x:Sl),(∀k∈ks,k.Ok d)->zy (zt 0) zQ (za 1 ca (z9 (vE 0) (ze))) (ks.map Kd.t) [x]= .ok ((ks.map Kd.all).map T.lst):=by
   intro ks
   induction ks with
   | nil=>intro _ _;rfl
   | cons k ks ih=>
    intro x hk;have e1:zy (zt 0) zQ (za 1 ca (z9 (vE 0) (ze))) ((k :: ks).map Kd.t) [x]=(za 1 ca (z9 (vE 0) (ze)) [.vl k.t]).bind λv=>(zy (zt 0) zQ (za 1 ca (z9 (vE 0) (ze))) (ks.map Kd.t) [.vl k.t]).bind λvs=> .ok (v :: vs):=rfl;rw[e1,zl,v0,bOk,H k (hk k ae),bOk,ih _ λk' hk' =>hk k' (ab _ hk')];rfl
  rw[this ks .un h3];rfl
 have hrow:=jL ks;have er:f_n [.lst ((ks.map Kd.all).map T.lst)]= .ok (.lst (wQ (ks.map Kd.all))):=qd _ (by rw[af];omega) (λl hl=>by
  obtain⟨k,hk,rfl⟩:=aq.mp hl;exact Zw d k (h3 k hk)) (by
  rw[aF];show prd (ks.map λk=>k.all.length)<=bnd;omega)
 show zg (match ((((R.ok (ks.map Kd.t)).bind λts=>(zL (zt 0) zQ (za 1 ca (z9 (vE 0) (ze))) 1 [] [.vl (.tup [.str "row",.tup (ks.map Kd.t)]),.un,.un] ts).bind λvs=> .ok (.lst vs)).bind λx=>f_n [x]).s λt=> .rt t) with | .nx ρ' =>_ | r=>r)=_
 rw[bOk,ec,bOk,bOk,er,Kd.all,Kd.alls_map];rfl
theorem vm {ca:List T->R T}(d:Nat)(k:Kd)(lo hi:Nat)(h:(Kd.many k lo hi).Ok (d+1))(hl:(Kd.many k lo hi).all.length<=1000000)(H:∀k' :Kd,k'.Ok d->ca [k'.t]= .ok (.lst k'.all)):zg (b_c ca f_n (en0 3 [(Kd.many k lo hi).t]))= .ok (.lst (Kd.many k lo hi).all):=by
 have hb1:bnd=16777216:=rfl;have e:zg (b_c ca f_n (en0 3 [(Kd.many k lo hi).t]))=zg (b_c ca f_n [.vl (Kd.many k lo hi).t,.un,.un]):=rfl;rw[e,b_c,Z0,j4];obtain⟨h1,h2,h3⟩:=h;have hml:=ji k lo hi;simp only[Kd.t];rw[cs0,Zt,show (("many":Str) == "whole")=false from rfl,if_neg ay,wm];dsimp only;rw[Z0,j4,cs0,Zt,show (("many":Str) == "pick")=false from rfl,if_neg ay,wm];dsimp only;rw[Z0,j4,cs0,Zt,show (("many":Str) == "row")=false from rfl,if_neg ay,wm];dsimp only;have e0:uN 1 (ze) [.vl (.tup [.str "many",k.t,.int (lo:Int),.int (hi:Int)]),.un,.un]= .nx [.vl (.tup [.str "many",k.t,.int (lo:Int),.int (hi:Int)]),.ow [],.un]:=rfl;rw[Z0,e0];dsimp only;obtain⟨y,el⟩:=WM (k:=k) (lo:=lo) (H k h3) (Zw d k h3) (a:= .str "many") (b:= .int (lo:Int)) (c:= .int (hi:Int)) (aX (hi+1 - lo)) [] .un (λj hj=>by have:=bE.mp hj;omega) (gX hml hl)
 have e1:=vj (ca:=ca) (t:=k.t) h1 h2 el;rw[bP]at e1;rw[zd e1,Kd.all];rfl
theorem vn {ca:List T->R T}(d:Nat)(k:Kd)(h:k.Ok (d+1))(hl:k.all.length<=1000000)(H:∀k' :Kd,k'.Ok d->ca [k'.t]= .ok (.lst k'.all)):zg (b_c ca f_n (en0 3 [k.t]))= .ok (.lst k.all):=by
 cases k with
 | whole lo hi=>exact qg d lo hi h hl H
 | pick cs=>exact vk d cs h hl H
 | row ks=>exact Xo d ks h hl H
 | many k lo hi=>exact vm d k lo hi h hl H
theorem qh:∀(d n:Nat),d<=n->d<=3->∀k:Kd,k.Ok d->k.all.length<=1000000->S_c n 0 [k.t]= .ok (.lst k.all)
 | 0,_,_,_,_,h,_=>h.elim
 | d+1,0,hn,_,_,_,_=>by omega
 | d+1,n+1,hn,hd,k,h,hl=>by
  have e:S_c (n+1) 0 [k.t]=zg (b_c (S_c n 0) f_n (en0 3 [k.t])):=rfl;rw[e];refine vn d k h hl λk' hk' =>qh d n (by omega) (by omega) k' hk' ?_
  have h1:=jn d k' hk';have:mx d<=1000000:=by
   have:d=0\/d=1\/d=2:=by omega
   rcases this with rfl | rfl | rfl <;> decide
  omega
theorem in2 {x a b:Str}{r:List T}{ρ:En}:zk inC (zc ixT (vE 0) (cE (.int 0))) (Z4 (z9 (cE (.str a)) (z9 (cE (.str b)) (ze)))) (.vl (.tup (.str x :: r)) :: ρ)=inC (.str x) (.tup [.str a,.str b]):=by
 rw[zu,zh,v0,bOk,Z3,bOk,at0,bOk,W7 Z3 Z3,bOk]
theorem wS {g:En->R Bool}{f1 f2:En->RS}{ρ:En}(h:g ρ= .ok true):ifS g f1 f2 ρ=f1 ρ:=by rw[j4,h,Zt,if_pos rfl]
theorem if_f {g:En->R Bool}{f1 f2:En->RS}{ρ:En}(h:g ρ= .ok false):ifS g f1 f2 ρ=f2 ρ:=by rw[j4,h,Zt,if_neg ay]
theorem zq {g:En->R Bool}{f1:En->RS}{ρ:En}(h:g ρ= .ok false):ifS g f1 nxS ρ= .nx ρ:=by rw[if_f h];rfl
theorem zC {i:Nat}{f:En->R T}{ρ:En}{t:T}(h:f ρ= .ok t):zD i f ρ= .nx (ρ.set i (.vl t)):=by rw[JC,h,Zt]
theorem zi {f:En->R T}{ρ:En}{t:T}(h:f (frz ρ)= .ok t):zn f ρ= .rt t:=by rw[Zd,h,Zt]
theorem jV {g:T->En->R En}{fb:En->RS}{t:T}{ts:List T}{ρ ρ1 ρ2:En}(hg:g t ρ= .ok ρ1)(hb:fb ρ1= .nx ρ2):ZA g fb (t :: ts) ρ=ZA g fb ts ρ2:=by
 rw[ZA,hg];dsimp only;rw[hb]
theorem setg (i:Nat)(t:T)(ρ:En):zt i t ρ= .ok (ρ.set i (.vl t)):=rfl
theorem zO {f g:En->RS}{ρ:En}{t:T}(h:f ρ= .rt t):zj f g ρ= .rt t:=by rw[Z0,h]
theorem qi {i j:Nat}(h:i < 2 ^ 60):zT (.int (i:Int)) (.int (j:Int))= .ok (.int ((i*j:Nat):Int)):=by
 rw[qb _ _ (.inl ⟨by omega,by omega⟩),eJ]
theorem gY {d n:Nat}(h:n<=mx d)(hd:d<=3):n < 2 ^ 60:=by
 have:d=0\/d=1\/d=2\/d=3:=by omega
 have h3:mx 3 < 2 ^ 60:=by decide
 have h2:mx 2 < 2 ^ 60:=by decide
 have h1:mx 1 < 2 ^ 60:=by decide
 have h0:mx 0 < 2 ^ 60:=by decide
 rcases this with rfl | rfl | rfl | rfl <;> omega
theorem U4 {a b:Sl}:∀(ns:List Nat) (m:Nat) (x y:Sl),(∀n∈ns,1<=n)->m*prd ns < 2 ^ 60->∃x',ZA (zt 3) (zD 2 (zc zT (vE 2) (vE 3))) (ns.map λ(n:Nat)=>T.int (n:Int)) [a,b,.vl (.int (m:Int)),x,y]= .nx [a,b,.vl (.int ((m*prd ns:Nat):Int)),x',y]
 | [],m,x,y,_,_=>⟨x,by simp[ZA,prd]⟩
 | n :: ns,m,x,y,hp,hb=>by
  have hpr:=JF (ns:=ns) λk hk=>hp k (ab _ hk);have hn:=hp n ae;have hmm:m<=m*prd (n :: ns):=c_ _ (db hn hpr);have hb2:m < 2 ^ 60:=bN hmm hb;rw[prd,← dk]at hb;obtain⟨x',ih⟩:=U4 (a:=a) (b:=b) ns (m*n) (.vl (.int (n:Int))) y (λk hk=>hp k (ab _ hk)) hb;refine⟨x', ?_⟩;have es:zD 2 (zc zT (vE 2) (vE 3)) [a,b,.vl (.int (m:Int)),.vl (.int (n:Int)),y]= .nx [a,b,.vl (.int ((m*n:Nat):Int)),.vl (.int (n:Int)),y]:=by
   rw[JC,zh,v2,bOk,v3,bOk,qi hb2,Zt];rfl
  have s3:zt 3 (T.int (n:Int)) [a,b,.vl (.int (m:Int)),x,y]= .ok [a,b,.vl (.int (m:Int)),.vl (.int (n:Int)),y]:=rfl;rw[ar,jV s3 es,prd,← dk];exact ih
theorem U5:∀(d:Nat) (lo hi:Int),(Kd.whole lo hi).Ok (d+1)->(Kd.whole lo hi).Ok 1
 | _,_,_,h=>h
theorem vo:∀(d:Nat) (cs:List (Str×Int)),(Kd.pick cs).Ok (d+1)->(Kd.pick cs).Ok 1
 | _,_,h=>h
theorem WN {cs:List T->R T}(k:Kd)(h:k.Ok 1){x:Str}{r:List T}(ht:k.t= .tup (.str x :: r))(hx:inC (.str x) (.tup [.str "whole",.str "pick"])= .ok true):zg (b_i (f_c 8) cs (en0 5 [k.t]))= .ok (.int (k.all.length:Int)):=by
 have ha:f_c 8 [k.t]= .ok (.lst k.all):=qh 1 8 (by omega) (by omega) k h (ap (jn 1 k h) (by decide))
 have e:zg (b_i (f_c 8) cs (en0 5 [k.t]))=zg (b_i (f_c 8) cs [.vl k.t,.un,.un,.un,.un]):=rfl;have e1:zk inC (zc ixT (vE 0) (cE (.int 0))) (Z4 (z9 (cE (.str "whole")) (z9 (cE (.str "pick")) (ze)))) [.vl k.t,.un,.un,.un,.un]= .ok true:=by
  rw[ht,in2,hx]
 have e2:zn (ap1 ZO (za 1 (f_c 8) (z9 (vE 0) (ze)))) [.vl k.t,.un,.un,.un,.un]= .rt (.int (k.all.length:Int)):=by
  refine zi ?_;rw[ZP,Zs,zl,v0,bOk,ha,bOk,gF]
 rw[e,b_i,zO (by rw[wS e1,e2])]
 rfl
theorem z24 (b:Bool):b2 b=(iv b:Int):=by cases b <;> rfl
theorem vp {cs:List T->R T}{d:Nat}(hd:d+1<=3)(ks:List Kd)(h:(Kd.row ks).Ok (d+1))(H:∀k:Kd,k.Ok d->cs [k.t]= .ok (.int (k.all.length:Int))):zg (b_i (f_c 8) cs (en0 5 [(Kd.row ks).t]))= .ok (.int ((Kd.row ks).all.length:Int)):=by
 have hlt:=gY (jn (d+1) (.row ks) h) hd;rw[jL]at hlt ⊢;obtain⟨h1,h2,h3⟩:=h;simp only[Kd.t,Kd.ts_map];have e:zg (b_i (f_c 8) cs (en0 5 [.tup [.str "row",.tup (ks.map Kd.t)]]))=zg (b_i (f_c 8) cs [.vl (.tup [.str "row",.tup (ks.map Kd.t)]),.un,.un,.un,.un]):=rfl;have e1:zk inC (zc ixT (vE 0) (cE (.int 0))) (Z4 (z9 (cE (.str "whole")) (z9 (cE (.str "pick")) (ze)))) [.vl (.tup [.str "row",.tup (ks.map Kd.t)]),.un,.un,.un,.un]= .ok false:=by
  rw[in2];rfl
 have ec:zL (zt 0) zQ (za 1 cs (z9 (vE 0) (ze))) 1 [] [.vl (.tup [.str "row",.tup (ks.map Kd.t)]),.un,.un,.un,.un] (ks.map Kd.t)= .ok ((ks.map λk=>k.all.length).map λ(n:Nat)=>T.int (n:Int)):=by
  unfold zL;rw[if_pos (by rw[af];exact ap h2 (by decide))]
  have:∀(ks:List Kd) (x:Sl),(∀k∈ks,k.Ok d)->zy (zt 0) zQ (za 1 cs (z9 (vE 0) (ze))) (ks.map Kd.t) [x]= .ok ((ks.map λk=>k.all.length).map λ(n:Nat)=>T.int (n:Int)):=by
   intro ks
   induction ks with
   | nil=>intro _ _;rfl
   | cons k ks ih=>
    intro x hk;have e1:zy (zt 0) zQ (za 1 cs (z9 (vE 0) (ze))) ((k :: ks).map Kd.t) [x]=(za 1 cs (z9 (vE 0) (ze)) [.vl k.t]).bind λv=>(zy (zt 0) zQ (za 1 cs (z9 (vE 0) (ze))) (ks.map Kd.t) [.vl k.t]).bind λvs=> .ok (v :: vs):=rfl;rw[e1,zl,v0,bOk,H k (hk k ae),bOk,ih _ λk' hk' =>hk k' (ab _ hk')];rfl
  show quiet (zy (zt 0) zQ _ (ks.map Kd.t) [.un])=_;rw[this ks .un h3];rfl
 have e2:ifE (zk eqC (zc ixT (vE 0) (cE (.int 0))) (cE (.str "row"))) (zJ (Zv (zc ixT (vE 0) (cE (.int 1)))) (zt 0) (zQ) (za 1 cs (z9 (vE 0) (ze))) 1 []) (jz (ze)) [.vl (.tup [.str "row",.tup (ks.map Kd.t)]),.un,.un,.un,.un]= .ok (.lst ((ks.map λk=>k.all.length).map λ(n:Nat)=>T.int (n:Int))):=by
  unfold ifE;rw[cs0,bOk,show (("row":Str) == "row")=true from rfl,if_pos rfl,zH,ZF,j5,bOk];show ((R.ok (ks.map Kd.t)).bind _)=_;rw[bOk,ec,bOk]
 obtain⟨x',el⟩:=U4 (a:= .vl (.tup [.str "row",.tup (ks.map Kd.t)])) (b:= .vl (.lst ((ks.map λk=>k.all.length).map λ(n:Nat)=>T.int (n:Int)))) (ks.map λk=>k.all.length) 1 .un .un (λn hn=>by
  obtain⟨k,hk,rfl⟩:=aq.mp hn;exact Zw d k (h3 k hk)) (by rw[cn];exact hlt)
 rw[cn]at el;have e3:jk (Zv (vE 1)) (zt 3) (zD 2 (zc zT (vE 2) (vE 3))) [.vl (.tup [.str "row",.tup (ks.map Kd.t)]),.vl (.lst ((ks.map λk=>k.all.length).map λ(n:Nat)=>T.int (n:Int))),.vl (.int 1),.un,.un]=_:=el;have e4:zk eqC (zc ixT (vE 0) (cE (.int 0))) (cE (.str "many")) [.vl (.tup [.str "row",.tup (ks.map Kd.t)]),.vl (.lst ((ks.map λk=>k.all.length).map λ(n:Nat)=>T.int (n:Int))),.vl (.int ((prd (ks.map λk=>k.all.length):Nat):Int)),x',.un]= .ok false:=by
  rw[cs0];rfl
 rw[e,b_i,zd (zq e1),zd (zC e2)];have s1:([.vl (.tup [.str "row",.tup (ks.map Kd.t)]),.un,.un,.un,.un]:En).set 1 (.vl (.lst ((ks.map λk=>k.all.length).map λ(n:Nat)=>T.int (n:Int))))=[.vl (.tup [.str "row",.tup (ks.map Kd.t)]),.vl (.lst ((ks.map λk=>k.all.length).map λ(n:Nat)=>T.int (n:Int))),.un,.un,.un]:=rfl;rw[s1,zd (zC Z3)];have s2:([.vl (.tup [.str "row",.tup (ks.map Kd.t)]),.vl (.lst ((ks.map λk=>k.all.length).map λ(n:Nat)=>T.int (n:Int))),.un,.un,.un]:En).set 2 (.vl (.int 1))=[.vl (.tup [.str "row",.tup (ks.map Kd.t)]),.vl (.lst ((ks.map λk=>k.all.length).map λ(n:Nat)=>T.int (n:Int))),.vl (.int 1),.un,.un]:=rfl;rw[s2,zd e3,zd (zq e4)];rfl
theorem gZ {f g:En->R T}{ρ:En}{i j c:Int}(hf:f ρ= .ok (.int i))(hg:g ρ= .ok (.int j)):chE leC leC f (cE (.int c)) g ρ= .ok (.bl (decide (i<=c) && decide (c<=j))):=by
 rw[Xi,hf,bOk,Z3,bOk,ui,bOk,hg];cases decide (i<=c) <;> rfl
theorem jW (a b:Nat):decide ((a:Int)<=(b:Int))=decide (a<=b):=by
 by_cases h:a<=b
 ·rw[decide_eq_true h];exact decide_eq_true (by omega)
 ·rw[decide_eq_false h];exact decide_eq_false (by omega)
theorem qj (a b:Nat):((a:Int) == (b:Int))=(a == b):=by
 by_cases h:a=b
 ·subst h;simp
 ·rw[beq_eq_false_iff_ne.mpr h,beq_eq_false_iff_ne];omega
theorem z0u {f:En->R T}{ρ:En}{b:Bool}(h:f ρ= .ok (.bl b)):ap1 W5 f ρ= .ok (.int ((iv b:Nat):Int)):=by
 rw[Zs,h,bOk];show R.ok (T.int (b2 b))=_;rw[z24]
theorem qk {f g:En->R T}{ρ:En}{i j:Nat}(hf:f ρ= .ok (.int (i:Int)))(hg:g ρ= .ok (.int (j:Int))):zc zA f g ρ= .ok (.int ((i+j:Nat):Int)):=by
 rw[zh,hf,bOk,hg,bOk,Ze,Int.natCast_add]
theorem jM {f g:En->R T}{ρ:En}{i j:Nat}(h:i < 2 ^ 60)(hf:f ρ= .ok (.int (i:Int)))(hg:g ρ= .ok (.int (j:Int))):zc zT f g ρ= .ok (.int ((i*j:Nat):Int)):=by
 rw[zh,hf,bOk,hg,bOk,qi h]
theorem Xp {d n:Nat}(h:n<=mx d)(hd:d+1<=3)(h0:1<=d):n*n*n < 2 ^ 60/\n*n < 2 ^ 60/\n < 2 ^ 60:=by
 have h1:n<=70644:=by
  have:d=1\/d=2:=by omega
  have h2:mx 2=70644:=by decide
  have h1:mx 1=41:=by decide
  rcases this with rfl | rfl <;> omega
 have h2:n*n<=70644*70644:=bG h1 h1;have h3:n*n*n<=70644*70644*70644:=bG h2 h1;have h4:70644*70644*70644 < 2 ^ 60:=by decide
 have h5:70644*70644 < 2 ^ 60:=by decide
 have h6:70644 < 2 ^ 60:=by decide
 exact⟨bN h3 h4,bN h2 h5,bN h1 h6⟩
abbrev mt (t:T)(lo hi:Nat):T:= .tup [.str "many",t,.int (lo:Int),.int (hi:Int)]
theorem v4' {t:T}{a b c d:Sl}{ρ:En}:vE 4 (a :: b :: c :: d :: .vl t :: ρ)= .ok t:=rfl
theorem ql {t:T}{a x:Sl}{lo hi n:Nat}(h3:n*n*n < 2 ^ 60)(h2:n*n < 2 ^ 60)(h1:n < 2 ^ 60):
  zj (zD 2 (zc zA (ap1 W5 (jY eqC (zc ixT (vE 0) (cE (.int 2))) (cE (.int 0)))) (zc zT (vE 4) (ap1 W5 (chE leC leC (zc ixT (vE 0) (cE (.int 2))) (cE (.int 1)) (zc ixT (vE 0) (cE (.int 3))))))))
  (zj (zD 2 (zc zA (vE 2) (zc zT (zc zT (vE 4) (vE 4)) (ap1 W5 (chE leC leC (zc ixT (vE 0) (cE (.int 2))) (cE (.int 2)) (zc ixT (vE 0) (cE (.int 3))))))))
  (zD 2 (zc zA (vE 2) (zc zT (zc zT (zc zT (vE 4) (vE 4)) (vE 4)) (ap1 W5 (jY eqC (zc ixT (vE 0) (cE (.int 3))) (cE (.int 3))))))))
  [.vl (mt t lo hi),a,.vl (.int 1),x,.vl (.int (n:Int))]= .nx [.vl (mt t lo hi),a,.vl (.int ((iv (lo == 0)+n*iv (decide (lo<=1) && decide (1<=hi))+n*n*iv (decide (lo<=2) && decide (2<=hi))+n*n*n*iv (hi == 3):Nat):Int)),x,.vl (.int (n:Int))]:=by
 have le1:∀{p q r s:Sl},ap1 W5 (chE leC leC (zc ixT (vE 0) (cE (.int 2))) (cE (.int 1)) (zc ixT (vE 0) (cE (.int 3)))) [.vl (mt t lo hi),p,q,r,s]= .ok (.int ((iv (decide (lo<=1) && decide (1<=hi)):Nat):Int)):=λ{p q r s}=>z0u (by
  rw[gZ (c:=1) W8 ya];rw[show decide ((lo:Int)<=1)=decide (lo<=1) from jW lo 1,show decide ((1:Int)<=(hi:Int))=decide (1<=hi) from jW 1 hi])
 have le2:∀{p q r s:Sl},ap1 W5 (chE leC leC (zc ixT (vE 0) (cE (.int 2))) (cE (.int 2)) (zc ixT (vE 0) (cE (.int 3)))) [.vl (mt t lo hi),p,q,r,s]= .ok (.int ((iv (decide (lo<=2) && decide (2<=hi)):Nat):Int)):=λ{p q r s}=>z0u (by
  rw[gZ (c:=2) W8 ya];rw[show decide ((lo:Int)<=2)=decide (lo<=2) from jW lo 2,show decide ((2:Int)<=(hi:Int))=decide (2<=hi) from jW 2 hi])
 have eq0:∀{p q r s:Sl},ap1 W5 (jY eqC (zc ixT (vE 0) (cE (.int 2))) (cE (.int 0))) [.vl (mt t lo hi),p,q,r,s]= .ok (.int ((iv (lo == 0):Nat):Int)):=λ{p q r s}=>z0u (by
  rw[j8,W8,bOk,Z3,bOk,eqI,bOk,show ((lo:Int) == 0)=(lo == 0) from qj lo 0])
 have eq3:∀{p q r s:Sl},ap1 W5 (jY eqC (zc ixT (vE 0) (cE (.int 3))) (cE (.int 3))) [.vl (mt t lo hi),p,q,r,s]= .ok (.int ((iv (hi == 3):Nat):Int)):=λ{p q r s}=>z0u (by
  rw[j8,ya,bOk,Z3,bOk,eqI,bOk,show ((hi:Int) == 3)=(hi == 3) from qj hi 3])
 have a1:=zC (i:=2) (qk (eq0 (p:=a) (q:= .vl (.int 1)) (r:=x) (s:= .vl (.int (n:Int)))) (jM h1 v4' le1));have a1:zD 2 (zc zA (ap1 W5 (jY eqC (zc ixT (vE 0) (cE (.int 2))) (cE (.int 0)))) (zc zT (vE 4) (ap1 W5 (chE leC leC (zc ixT (vE 0) (cE (.int 2))) (cE (.int 1)) (zc ixT (vE 0) (cE (.int 3))))))) [.vl (mt t lo hi),a,.vl (.int 1),x,.vl (.int (n:Int))]= .nx [.vl (mt t lo hi),a,.vl (.int ((iv (lo == 0)+n*iv (decide (lo<=1) && decide (1<=hi)):Nat):Int)),x,.vl (.int (n:Int))]:=a1;rw[zd a1];generalize iv (lo == 0)+n*iv (decide (lo<=1) && decide (1<=hi))=m1;have a2:=zC (i:=2) (qk (v2 (t:= .int (m1:Int)) (a:= .vl (mt t lo hi)) (b:=a) (ρ:=[x,.vl (.int (n:Int))])) (jM h2 (jM h1 v4' v4') le2));have a2:zD 2 (zc zA (vE 2) (zc zT (zc zT (vE 4) (vE 4)) (ap1 W5 (chE leC leC (zc ixT (vE 0) (cE (.int 2))) (cE (.int 2)) (zc ixT (vE 0) (cE (.int 3))))))) [.vl (mt t lo hi),a,.vl (.int (m1:Int)),x,.vl (.int (n:Int))]= .nx [.vl (mt t lo hi),a,.vl (.int ((m1+n*n*iv (decide (lo<=2) && decide (2<=hi)):Nat):Int)),x,.vl (.int (n:Int))]:=a2;rw[zd a2];generalize m1+n*n*iv (decide (lo<=2) && decide (2<=hi))=m2;have a3:=zC (i:=2) (qk (v2 (t:= .int (m2:Int)) (a:= .vl (mt t lo hi)) (b:=a) (ρ:=[x,.vl (.int (n:Int))])) (jM h3 (jM h2 (jM h1 v4' v4') v4') eq3));exact a3
theorem qm {cs:List T->R T}{d:Nat}(hd:d+1<=3)(k:Kd)(lo hi:Nat)(h:(Kd.many k lo hi).Ok (d+1))(H:∀k:Kd,k.Ok d->cs [k.t]= .ok (.int (k.all.length:Int))):zg (b_i (f_c 8) cs (en0 5 [(Kd.many k lo hi).t]))= .ok (.int ((Kd.many k lo hi).all.length:Int)):=by
 obtain⟨h1,h2,h3⟩:=h;have hd0:1<=d:=by
  cases d with
  | zero=>exact h3.elim
  | succ d=>omega
 obtain⟨c3,c2,c1⟩:=Xp (jn d k h3) hd hd0;rw[ji,Xm _ h1 h2];simp only[Kd.t];have hk:=H k h3;generalize k.all.length=n at*;generalize k.t=t at*;have e:zg (b_i (f_c 8) cs (en0 5 [mt t lo hi]))=zg (b_i (f_c 8) cs [.vl (mt t lo hi),.un,.un,.un,.un]):=rfl;have e1:zk inC (zc ixT (vE 0) (cE (.int 0))) (Z4 (z9 (cE (.str "whole")) (z9 (cE (.str "pick")) (ze)))) [.vl (mt t lo hi),.un,.un,.un,.un]= .ok false:=by
  rw[in2];rfl
 have e2:ifE (zk eqC (zc ixT (vE 0) (cE (.int 0))) (cE (.str "row"))) (zJ (Zv (zc ixT (vE 0) (cE (.int 1)))) (zt 0) (zQ) (za 1 cs (z9 (vE 0) (ze))) 1 []) (jz (ze)) [.vl (mt t lo hi),.un,.un,.un,.un]= .ok (.lst []):=by
  unfold ifE;rw[cs0,bOk,show (("many":Str) == "row")=false from rfl,if_neg ay];rfl
 have s1:([.vl (mt t lo hi),.un,.un,.un,.un]:En).set 1 (.vl (.lst []))=[.vl (mt t lo hi),.vl (.lst []),.un,.un,.un]:=rfl;have s2:([.vl (mt t lo hi),.vl (.lst []),.un,.un,.un]:En).set 2 (.vl (.int 1))=[.vl (mt t lo hi),.vl (.lst []),.vl (.int 1),.un,.un]:=rfl;have e3:jk (Zv (vE 1)) (zt 3) (zD 2 (zc zT (vE 2) (vE 3))) [.vl (mt t lo hi),.vl (.lst []),.vl (.int 1),.un,.un]= .nx [.vl (mt t lo hi),.vl (.lst []),.vl (.int 1),.un,.un]:=rfl;have e4:zk eqC (zc ixT (vE 0) (cE (.int 0))) (cE (.str "many")) [.vl (mt t lo hi),.vl (.lst []),.vl (.int 1),.un,.un]= .ok true:=by
  rw[cs0];rfl
 have e5:za 1 cs (z9 (zc ixT (vE 0) (cE (.int 1))) (ze)) [.vl (mt t lo hi),.vl (.lst []),.vl (.int 1),.un,.un]= .ok (.int (n:Int)):=by
  rw[zl,j5,bOk,hk]
 have s5:([.vl (mt t lo hi),.vl (.lst []),.vl (.int 1),.un,.un]:En).set 4 (.vl (.int (n:Int)))=[.vl (mt t lo hi),.vl (.lst []),.vl (.int 1),.un,.vl (.int (n:Int))]:=rfl;have e6:=ql (t:=t) (a:= .vl (.lst [])) (x:= .un) (lo:=lo) (hi:=hi) c3 c2 c1;rw[e,b_i,zd (zq e1),zd (zC e2),s1,zd (zC Z3),s2,zd e3];have e7:∀(P:En->RS),ifS (zk eqC (zc ixT (vE 0) (cE (.int 0))) (cE (.str "many"))) (zj (zD 4 (za 1 cs (z9 (zc ixT (vE 0) (cE (.int 1))) (ze)))) P) nxS [.vl (mt t lo hi),.vl (.lst []),.vl (.int 1),.un,.un]=P [.vl (mt t lo hi),.vl (.lst []),.vl (.int 1),.un,.vl (.int (n:Int))]:=λP=>by
  rw[wS e4,zd (zC e5),s5]
 rw[zd (Eq.trans (e7 _) e6)];rfl
theorem qo:∀(d n:Nat),d<=n->d<=3->∀k:Kd,k.Ok d->S_i n 0 [k.t]= .ok (.int (k.all.length:Int))
 | 0,_,_,_,_,h=>h.elim
 | d+1,0,hn,_,_,_=>by omega
 | d+1,n+1,hn,hd,k,h=>by
  have e:S_i (n+1) 0 [k.t]=zg (b_i (f_c 8) (S_i n 0) (en0 5 [k.t])):=rfl;rw[e];have H:∀k:Kd,k.Ok d->S_i n 0 [k.t]= .ok (.int (k.all.length:Int)):=λk' hk' =>qo d n (by omega) (by omega) k' hk'
  cases k with
  | whole lo hi=>exact WN (.whole lo hi) (U5 d lo hi h) (x:="whole") (r:=[.int lo,.int hi]) (by simp only[Kd.t]) rfl
  | pick cs=>exact WN (.pick cs) (vo d cs h) (x:="pick") (r:=[.tup (cs.map Zu)]) (by simp only[Kd.t]) rfl
  | row ks=>exact vp (by omega) ks h H
  | many k lo hi=>exact qm (by omega) k lo hi h H
theorem Ok.mono:∀(d:Nat) (k:Kd),k.Ok d->k.Ok (d+1)
 | 0,_,h=>h.elim
 | d+1,.whole _ _,h=>h
 | d+1,.pick _,h=>h
 | d+1,.row ks,h=>⟨h.1,h.2.1,λk hk=>Ok.mono d k (h.2.2 k hk)⟩
 | d+1,.many k _ _,h=>⟨h.1,h.2.1,Ok.mono d k h.2.2⟩
theorem Xq (j:Int):zT (.int 700) (.int j)= .ok (.int (700*j)):=qb _ _ (.inl ⟨by decide,by decide⟩)
theorem G1 (ns:List Int)(d:Nat)(h1:1<=d)(h8:d<=8)(k:Int)(h0:0<=k):∃q:Kd,f_o 8 [scr ns,.int k,.int (d:Int)]= .ok q.t/\q.Ok d:=by
 obtain⟨t,ht,hi⟩:=ul ns d 8 h8 h1 k h0;obtain⟨q,rfl,hq⟩:=uq d t hi;exact⟨q,ht,hq⟩
abbrev smB:En->RS:=zj (ifS (zk leC (za 1 (f_i 8) (z9 (vE 3) (ze))) (vB 2)) (zn (vE 3)) (nxS))
  (zD 3 (za 3 (f_o 8) (z9 (vE 0) (z9 (zc zA (zc zA (vE 1) (cE (.int 500))) (zc zT (cE (.int 700)) (vE 4))) (z9 (cE (.int 2)) (ze))))))
abbrev en5 (ns:List Int)(a:Int)(m:Nat)(k:Kd)(x:Sl):En:=[.vl (scr ns),.vl (.int a),.vl (.int (m:Int)),.vl k.t,x]
theorem qp {ns:List Int}{a:Int}{m:Nat}{k:Kd}{x:Sl}(hk:k.Ok 3):zk leC (za 1 (f_i 8) (z9 (vE 3) (ze))) (vB 2) (en5 ns a m k x)= .ok (decide (k.all.length<=m)):=by
 have e:f_i 8 [k.t]= .ok (.int (k.all.length:Int)):=qo 3 8 (by omega) (by omega) k hk
 rw[zu,zl,v3,bOk,e,bOk,w2,bOk,ui,jW]
theorem Xr (ns:List Int){a:Int}{m:Nat}(ha:0<=a){k:Kd}(hk:k.Ok 3)(j:Nat):(k.all.length<=m/\smB (en5 ns a m k (.vl (.int (0+(j:Int)))))= .rt k.t)\/∃k' :Kd,k'.Ok 3/\smB (en5 ns a m k (.vl (.int (0+(j:Int)))))= .nx (en5 ns a m k' (.vl (.int (0+(j:Int))))):=by
 by_cases h:k.all.length<=m
 ·refine .inl ⟨h, ?_⟩;unfold smB;refine zO ?_;rw[wS (by rw[qp hk,decide_eq_true h])]
  exact zi rfl
 ·obtain⟨q,hq,ho⟩:=G1 ns 2 (by omega) (by omega) (a+500+700*(0+(j:Int))) (by omega)
  refine .inr ⟨q,Ok.mono 2 q ho, ?_⟩;unfold smB;rw[zd (zq (by rw[qp hk,decide_eq_false h]))]
  have hq:f_o 8 [scr ns,.int (a+500+700*(0+(j:Int))),.int 2]= .ok q.t:=hq;have e:za 3 (f_o 8) (z9 (vE 0) (z9 (zc zA (zc zA (vE 1) (cE (.int 500))) (zc zT (cE (.int 700)) (vE 4))) (z9 (cE (.int 2)) (ze)))) (en5 ns a m k (.vl (.int (0+(j:Int)))))= .ok q.t:=by
   rw[ZE,v0,bOk,zh,zh,v1,bOk,Z3,bOk,Ze,bOk,zh,Z3,bOk,v4,bOk,Xq,bOk,Ze,bOk,Z3,bOk,hq]
  rw[zC e];rfl
theorem G4 {g:T->En->R En}{fb:En->RS}{t:T}{ts:List T}{ρ ρ1:En}{r:T}(hg:g t ρ= .ok ρ1)(hb:fb ρ1= .rt r):ZA g fb (t :: ts) ρ= .rt r:=by
 rw[ZA,hg];dsimp only;rw[hb]
theorem qr (ns:List Int){a:Int}{m:Nat}(ha:0<=a):∀(js:List Nat) (k:Kd) (x:Sl),k.Ok 3->(∃k' :Kd,k'.Ok 3/\k'.all.length<=m/\ZA (zt 4) smB (js.map λ(j:Nat)=>T.int (0+(j:Int))) (en5 ns a m k x)= .rt k'.t)\/
  ∃(k' :Kd) (x' :Sl),k'.Ok 3/\ZA (zt 4) smB (js.map λ(j:Nat)=>T.int (0+(j:Int))) (en5 ns a m k x)= .nx (en5 ns a m k' x')
 | [],k,x,hk=> .inr ⟨k,x,hk,rfl⟩
 | j :: js,k,x,hk=>by
  have s3:zt 4 (T.int (0+(j:Int))) (en5 ns a m k x)= .ok (en5 ns a m k (.vl (.int (0+(j:Int))))):=rfl;rw[ar];rcases Xr ns ha (m:=m) hk j with ⟨h1,h2⟩ | ⟨k',h1,h2⟩
  ·exact .inl ⟨k,hk,h1,G4 s3 h2⟩
  ·rw[jV s3 h2];exact qr ns ha js k' _ h1
theorem U6 (ns:List Int)(a:Int)(ha:0<=a)(m:Nat)(hm:4<=m):∃k:Kd,k.Ok 3/\k.all.length<=m/\vi [scr ns,.int a,.int (m:Int)]= .ok k.t:=by
 obtain⟨q,hq,ho⟩:=G1 ns 3 (by omega) (by omega) a ha
 have hq:f_o 8 [scr ns,.int a,.int 3]= .ok q.t:=hq;have e:vi [scr ns,.int a,.int (m:Int)]=zg (z0b (f_o 8) (f_i 8) [.vl (scr ns),.vl (.int a),.vl (.int (m:Int)),.un,.un]):=rfl;have e1:za 3 (f_o 8) (z9 (vE 0) (z9 (vE 1) (z9 (cE (.int 3)) (ze)))) [.vl (scr ns),.vl (.int a),.vl (.int (m:Int)),.un,.un]= .ok q.t:=by
  rw[ZE,v0,bOk,v1,bOk,Z3,bOk,hq]
 have s1:([.vl (scr ns),.vl (.int a),.vl (.int (m:Int)),.un,.un]:En).set 3 (.vl q.t)=en5 ns a m q .un:=rfl;rw[e,z0b,zd (zC e1),s1];rcases qr ns ha (m:=m) (aX 3) q .un ho with ⟨k,h1,h2,h3⟩ | ⟨k,x,h1,h3⟩
 ·refine⟨k,h1,h2, ?_⟩;have e2:jk (j2 (cE (.int 3))) (zt 4) smB (en5 ns a m q .un)= .rt k.t:=h3;rw[zO e2];rfl
 ·have e2:jk (j2 (cE (.int 3))) (zt 4) smB (en5 ns a m q .un)= .nx (en5 ns a m k x):=h3;rw[zd e2];have ec:zk leC (za 1 (f_i 8) (z9 (vE 3) (ze))) (vB 2) (frz (en5 ns a m k x))= .ok (decide (k.all.length<=m)):=qp (x:=QC x) h1
  by_cases h:k.all.length<=m
  ·refine⟨k,h1,h, ?_⟩;rw[zi (t:=k.t)]
   ·rfl
   ·unfold ifE;rw[ec,bOk,decide_eq_true h,if_pos rfl];rfl
  ·refine⟨.whole (-1) 2,⟨by omega,by omega,by omega⟩,by rw[ZV];exact hm, ?_⟩
   rw[zi (t:=(Kd.whole (-1) 2).t)]
   ·rfl
   ·unfold ifE;rw[ec,bOk,decide_eq_false h,if_neg ay,Kd.t];rfl
mutual
def Kd.has:Kd->T->Bool
 | .whole lo hi=>λt=>inR lo hi t
 | .pick cs=>λt=>match t with | .str x=>cs.any λc=>c.1 == x | _=>false
 | .row ks=>λt=>match t with | .tup xs=>xs.length == ks.length && Kd.hass ks xs | _=>false
 | .many k lo hi=>λt=>match t with | .tup xs=>decide (lo<=xs.length) && decide (xs.length<=hi) && xs.all k.has | _=>false
def Kd.hass:List Kd->List T->Bool
 | []=>λ_=>true
 | k :: ks=>λxs=>match xs with | []=>true | x :: xs=>k.has x && Kd.hass ks xs
end
theorem jD:∀(ks:List Kd) (xs:List T),Kd.hass ks xs=(ks.zip xs).all λq=>q.1.has q.2
 | [],_=>by simp[Kd.hass]
 | k :: ks,[]=>by simp[Kd.hass]
 | k :: ks,x :: xs=>by simp[Kd.hass,jD ks xs]
def yc:List (List T)->List T->Prop
 | [],[]=>True
 | l :: ls,x :: xs=>x∈l/\yc ls xs
 | _,_=>False
theorem JH:∀(ls made:List (List T)) (xs:List T),xs∈Zo made ls↔∃a∈made,∃b,yc ls b/\xs=a++b
 | [],made,xs=>by
  rw[Zo];constructor
  ·exact λh=>⟨xs,h,[],trivial,by simp⟩
  ·rintro⟨a,ha,b,hb,rfl⟩
   cases b with
   | nil=>simpa using ha
   | cons=>exact hb.elim
 | l :: ls,made,xs=>by
  rw[Zo,JH ls];constructor
  ·rintro⟨a',ha',b,hb,rfl⟩
   obtain⟨a,ha,hx⟩:=cg.mp ha';obtain⟨x,hl,e⟩:=aq.mp hx;exact⟨a,ha,x :: b,⟨hl,hb⟩,by rw[← e];simp⟩
  ·rintro⟨a,ha,b,hb,rfl⟩
   cases b with
   | nil=>exact hb.elim
   | cons x b=>exact⟨a++[x],cg.mpr ⟨a,ha,aq.mpr ⟨x,hb.1,rfl⟩⟩,b,hb.2,by simp⟩
theorem jE (ls:List (List T))(t:T):t∈wQ ls↔∃xs,yc ls xs/\t= .tup xs:=by
 unfold wQ;rw[aq];constructor
 ·rintro⟨xs,h,rfl⟩
  obtain⟨a,ha,b,hb,rfl⟩:=(JH ls [[]] xs).mp h;rw[aC.mp ha];exact⟨b,hb,rfl⟩
 ·rintro⟨xs,h,rfl⟩
  exact⟨xs,(JH ls [[]] xs).mpr ⟨[],aC.mpr rfl,xs,h,rfl⟩,rfl⟩
theorem jF (l:List T):∀(m:Nat) (xs:List T),yc (ag m l) xs↔xs.length=m/\∀x∈xs,x∈l
 | 0,[]=>by simp[yc]
 | 0,x :: xs=>by simp[yc]
 | m+1,[]=>by simp[yc,aU]
 | m+1,x :: xs=>by
  rw[aU];show x∈l/\yc _ xs↔_;rw[jF l m xs];simp;constructor
  ·rintro⟨a,b,c⟩;exact⟨b,a,c⟩
  ·rintro⟨a,b,c⟩;exact⟨b,a,c⟩
theorem WO:∀(ks:List Kd),(∀k∈ks,∀x,x∈k.all↔k.has x=true)->∀xs,yc (ks.map Kd.all) xs↔(xs.length == ks.length && Kd.hass ks xs)=true
 | [],_,[]=>by simp[yc,Kd.hass]
 | [],_,x :: xs=>by simp[yc]
 | k :: ks,h,[]=>by simp[yc]
 | k :: ks,h,x :: xs=>by
  show x∈k.all/\yc (ks.map Kd.all) xs↔_;rw[WO ks (λk' hk' =>h k' (ab _ hk')) xs,h k ae x];simp[Kd.hass];constructor
  ·rintro⟨a,b,c⟩;exact⟨b,a,c⟩
  ·rintro⟨a,b,c⟩;exact⟨b,a,c⟩
mutual
theorem Za:∀(k:Kd) (x:T),x∈k.all↔k.has x=true
 | .whole lo hi,x=>by
  rw[Kd.all,Kd.has,aq];constructor
  ·rintro⟨i,hi',rfl⟩
   rw[bE]at hi';simp[inR];omega
  ·intro h;obtain⟨i,rfl⟩:=um h;simp[inR]at h;exact⟨(i - lo).toNat,by rw[bE];omega,by congr 1;omega⟩
 | .pick cs,x=>by
  rw[Kd.all,Kd.has,aq];constructor
  ·rintro⟨c,hc,rfl⟩
   simp only[cY];exact⟨c,hc,by simp⟩
  ·intro h;dsimp only at h;split at h
   ·rw[cY]at h;obtain⟨c,hc,e⟩:=h;exact⟨c,hc,by rw[eq_of_beq e]⟩
   ·cases h
 | .row ks,x=>by
  rw[Kd.all,Kd.has,jE,Kd.alls_map];have:=WO ks (U7 ks);constructor
  ·rintro⟨xs,h,rfl⟩
   exact(this xs).mp h
  ·intro h;dsimp only at h;split at h
   ·rename_i xs;exact⟨xs,(this xs).mpr h,rfl⟩
   ·cases h
 | .many k lo hi,x=>by
  rw[Kd.all,Kd.has,cg];constructor
  ·rintro⟨i,hi',h⟩
   rw[jE]at h;obtain⟨xs,h,rfl⟩:=h;rw[jF]at h;rw[bE]at hi';simp only[aj,decide_eq_true_eq,aI];exact⟨⟨by omega,by omega⟩,λy hy=>(Za k y).mp (h.2 y hy)⟩
  ·intro h;dsimp only at h;split at h
   ·rename_i xs;simp only[aj,decide_eq_true_eq,aI]at h;refine⟨xs.length - lo,by rw[bE];omega, ?_⟩
    rw[jE];exact⟨xs,(jF _ _ _).mpr ⟨by omega,λy hy=>(Za k y).mpr (h.2 y hy)⟩,rfl⟩
   ·cases h
theorem U7:∀(ks:List Kd),∀k∈ks,∀x,x∈k.all↔k.has x=true
 | [],_,h=>nomatch h
 | k :: ks,k',h=>by
  rcases ak.mp h with e | h
  ·intro x;rw[e];exact Za k x
  ·exact U7 ks k' h
end
theorem wn {c:List T->R T}:∀(qs:List (Kd×T)) (x y:Sl),(∀q∈qs,c [q.1.t,q.2]= .ok (.bl (q.1.has q.2)))->zy (zN 0 1) zQ (za 2 c (z9 (vE 0) (z9 (vE 1) (ze)))) (qs.map λq=>T.tup [q.1.t,q.2]) [x,y]= .ok (qs.map λq=>T.bl (q.1.has q.2))
 | [],_,_,_=>rfl
 | q :: qs,x,y,h=>by
  have e:za 2 c (z9 (vE 0) (z9 (vE 1) (ze))) [.vl q.1.t,.vl q.2]= .ok (.bl (q.1.has q.2)):=by
   rw[zB,v0,bOk,v1,bOk,h q ae]
  have ih:=wn qs (.vl q.1.t) (.vl q.2) λr hr=>h r (ab _ hr);have e0:zy (zN 0 1) zQ (za 2 c (z9 (vE 0) (z9 (vE 1) (ze)))) ((q :: qs).map λq=>T.tup [q.1.t,q.2]) [x,y]=
   (za 2 c (z9 (vE 0) (z9 (vE 1) (ze))) [.vl q.1.t,.vl q.2]).bind λv=>(zy (zN 0 1) zQ (za 2 c (z9 (vE 0) (z9 (vE 1) (ze)))) (qs.map λq=>T.tup [q.1.t,q.2]) [.vl q.1.t,.vl q.2]).bind λvs=> .ok (v :: vs):=rfl
  rw[e0,e,bOk,ih,bOk,ar]
theorem U8 {α:Type}(p:α->Bool):∀qs:List α,u0 (qs.map λq=>T.bl (p q))=some (qs.all p)
 | []=>rfl
 | q :: qs=>by
  have e:u0 ((q :: qs).map λq=>T.bl (p q))=match u0 (qs.map λq=>T.bl (p q)) with | some j=>some (p q && j) | none=>none:=rfl
  rw[e,U8 p qs];rfl
theorem G5 (ks:List Kd)(xs:List T):Qf (ks.map Kd.t) xs=(ks.zip xs).map λq=>T.tup [q.1.t,q.2]:=by
 unfold Qf;rw[List.zip_map_left,aF];rfl
theorem U9 {c:List T->R T}{s:T}(ks:List Kd)(xs:List T)(hs:j3 s= .ok (ks.map Kd.t))(hl:ks.length<=3)(H:∀q∈ks.zip xs,c [q.1.t,q.2]= .ok (.bl (q.1.has q.2))):
  zg (gA c (en0 2 [s,.tup xs]))= .ok (.bl ((ks.zip xs).all λq=>q.1.has q.2)):=by
 have e:en0 2 [s,.tup xs]=[.vl s,.vl (.tup xs)]:=rfl;have ez:Qg (vE 0) (vE 1) [.vl s,.vl (.tup xs)]= .ok ((ks.zip xs).map λq=>T.tup [q.1.t,q.2]):=by
  show (j3 s).bind _=_;rw[hs,bOk,← G5];rfl
 have hb:((ks.zip xs).map λq=>T.tup [q.1.t,q.2]).length<=bnd:=by
  rw[af,dJ];exact ap (li _ _) (ap hl (by decide))
 have ec:zL (zN 0 1) zQ (za 2 c (z9 (vE 0) (z9 (vE 1) (ze)))) 2 [] [.vl s,.vl (.tup xs)] ((ks.zip xs).map λq=>T.tup [q.1.t,q.2])= .ok ((ks.zip xs).map λq=>T.bl (q.1.has q.2)):=by
  unfold zL;rw[if_pos hb];show quiet (zy _ _ _ _ [.un,.un])=_;rw[wn _ _ _ H];rfl
 rw[e,gA,zi (t:= .bl ((ks.zip xs).all λq=>q.1.has q.2))]
 ·rfl
 ·show ap1 _ _ [.vl s,.vl (.tup xs)]=_;rw[Zs,zH,ez,bOk,ec,bOk,bOk];show (match u0 ((ks.zip xs).map λq=>T.bl (q.1.has q.2)) with | some k=>_ | none=>_)=_
  rw[U8]
theorem Jg (cs:List (Str×Int))(h:cs.length<=4):f_h [(Kd.pick cs).t]= .ok (.lst (cs.map λc=>T.str c.1)):=by
 have e:f_h [(Kd.pick cs).t]=zg (b_h [.vl (.tup [.str "pick",.tup (cs.map Zu)])]):=by rw[Kd.t];rfl
 have hb:(cs.map Zu).length<=bnd:=by rw[af];exact ap h (by decide)
 have ec:zL (zt 0) zQ (zc ixT (vE 0) (cE (.int 0))) 1 [] [.vl (.tup [.str "pick",.tup (cs.map Zu)])] (cs.map Zu)= .ok ((cs.map Zu).map λc=>match c with | .tup (w :: _)=>w | _=>c):=
  zK _ hb λt ht=>by
   obtain⟨c,_,rfl⟩:=aq.mp ht;rfl
 rw[e,b_h,zi (t:= .lst (cs.map λc=>T.str c.1))]
 ·rfl
 ·show zJ _ _ _ _ _ _ [.vl (.tup [.str "pick",.tup (cs.map Zu)])]=_;rw[zH,ZF,j5,bOk];show ((zL _ _ _ _ _ _ (cs.map Zu)).bind _)=_;rw[ec,bOk,aF];rfl
theorem Ua (t:T):∀cs:List (Str×Int),JV (λy=>eqF 30 y t) (cs.map λc=>T.str c.1)=some ((Kd.pick cs).has t)
 | []=>by rw[Kd.has];cases t <;> rfl
 | c :: cs=>by
  have ih:=Ua t cs;rw[Kd.has]at ih ⊢;have e:JV (λy=>eqF 30 y t) ((c :: cs).map λc=>T.str c.1)=match eqF 30 (.str c.1) t with
   | none=>none
   | some b=>match JV (λy=>eqF 30 y t) (cs.map λc=>T.str c.1) with
    | none=>none
    | some d=>some (b || d):=rfl
  rw[e,ih];cases t <;> rfl
abbrev en2 (a b:T):En:=[.vl a,.vl b]
theorem yq {x w:Str}{r:List T}{b:T}(h:(x == w)=false){f:En->RS}:ifS (zk eqC (zc ixT (vE 0) (cE (.int 0))) (cE (.str w))) f nxS (en2 (.tup (.str x :: r)) b)= .nx (en2 (.tup (.str x :: r)) b):=
 zq (by rw[cs0,h])
theorem kh {x:Str}{r:List T}{b:T}{f:En->RS}:ifS (zk eqC (zc ixT (vE 0) (cE (.int 0))) (cE (.str x))) f nxS (en2 (.tup (.str x :: r)) b)=f (en2 (.tup (.str x :: r)) b):=
 wS (by rw[cs0,beq_self_eq_true])
theorem qt {cp:List T->R T}(lo hi:Int)(x:T):zg (b_m f_u f_k f_h cp (en0 2 [(Kd.whole lo hi).t,x]))= .ok (.bl ((Kd.whole lo hi).has x)):=by
 have e:en0 2 [(Kd.whole lo hi).t,x]=en2 (.tup [.str "whole",.int lo,.int hi]) x:=by rw[Kd.t];rfl
 rw[e,b_m,zO (t:= .bl (inR lo hi x))]
 ·rw[Kd.has];rfl
 ·rw[kh,zi];show Js _ _ (en2 _ x)=_;rw[JB,zl,v1,bOk,uZ,Zn];cases x with
  | int i=>
   rw[show isW (T.int i)=true from rfl,if_pos rfl,Xi,j5,bOk,w1,bOk,ui,bOk,W8,bOk,ui,bOk];show _=R.ok (T.bl (decide (lo<=i) && decide (i<=hi)));cases decide (lo<=i) <;> rfl
  | _=>rfl
theorem vq {cp:List T->R T}(cs:List (Str×Int))(h4:cs.length<=4)(x:T):zg (b_m f_u f_k f_h cp (en0 2 [(Kd.pick cs).t,x]))= .ok (.bl ((Kd.pick cs).has x)):=by
 have e:en0 2 [(Kd.pick cs).t,x]=en2 (.tup [.str "pick",.tup (cs.map Zu)]) x:=by rw[Kd.t];rfl
 have hw:=Jg cs h4;rw[Kd.t]at hw;rw[e,b_m,zd (yq (by decide)),zO (t:= .bl ((Kd.pick cs).has x))]
 ·rfl
 ·rw[kh,zi];show jY _ _ _ (en2 _ x)=_;rw[j8,w1,bOk,zl,v0,bOk,hw,bOk];show ((match JV (λy=>eqF 30 y x) (cs.map λ(c:Str×Int)=>T.str c.1) with | some b=>R.ok b | none=> .bad).bind _)=_
  rw[Ua];rfl
theorem Xs {cp:List T->R T}(ks:List Kd)(h3:ks.length<=3)(x:T)(H:∀xs,x= .tup xs->cp [.tup (ks.map Kd.t),x]= .ok (.bl ((ks.zip xs).all λq=>q.1.has q.2))):zg (b_m f_u f_k f_h cp (en0 2 [(Kd.row ks).t,x]))= .ok (.bl ((Kd.row ks).has x)):=by
 have e:en0 2 [(Kd.row ks).t,x]=en2 (.tup [.str "row",.tup (ks.map Kd.t)]) x:=by rw[Kd.t,Kd.ts_map];rfl
 rw[e,b_m,zd (yq (by decide)),zd (yq (by decide)),zO (t:= .bl ((Kd.row ks).has x))]
 ·rfl
 ·rw[kh,zi];show Js _ _ (en2 _ x)=_;have el:ap1 ZO (zc ixT (vE 0) (cE (.int 1))) (en2 (.tup [.str "row",.tup (ks.map Kd.t)]) x)= .ok (.int (ks.length:Nat)):=by
   rw[Zs,j5,bOk,jK,af]
  rw[JB,ZE,v1,bOk,el,bOk,bOk,ZD,Zn,zB,j5,bOk,v1,bOk,Kd.has];cases x with
  | tup xs=>
   rw[H xs rfl];show (if (decide (ks.length<=xs.length) && decide (xs.length<=ks.length))=true then _ else _)=R.ok (T.bl (xs.length == ks.length && Kd.hass ks xs))
   rw[jD]
   by_cases h:xs.length=ks.length
   ·rw[if_pos (by simp[h])]
    simp[h]
   ·rw[if_neg (by simp;omega)]
    simp[h]
  | _=>rfl
theorem ut (k:Kd):∀xs:List T,((ag xs.length k).zip xs).all (λq=>q.1.has q.2)=xs.all k.has
 | []=>rfl
 | x :: xs=>by
  rw[av,aU,iu,c9,c9,ut k xs]
theorem vt {cp:List T->R T}(k:Kd)(lo hi:Nat)(h3:hi<=3)(x:T)(H:∀xs,x= .tup xs->xs.length<=3->cp [.lst ((ag xs.length k).map Kd.t),x]= .ok (.bl (((ag xs.length k).zip xs).all λq=>q.1.has q.2))):zg (b_m f_u f_k f_h cp (en0 2 [(Kd.many k lo hi).t,x]))= .ok (.bl ((Kd.many k lo hi).has x)):=by
 have e:en0 2 [(Kd.many k lo hi).t,x]=en2 (.tup [.str "many",k.t,.int (lo:Int),.int (hi:Int)]) x:=by rw[Kd.t];rfl
 rw[e,b_m,zd (yq (by decide)),zd (yq (by decide)),zd (yq (by decide)),zi (t:= .bl ((Kd.many k lo hi).has x))]
 ·rfl
 ·show Js _ _ (en2 _ x)=_;rw[JB,ZE,v1,bOk,W8,bOk,ya,bOk,ZD,Zn,Kd.has];cases x with
  | tup xs=>
   show (if (decide (lo<=xs.length) && decide (xs.length<=hi))=true then _ else _)=R.ok (T.bl (decide (lo<=xs.length) && decide (xs.length<=hi) && xs.all k.has))
   cases hh:(decide (lo<=xs.length) && decide (xs.length<=hi)) with
   | false=>rfl
   | true=>
    rw[aj,decide_eq_true_eq,decide_eq_true_eq]at hh;have hx:xs.length<=3:=by omega
    have em:zc zT (jz (z9 (zc ixT (vE 0) (cE (.int 1))) (ze))) (ap1 ZO (vB 1)) (en2 (.tup [.str "many",k.t,.int (lo:Int),.int (hi:Int)]) (.tup xs))= .ok (.lst ((ag xs.length k).map Kd.t)):=by
     rw[zh,gW j5,bOk,Zs,w1,bOk,jK,bOk,WL hx,ZY,aS]
    rw[if_pos rfl,zB,em,bOk,v1,bOk,H xs rfl hx,ut];rfl
  | _=>rfl
theorem Vq:∀(d n:Nat),2*d<=n->∀(k:Kd) (x:T),k.Ok d->S_m n 0 [k.t,x]= .ok (.bl (k.has x))
 | 0,_,_,_,_,h=>h.elim
 | d+1,n+2,hn,k,x,h=>by
  have ih:=Vq d n (by omega)
  have e:S_m (n+2) 0 [k.t,x]=zg (b_m f_u f_k f_h (S_m (n+1) 1) (en0 2 [k.t,x])):=by rw[S_m]
  have e1:∀s y,S_m (n+1) 1 [s,y]=zg (gA (S_m n 0) (en0 2 [s,y])):=λs y=>by rw[S_m];intro h;cases h
  rw[e];cases k with
  | whole lo hi=>exact qt lo hi x
  | pick cs=>exact vq cs h.2.1 x
  | row ks=>
   refine Xs ks h.2.1 x λxs hx=> ?_;rw[e1,hx,U9 ks xs rfl h.2.1 λq hq=>ih q.1 q.2 (h.2.2 q.1 (bX hq).1)]
  | many k lo hi=>
   refine vt k lo hi h.2.1 x λxs hx h3=> ?_;rw[e1,hx,U9 (ag xs.length k) xs rfl (by rw[aW];exact h3) λq hq=>ih q.1 q.2 (by
    rw[bj (bX hq).1];exact h.2.2)]
theorem WP:∀(d:Nat) (k:Kd),k.Ok d->isK d k.t=true
 | 0,_,h=>h.elim
 | d+1,.whole lo hi,h=>by
  have e:isK (d+1) (Kd.whole lo hi).t=(decide (-20<=lo) && decide (lo<=hi) && decide (hi<=20)):=by rw[Kd.t];rfl
  obtain⟨h1,h2,h3⟩:=h;rw[e];simp;omega
 | d+1,.pick cs,h=>by
  have e:isK (d+1) (Kd.pick cs).t=(decide (1<=(cs.map Zu).length) && decide ((cs.map Zu).length<=4) && (cs.map Zu).all zG && decide ((dd [] ((cs.map Zu).map Z6)).length=(cs.map Zu).length)):=by rw[Kd.t];rfl
  obtain⟨h1,h2,h3,h4⟩:=h;have e1:(cs.map Zu).map Z6=cs.map (·.1):=by rw[aF];rfl
  have e2:=(wO (cs.map (·.1)) []).mpr λk w hw=>by simpa using h4 k w hw
  rw[e,e1,e2,af,af];simp only[aj,decide_eq_true_eq,aI];refine⟨⟨⟨h1,h2⟩,λc hc=> ?_⟩,by simp⟩
  obtain⟨p,hp,rfl⟩:=aq.mp hc;obtain⟨a,b,c⟩:=h3 p hp;show (Zy (.str p.1) && decide (1<=p.2) && decide (p.2<=20))=true;rw[a];simp;omega
 | d+1,.row ks,h=>by
  have e:isK (d+1) (Kd.row ks).t=(decide (1<=(ks.map Kd.t).length) && decide ((ks.map Kd.t).length<=3) && (ks.map Kd.t).all (isK d)):=by rw[Kd.t,Kd.ts_map];rfl
  obtain⟨h1,h2,h3⟩:=h;rw[e,af];simp only[aj,decide_eq_true_eq,aI];refine⟨⟨h1,h2⟩,λc hc=> ?_⟩;obtain⟨k,hk,rfl⟩:=aq.mp hc;exact WP d k (h3 k hk)
 | d+1,.many k lo hi,h=>by
  have e:isK (d+1) (Kd.many k lo hi).t=((decide ((0:Int)<=(lo:Int)) && decide ((lo:Int)<=(hi:Int)) && decide ((hi:Int)<=3)) && isK d k.t):=by rw[Kd.t];rfl
  obtain⟨h1,h2,h3⟩:=h;rw[e,WP d k h3];simp;omega
theorem Ub:∀(ks:List Kd) (xs:List T),xs.length=ks.length->Kd.hass ks xs=true->∀x∈xs,∃k∈ks,k.has x=true
 | [],[],_,_,_,h=>nomatch h
 | k :: ks,[],h,_,_,_=>by cases h
 | [],x :: xs,h,_,_,_=>by cases h
 | k :: ks,x :: xs,hl,h,y,hy=>by
  rw[Kd.hass]at h;have h:(k.has x && Kd.hass ks xs)=true:=h;rw[aj]at h;rcases ak.mp hy with rfl | hy
  ·exact⟨k,ae,h.1⟩
  ·obtain⟨k',hk,hh⟩:=Ub ks xs (by simpa using hl) h.2 y hy
   exact⟨k',ab _ hk,hh⟩
theorem Uc {α β:Type}(f:α->List β)(m:Nat):∀(as:List α) (i j:Nat),(∀a∈as,(f a).length=m)->j < m->(as.flatMap f)[i*m+j]? =(as[i]?).bind λa=>(f a)[j]?
 | [],i,j,_,_=>by simp
 | a :: as,0,j,h,hj=>by
  have ha:=h a ae;rw[bx,Nat.zero_mul,iO,b8 (by omega)]
  rfl
 | a :: as,i+1,j,h,hj=>by
  have ha:=h a ae;have e:(i+1)*m=i*m+m:=by rw[dQ,cn]
  rw[bx,aY (by omega),ha,e,show i*m+m+j - m=i*m+j by omega,Uc f m as i j (λb hb=>h b (ab _ hb)) hj]
  rfl
theorem WQ {α β:Type}(f:α->List β):∀(as:List α) (q j:Nat) (a:α),as[q]? =some a->j < (f a).length->(as.flatMap f)[((as.take q).map λb=>(f b).length).sum+j]? =(f a)[j]?
 | [],q,j,a,h,_=>by simp at h
 | b :: as,0,j,a,h,hj=>by
  have e:b=a:=by simpa using h
  subst e;rw[bx,List.take_zero,cN,List.sum_nil,iO,b8 hj]
 | b :: as,q+1,j,a,h,hj=>by
  rw[bx,List.take_succ_cons,ar,dl,Nat.add_assoc,aY (by omega),Nat.add_sub_cancel_left]
  exact WQ f as q j a (by simpa using h) hj
theorem wo:∀(ls made:List (List T)) (l:List T),Zo made (ls++[l])=(Zo made ls).flatMap λa=>l.map λx=>a++[x]
 | [],made,l=>rfl
 | _ :: ls,made,l=>by
  rw[eC,Zo,Zo,wo ls]
theorem vv {ls:List (List T)}{l:List T}{i j:Nat}{xs:List T}{x:T}(h:(Zo [[]] ls)[i]? =some xs)(hx:l[j]? =some x):(Zo [[]] (ls++[l]))[i*l.length+j]? =some (xs++[x]):=by
 have hj:j < l.length:=(au.mp hx).1;rw[wo,Uc _ l.length _ i j (λa _=>af ..) hj,h];show (l.map λx=>xs++[x])[j]? =_;rw[ax,hx];rfl
theorem Ud:∀(ns:List Nat) (n:Nat),prd (ns++[n])=prd ns*n
 | [],n=>by simp[prd]
 | m :: ns,n=>by rw[eC,prd,prd,Ud ns n,dk]
theorem wp (ls:List (List T)):(Zo [[]] ls).length=prd (ls.map (·.length)):=by rw[JG,aG,cn]
theorem jX {α:Type}{xs:List α}{i:Nat}(h:i < xs.length):∃x,xs[i]? =some x:=⟨_,ac h⟩
theorem G6 {xs:List T}{j:Nat}{v:T}(h:xs[j]? =some v):atT xs (j:Int)= .ok v:=by unfold atT;rw[jp h]
def shr (c lo q:Nat):Nat:=((aX q).map λi=>c ^ (lo+i)).sum
theorem vw (c lo q:Nat):shr c lo (q+1)=shr c lo q+c ^ (lo+q):=by
 unfold shr;rw[fZ,cK,lh];simp
theorem Vr (c lo hi:Nat):pw c lo hi=shr c lo (hi+1 - lo):=rfl
theorem Xt {k:Kd}{lo hi q j:Nat}{xs:List T}(hq:q < hi+1 - lo)(h:(Zo [[]] (ag (lo+q) k.all))[j]? =some xs):(Kd.many k lo hi).all[shr k.all.length lo q+j]? =some (.tup xs):=by
 have hj:=(au.mp h).1;have e:=WQ (λi=>wQ (ag (lo+i) k.all)) (aX (hi+1 - lo)) q j q (by rw[cA hq]) (by rw[af];exact hj)
 have e2:(((aX (hi+1 - lo)).take q).map λb=>(wQ (ag (lo+b) k.all)).length).sum=shr k.all.length lo q:=by
  rw[List.take_range,Nat.min_eq_left (eR hq),shr];congr 1
  refine bc λi _=> ?_;rw[Jf,aS,j9]
 rw[e2]at e;rw[Kd.all,e];show (List.map T.tup _)[j]? =_;rw[ax,h];rfl
abbrev cpB (c:List T->R T):En->RS:=zD 1 (zc zT (vE 1) (za 1 c (z9 (vE 2) (ze))))
theorem qu {c:List T->R T}{S:Sl}:∀(ks:List Kd) (m:Nat) (x:Sl),(∀k∈ks,c [k.t]= .ok (.int (k.all.length:Int))/\1<=k.all.length)->m*prd (ks.map λk=>k.all.length) < 2 ^ 60->
  ∃y,ZA (zt 2) (cpB c) (ks.map Kd.t) [S,.vl (.int (m:Int)),x]= .nx [S,.vl (.int ((m*prd (ks.map λk=>k.all.length):Nat):Int)),y]
 | [],m,x,_,_=>⟨x,by simp[ZA,prd]⟩
 | k :: ks,m,x,H,hb=>by
  obtain⟨hc,h1⟩:=H k ae;have hp:1<=prd (ks.map λk=>k.all.length):=JF λn hn=>by
   obtain⟨k',hk',rfl⟩:=aq.mp hn;exact(H k' (ab _ hk')).2
  rw[ar,prd,← dk]at hb;have hm:m < 2 ^ 60:=by
   have h2:m<=m*k.all.length:=c_ _ h1;have h3:m*k.all.length<=m*k.all.length*prd (ks.map λk=>k.all.length):=c_ _ hp;omega
  have eb:cpB c [S,.vl (.int (m:Int)),.vl k.t]= .nx [S,.vl (.int ((m*k.all.length:Nat):Int)),.vl k.t]:=by
   rw[cpB,zC (t:= .int ((m*k.all.length:Nat):Int))]
   ·rfl
   ·rw[zh,v1,bOk,zl,v2,bOk,hc,bOk,qi hm]
  obtain⟨y,ih⟩:=qu (c:=c) (S:=S) ks (m*k.all.length) (.vl k.t) (λk' hk' =>H k' (ab _ hk')) hb;refine⟨y, ?_⟩;rw[ar,jV (ρ1:=[S,.vl (.int (m:Int)),.vl k.t]) rfl eb,ih,ar,prd,dk]
theorem JI {c:List T->R T}{s:T}(ks:List Kd)(hs:Jv s= .ok (ks.map Kd.t))(H:∀k∈ks,c [k.t]= .ok (.int (k.all.length:Int))/\1<=k.all.length)(hb:prd (ks.map λk=>k.all.length) < 2 ^ 60):
  zg (b_z c (en0 3 [s]))= .ok (.int ((prd (ks.map λk=>k.all.length):Nat):Int)):=by
 obtain⟨y,e⟩:=qu (c:=c) (S:= .vl s) ks 1 .un H (by rw[cn];exact hb)
 rw[cn]at e;have e0:zD 1 (cE (.int 1)) [.vl s,.un,.un]= .nx [.vl s,.vl (.int 1),.un]:=rfl;have e1:jk (Zv (vE 0)) (zt 2) (cpB c) [.vl s,.vl (.int 1),.un]= .nx [.vl s,.vl (.int ((prd (ks.map λk=>k.all.length):Nat):Int)),y]:=by
  show ((Jv s).s λts=>ZA (zt 2) (cpB c) ts [.vl s,.vl (.int 1),.un])=_;rw[hs,Zt];exact e
 show zg (b_z c [.vl s,.un,.un])=_;rw[b_z,zd e0,zd e1];rfl
theorem qv {α:Type}(g:α->Nat):∀l:List α,Zc (l.map λa=>T.int ((g a:Nat):Int))=some (l.map λa=>((g a:Nat):Int))
 | []=>rfl
 | a :: l=>by
  show (match Zc (l.map λa=>T.int ((g a:Nat):Int)) with | some l=>some (_ :: l) | none=>none)=_
  rw[qv g l];rfl
theorem Ue {α:Type}(g:α->Nat):∀l:List α,(l.map λa=>((g a:Nat):Int)).sum=(((l.map g).sum:Nat):Int)
 | []=>rfl
 | a :: l=>by rw[ar,dl,ar,dl,Ue g l];omega
theorem G7 {α:Type}(g:α->Nat)(l:List α):xO (.lst (l.map λa=>T.int ((g a:Nat):Int)))= .ok (.int (((l.map g).sum:Nat):Int)):=by
 unfold xO;dsimp only;rw[qv,← Ue]
theorem jG (k:Kd)(m:Nat):((ag m k).map λk=>k.all.length)=ag m k.all.length:=by rw[aS]
theorem qw {c:List T->R T}{t:T}{n lo hi q:Nat}(h4:lo+q<=4)(H:∀m,m<=3->c [.lst (ag m t)]= .ok (.int ((n ^ m:Nat):Int))):
  zg (b_w c (en0 2 [mt t lo hi,.int ((lo+q:Nat):Int)]))= .ok (.int ((shr n lo q:Nat):Int)):=by
 show zg (b_w c [.vl (mt t lo hi),.vl (.int ((lo+q:Nat):Int))])=_;have er:J0 (zc ixT (vE 0) (cE (.int 2))) (vE 1) [.vl (mt t lo hi),.vl (.int ((lo+q:Nat):Int))]= .ok (rng (lo:Int) q):=by
  rw[ur (i:=(lo:Int)) (j:=((lo+q:Nat):Int)) rfl rfl ⟨by omega,by omega,by omega,by omega⟩]
  congr 2;omega
 have ec:zL (zt 0) zQ (za 1 c (z9 (zc zT (jz (z9 (zc ixT (vE 1) (cE (.int 1))) (ze))) (vE 0)) (ze))) 1 [0] [.vl (mt t lo hi),.vl (.int ((lo+q:Nat):Int))] (rng (lo:Int) q)= .ok ((rng (lo:Int) q).map λx=>match x with | .int i=>T.int ((n ^ i.toNat:Nat):Int) | y=>y):=
  zK _ (by unfold rng;rw[af,bu];have:bnd=16777216:=rfl;omega) λx hx=>by
   unfold rng at hx;obtain⟨i,hi',rfl⟩:=aq.mp hx;have hi2:=bE.mp hi';show za 1 c _ [.vl (.int ((lo:Int)+(i:Int))),.vl (mt t lo hi)]=_;have e1:zc zT (jz (z9 (zc ixT (vE 1) (cE (.int 1))) (ze))) (vE 0) [.vl (.int ((lo:Int)+(i:Int))),.vl (mt t lo hi)]= .ok (.lst (ag (lo+i) t)):=by
    have e0:zc ixT (vE 1) (cE (.int 1)) [.vl (.int ((lo:Int)+(i:Int))),.vl (mt t lo hi)]= .ok t:=rfl;rw[zh,gW e0,bOk,v0,bOk,show (lo:Int)+(i:Int)=((lo+i:Nat):Int) by omega,WL (by omega),ZY]
   rw[zl,e1,bOk,H (lo+i) (by omega)]
   show _=R.ok (T.int ((n ^ ((lo:Int)+(i:Int)).toNat:Nat):Int));rw[show ((lo:Int)+(i:Int)).toNat=lo+i by omega]
 rw[b_w,zi (t:= .int ((shr n lo q:Nat):Int))]
 ·rfl
 ·show ap1 _ _ [.vl (mt t lo hi),.vl (.int ((lo+q:Nat):Int))]=_;rw[Zs,zH,er,bOk,ec,bOk,bOk];have e2:((rng (lo:Int) q).map λx=>match x with | .int i=>T.int ((n ^ i.toNat:Nat):Int) | y=>y)=(aX q).map λi=>T.int ((n ^ (lo+i):Nat):Int):=by
   unfold rng;rw[aF];refine bc λi _=> ?_;show T.int ((n ^ ((lo:Int)+(i:Int)).toNat:Nat):Int)=_;rw[show ((lo:Int)+(i:Int)).toNat=lo+i by omega]
  rw[e2,G7 (λi=>n ^ (lo+i))];rfl
theorem Vs {d n m:Nat}(h:n<=mx d)(hd:d<=2)(hm:m<=3):n ^ m < 2 ^ 60:=by
 have h2:mx d<=70644:=by
  have:d=0\/d=1\/d=2:=by omega
  rcases this with rfl | rfl | rfl <;> decide
 have h3:n ^ m<=70644 ^ 3:=ap (Nat.pow_le_pow_left (ap h h2) m) (cP (by omega) hm)
 have:70644 ^ 3 < 2 ^ 60:=by decide
 omega
theorem Uf:∀(d n:Nat),3*d<=n->d<=3->∀k:Kd,k.Ok d->S_2 n 0 [k.t]= .ok (.int (k.all.length:Int))
 | 0,_,_,_,_,h=>h.elim
 | d+1,n+3,hn,hd,k,h=>by
  have ih:=Uf d n (by omega) (by omega)
  have ih1:=Uf d (n+1) (by omega) (by omega)
  have e:S_2 (n+3) 0 [k.t]=zg (b_2 (S_2 (n+2) 1) (S_2 (n+2) 2) [.vl k.t]):=rfl;have e1:∀s,S_2 (n+2) 1 [s]=zg (b_z (S_2 (n+1) 0) (en0 3 [s])):=λs=>rfl;have e1' :∀s,S_2 (n+1) 1 [s]=zg (b_z (S_2 n 0) (en0 3 [s])):=λs=>rfl;have e2:∀s u,S_2 (n+2) 2 [s,u]=zg (b_w (S_2 (n+1) 1) (en0 2 [s,u])):=λs u=>rfl;rw[e,b_2];cases k with
  | whole lo hi=>
   obtain⟨h1,h2,h3⟩:=h;rw[ZV];simp only[Kd.t];rw[zO (t:= .int ((hi+1 - lo).toNat:Int))]
   ·rfl
   ·rw[wS (by rw[cs0,beq_self_eq_true]),zi]
    show R.ok (T.int (hi - lo+1))=_;congr 2;omega
  | pick cs=>
   rw[wR];simp only[Kd.t];rw[zd (zq (by rw[cs0];rfl)),zO (t:= .int (cs.length:Int))]
   ·rfl
   ·rw[wS (by rw[cs0,beq_self_eq_true]),zi]
    show R.ok (T.int ((cs.map Zu).length:Int))=_;rw[af]
  | row ks=>
   obtain⟨h1,h2,h3⟩:=h;rw[jL];simp only[Kd.t];rw[Kd.ts_map,zd (zq (by rw[cs0];rfl)),zd (zq (by rw[cs0];rfl)),zO (t:= .int ((prd (ks.map λk=>k.all.length):Nat):Int))]
   ·rfl
   ·rw[wS (by rw[cs0,beq_self_eq_true]),zi]
    show za 1 _ _ [.vl (.tup [.str "row",.tup (ks.map Kd.t)])]=_;rw[zl,j5,bOk,e1];have hl:=jn (d+1) (.row ks) ⟨h1,h2,h3⟩;rw[jL]at hl;exact JI ks rfl (λk hk=>⟨ih1 k (h3 k hk),Zw d k (h3 k hk)⟩) (gY hl hd)
  | many k lo hi=>
   obtain⟨h1,h2,h3⟩:=h;rw[ji,Vr];simp only[Kd.t];rw[zd (zq (by rw[cs0];rfl)),zd (zq (by rw[cs0];rfl)),zd (zq (by rw[cs0];rfl)),zi (t:= .int ((shr k.all.length lo (hi+1 - lo):Nat):Int))]
   ·rfl
   ·show za 2 _ _ [.vl (mt k.t lo hi)]=_;rw[zB,v0,bOk,yb ya,bOk,e2,show (hi:Int)+1=((lo+(hi+1 - lo):Nat):Int) by omega]
    refine qw (by omega) λm hm=> ?_
    have hp:prd ((ag m k).map λk=>k.all.length)=k.all.length ^ m:=by rw[jG,j9]
    rw[e1',← hp];have hd1:1<=d:=by
     cases d with
     | zero=>exact h3.elim
     | succ d=>omega
    refine JI (ag m k) (by rw[aS];rfl) (λk' hk' => ?_) (by rw[hp];exact Vs (jn d k h3) (by omega) hm)
    rw[bj hk'];exact⟨ih k h3,Zw d k h3⟩
theorem ZK {d:Nat}(hd:d<=3){k:Kd}(h:k.Ok d):f_2 20 [k.t]= .ok (.int (k.all.length:Int)):=Uf d 20 (by omega) hd k h
theorem Ug {d:Nat}(hd:d<=2){k:Kd}(h:k.Ok d){lo hi q:Nat}(h4:lo+q<=4):f_w 20 [mt k.t lo hi,.int ((lo+q:Nat):Int)]= .ok (.int ((shr k.all.length lo q:Nat):Int)):=by
 have e:f_w 20 [mt k.t lo hi,.int ((lo+q:Nat):Int)]=zg (b_w (S_2 19 1) (en0 2 [mt k.t lo hi,.int ((lo+q:Nat):Int)])):=rfl;rw[e];refine qw h4 λm hm=> ?_;have hp:prd ((ag m k).map λk=>k.all.length)=k.all.length ^ m:=by rw[jG,j9]
 have e1:∀s,S_2 19 1 [s]=zg (b_z (S_2 18 0) (en0 3 [s])):=λs=>rfl;rw[e1,← hp];refine JI (ag m k) (by rw[aS];rfl) (λk' hk' => ?_) (by rw[hp];exact Vs (jn d k h) hd hm)
 rw[bj hk'];exact⟨Uf d 18 (by omega) (by omega) k h,Zw d k h⟩
abbrev paB (cc cw:List T->R T):En->RS:=zj (zD 5 (za 1 cc (z9 (vE 4) (ze))))
  (zj (Y2 2 (za 2 cw (z9 (vE 4) (z9 (zc jP (vE 3) (vE 5)) (ze)))))
  (zD 3 (zc Jr (vE 3) (vE 5))))
structure AtOk (cc cw:List T->R T) (k:Kd):Prop where
 cnt:cc [k.t]= .ok (.int (k.all.length:Int))
 at_:∀(i:Nat) x,k.all[i]? =some x->cw [k.t,.int (i:Int)]= .ok x
 pos:1<=k.all.length
 le:k.all.length < 1000000
theorem v5' {t:T}{a b c d e:Sl}{ρ:En}:vE 5 (a :: b :: c :: d :: e :: .vl t :: ρ)= .ok t:=rfl
theorem Vt {n c:Nat}(h:1<=c):jP (.int (n:Int)) (.int (c:Int))= .ok (.int ((n % c:Nat):Int)):=by
 unfold jP;dsimp only;rw[if_pos (by omega)];rfl
theorem Xu {n c:Nat}(h:1<=c)(h' :c < 1000000):Jr (.int (n:Int)) (.int (c:Int))= .ok (.int ((n / c:Nat):Int)):=by
 unfold Jr;dsimp only;rw[if_pos (by omega)];rfl
theorem Vu {i:Nat}{f:En->R T}{ρ:En}{ts:List T}{t:T}(hi:ρ[i]? =some (.ow ts))(hl:ts.length < bnd)(h:f ρ= .ok t):Y2 i f ρ= .nx (ρ.set i (.ow (ts++[t]))):=by
 unfold Y2;rw[hi];dsimp only;rw[h,Zt,if_pos hl]
theorem qx {cc cw:List T->R T}{S N:Sl}:∀(rs:List Kd) (acc:List T) (n:Nat) (x y:Sl),(∀k∈rs,AtOk cc cw k)->n < prd (rs.map λk=>k.all.length)->acc.length+rs.length<=1000->
  ∃xs r x' y',(Zo [[]] (rs.reverse.map Kd.all))[n]? =some xs/\ZA (zt 4) (paB cc cw) (rs.map Kd.t) [S,N,.ow acc,.vl (.int (n:Int)),x,y]= .nx [S,N,.ow (acc++xs.reverse),r,x',y']
 | [],acc,n,x,y,_,hn,_=>⟨[],.vl (.int (n:Int)),x,y,by
   have:n=0:=by simp[prd]at hn;exact hn
   subst this;rfl,by simp[ZA]⟩
 | k :: rs,acc,n,x,y,H,hn,hl=>by
  obtain⟨hc,hw,h1,hle⟩:=H k ae;rw[ar,prd]at hn;rw[av]at hl;have hb:bnd=16777216:=rfl;have hmod:n % k.all.length < k.all.length:=ip _ h1;obtain⟨v,hv⟩:=jX hmod;have hdiv:n / k.all.length < prd (rs.map λk=>k.all.length):=Nat.div_lt_of_lt_mul hn;obtain⟨xs,r,x',y',e1,e2⟩:=qx (cc:=cc) (cw:=cw) (S:=S) (N:=N) rs (acc++[v]) (n / k.all.length) (.vl k.t) (.vl (.int (k.all.length:Int))) (λk' hk' =>H k' (ab _ hk')) hdiv (by rw[aA,aG];omega)
  have b1:zD 5 (za 1 cc (z9 (vE 4) (ze))) [S,N,.ow acc,.vl (.int (n:Int)),.vl k.t,y]= .nx [S,N,.ow acc,.vl (.int (n:Int)),.vl k.t,.vl (.int (k.all.length:Int))]:=by
   rw[zC (t:= .int (k.all.length:Int))]
   ·rfl
   ·rw[zl,v4,bOk,hc]
  have b2:Y2 2 (za 2 cw (z9 (vE 4) (z9 (zc jP (vE 3) (vE 5)) (ze)))) [S,N,.ow acc,.vl (.int (n:Int)),.vl k.t,.vl (.int (k.all.length:Int))]= .nx [S,N,.ow (acc++[v]),.vl (.int (n:Int)),.vl k.t,.vl (.int (k.all.length:Int))]:=by
   rw[Vu (ts:=acc) (t:=v) rfl (by omega)]
   ·rfl
   ·rw[zB,v4,bOk,zh,v3,bOk,v5',bOk,Vt h1,bOk,hw _ v hv]
  have b3:zD 3 (zc Jr (vE 3) (vE 5)) [S,N,.ow (acc++[v]),.vl (.int (n:Int)),.vl k.t,.vl (.int (k.all.length:Int))]= .nx [S,N,.ow (acc++[v]),.vl (.int ((n / k.all.length:Nat):Int)),.vl k.t,.vl (.int (k.all.length:Int))]:=by
   rw[zC (t:= .int ((n / k.all.length:Nat):Int))]
   ·rfl
   ·rw[zh,v3,bOk,v5',bOk,Xu h1 hle]
  have eb:paB cc cw [S,N,.ow acc,.vl (.int (n:Int)),.vl k.t,y]= .nx [S,N,.ow (acc++[v]),.vl (.int ((n / k.all.length:Nat):Int)),.vl k.t,.vl (.int (k.all.length:Int))]:=by
   rw[paB,zd b1,zd b2,b3]
  refine⟨xs++[v],r,x',y', ?_, ?_⟩
  ·have:=vv e1 hv;rw[cM,Nat.div_add_mod]at this;rw[bv,cK];exact this
  ·rw[ar,jV (ρ1:=[S,N,.ow acc,.vl (.int (n:Int)),.vl k.t,y]) rfl eb,e2,List.reverse_append];simp
theorem qy:∀ns:List Nat,prd ns.reverse=prd ns
 | []=>rfl
 | n :: ns=>by rw[bv,Ud,qy ns,prd,cM]
theorem JJ {cc cw:List T->R T}{s:T}(ks:List Kd)(hs:j3 s= .ok (ks.map Kd.t))(hl:ks.length<=3)(H:∀k∈ks,AtOk cc cw k){n:Nat}{xs:List T}(hx:(Zo [[]] (ks.map Kd.all))[n]? =some xs):
  zg (Xd cc cw (en0 6 [s,.int (n:Int)]))= .ok (.tup xs):=by
 have hn:=(au.mp hx).1;rw[wp,aF]at hn;have hr:(ks.reverse.map λk=>k.all.length)=(ks.map λk=>k.all.length).reverse:=by rw[be]
 obtain⟨ys,r,x',y',e1,e2⟩:=qx (cc:=cc) (cw:=cw) (S:= .vl s) (N:= .vl (.int (n:Int))) ks.reverse [] n .un .un (λk hk=>H k (ci.mp hk)) (by rw[hr,qy];exact hn) (by rw[bJ,bY];omega)
 rw[dA,hx]at e1;cases e1;rw[bP]at e2;have e0:uN 2 (ze) [.vl s,.vl (.int (n:Int)),.un,.un,.un,.un]= .nx [.vl s,.vl (.int (n:Int)),.ow [],.un,.un,.un]:=rfl;have e3:zD 3 (vE 1) [.vl s,.vl (.int (n:Int)),.ow [],.un,.un,.un]= .nx [.vl s,.vl (.int (n:Int)),.ow [],.vl (.int (n:Int)),.un,.un]:=rfl;have e4:jk (Va (vE 0)) (zt 4) (paB cc cw) [.vl s,.vl (.int (n:Int)),.ow [],.vl (.int (n:Int)),.un,.un]= .nx [.vl s,.vl (.int (n:Int)),.ow xs.reverse,r,x',y']:=by
  show (((j3 s).bind λxs=>R.ok xs.reverse).s λts=>ZA (zt 4) (paB cc cw) ts [.vl s,.vl (.int (n:Int)),.ow [],.vl (.int (n:Int)),.un,.un])=_;rw[hs,bOk,Zt,← be];exact e2
 have hlen:xs.reverse.length<=bnd:=by
  have:∀(ls made:List (List T)) (m:Nat),(∀a∈made,a.length<=m)->∀a∈Zo made ls,a.length<=m+ls.length:=by
   intro ls
   induction ls with
   | nil=>intro made m h a ha;exact h a ha
   | cons l ls ih=>
    intro made m h a ha;have:=ih (made.flatMap λa=>l.map λx=>a++[x]) (m+1) (λb hb=>by
     obtain⟨c,hc,hb⟩:=cg.mp hb;obtain⟨z,_,rfl⟩:=aq.mp hb;have:=h c hc;rw[aA,aG];omega) a ha
    rw[av];omega
  have h1:=this (ks.map Kd.all) [[]] 0 (λa ha=>by rw[aC.mp ha];exact am _) xs (bz hx)
  rw[af]at h1;rw[bJ];have hb:bnd=16777216:=rfl;omega
 show zg (Xd cc cw [.vl s,.vl (.int (n:Int)),.un,.un,.un,.un])=_;rw[Xd,zd e0,zd e3,zd e4,zi (t:= .tup xs)]
 ·rfl
 ·show QU (.lst xs.reverse)=_;unfold QU;dsimp only;rw[if_pos hlen,dA]
abbrev mtT:En->R Bool:=zk leC (za 2 (f_w 20) (z9 (vE 0) (z9 (zc zA (vE 2) (cE (.int 1))) (ze)))) (vB 1)
abbrev mtB:En->RS:=zD 2 (zc zA (vE 2) (cE (.int 1)))
theorem w1n {t:T}{a:Sl}{ρ:En}:vB 1 (a :: .vl t :: ρ)= .ok t:=rfl
theorem qz {d:Nat}(hd:d<=2){k:Kd}(h:k.Ok d){lo hi n:Nat}(h1:lo<=hi)(h3:hi<=3)(hn:n < shr k.all.length lo (hi+1 - lo)):∀(f q:Nat),q<=hi - lo->hi - lo - q < f->shr k.all.length lo q<=n->
  ∃q',q' <=hi - lo/\shr k.all.length lo q' <=n/\n < shr k.all.length lo (q' +1)/\Zl mtT mtB f [.vl (mt k.t lo hi),.vl (.int (n:Int)),.vl (.int ((lo+q:Nat):Int))]= .nx [.vl (mt k.t lo hi),.vl (.int (n:Int)),.vl (.int ((lo+q' :Nat):Int))]
 | 0,q,_,hf,_=>by omega
 | f+1,q,hq,hf,hs=>by
  have et:mtT [.vl (mt k.t lo hi),.vl (.int (n:Int)),.vl (.int ((lo+q:Nat):Int))]= .ok (decide (shr k.all.length lo (q+1)<=n)):=by
   rw[mtT,zu,zB,v0,bOk,yb v2,bOk,show ((lo+q:Nat):Int)+1=((lo+(q+1):Nat):Int) by omega,Ug hd h (by omega),bOk,w1n,bOk,ui,jW]
  have eu:Zl mtT mtB (f+1) [.vl (mt k.t lo hi),.vl (.int (n:Int)),.vl (.int ((lo+q:Nat):Int))]=(mtT [.vl (mt k.t lo hi),.vl (.int (n:Int)),.vl (.int ((lo+q:Nat):Int))]).s λk' =>if k' =true then match mtB [.vl (mt k.t lo hi),.vl (.int (n:Int)),.vl (.int ((lo+q:Nat):Int))] with
    | .nx ρ2=>Zl mtT mtB f ρ2
    | .ct ρ2=>Zl mtT mtB f ρ2
    | .bk ρ2=> .nx ρ2
    | r=>r
   else .nx [.vl (mt k.t lo hi),.vl (.int (n:Int)),.vl (.int ((lo+q:Nat):Int))]:=rfl
  rw[eu,et,Zt]
  by_cases hc:shr k.all.length lo (q+1)<=n
  ·rw[if_pos (decide_eq_true hc)];have hq2:q+1<=hi - lo:=by
    rcases Nat.lt_or_ge q (hi - lo) with z | z
    ·exact z
    ·have:q=hi - lo:=by omega
     rw[this,show hi - lo+1=hi+1 - lo by omega]at hc
     omega
   have eb:mtB [.vl (mt k.t lo hi),.vl (.int (n:Int)),.vl (.int ((lo+q:Nat):Int))]= .nx [.vl (mt k.t lo hi),.vl (.int (n:Int)),.vl (.int ((lo+(q+1):Nat):Int))]:=by
    rw[mtB,zC (t:= .int ((lo+(q+1):Nat):Int))]
    ·rfl
    ·rw[yb v2,show ((lo+q:Nat):Int)+1=((lo+(q+1):Nat):Int) by omega]
   rw[eb];exact qz hd h h1 h3 hn f (q+1) hq2 (by omega) hc
  ·rw[if_neg (by simpa using hc)]
   exact⟨q,hq,hs,by omega,rfl⟩
theorem G8 {i j:Nat}(h:j<=i):J6 (.int (i:Int)) (.int (j:Int))= .ok (.int ((i - j:Nat):Int)):=by
 rw[jm];congr 2;omega
theorem yd {d:Nat}(hd:d<=2){k:Kd}(h:k.Ok d){cp:List T->R T}{lo hi n:Nat}(h1:lo<=hi)(h3:hi<=3)(hn:n < shr k.all.length lo (hi+1 - lo))
  (H:∀(m:Nat),m<=3->∀(j:Nat) (xs:List T),(Zo [[]] (ag m k.all))[j]? =some xs->cp [.lst (ag m k.t),.int (j:Int)]= .ok (.tup xs)):
  ∃x,(Kd.many k lo hi).all[n]? =some x/\zg (kg (f_w 20) cp (en0 3 [mt k.t lo hi,.int (n:Int)]))= .ok x:=by
 obtain⟨q,hq,hs,hs',e⟩:=qz hd h h1 h3 hn 8 0 (by omega) (by omega) (by unfold shr;simp)
 rw[vw]at hs';have hj:n - shr k.all.length lo q < (Zo [[]] (ag (lo+q) k.all)).length:=by
  rw[wp,aS,j9];omega
 obtain⟨xs,hx⟩:=jX hj;have ha:=Xt (k:=k) (lo:=lo) (hi:=hi) (by omega) hx
 rw[show shr k.all.length lo q+(n - shr k.all.length lo q)=n by omega]at ha
 refine⟨_,ha, ?_⟩;have e0:zD 2 (zc ixT (vE 0) (cE (.int 2))) [.vl (mt k.t lo hi),.vl (.int (n:Int)),.un]= .nx [.vl (mt k.t lo hi),.vl (.int (n:Int)),.vl (.int ((lo+0:Nat):Int))]:=rfl;show zg (kg (f_w 20) cp [.vl (mt k.t lo hi),.vl (.int (n:Int)),.un])=_;rw[kg,zd e0,zd e,zi (t:= .tup xs)]
 ·rfl
 ·show za 2 cp _ [.vl (mt k.t lo hi),.vl (.int (n:Int)),.vl (.int ((lo+q:Nat):Int))]=_;have em:zc zT (jz (z9 (zc ixT (vE 0) (cE (.int 1))) (ze))) (vE 2) [.vl (mt k.t lo hi),.vl (.int (n:Int)),.vl (.int ((lo+q:Nat):Int))]= .ok (.lst (ag (lo+q) k.t)):=by
   rw[zh,gW j5,bOk,v2,bOk,WL (by omega),ZY]
  rw[zB,em,bOk,zh,v1,bOk,zB,v0,bOk,v2,bOk,Ug hd h (by omega),bOk,G8 hs,bOk,H (lo+q) (by omega) _ xs hx]
theorem qA {d:Nat}(hd:d<=2){k:Kd}(h:k.Ok d):k.all.length < 1000000:=by
 have h1:=jn d k h;have h2:mx d<=70644:=by
  have:d=0\/d=1\/d=2:=by omega
  rcases this with rfl | rfl | rfl <;> decide
 omega
theorem jv:∀(d n:Nat),3*d<=n->d<=3->∀k:Kd,k.Ok d->∀(i:Nat) (x:T),k.all[i]? =some x->S_j n 0 [k.t,.int (i:Int)]= .ok x
 | 0,_,_,_,_,h=>h.elim
 | d+1,n+3,hn,hd,k,h=>by
  intro i x hx;have ih:=jv d n (by omega) (by omega)
  have ih1:=jv d (n+1) (by omega) (by omega)
  have e:S_j (n+3) 0 [k.t,.int (i:Int)]=zg (b_j f_h (S_j (n+2) 1) (S_j (n+2) 2) (en2 k.t (.int (i:Int)))):=rfl;have e2:∀s u,S_j (n+2) 2 [s,u]=zg (Xd (f_2 20) (S_j (n+1) 0) (en0 6 [s,u])):=λs u=>rfl;have e2' :∀s u,S_j (n+1) 2 [s,u]=zg (Xd (f_2 20) (S_j n 0) (en0 6 [s,u])):=λs u=>rfl;have e1:∀s u,S_j (n+2) 1 [s,u]=zg (kg (f_w 20) (S_j (n+1) 2) (en0 3 [s,u])):=λs u=>rfl;have hi' :=(au.mp hx).1;rw[e,b_j];cases k with
  | whole lo hi=>
   rw[Kd.all,ax]at hx;rw[ZV]at hi';rw[cA hi']at hx;cases hx;simp only[Kd.t];rw[zO (t:= .int (lo+(i:Int)))]
   ·rfl
   ·rw[kh,zi];rfl
  | pick cs=>
   have hw:=Jg cs h.2.1;rw[Kd.all]at hx;simp only[Kd.t]at hw ⊢;rw[zd (yq (by decide)),zO (t:=x)]
   ·rfl
   ·rw[kh,zi];show zc ixT _ _ (en2 _ _)=_;rw[zh,zl,v0,bOk,hw,bOk,v1,bOk];exact G6 hx
  | row ks=>
   obtain⟨h1,h2,h3⟩:=h;rw[Kd.all,Kd.alls_map,ax]at hx;cases hr:(Zo [[]] (ks.map Kd.all))[i]? with
   | none=>rw[hr]at hx;cases hx
   | some xs=>
    rw[hr]at hx;cases hx;simp only[Kd.t];rw[Kd.ts_map,zd (yq (by decide)),zd (yq (by decide)),zO (t:= .tup xs)]
    ·rfl
    ·rw[kh,zi];show za 2 _ _ (en2 _ _)=_;rw[zB,j5,bOk,v1,bOk,e2];refine JJ ks rfl h2 (λk hk=>⟨ZK (by omega) (h3 k hk),ih1 k (h3 k hk),Zw d k (h3 k hk),qA (by omega) (h3 k hk)⟩) hr
  | many k lo hi=>
   obtain⟨h1,h2,h3⟩:=h;rw[ji,Vr]at hi';obtain⟨x',hx',hv⟩:=yd (cp:=S_j (n+1) 2) (by omega:d<=2) h3 h1 h2 hi' (λm hm j xs hr=>by
    rw[e2'];refine JJ (ag m k) (by rw[aS];rfl) (by rw[aW];exact hm) (λk' hk' => ?_) (by rw[aS];exact hr)
    rw[bj hk'];exact⟨ZK (by omega) h3,ih k h3,Zw d k h3,qA (by omega) h3⟩)
   rw[hx]at hx';cases hx';simp only[Kd.t];rw[zd (yq (by decide)),zd (yq (by decide)),zd (yq (by decide)),zi (t:=x)]
   ·rfl
   ·show za 2 _ _ (en2 _ _)=_;rw[zB,v0,bOk,v1,bOk,e1];exact hv
theorem G9 {k:Kd}(h:k.Ok 3){i:Nat}{x:T}(hx:k.all[i]? =some x):f_j 20 [k.t,.int (i:Int)]= .ok x:=jv 3 20 (by omega) (by omega) k h i x hx
def Pl:Nat->T->Prop
 | 0,_=>False
 | n+1,.tup xs=>∀x∈xs,Pl n x
 | n+1,.lst xs=>∀x∈xs,Pl n x
 | _+1,.fz _=>False
 | _+1,_=>True
theorem Jh {f:T->T->Option Bool}:∀(xs ys:List T),(∀x∈xs,∀y,∃b,f x y=some b)->∃b,eqL f xs ys=some b
 | [],[],_=>⟨_,rfl⟩
 | [],_ :: _,_=>⟨_,rfl⟩
 | _ :: _,[],_=>⟨_,rfl⟩
 | x :: xs,y :: ys,h=>by
  obtain⟨b,hb⟩:=h x ae y;obtain⟨c,hc⟩:=Jh xs ys λz hz=>h z (ab _ hz);exact⟨b && c,by unfold eqL;rw[hb,hc]⟩
theorem Zp {f:T->T->Option Bool}:∀(xs:List T),(∀x∈xs,f x x=some true)->eqL f xs xs=some true
 | [],_=>rfl
 | x :: xs,h=>by
  unfold eqL;rw[h x ae,Zp xs λz hz=>h z (ab _ hz)];rfl
theorem Ji:∀(n:Nat) (y x:T),Pl n y->∃b,eqF n y x=some b
 | 0,_,_,h=>h.elim
 | n+1,y,x,h=>by
  cases y with
  | tup xs=>
   have h:∀x∈xs,Pl n x:=h;cases x with
   | tup ys=>rw[eqF];exact Jh xs ys λz hz u=>Ji n z u (h z hz)
   | _=>exact⟨false,by rw[eqF] <;> intros <;> first | rfl | contradiction | (intro z;cases z)⟩
  | lst xs=>
   have h:∀x∈xs,Pl n x:=h;cases x with
   | lst ys=>rw[eqF];exact Jh xs ys λz hz u=>Ji n z u (h z hz)
   | fz ys=>rw[eqF];exact Jh xs ys λz hz u=>Ji n z u (h z hz)
   | _=>exact⟨false,by rw[eqF] <;> intros <;> first | rfl | contradiction | (intro z;cases z)⟩
  | fz xs=>exact h.elim
  | non=>cases x <;> exact⟨_,rfl⟩
  | bl b=>cases x <;> exact⟨_,rfl⟩
  | int i=>cases x <;> exact⟨_,rfl⟩
  | str i=>cases x <;> exact⟨_,rfl⟩
theorem Z5:∀(n:Nat) (y:T),Pl n y->eqF n y y=some true
 | 0,_,h=>h.elim
 | n+1,y,h=>by
  cases y with
  | tup xs=>rw[eqF];exact Zp xs λz hz=>Z5 n z ((show ∀x∈xs,Pl n x from h) z hz)
  | lst xs=>rw[eqF];exact Zp xs λz hz=>Z5 n z ((show ∀x∈xs,Pl n x from h) z hz)
  | fz xs=>exact h.elim
  | non=>rfl
  | bl b=>show some (b == b)=_;simp
  | int i=>show some (i == i)=_;simp
  | str i=>show some (i == i)=_;simp
theorem Pl.up:∀(n:Nat) (y:T),Pl n y->Pl (n+1) y
 | 0,_,h=>h.elim
 | n+1,y,h=>by
  cases y with
  | tup xs=>exact λz hz=>Pl.up n z ((show ∀x∈xs,Pl n x from h) z hz)
  | lst xs=>exact λz hz=>Pl.up n z ((show ∀x∈xs,Pl n x from h) z hz)
  | fz xs=>exact h.elim
  | _=>exact trivial
theorem Pl.le {n m:Nat}{y:T}(hm:n<=m)(h:Pl n y):Pl m y:=by
 obtain⟨j,rfl⟩:∃j,m=n+j:=⟨m - n,by omega⟩
 clear hm
 induction j with
 | zero=>exact h
 | succ j ih=>exact Pl.up _ _ ih
theorem vx:∀(d:Nat) (k:Kd) (x:T),k.Ok d->k.has x=true->Pl d x
 | 0,_,_,h,_=>h.elim
 | d+1,.whole lo hi,x,h,hx=>by
  rw[Kd.has]at hx;obtain⟨i,rfl⟩:=um hx;trivial
 | d+1,.pick cs,x,h,hx=>by
  rw[Kd.has]at hx;dsimp only at hx;split at hx
  ·trivial
  ·cases hx
 | d+1,.row ks,x,h,hx=>by
  rw[Kd.has]at hx;dsimp only at hx;split at hx
  ·rename_i xs;rw[aj,beq_iff_eq]at hx;intro y hy;obtain⟨k,hk,hh⟩:=Ub ks xs hx.1 hx.2 y hy;exact vx d k y (h.2.2 k hk) hh
  ·cases hx
 | d+1,.many k lo hi,x,h,hx=>by
  rw[Kd.has]at hx;dsimp only at hx;split at hx
  ·rename_i xs;rw[aj,aI]at hx;exact λy hy=>vx d k y h.2.2 (hx.2 y hy)
  ·cases hx
theorem wT {t:T}(h:Pl 30 t):neC t t= .ok false:=by unfold neC;rw[Z5 30 t h];rfl
theorem WR {f:T->Option Bool}:∀(ts:List T),(∀t∈ts,∃b,f t=some b)->∃b,JV f ts=some b/\(b=false->∀t∈ts,f t=some false)
 | [],_=>⟨false,rfl,λ_ _ h=>nomatch h⟩
 | t :: ts,h=>by
  obtain⟨b,hb⟩:=h t ae;obtain⟨c,hc,h'⟩:=WR ts λu hu=>h u (ab _ hu);refine⟨b || c,by unfold JV;rw[hb,hc],λe u hu=> ?_⟩
  rw[h_]at e;rcases ak.mp hu with rfl | hu
  ·rw[hb,e.1]
  ·exact h' e.2 u hu
theorem Zx {f:En->R T}{ρ:En}{t:T}(h:f ρ= .ok t):jt f ρ= .nx ρ:=by unfold jt;rw[h,Zt]
theorem all_map (k:Kd):((rng 0 k.all.length).map λt=>match t with | .int i=>(k.all[i.toNat]?).getD .non | y=>y)=k.all:=by
 unfold rng;rw[aF];refine cu λi=> ?_;rw[ax]
 by_cases hi:i < k.all.length
 ·rw[cA hi];show some ((k.all[((0:Int)+(i:Int)).toNat]?).getD .non)=_;rw[show ((0:Int)+(i:Int)).toNat=i by omega]
  obtain⟨x,hx⟩:=jX hi;rw[hx];rfl
 ·rw[aD (by simpa using hi),aD (by omega)];rfl
theorem Xv {f:En->R T}{ρ:En}{j:Int}(hf:f ρ= .ok (.int j))(h: -1000000 < j/\j < 1000000):j2 f ρ= .ok (rng 0 j.toNat):=by
 unfold j2;rw[hf,bOk];exact if_pos h
theorem z25 {i j:Int}:gtC (.int i) (.int j)= .ok (decide (j < i)):=rfl
theorem qB {g:En->R Bool}{f f' :En->R T}{ρ:En}(h:g ρ= .ok true):ifE g f f' ρ=f ρ:=by unfold ifE;rw[h];rfl
theorem qC {g:En->R Bool}{f f' :En->R T}{ρ:En}(h:g ρ= .ok false):ifE g f f' ρ=f' ρ:=by unfold ifE;rw[h];rfl
theorem Ga {i:Int}:neC (.int i) (.int i)= .ok false:=by show R.ok (!(i == i))=_;simp
theorem qD {ws:List Str}(h:Dst ws){i j:Nat}{w:Str}(hi:ws[i]? =some w)(hj:ws[j]? =some w):i=j:=by
 rcases Nat.lt_trichotomy i j with z | z | z
 ·exact absurd (bz (show (ws.take j)[i]? =some w by rw[iw,if_pos z];exact hi)) (h j w hj)
 ·exact z
 ·exact absurd (bz (show (ws.take i)[j]? =some w by rw[iw,if_pos z];exact hj)) (h i w hi)
theorem vy {ws:List Str}(h:Dst ws):(ws.map T.str).Pairwise (λa b=>a ≠ b):=by
 rw[du,cf];intro i j hi hj hij e;have e:ws[i]=ws[j]:=by injection e
 have:=qD h (i:=i) (j:=j) (w:=ws[j]) (by rw[ac hi,e]) (ac hj)
 omega
theorem qE (cs:List (Str×Int)):(Kd.pick cs).all=(cs.map (·.1)).map T.str:=by rw[Kd.all,aF];rfl
theorem Uh:∀(ls made:List (List T)) (m:Nat),(∀l∈ls,l.Pairwise (λa b=>a ≠ b))->made.Pairwise (λa b=>a ≠ b)->(∀a∈made,a.length=m)->(Zo made ls).Pairwise (λa b=>a ≠ b)
 | [],made,m,_,h,_=>by rw[Zo];exact h
 | l :: ls,made,m,hl,h,hm=>by
  rw[Zo];refine Uh ls _ (m+1) (λq hq=>hl q (ab _ hq)) ?_ ?_
  ·rw[hJ];refine⟨λa ha=> ?_,List.Pairwise.imp_of_mem (λ{a b} ha hb hab=> ?_) h⟩
   ·rw[du];exact d_ (λhxy e=>hxy (by have:=List.append_cancel_left e;injection this)) (hl l ae)
   ·intro x hx y hy e;obtain⟨u,_,rfl⟩:=aq.mp hx;obtain⟨v,_,rfl⟩:=aq.mp hy;exact hab (List.append_inj e (by rw[hm a ha,hm b hb])).1
  ·intro a ha;obtain⟨b,hb,hx⟩:=cg.mp ha;obtain⟨u,_,rfl⟩:=aq.mp hx;rw[aA,hm b hb];rfl
theorem qF {ls:List (List T)}(h:∀l∈ls,l.Pairwise (λa b=>a ≠ b)):(wQ ls).Pairwise (λa b=>a ≠ b):=by
 unfold wQ;rw[du];refine d_ (λhab e=>hab (by injection e)) (Uh ls [[]] 0 h (by simp) (by simp))
theorem wq:∀(d:Nat) (k:Kd),k.Ok d->k.all.Pairwise (λa b=>a ≠ b)
 | 0,_,h=>h.elim
 | d+1,.whole lo hi,h=>by
  rw[Kd.all,du];exact d_ (λ{i j} hab e=>hab (by injection e with e;omega)) (fM (n:=(hi+1 - lo).toNat))
 | d+1,.pick cs,h=>by rw[qE];exact vy h.2.2.2
 | d+1,.row ks,h=>by
  rw[Kd.all,Kd.alls_map];refine qF λl hl=> ?_;obtain⟨k,hk,rfl⟩:=aq.mp hl;exact wq d k (h.2.2 k hk)
 | d+1,.many k lo hi,h=>by
  rw[Kd.all,hJ];refine⟨λi hi=>qF λl hl=> ?_,d_ (λ{i j} hij=> ?_) (fM (n:=hi+1 - lo))⟩
  ·obtain rfl:=(ix.mp hl).2;exact wq d k h.2.2
  ·intro x hx y hy e;obtain⟨xs,h1,rfl⟩:=(jE _ _).mp hx;obtain⟨ys,h2,rfl⟩:=(jE _ _).mp hy;have e:xs=ys:=by injection e
   subst e;have a:=((jF _ _ _).mp h1).1;have b:=((jF _ _ _).mp h2).1;omega
theorem vz {α:Type}:∀(l m:List α),l.Pairwise (λa b=>a ≠ b)->(∀x∈l,x∈m)->l.length<=m.length
 | [],_,_,_=>b9 _
 | x :: l,m,h,hs=>by
  obtain⟨a,b,rfl⟩:=List.append_of_mem (hs x ae);have h' :=b7.mp h;have:=vz l (a++b) h'.2 λy hy=>by
   have hy' :=hs y (ab _ hy);rw[dh,ak]at hy';rw[dh];rcases hy' with z | z | z
   ·exact .inl z
   ·exact absurd z.symm (h'.1 y hy)
   ·exact .inr z
  simp at this ⊢;omega
theorem z26 {α:Type}:∀(l m:List α),l.Pairwise (λa b=>a ≠ b)->m.Pairwise (λa b=>a ≠ b)->(∀x∈l,x∈m)->l.length=m.length->∀x∈m,x∈l:=λl m h hm hs e x hx=>by
 refine Classical.byContradiction λhn=> ?_;have:=vz (x :: l) m (b7.mpr ⟨λy hy z=>hn (z ▸ hy),h⟩) λy hy=>by
  rcases ak.mp hy with rfl | hy
  ·exact hx
  ·exact hs y hy
 simp at this;omega
theorem uu {k l:Kd}{d:Nat}(hk:k.Ok d)(hl:l.Ok d)(h:∀x,k.has x=true->l.has x=true):k.all.length<=l.all.length/\(k.all.length=l.all.length->∀x,l.has x=true->k.has x=true):=by
 have hs:∀x∈k.all,x∈l.all:=λx hx=>(Za l x).mpr (h x ((Za k x).mp hx));exact⟨vz _ _ (wq d k hk) hs,λe x hx=>(Za k x).mp (z26 _ _ (wq d k hk) (wq d l hl) hs e x ((Za l x).mpr hx))⟩
abbrev Cm (k l:Kd)(d:Nat)(r:R T):Prop:=(∃c:Kd,r= .ok c.t/\c.Ok d/\∀x,c.has x=(k.has x && l.has x))\/(r= .ok .non/\∀x,(k.has x && l.has x)=false)
theorem Gb {f g:En->R T}{ρ:En}{i j:Int}(hf:f ρ= .ok (.int i))(hg:g ρ= .ok (.int j)):zc Ww f g ρ= .ok (.int (max i j)):=by
 rw[zh,hf,bOk,hg,bOk];show R.ok (T.int (if j > i then j else i))=_
 congr 2;split <;> omega
theorem Gc {f g:En->R T}{ρ:En}{i j:Int}(hf:f ρ= .ok (.int i))(hg:g ρ= .ok (.int j)):zc Jt f g ρ= .ok (.int (min i j)):=by
 rw[zh,hf,bOk,hg,bOk];show R.ok (T.int (if j < i then j else i))=_
 congr 2;split <;> omega
theorem jx1 {x a b:T}{r:List T}{ρ:En}:zc ixT (vE 1) (cE (.int 1)) (.vl x :: .vl (.tup (a :: b :: r)) :: ρ)= .ok b:=by rw[zh,v1,bOk,Z3,bOk,at1]
theorem jx2 {x a b c:T}{r:List T}{ρ:En}:zc ixT (vE 1) (cE (.int 2)) (.vl x :: .vl (.tup (a :: b :: c :: r)) :: ρ)= .ok c:=by rw[zh,v1,bOk,Z3,bOk,at2]
theorem jx3 {x a b c d:T}{r:List T}{ρ:En}:zc ixT (vE 1) (cE (.int 3)) (.vl x :: .vl (.tup (a :: b :: c :: d :: r)) :: ρ)= .ok d:=by rw[zh,v1,bOk,Z3,bOk,at3]
theorem qG {d:Nat}(a b c e:Int)(h1:(Kd.whole a b).Ok (d+1))(h2:(Kd.whole c e).Ok (d+1)):Cm (.whole a b) (.whole c e) (d+1) (gB [(Kd.whole a b).t,(Kd.whole c e).t]):=by
 have ex:gB [(Kd.whole a b).t,(Kd.whole c e).t]=if max a c<=min b e then .ok (.tup [.str "whole",.int (max a c),.int (min b e)]) else .ok .non:=by
  show zg (z0e [.vl (Kd.whole a b).t,.vl (Kd.whole c e).t,.un,.un])=_;unfold z0e;have e1:zD 2 (zc Ww (zc ixT (vE 0) (cE (.int 1))) (zc ixT (vE 1) (cE (.int 1)))) [.vl (Kd.whole a b).t,.vl (Kd.whole c e).t,.un,.un]= .nx [.vl (Kd.whole a b).t,.vl (Kd.whole c e).t,.vl (.int (max a c)),.un]:=by
   rw[zC (t:= .int (max a c))]
   ·rfl
   ·exact Gb (by rw[Kd.t];exact j5) (by rw[Kd.t,Kd.t];exact jx1)
  have e2:zD 3 (zc Jt (zc ixT (vE 0) (cE (.int 2))) (zc ixT (vE 1) (cE (.int 2)))) [.vl (Kd.whole a b).t,.vl (Kd.whole c e).t,.vl (.int (max a c)),.un]= .nx [.vl (Kd.whole a b).t,.vl (Kd.whole c e).t,.vl (.int (max a c)),.vl (.int (min b e))]:=by
   rw[zC (t:= .int (min b e))]
   ·rfl
   ·exact Gc (by rw[Kd.t];exact W8) (by rw[Kd.t,Kd.t];exact jx2)
  rw[zd e1,zd e2];have et:zk leC (vB 2) (vB 3) [.vl (Kd.whole a b).t,.vl (Kd.whole c e).t,.vl (.int (max a c)),.vl (.int (min b e))]= .ok (decide (max a c<=min b e)):=rfl
  by_cases h:max a c<=min b e
  ·rw[if_pos h,zi (t:= .tup [.str "whole",.int (max a c),.int (min b e)]) (by show ifE _ _ _ [.vl (Kd.whole a b).t,.vl (Kd.whole c e).t,.vl (.int (max a c)),.vl (.int (min b e))]=_;rw[qB (by rw[et,decide_eq_true h])];exact z21 rfl rfl rfl)];rfl
  ·rw[if_neg h,zi (t:= .non) (by show ifE _ _ _ [.vl (Kd.whole a b).t,.vl (Kd.whole c e).t,.vl (.int (max a c)),.vl (.int (min b e))]=_;rw[qC (by rw[et,decide_eq_false h])];rfl)];rfl
 have hh:∀x,((Kd.whole a b).has x && (Kd.whole c e).has x)=inR (max a c) (min b e) x:=λx=>by
  rw[Kd.has,Kd.has];cases x with
  | int i=>
   show ((decide (a<=i) && decide (i<=b)) && (decide (c<=i) && decide (i<=e)))=(decide (max a c<=i) && decide (i<=min b e));rw[eN];simp only[aj,decide_eq_true_eq];omega
  | _=>rfl
 rw[ex]
 by_cases h:max a c<=min b e
 ·rw[if_pos h];refine .inl ⟨.whole (max a c) (min b e),by rw[Kd.t],⟨?_,h, ?_⟩,λx=>by rw[hh];rw[Kd.has]⟩
  ·have:=h1.1;have:=h2.1;omega
  ·have:=h1.2.2;have:=h2.2.2;omega
 ·rw[if_neg h];refine .inr ⟨rfl,λx=> ?_⟩;rw[hh];cases x with
  | int i=>
   show (decide (max a c<=i) && decide (i<=min b e))=false;rw[cv];simp only[ne_eq,aj,decide_eq_true_eq];omega
  | _=>rfl
theorem vA {d:Nat}(cs es:List (Str×Int))(h1:(Kd.pick cs).Ok (d+1))(h2:(Kd.pick es).Ok (d+1)):Cm (.pick cs) (.pick es) (d+1) (gC [(Kd.pick cs).t,(Kd.pick es).t]):=by
 obtain⟨_,h14,hcs,hds⟩:=h1;have hw:=Jg es h2.2.1
 let fs:=cs.filter λc=>decide (c.1∈es.map (·.1))
 have ef:fs=cs.filter λc=>decide (c.1∈es.map (·.1)):=rfl;have hlen:fs.length<=cs.length:=List.length_filter_le _ _;have ex:gC [(Kd.pick cs).t,(Kd.pick es).t]=if 0 < fs.length then .ok (.tup [.str "pick",.tup (fs.map Zu)]) else .ok .non:=by
  show zg (z0f f_h [.vl (Kd.pick cs).t,.vl (Kd.pick es).t,.un,.un])=_;unfold z0f;have e1:zD 2 (za 1 f_h (z9 (vE 1) (ze))) [.vl (Kd.pick cs).t,.vl (Kd.pick es).t,.un,.un]= .nx [.vl (Kd.pick cs).t,.vl (Kd.pick es).t,.vl (.lst (es.map λc=>T.str c.1)),.un]:=by
   rw[zC (t:= .lst (es.map λc=>T.str c.1))]
   ·rfl
   ·rw[zl,v1,bOk,hw]
  have ec:zJ (Zv (zc ixT (vE 0) (cE (.int 1)))) (zt 0) (zk inC (zc ixT (vE 0) (cE (.int 0))) (vB 1)) (vE 0) 1 [2] [.vl (Kd.pick cs).t,.vl (Kd.pick es).t,.vl (.lst (es.map λc=>T.str c.1)),.un]= .ok (.lst (fs.map Zu)):=by
   have ei:Zv (zc ixT (vE 0) (cE (.int 1))) [.vl (Kd.pick cs).t,.vl (Kd.pick es).t,.vl (.lst (es.map λc=>T.str c.1)),.un]= .ok (cs.map Zu):=by
    rw[ZF,Kd.t,j5,bOk];rfl
   rw[zH,ei,bOk];unfold zL;rw[if_pos (by rw[af];exact ap h14 (by decide))]
   have eL:zy (zt 0) (zk inC (zc ixT (vE 0) (cE (.int 0))) (vB 1)) (vE 0) (cs.map Zu) (wB 1 [2] [.vl (Kd.pick cs).t,.vl (Kd.pick es).t,.vl (.lst (es.map λc=>T.str c.1)),.un])= .ok (((cs.map Zu).filter λt=>match t with | .tup [.str w,_]=>decide (w∈es.map (·.1)) | _=>false).map λt=>t):=by
    refine ZL (p:=λt=>match t with | .tup [.str w,_]=>decide (w∈es.map (·.1)) | _=>false) (h:=λt=>t) _ _ λt ht=> ?_
    obtain⟨c,hc,rfl⟩:=aq.mp ht;refine⟨?_,λ_=>rfl⟩;show zk inC (zc ixT (vE 0) (cE (.int 0))) (vB 1) [.vl (Zu c),.vl (.lst (es.map λc=>T.str c.1))]= .ok (decide (c.1∈es.map (·.1)));have e0:zc ixT (vE 0) (cE (.int 0)) [.vl (Zu c),.vl (.lst (es.map λc=>T.str c.1))]= .ok (.str c.1):=by
     rw[zh,v0,bOk,Z3,bOk];unfold Zu;exact at0
    rw[zu,e0,bOk,w1,bOk];show (match JV (λy=>eqF 30 y (.str c.1)) (es.map λc=>T.str c.1) with | some b=>R.ok b | none=> .bad)=_
    have em:(es.map λc=>T.str c.1)=(es.map (·.1)).map T.str:=by rw[aF];rfl
    rw[em,wP]
   have eF:(((cs.map Zu).filter λt=>match t with | .tup [.str w,_]=>decide (w∈es.map (·.1)) | _=>false).map λt=>t)=fs.map Zu:=by
    rw[List.map_id',List.filter_map];rfl
   rw[eL,eF];rfl
  have e2:zD 3 (zJ (Zv (zc ixT (vE 0) (cE (.int 1)))) (zt 0) (zk inC (zc ixT (vE 0) (cE (.int 0))) (vB 1)) (vE 0) 1 [2]) [.vl (Kd.pick cs).t,.vl (Kd.pick es).t,.vl (.lst (es.map λc=>T.str c.1)),.un]= .nx [.vl (Kd.pick cs).t,.vl (Kd.pick es).t,.vl (.lst (es.map λc=>T.str c.1)),.vl (.lst (fs.map Zu))]:=by
   rw[zC ec];rfl
  rw[zd e1,zd e2];have et:zk gtC (ap1 ZO (vB 3)) (cE (.int 0)) [.vl (Kd.pick cs).t,.vl (Kd.pick es).t,.vl (.lst (es.map λc=>T.str c.1)),.vl (.lst (fs.map Zu))]= .ok (decide (0 < fs.length)):=by
   show R.ok (decide ((0:Int) < ((fs.map Zu).length:Nat)))=_;rw[af]
   by_cases hz:0 < fs.length
   ·rw[decide_eq_true hz,decide_eq_true (by omega)]
   ·rw[decide_eq_false hz,decide_eq_false (by omega)]
  by_cases h:0 < fs.length
  ·rw[if_pos h,zi (t:= .tup [.str "pick",.tup (fs.map Zu)]) (by show ifE _ _ _ [.vl (Kd.pick cs).t,.vl (Kd.pick es).t,.vl (.lst (es.map λc=>T.str c.1)),.vl (.lst (fs.map Zu))]=_;rw[qB (by rw[et,decide_eq_true h])];exact W7 rfl rfl)];rfl
  ·rw[if_neg h,zi (t:= .non) (by show ifE _ _ _ [.vl (Kd.pick cs).t,.vl (Kd.pick es).t,.vl (.lst (es.map λc=>T.str c.1)),.vl (.lst (fs.map Zu))]=_;rw[qC (by rw[et,decide_eq_false h])];rfl)];rfl
 have hh:∀y:Str,((Kd.pick cs).has (.str y) && (Kd.pick es).has (.str y))=fs.any λc=>c.1 == y:=λy=>by
  rw[Kd.has,Kd.has];rw[eN];simp only[aj,cY,beq_iff_eq];constructor
  ·rintro⟨⟨c,hc,rfl⟩,⟨e,he,e1⟩⟩
   exact⟨c,dH.mpr ⟨hc,decide_eq_true (aq.mpr ⟨e,he,e1⟩)⟩,rfl⟩
  ·rintro⟨c,hc,rfl⟩
   obtain⟨a1,a2⟩:=dH.mp hc;obtain⟨e,he,e1⟩:=aq.mp (of_decide_eq_true a2);exact⟨⟨c,a1,rfl⟩,⟨e,he,e1⟩⟩
 have hn:∀x,(∀y,x ≠ .str y)->((Kd.pick cs).has x && (Kd.pick es).has x)=false:=λx hx=>by
  rw[Kd.has,Kd.has];cases x with
  | str y=>exact absurd rfl (hx y)
  | _=>rfl
 rw[ex]
 by_cases h:0 < fs.length
 ·rw[if_pos h];refine .inl ⟨.pick fs,by rw[Kd.t],⟨h,by omega,λc hc=>hcs c (dH.mp hc).1, ?_⟩,λx=> ?_⟩
  ·have hp:(cs.map (·.1)).Pairwise (λa b=>a ≠ b):=by
    rw[cf];intro i j hi hj hij e;have:=qD hds (i:=i) (j:=j) (w:=(cs.map (·.1))[j]) (by rw[ac hi,e]) (ac hj)
    omega
   have hp2:(fs.map (·.1)).Pairwise (λa b=>a ≠ b):=List.Pairwise.sublist (List.Sublist.map _ List.filter_sublist) hp;intro j w hj hm;obtain⟨i,hi,e⟩:=cO.mp hm;rw[cT]at hi;rw[fm]at e;obtain⟨hj',ej⟩:=au.mp hj;exact(cf.mp hp2) i j (by omega) hj' (by omega) (by rw[e,ej])
  ·cases x with
   | str y=>rw[hh];rw[Kd.has]
   | _=>rw[hn _ (λy z=>by cases z)];rw[Kd.has]
 ·rw[if_neg h];refine .inr ⟨rfl,λx=> ?_⟩;cases x with
  | str y=>
   rw[hh];have:fs=[]:=cU.mp (by omega)
   rw[this];rfl
  | _=>exact hn _ (λy z=>by cases z)
theorem zx {g:En->R Bool}{f:En->R T}{h:En->RS}{ρ:En}(hg:g ρ= .ok true):zg (zj (ifS g (zn f) nxS) h ρ)=f (frz ρ):=by
 rw[Z0,wS hg,Zd];cases f (frz ρ) <;> rfl
theorem zR {f:En->R T}{ρ:En}:zg (zn f ρ)=f (frz ρ):=by rw[Zd,jB]
theorem z27 (k:Kd):∃x r,k.t= .tup (.str x :: r):=by
 cases k <;> exact⟨_,_,by rw[Kd.t]⟩
def ye:Option Kd->T
 | some c=>c.t
 | none=> .non
theorem qH:∀os:List (Option Kd),JV (λy=>eqF 30 y .non) (os.map ye)=some (os.any fx)
 | []=>rfl
 | o :: os=>by
  have e:JV (λy=>eqF 30 y .non) ((o :: os).map ye)=match eqF 30 (ye o) .non with | none=>none | some b=>match JV (λy=>eqF 30 y .non) (os.map ye) with | none=>none | some c=>some (b || c):=rfl
  rw[e,qH os];cases o with
  | none=>rfl
  | some c=>
   obtain⟨x,r,h⟩:=z27 c;have:eqF 30 (ye (some c)) .non=some false:=by show eqF 30 c.t .non=_;rw[h];rfl
   rw[this];rfl
theorem Ui:∀os:List (Option Kd),os.any fx=false->∃cs:List Kd,os=cs.map some
 | [],_=>⟨[],rfl⟩
 | o :: os,h=>by
  rw[ib,h_]at h;obtain⟨cs,rfl⟩:=Ui os h.2;cases o with
  | none=>cases h.1
  | some c=>exact⟨c :: cs,rfl⟩
def Ck (d:Nat)(q:Kd×Kd):Option Kd->Prop
 | some c=>c.Ok d/\∀x,c.has x=(q.1.has x && q.2.has x)
 | none=>∀x,(q.1.has x && q.2.has x)=false
abbrev ckE (c:List T->R T):En->R T:=za 2 c (z9 (vE 0) (z9 (vE 1) (ze)))
theorem qI {c:List T->R T}{d:Nat}:∀(qs:List (Kd×Kd)) (x y:Sl),(∀q∈qs,∃o,c [q.1.t,q.2.t]= .ok (ye o)/\Ck d q o)->
  ∃os:List (Option Kd),zy (zN 0 1) zQ (ckE c) (qs.map λq=>T.tup [q.1.t,q.2.t]) [x,y]= .ok (os.map ye)/\os.length=qs.length/\∀(i:Nat) (q:Kd×Kd) (o:Option Kd),qs[i]? =some q->os[i]? =some o->Ck d q o
 | [],_,_,_=>⟨[],rfl,rfl,λi q o h=>by simp at h⟩
 | q :: qs,x,y,h=>by
  obtain⟨o,e1,hc⟩:=h q ae;obtain⟨os,e2,e3,e4⟩:=qI (c:=c) (d:=d) qs (.vl q.1.t) (.vl q.2.t) λr hr=>h r (ab _ hr);have e0:zy (zN 0 1) zQ (ckE c) ((q :: qs).map λq=>T.tup [q.1.t,q.2.t]) [x,y]=(ckE c [.vl q.1.t,.vl q.2.t]).bind λv=>(zy (zN 0 1) zQ (ckE c) (qs.map λq=>T.tup [q.1.t,q.2.t]) [.vl q.1.t,.vl q.2.t]).bind λvs=> .ok (v :: vs):=rfl;have e5:ckE c [.vl q.1.t,.vl q.2.t]=c [q.1.t,q.2.t]:=by unfold ckE;rw[zB,v0,bOk,v1,bOk]
  refine⟨o :: os,by rw[e0,e5,e1,bOk,e2,bOk,ar],by rw[av,av,e3],λi q' o' h1 h2=> ?_⟩
  cases i with
  | zero=>cases h1;cases h2;exact hc
  | succ i=>exact e4 i q' o' (by simpa using h1) (by simpa using h2)
theorem jN:∀(ks:List Kd) (xs:List T),Kd.hass ks xs=true↔∀(i:Nat) (k:Kd) (x:T),ks[i]? =some k->xs[i]? =some x->k.has x=true
 | [],_=>by simp[Kd.hass]
 | k :: ks,[]=>by simp[Kd.hass]
 | k :: ks,x :: xs=>by
  rw[Kd.hass];simp only[aj];rw[jN ks xs];constructor
  ·rintro⟨h1,h2⟩ i k' x' e1 e2
   cases i with
   | zero=>cases e1;cases e2;exact h1
   | succ i=>exact h2 i k' x' (by simpa using e1) (by simpa using e2)
  ·intro h;exact⟨h 0 k x rfl rfl,λi k' x' e1 e2=>h (i+1) k' x' (by simpa using e1) (by simpa using e2)⟩
theorem Xw {n d:Nat}{s s' :T}(ks ls:List Kd)(hs:j3 s= .ok (ks.map Kd.t))(hs' :j3 s' = .ok (ls.map Kd.t))(hl:ZO s= .ok (.int (ks.length:Int)))(hl' :ZO s' = .ok (.int (ls.length:Int)))(h3:ks.length<=3)(H:∀k∈ks,∀l∈ls,Cm k l d (S_d n 0 [k.t,l.t])):
  (∃cs:List Kd,S_d (n+1) 1 [s,s']= .ok (.tup [.str "row",.tup (cs.map Kd.t)])/\cs.length=ks.length/\ks.length=ls.length/\(∀c∈cs,c.Ok d)/\∀xs:List T,xs.length=ks.length->Kd.hass cs xs=(Kd.hass ks xs && Kd.hass ls xs))\/
  (S_d (n+1) 1 [s,s']= .ok .non/\∀xs:List T,xs.length=ks.length->xs.length=ls.length->(Kd.hass ks xs && Kd.hass ls xs)=false):=by
 have e:S_d (n+1) 1 [s,s']=zg (z0h (S_d n 0) [.vl s,.vl s',.un]):=by
  rw[S_d];rfl
 have et:zk neC (ap1 ZO (vB 0)) (ap1 ZO (vB 1)) [.vl s,.vl s',.un]= .ok (!((ks.length:Int) == (ls.length:Int))):=by
  rw[zu,Zs,w0,bOk,hl,bOk,Zs,w1,bOk,hl',bOk];rfl
 rw[e];unfold z0h
 by_cases hkl:ks.length=ls.length
 ·have ez:Qg (vE 0) (vE 1) [.vl s,.vl s',.un]= .ok ((ks.zip ls).map λq=>T.tup [q.1.t,q.2.t]):=by
   show (j3 s).bind _=_;rw[hs,bOk,hs',bOk];unfold Qf;rw[List.zip_map,aF];rfl
  obtain⟨os,e1,e2,e3⟩:=qI (c:=S_d n 0) (d:=d) (ks.zip ls) .un .un λq hq=>by
   rcases H q.1 (bX hq).1 q.2 (bX hq).2 with ⟨c,a1,a2,a3⟩ | ⟨a1,a2⟩
   ·exact⟨some c,a1,a2,a3⟩
   ·exact⟨none,a1,a2⟩
  have hol:os.length=ks.length:=by rw[e2,dJ];omega
  have ec:zJ (Qg (vE 0) (vE 1)) (zN 0 1) zQ (ckE (S_d n 0)) 2 [] [.vl s,.vl s',.un]= .ok (.lst (os.map ye)):=by
   rw[zH,ez,bOk];unfold zL;rw[if_pos (by rw[af,dJ];exact ap (li _ _) (ap h3 (by decide)))]
   show (quiet (zy _ _ _ _ [.un,.un])).bind _=_;rw[e1];rfl
  have es:zD 2 (zJ (Qg (vE 0) (vE 1)) (zN 0 1) zQ (ckE (S_d n 0)) 2 []) [.vl s,.vl s',.un]= .nx [.vl s,.vl s',.vl (.lst (os.map ye))]:=by rw[zC ec];rfl
  have ei:zk inC (cE .non) (vB 2) [.vl s,.vl s',.vl (.lst (os.map ye))]= .ok (os.any fx):=by
   rw[zu,Z3,bOk,w2,bOk];show (match JV (λy=>eqF 30 y .non) (os.map ye) with | some b=>R.ok b | none=> .bad)=_
   rw[qH]
  rw[zd (zq (by rw[et,hkl,beq_self_eq_true];rfl)),zd es]
  have zat:∀(i:Nat) (k l:Kd),ks[i]? =some k->ls[i]? =some l->(ks.zip ls)[i]? =some (k,l):=λi k l h1 h2=>by
   rw[ce];exact⟨h1,h2⟩
  cases hn:os.any fx with
  | true=>
   right
   rw[zx (by rw[ei,hn])]
   refine⟨rfl,λxs hx hx' => ?_⟩;obtain⟨o,ho,hio⟩:=cY.mp hn;obtain⟨i,hi,rfl⟩:=cO.mp ho;have hik:i < ks.length:=by omega
   have hil:i < ls.length:=by omega
   have hix:i < xs.length:=by omega
   have hc:=e3 i (ks[i],ls[i]) os[i] (zat i _ _ (ac hik) (ac hil)) (ac hi);have ho' :os[i]=none:=by cases q:os[i] with | none=>rfl | some c=>rw[q]at hio;cases hio
   rw[ho']at hc;rw[cv];intro z;rw[aj,jN,jN]at z;have z1:=z.1 i _ xs[i] (ac hik) (ac hix);have z2:=z.2 i _ xs[i] (ac hil) (ac hix);have:=hc xs[i];rw[z1,z2]at this;cases this
  | false=>
   left
   obtain⟨cs,rfl⟩:=Ui os hn;have hcl:cs.length=ks.length:=by rw[af]at hol;exact hol
   have em:(cs.map some).map ye=cs.map Kd.t:=by rw[aF];rfl
   rw[em]at ei ⊢;rw[zd (zq (by rw[ei,hn])),zR]
   have cat:∀(i:Nat) (c k l:Kd),cs[i]? =some c->ks[i]? =some k->ls[i]? =some l->c.Ok d/\∀x,c.has x=(k.has x && l.has x):=λi c k l h1 h2 h3=>e3 i (k,l) (some c) (zat i k l h2 h3) (by rw[ax,h1];rfl)
   refine⟨cs,W7 rfl rfl,hcl,hkl,λc hc=> ?_,λxs hx=> ?_⟩
   ·obtain⟨i,hi,rfl⟩:=cO.mp hc;exact(cat i _ _ _ (ac hi) (ac (by omega)) (ac (by omega))).1
   ·rw[eN,aj,jN,jN,jN];constructor
    ·intro h;refine⟨λi k x h1 h2=> ?_,λi l x h1 h2=> ?_⟩
     ·have hi:=(au.mp h1).1;have hic:i < cs.length:=by omega
      have hil:i < ls.length:=by omega
      have q:=(cat i _ _ _ (ac hic) h1 (ac hil)).2 x;rw[h i _ x (ac hic) h2]at q;exact(c7.mp q.symm).1
     ·have hi:=(au.mp h1).1;have hic:i < cs.length:=by omega
      have hik:i < ks.length:=by omega
      have q:=(cat i _ _ _ (ac hic) (ac hik) h1).2 x;rw[h i _ x (ac hic) h2]at q;exact(c7.mp q.symm).2
    ·rintro⟨h1,h2⟩ i c x q1 q2
     have hi:=(au.mp q1).1;have hik:i < ks.length:=by omega
     have hil:i < ls.length:=by omega
     rw[(cat i _ _ _ q1 (ac hik) (ac hil)).2 x,h1 i _ x (ac hik) q2,h2 i _ x (ac hil) q2];rfl
 ·right
  rw[zx (by rw[et,beq_eq_false_iff_ne.mpr (by omega)];rfl)]
  exact⟨rfl,λxs h1 h2=>by omega⟩
def kop:Kd->Nat->List Kd
 | .row ks,_=>ks
 | .many k lo hi,n=>if lo<=n/\n<=hi then ag n k else []
 | _,_=>[]
theorem Ge {x:T}{m:Nat}(h1:1<=m)(h:m<=3):vd (.tup [x]) (.int (m:Int))= .ok (.tup (ag m x)):=by
 by_cases e:m=1
 ·subst e;have c:((1:Nat):Int)=1/\[x] ≠ []:=⟨rfl,by simp⟩
  unfold vd;dsimp only;rw[if_pos c];rfl
 ·have:vd (.tup [x]) (.int (m:Int))=zT (.tup [x]) (.int (m:Int)):=if_neg (λz=>e (by omega))
  have c:2<=(m:Int)/\(m:Int) < 1000000/\[x] ≠ []/\[x].length*(m:Int).toNat<=bnd:=⟨by omega,by omega,by simp,by rw[aG,bh];exact ap (show 1*m<=3 by omega) (by decide)⟩
  rw[this,show zT (.tup [x]) (.int (m:Int))= .ok (.tup (ag (m:Int).toNat [x]).flatten) from if_pos c,bh,ZY]
theorem Vv (k:Kd)(n:Nat)(hn:1<=n)(h3:∀l lo hi,k= .many l lo hi->hi<=3):ke [k.t,.int (n:Int)]= .ok (.tup ((kop k n).map Kd.t)):=by
 show zg (z0g (en2 k.t (.int (n:Int))))=_;unfold z0g;cases k with
 | row ks=>rw[zx (by rw[Kd.t];exact cs0),show frz (en2 (Kd.row ks).t (.int (n:Int)))=en2 (Kd.row ks).t (.int (n:Int)) from rfl,Kd.t,Kd.ts_map,j5];rfl
 | whole a b=>
  have e0:zk eqC (zc ixT (vE 0) (cE (.int 0))) (cE (.str "many")) (en2 (Kd.whole a b).t (.int (n:Int)))= .ok false:=by rw[Kd.t];exact cs0
  rw[zd (zq (by rw[Kd.t];exact cs0)),zd (zq (by rw[uk,e0,bOk];rfl)),zR];rfl
 | pick cs=>
  have e0:zk eqC (zc ixT (vE 0) (cE (.int 0))) (cE (.str "many")) (en2 (Kd.pick cs).t (.int (n:Int)))= .ok false:=by rw[Kd.t];exact cs0
  rw[zd (zq (by rw[Kd.t];exact cs0)),zd (zq (by rw[uk,e0,bOk];rfl)),zR];rfl
 | many k lo hi=>
  have h3' :=h3 k lo hi rfl;have e0:zk eqC (zc ixT (vE 0) (cE (.int 0))) (cE (.str "many")) (en2 (Kd.many k lo hi).t (.int (n:Int)))= .ok true:=by rw[Kd.t];exact cs0
  have et:GX (zk eqC (zc ixT (vE 0) (cE (.int 0))) (cE (.str "many"))) (chT leC leC (zc ixT (vE 0) (cE (.int 2))) (vB 1) (zc ixT (vE 0) (cE (.int 3)))) (en2 (Kd.many k lo hi).t (.int (n:Int)))= .ok (decide (lo<=n) && decide (n<=hi)):=by
   rw[uk,e0,bOk,if_pos rfl,gJ,Kd.t,W8,bOk,w1,bOk,ui,bOk,ya,bOk,ui,jW,jW];cases decide (lo<=n) <;> rfl
  rw[zd (zq (by rw[Kd.t];exact cs0))]
  have ek:kop (.many k lo hi) n=if lo<=n/\n<=hi then ag n k else []:=rfl
  rw[ek]
  by_cases h:lo<=n/\n<=hi
  ·rw[if_pos h,zx (by rw[et,decide_eq_true h.1,decide_eq_true h.2];rfl)]
   show zc vd _ _ (en2 (Kd.many k lo hi).t (.int (n:Int)))=_;rw[zh,z22 (x:=k.t) (by rw[Kd.t];exact j5),bOk,v1,bOk]
   rw[Ge hn (by omega),aS]
  ·rw[if_neg h,zd (zq (by rw[et];congr 1;rw[cv];intro z;rw[aj,decide_eq_true_eq,decide_eq_true_eq]at z;exact h z)),zR];rfl
theorem jj (k:Kd)(lo hi:Nat)(xs:List T):(Kd.many k lo hi).has (.tup xs)=(decide (lo<=xs.length) && decide (xs.length<=hi) && xs.all k.has):=by rw[Kd.has]
theorem JK (ks:List Kd)(xs:List T):(Kd.row ks).has (.tup xs)=(xs.length == ks.length && Kd.hass ks xs):=by rw[Kd.has]
theorem qJ {α:Type}(p q:α->Bool):∀l:List α,l.all (λx=>p x && q x)=(l.all p && l.all q)
 | []=>rfl
 | x :: l=>by
  rw[c9,c9,c9,qJ p q l];cases p x <;> cases q x <;> cases l.all p <;> rfl
abbrev cmE (a b x y z:Sl):En:=[a,b,x,y,z]
theorem vC {n d:Nat}(k l:Kd)(lo hi lo' hi' :Nat)(h1:(Kd.many k lo hi).Ok (d+1))(h2:(Kd.many l lo' hi').Ok (d+1))(H:Cm k l d (S_d n 0 [k.t,l.t])):
  Cm (.many k lo hi) (.many l lo' hi') (d+1) (S_d (n+1) 2 [(Kd.many k lo hi).t,(Kd.many l lo' hi').t]):=by
 have e:S_d (n+1) 2 [(Kd.many k lo hi).t,(Kd.many l lo' hi').t]=zg (z0i (S_d n 0) (cmE (.vl (mt k.t lo hi)) (.vl (mt l.t lo' hi')) .un .un .un)):=by
  rw[S_d]
  ·rw[Kd.t,Kd.t];rfl
  ·intro h;cases h
  ·intro h;cases h
 have c1:((max lo lo' :Nat):Int)=max (lo:Int) (lo' :Int):=by omega
 have c2:((min hi hi' :Nat):Int)=min (hi:Int) (hi' :Int):=by omega
 have e1:zD 2 (zc Ww (zc ixT (vE 0) (cE (.int 2))) (zc ixT (vE 1) (cE (.int 2)))) (cmE (.vl (mt k.t lo hi)) (.vl (mt l.t lo' hi')) .un .un .un)= .nx (cmE (.vl (mt k.t lo hi)) (.vl (mt l.t lo' hi')) (.vl (.int ((max lo lo' :Nat):Int))) .un .un):=by
  rw[zC (Gb W8 jx2),c1];rfl
 have e2:zD 3 (zc Jt (zc ixT (vE 0) (cE (.int 3))) (zc ixT (vE 1) (cE (.int 3)))) (cmE (.vl (mt k.t lo hi)) (.vl (mt l.t lo' hi')) (.vl (.int ((max lo lo' :Nat):Int))) .un .un)= .nx (cmE (.vl (mt k.t lo hi)) (.vl (mt l.t lo' hi')) (.vl (.int ((max lo lo' :Nat):Int))) (.vl (.int ((min hi hi' :Nat):Int))) .un):=by
  rw[zC (Gc ya jx3),c2];rfl
 have et:zk gtC (vB 2) (vB 3) (cmE (.vl (mt k.t lo hi)) (.vl (mt l.t lo' hi')) (.vl (.int ((max lo lo' :Nat):Int))) (.vl (.int ((min hi hi' :Nat):Int))) .un)= .ok (decide (min hi hi' < max lo lo')):=by
  show R.ok (decide (((min hi hi' :Nat):Int) < ((max lo lo' :Nat):Int)))=_
  by_cases hz:min hi hi' < max lo lo'
  ·rw[decide_eq_true hz,decide_eq_true (by omega)]
  ·rw[decide_eq_false hz,decide_eq_false (by omega)]
 have hnt:∀x,(∀xs,x ≠ .tup xs)->((Kd.many k lo hi).has x && (Kd.many l lo' hi').has x)=false:=λx hx=>by
  rw[Kd.has];cases x with
  | tup xs=>exact absurd rfl (hx xs)
  | _=>rfl
 have hht:∀xs,((Kd.many k lo hi).has (.tup xs) && (Kd.many l lo' hi').has (.tup xs))=(decide (max lo lo' <=xs.length) && decide (xs.length<=min hi hi') && xs.all λx=>k.has x && l.has x):=λxs=>by
  rw[jj,jj,qJ,eN];simp only[aj,decide_eq_true_eq];constructor
  ·rintro⟨⟨⟨a1,a2⟩,a3⟩,⟨⟨b1,b2⟩,b3⟩⟩
   exact⟨⟨by omega,by omega⟩,a3,b3⟩
  ·rintro⟨⟨a1,a2⟩,a3,b3⟩
   exact⟨⟨⟨by omega,by omega⟩,a3⟩,⟨⟨by omega,by omega⟩,b3⟩⟩
 rw[e];unfold z0i;rw[zd e1,zd e2]
 by_cases hgt:min hi hi' < max lo lo'
 ·rw[zx (by rw[et,decide_eq_true hgt])]
  refine .inr ⟨rfl,λx=> ?_⟩;cases x with
  | tup xs=>
   rw[hht,cv];intro z;simp only[aj,decide_eq_true_eq]at z;omega
  | _=>exact hnt _ (λy z=>by cases z)
 ·rw[zd (zq (by rw[et,decide_eq_false hgt]))]
  have ec:∀t,S_d n 0 [k.t,l.t]= .ok t->zD 4 (za 2 (S_d n 0) (z9 (zc ixT (vE 0) (cE (.int 1))) (z9 (zc ixT (vE 1) (cE (.int 1))) (ze)))) (cmE (.vl (mt k.t lo hi)) (.vl (mt l.t lo' hi')) (.vl (.int ((max lo lo' :Nat):Int))) (.vl (.int ((min hi hi' :Nat):Int))) .un)= .nx (cmE (.vl (mt k.t lo hi)) (.vl (mt l.t lo' hi')) (.vl (.int ((max lo lo' :Nat):Int))) (.vl (.int ((min hi hi' :Nat):Int))) (.vl t)):=λt ht=>by
   rw[zC (t:=t)]
   ·rfl
   ·rw[zB,show zc ixT (vE 0) (cE (.int 1)) (cmE (.vl (mt k.t lo hi)) (.vl (mt l.t lo' hi')) (.vl (.int ((max lo lo' :Nat):Int))) (.vl (.int ((min hi hi' :Nat):Int))) .un)= .ok k.t from j5,bOk,show zc ixT (vE 1) (cE (.int 1)) (cmE (.vl (mt k.t lo hi)) (.vl (mt l.t lo' hi')) (.vl (.int ((max lo lo' :Nat):Int))) (.vl (.int ((min hi hi' :Nat):Int))) .un)= .ok l.t from jx1,bOk,ht]
  rcases H with ⟨c,a1,a2,a3⟩ | ⟨a1,a2⟩
  ·obtain⟨x,r,hct⟩:=z27 c;rw[zd (ec _ a1),zx (by rw[hct];rfl)]
   refine .inl ⟨.many c (max lo lo') (min hi hi'),by rw[Kd.t];exact z0s rfl rfl rfl rfl,⟨by omega,by have:=h1.2.1;omega,a2⟩,λx=> ?_⟩
   cases x with
   | tup xs=>
    rw[hht,jj];congr 1
    exact congrArg xs.all (funext a3)
   | _=>rw[hnt _ (λy z=>by cases z)];rw[Kd.has]
  ·rw[zd (ec _ a1),zd (zq rfl),zR];have et2:zk eqC (vB 2) (cE (.int 0)) (cmE (.vl (mt k.t lo hi)) (.vl (mt l.t lo' hi')) (.vl (.int ((max lo lo' :Nat):Int))) (.vl (.int ((min hi hi' :Nat):Int))) (.vl .non))= .ok (decide (max lo lo' =0)):=by
    show R.ok (((max lo lo' :Nat):Int) == 0)=_
    by_cases hz:max lo lo' =0
    ·rw[hz,decide_eq_true rfl];rfl
    ·rw[decide_eq_false hz,beq_eq_false_iff_ne.mpr (by omega)]
   have hall:∀xs:List T,(xs.all λx=>k.has x && l.has x)=xs.isEmpty:=λxs=>by
    cases xs with
    | nil=>rfl
    | cons x xs=>rw[c9,a2 x];rfl
   show Cm _ _ _ (ifE _ _ _ (cmE (.vl (mt k.t lo hi)) (.vl (mt l.t lo' hi')) (.vl (.int ((max lo lo' :Nat):Int))) (.vl (.int ((min hi hi' :Nat):Int))) (.vl .non)))
   by_cases hz:max lo lo' =0
   ·rw[qB (by rw[et2,decide_eq_true hz])]
    refine .inl ⟨.many k 0 0,by rw[Kd.t];exact z0s rfl j5 rfl rfl,⟨am _,by omega,h1.2.2⟩,λx=> ?_⟩
    cases x with
    | tup xs=>
     rw[hht,jj,hall,hz];cases xs with
     | nil=>simp
     | cons x xs=>simp
    | _=>rw[hnt _ (λy z=>by cases z)];rw[Kd.has]
   ·rw[qC (by rw[et2,decide_eq_false hz])]
    refine .inr ⟨rfl,λx=> ?_⟩;cases x with
    | tup xs=>
     rw[hht,hall];cases xs with
     | nil=>simp;omega
     | cons x xs=>simp
    | _=>exact hnt _ (λy z=>by cases z)
theorem qK {d:Nat}(l:Kd)(hl:l.Ok (d+1))(n:Nat)(hn:1<=n):(∀m∈kop l n,m.Ok d)/\((kop l n).length=n->∀xs:List T,xs.length=n->l.has (.tup xs)=Kd.hass (kop l n) xs)/\((kop l n).length ≠ n->∀xs:List T,xs.length=n->l.has (.tup xs)=false):=by
 cases l with
 | whole a b=>exact⟨(λm hm=>by cases hm),λz=>absurd z (by show 0 ≠ n;omega),λ_ xs _=>by rw[Kd.has];rfl⟩
 | pick cs=>exact⟨(λm hm=>by cases hm),λz=>absurd z (by show 0 ≠ n;omega),λ_ xs _=>by rw[Kd.has]⟩
 | row ls=>
  refine⟨hl.2.2,λz xs hx=> ?_,λz xs hx=> ?_⟩
  ·have z:ls.length=n:=z;rw[JK,hx,z,beq_self_eq_true,dG];rfl
  ·have z:ls.length ≠ n:=z;rw[JK,hx,beq_eq_false_iff_ne.mpr (bq z)];rfl
 | many m lo hi=>
  have ek:kop (.many m lo hi) n=if lo<=n/\n<=hi then ag n m else []:=rfl
  rw[ek]
  by_cases h:lo<=n/\n<=hi
  ·rw[if_pos h];refine⟨λq hq=>by rw[bj hq];exact hl.2.2,λz xs hx=> ?_,λz=>absurd (by rw[aW]) z⟩
   rw[jj,hx,decide_eq_true h.1,decide_eq_true h.2,dG,dG,jD,← hx,ut]
  ·rw[if_neg h];refine⟨(λq hq=>by cases hq),λz=>absurd z (by show 0 ≠ n;omega),λz xs hx=> ?_⟩
   rw[jj,hx,cv];intro q;simp only[aj,decide_eq_true_eq]at q;exact h q.1
theorem Xx (ks:List Kd)(x:T)(h:(Kd.row ks).has x=true):∃xs,x= .tup xs/\xs.length=ks.length/\Kd.hass ks xs=true:=by
 rw[Kd.has]at h;cases x with
 | tup xs=>
  have h:(xs.length == ks.length && Kd.hass ks xs)=true:=h;rw[aj,beq_iff_eq]at h;exact⟨xs,rfl,h.1,h.2⟩
 | _=>cases h
theorem Vw {n d:Nat}{s s' :T}{k l:Kd}(ks ls:List Kd)(m:Nat)(hm1:1<=m)(hm3:m<=3)(hs:j3 s= .ok (ks.map Kd.t))(hs' :j3 s' = .ok (ls.map Kd.t))(hl:ZO s= .ok (.int (ks.length:Int)))(hl' :ZO s' = .ok (.int (ls.length:Int)))(h3:ks.length<=3)
  (H:∀k∈ks,∀l∈ls,Cm k l d (S_d n 0 [k.t,l.t]))
  (hx:∀x,(k.has x && l.has x)=true->∃xs,x= .tup xs/\xs.length=m)
  (hk:ks.length=m->∀xs:List T,xs.length=m->k.has (.tup xs)=Kd.hass ks xs) (hk0:ks.length ≠ m->∀xs:List T,xs.length=m->k.has (.tup xs)=false)
  (hl1:ls.length=m->∀xs:List T,xs.length=m->l.has (.tup xs)=Kd.hass ls xs) (hl0:ls.length ≠ m->∀xs:List T,xs.length=m->l.has (.tup xs)=false) (hone:ks.length=m\/ls.length=m):
  Cm k l (d+1) (S_d (n+1) 1 [s,s']):=by
 rcases Xw ks ls hs hs' hl hl' h3 H with ⟨cs,a1,a2,a3,a4,a5⟩ | ⟨a1,a2⟩
 ·have hkm:ks.length=m:=by rcases hone with z | z <;> omega
  have hlm:ls.length=m:=by omega
  refine .inl ⟨.row cs,by rw[a1,Kd.t,Kd.ts_map],⟨by omega,by omega,a4⟩,λx=> ?_⟩
  cases hh:(k.has x && l.has x) with
  | true=>
   obtain⟨xs,rfl,hxl⟩:=hx x hh;rw[hk hkm xs hxl,hl1 hlm xs hxl]at hh;rw[JK,a5 xs (by omega),hh,show (xs.length == cs.length)=true from by rw[beq_iff_eq];omega];rfl
  | false=>
   rw[cv];intro z;obtain⟨xs,rfl,hxl,hc⟩:=Xx cs x z;rw[hk hkm xs (by omega),hl1 hlm xs (by omega),← a5 xs (by omega),hc]at hh
   cases hh
 ·refine .inr ⟨a1,λx=> ?_⟩;rw[cv];intro z;obtain⟨xs,rfl,hxl⟩:=hx x z
  by_cases hkm:ks.length=m
  ·by_cases hlm:ls.length=m
   ·rw[hk hkm xs hxl,hl1 hlm xs hxl,a2 xs (by omega) (by omega)]at z
    cases z
   ·rw[hl0 hlm xs hxl,Bool.and_false]at z;cases z
  ·rw[hk0 hkm xs hxl]at z;cases z
theorem z28 {n d:Nat}(hn:3*(d+1)<=n+3)(ih:∀k l:Kd,k.Ok d->l.Ok d->Cm k l d (S_d (n+1) 0 [k.t,l.t]))(k:Kd)(ls:List Kd)(hk:k.Ok (d+1))(hl:(Kd.row ls).Ok (d+1))(hbigk:∀m lo hi,k= .many m lo hi->hi<=3){g:En->RS}:
  Cm k (.row ls) (d+1) (zg (zj (ifS (zk eqC (zc ixT (vE 1) (cE (.int 0))) (cE (.str "row"))) (zn (za 2 (S_d (n+2) 1) (z9 (za 2 ke (z9 (vE 0) (z9 (ap1 ZO (zc ixT (vE 1) (cE (.int 1)))) (ze)))) (z9 (zc ixT (vE 1) (cE (.int 1))) (ze))))) (nxS)) g (en2 k.t (Kd.row ls).t))):=by
 obtain⟨h1,h3,h4⟩:=hl;have i1:zc ixT (vE 1) (cE (.int 1)) (en2 k.t (Kd.row ls).t)= .ok (.tup (ls.map Kd.t)):=by rw[zh,v1,bOk,Z3,bOk,Kd.t,Kd.ts_map,at1]
 have i0:zk eqC (zc ixT (vE 1) (cE (.int 0))) (cE (.str "row")) (en2 k.t (Kd.row ls).t)= .ok true:=by
  rw[zu,zh,v1,bOk,Z3,bOk,Kd.t,at0,bOk,Z3,bOk];rfl
 rw[zx i0];show Cm _ _ _ (za 2 _ _ (en2 k.t (Kd.row ls).t));rw[zB,zB,v0,bOk,Zs,i1,bOk,jK,af,bOk,Vv k ls.length h1 hbigk,bOk,bOk];obtain⟨o1,o2,o3⟩:=qK k hk ls.length h1;have hk3:(kop k ls.length).length<=3:=by
  cases k with
  | row ks=>exact hk.2.1
  | many m lo hi=>
   have ek:kop (.many m lo hi) ls.length=if lo<=ls.length/\ls.length<=hi then ag ls.length m else []:=rfl
   rw[ek];split
   ·rw[aW];exact h3
   ·simp
  | _=>exact b9 _
 refine Vw (d:=d) (kop k ls.length) ls ls.length h1 h3 rfl rfl (by rw[jK,af]) (by rw[jK,af]) hk3 (λa ha b hb=>ih a b (o1 a ha) (h4 b hb)) (λx hx=> ?_) o2 o3 (λ_ xs hxl=> ?_) (λz=>absurd rfl z) (.inr rfl)
 ·obtain⟨xs,a,b,_⟩:=Xx ls x (c7.mp hx).2;exact⟨xs,a,b⟩
 ·rw[JK,hxl,beq_self_eq_true,dG]
theorem Vx:∀(d n:Nat),3*d<=n->∀k l:Kd,k.Ok d->l.Ok d->Cm k l d (S_d n 0 [k.t,l.t])
 | 0,_,_,_,_,h,_=>h.elim
 | d+1,n+3,hn,k,l,hk,hl=>by
  have ih:=Vx d (n+1) (by omega)
  have e:S_d (n+3) 0 [k.t,l.t]=zg (b_d ke (S_d (n+2) 1) gB gC (S_d (n+2) 2) (en2 k.t l.t)):=by rw[S_d];rfl
  rw[e];unfold b_d;have r0:∀(x w:Str) (r:List T),l.t= .tup (.str x :: r)->zk eqC (zc ixT (vE 1) (cE (.int 0))) (cE (.str w)) (en2 k.t l.t)= .ok (x == w):=λx w r h=>by
   rw[zu,zh,v1,bOk,Z3,bOk,h,at0,bOk,Z3,bOk];rfl
  have n0:∀(x y:Str) (r q:List T),k.t= .tup (.str x :: r)->l.t= .tup (.str y :: q)->zk neC (zc ixT (vE 0) (cE (.int 0))) (zc ixT (vE 1) (cE (.int 0))) (en2 k.t l.t)= .ok (!(x == y)):=λx y r q h1 h2=>by
   rw[zu,zh,v0,bOk,Z3,bOk,h1,at0,bOk,zh,v1,bOk,Z3,bOk,h2,at0,bOk];rfl
  have c0:∀(x w:Str) (r:List T),k.t= .tup (.str x :: r)->zk eqC (zc ixT (vE 0) (cE (.int 0))) (cE (.str w)) (en2 k.t l.t)= .ok (x == w):=λx w r h=>by rw[h];exact cs0
  have hbig:∀m lo hi,l= .many m lo hi->hi<=3:=λm lo hi h=>by rw[h]at hl;exact hl.2.1
  have hbigk:∀m lo hi,k= .many m lo hi->hi<=3:=λm lo hi h=>by rw[h]at hk;exact hk.2.1
  cases k with
  | row ks=>
   rw[zx (by rw[Kd.t];exact cs0)]
   have hko:=hk;obtain⟨h1,h3,h4⟩:=hk;have el:za 2 (S_d (n+2) 1) (z9 (zc ixT (vE 0) (cE (.int 1))) (z9 (za 2 ke (z9 (vE 1) (z9 (ap1 ZO (zc ixT (vE 0) (cE (.int 1)))) (ze)))) (ze))) (frz (en2 (Kd.row ks).t l.t))=S_d (n+2) 1 [.tup (ks.map Kd.t),.tup ((kop l ks.length).map Kd.t)]:=by
    show za 2 _ _ (en2 (Kd.row ks).t l.t)=_;have i1:zc ixT (vE 0) (cE (.int 1)) (en2 (Kd.row ks).t l.t)= .ok (.tup (ks.map Kd.t)):=by rw[Kd.t,Kd.ts_map];exact j5
    rw[zB,i1,bOk,zB,v1,bOk,Zs,i1,bOk,jK,af,bOk,Vv l ks.length h1 hbig,bOk]
   rw[el];obtain⟨o1,o2,o3⟩:=qK l hl ks.length h1;refine Vw (d:=d) ks (kop l ks.length) ks.length h1 h3 rfl rfl (by rw[jK,af]) (by rw[jK,af]) h3 (λa ha b hb=>ih a b (h4 a ha) (o1 b hb)) (λx hx=> ?_) (λ_ xs hxl=> ?_) (λz=>absurd rfl z) o2 o3 (.inl rfl)
   ·obtain⟨xs,a,b,_⟩:=Xx ks x (c7.mp hx).1;exact⟨xs,a,b⟩
   ·rw[JK,hxl,beq_self_eq_true,dG]
  | whole a b=>
   rw[zd (zq (by rw[Kd.t];exact cs0))]
   cases l with
   | row ls=>exact z28 hn ih (.whole a b) ls hk hl hbigk
   | whole c c' =>
    rw[zd (zq (r0 _ _ _ (by rw[Kd.t]))),zd (zq ((n0 _ _ _ _ (by rw[Kd.t]) (by rw[Kd.t])).trans rfl)),zx (c0 _ _ _ (by rw[Kd.t]))]
    show Cm _ _ _ (za 2 _ _ (en2 (Kd.whole a b).t (Kd.whole c c').t));rw[zB,v0,bOk,v1,bOk];exact qG a b c c' hk hl
   | pick cs=>
    rw[zd (zq (r0 _ _ _ (by rw[Kd.t]))),zx ((n0 _ _ _ _ (by rw[Kd.t]) (by rw[Kd.t])).trans rfl)]
    exact .inr ⟨rfl,λx=>by rw[Kd.has,Kd.has];cases x <;> simp[inR]⟩
   | many m lo hi=>
    rw[zd (zq (r0 _ _ _ (by rw[Kd.t]))),zx ((n0 _ _ _ _ (by rw[Kd.t]) (by rw[Kd.t])).trans rfl)]
    exact .inr ⟨rfl,λx=>by rw[Kd.has,Kd.has];cases x <;> simp[inR]⟩
  | pick cs=>
   rw[zd (zq (by rw[Kd.t];exact cs0))]
   cases l with
   | row ls=>exact z28 hn ih (.pick cs) ls hk hl hbigk
   | whole c c' =>
    rw[zd (zq (r0 _ _ _ (by rw[Kd.t]))),zx ((n0 _ _ _ _ (by rw[Kd.t]) (by rw[Kd.t])).trans rfl)]
    exact .inr ⟨rfl,λx=>by rw[Kd.has,Kd.has];cases x <;> simp[inR]⟩
   | pick es=>
    rw[zd (zq (r0 _ _ _ (by rw[Kd.t]))),zd (zq ((n0 _ _ _ _ (by rw[Kd.t]) (by rw[Kd.t])).trans rfl)),zd (zq (c0 _ _ _ (by rw[Kd.t]))),zx (c0 _ _ _ (by rw[Kd.t]))]
    show Cm _ _ _ (za 2 _ _ (en2 (Kd.pick cs).t (Kd.pick es).t));rw[zB,v0,bOk,v1,bOk];exact vA cs es hk hl
   | many m lo hi=>
    rw[zd (zq (r0 _ _ _ (by rw[Kd.t]))),zx ((n0 _ _ _ _ (by rw[Kd.t]) (by rw[Kd.t])).trans rfl)]
    exact .inr ⟨rfl,λx=>by rw[Kd.has,Kd.has];cases x <;> simp⟩
  | many q lo hi=>
   rw[zd (zq (by rw[Kd.t];exact cs0))]
   cases l with
   | row ls=>exact z28 hn ih (.many q lo hi) ls hk hl hbigk
   | whole c c' =>
    rw[zd (zq (r0 _ _ _ (by rw[Kd.t]))),zx ((n0 _ _ _ _ (by rw[Kd.t]) (by rw[Kd.t])).trans rfl)]
    exact .inr ⟨rfl,λx=>by rw[Kd.has,Kd.has];cases x <;> simp[inR]⟩
   | pick es=>
    rw[zd (zq (r0 _ _ _ (by rw[Kd.t]))),zx ((n0 _ _ _ _ (by rw[Kd.t]) (by rw[Kd.t])).trans rfl)]
    exact .inr ⟨rfl,λx=>by rw[Kd.has,Kd.has];cases x <;> simp⟩
   | many m lo' hi' =>
    rw[zd (zq (r0 _ _ _ (by rw[Kd.t]))),zd (zq ((n0 _ _ _ _ (by rw[Kd.t]) (by rw[Kd.t])).trans rfl)),zd (zq (c0 _ _ _ (by rw[Kd.t]))),zd (zq (c0 _ _ _ (by rw[Kd.t]))),zR]
    show Cm _ _ _ (za 2 _ _ (en2 (Kd.many q lo hi).t (Kd.many m lo' hi').t));rw[zB,v0,bOk,v1,bOk];exact vC q m lo hi lo' hi' hk hl (ih q m hk.2.2 hl.2.2)
theorem ZQ {k:Kd}(hk:k.Ok 3):f_8 [k.t]= .ok .non:=by
 have hi:=WP 3 k hk;have e:f_8 [k.t]=zg (b_8 f_4 [.vl k.t]):=rfl;have ec:Qd (u8 (za 1 f_4 (z9 (vE 0) (ze)))) [.vl k.t]= .ok false:=by
  rw[U0,wj,zl,v0,bOk,wl k.t (Jd 3 _ hi).so,bOk,WE,bOk,hi];rfl
 rw[e,b_8,zq ec];rfl
theorem wU {k:Kd}(hk:k.Ok 3)(h5:k.all.length<=500):Xe [k.t]= .ok (.lst k.all):=by
 show zg (z0p f_8 (f_2 20) (f_j 20) [.vl k.t,.un])=_;have e1:zD 1 (za 1 (f_2 20) (z9 (vE 0) (ze))) [.vl k.t,.un]= .nx (en2 k.t (.int (k.all.length:Int))):=by
  rw[zC (t:= .int (k.all.length:Int))]
  ·rfl
  ·rw[zl,v0,bOk,ZK (by omega) hk]
 have e2:zk gtC (vB 1) (cE (.int 500)) (en2 k.t (.int (k.all.length:Int)))= .ok false:=by
  rw[zu,w1,bOk,Z3,bOk,z25,decide_eq_false (by omega)]
 have er:j2 (vE 1) (en2 k.t (.int (k.all.length:Int)))= .ok (rng 0 k.all.length):=by
  rw[Xv (j:=(k.all.length:Int)) rfl ⟨by omega,by omega⟩,bh]
 have ec:zL (zt 0) zQ (za 2 (f_j 20) (z9 (vE 1) (z9 (vE 0) (ze)))) 1 [0] (en2 k.t (.int (k.all.length:Int))) (rng 0 k.all.length)= .ok ((rng 0 k.all.length).map λt=>match t with | .int i=>(k.all[i.toNat]?).getD .non | y=>y):=
  zK _ (by unfold rng;rw[af,bu];have:bnd=16777216:=rfl;omega) λt ht=>by
   unfold rng at ht;obtain⟨i,hi,rfl⟩:=aq.mp ht;obtain⟨x,hx⟩:=jX (bE.mp hi);show za 2 _ _ (en2 (.int ((0:Int)+(i:Int))) k.t)=R.ok ((k.all[((0:Int)+(i:Int)).toNat]?).getD .non);rw[show ((0:Int)+(i:Int))=(i:Int) by omega,zB,v1,bOk,v0,bOk,G9 hk hx,bh,hx]
   rfl
 rw[z0p,zd (Zx (t:= .non) (by rw[zl,v0,bOk,ZQ hk])),zd e1,zd (zq e2),zR]
 show zJ _ _ _ _ _ _ (en2 k.t (.int (k.all.length:Int)))=_;rw[zH,er,bOk,ec,bOk];exact congrArg (λl=>R.ok (T.lst l)) (all_map k)
theorem Vy {k:Kd}(hk:k.Ok 3):kf [k.t]= .ok (.int (k.all.length:Int)):=by
 show zg (z0l f_8 (f_2 20) [.vl k.t])=_;rw[z0l,zd (Zx (t:= .non) (by rw[zl,v0,bOk,ZQ hk])),zR]
 show za 1 _ _ [.vl k.t]=_;rw[zl,v0,bOk,ZK (by omega) hk]
def hasO:Option Kd->T->Bool
 | some c=>c.has
 | none=>λ_=>false
def okO (m:Nat):Option Kd->Prop
 | some c=>c.Ok 3/\c.all.length<=m
 | none=>True
theorem Xy {k l:Kd}(hk:k.Ok 3)(hl:l.Ok 3):f_x [k.t,l.t]=S_d 20 0 [k.t,l.t]:=by
 show zg (b_x f_8 (f_d 20) (en2 k.t l.t))=_;unfold b_x;rw[zd (Zx (t:= .non) (by rw[zl,v0,bOk,ZQ hk])),zd (Zx (t:= .non) (by rw[zl,v1,bOk,ZQ hl])),zR]
 show za 2 _ _ (en2 k.t l.t)=_;rw[zB,v0,bOk,v1,bOk]
theorem com {k l:Kd}(hk:k.Ok 3)(hl:l.Ok 3):∃o:Option Kd,f_x [k.t,l.t]= .ok (ye o)/\okO k.all.length o/\(∀x,hasO o x=(k.has x && l.has x))/\
  y0 [k.t,l.t]= .ok (.bl (match o with | some c=>c.all.length == k.all.length | none=>false))/\Vj [k.t,l.t]= .ok (.bl o.isNone):=by
 have hb:=Xy hk hl;have ew:∀t,f_x [k.t,l.t]= .ok t->y0 [k.t,l.t]=Js (jY jr (vB 2) (cE .non)) (jY eqC (za 1 (f_2 20) (z9 (vE 2) (ze))) (za 1 (f_2 20) (z9 (vE 0) (ze)))) [.vl k.t,.vl l.t,.vl t]:=λt ht=>by
  have e1:zD 2 (za 2 f_x (z9 (vE 0) (z9 (vE 1) (ze)))) [.vl k.t,.vl l.t,.un]= .nx [.vl k.t,.vl l.t,.vl t]:=by
   rw[zC (t:=t)]
   ·rfl
   ·rw[zB,v0,bOk,v1,bOk,ht]
  show zg (z0j (f_2 20) f_x [.vl k.t,.vl l.t,.un])=_;unfold z0j;rw[zd e1,zR];rfl
 have ea:∀t,f_x [k.t,l.t]= .ok t->Vj [k.t,l.t]=jY Qc (cE t) (cE .non) []:=λt ht=>by
  show zg (z0k f_x (en2 k.t l.t))=_;unfold z0k;rw[zR];show jY _ _ _ (en2 k.t l.t)=_;rw[j8,zB,v0,bOk,v1,bOk,ht];rfl
 rcases Vx 3 20 (by omega) k l hk hl with ⟨c,a1,a2,a3⟩ | ⟨a1,a2⟩
 ·have hs:∀x,c.has x=true->k.has x=true:=λx hx=>by rw[a3]at hx;exact(c7.mp hx).1
  obtain⟨y,r,hct⟩:=z27 c;refine⟨some c,hb.trans a1,⟨a2,(uu a2 hk hs).1⟩,a3, ?_, ?_⟩
  ·rw[ew _ (hb.trans a1)];have e0:jY jr (vB 2) (cE .non) [.vl k.t,.vl l.t,.vl c.t]= .ok (.bl true):=by rw[hct];rfl
   rw[JB,e0,Zn,if_pos rfl,j8,zl,v2,bOk,ZK (by omega) a2,bOk,zl,v0,bOk,ZK (by omega) hk,bOk,eqI,bOk,qj]
  ·rw[ea _ (hb.trans a1),j8,Z3,bOk,Z3,bOk,hct];rfl
 ·refine⟨none,hb.trans a1,trivial,λx=>(a2 x).symm, ?_, ?_⟩
  ·rw[ew _ (hb.trans a1)];rfl
  ·rw[ea _ (hb.trans a1)];rfl
theorem uv {k l:Kd}(hk:k.Ok 3)(hl:l.Ok 3)(h:∀x,k.has x=true->l.has x=true):y0 [k.t,l.t]= .ok (.bl true):=by
 obtain⟨o,b1,b2,b3,b4,b5⟩:=com hk hl;rw[b4];cases o with
 | none=>
  obtain⟨x,hx⟩:=jX (xs:=k.all) (i:=0) (Zw 3 k hk);have h1:=(Za k x).mp (bz hx);have:=b3 x;rw[h1,h x h1]at this;cases this
 | some c=>
  have b3:∀x,c.has x=(k.has x && l.has x):=b3;have h1:=(uu hk b2.1 λx hx=>by rw[b3,hx,h x hx];rfl).1
  have:c.all.length=k.all.length:=Nat.le_antisymm b2.2 h1;show R.ok (T.bl (c.all.length == k.all.length))=_;rw[this,beq_self_eq_true]
theorem yf {k l:Kd}(hk:k.Ok 3)(hl:l.Ok 3)(h:y0 [k.t,l.t]= .ok (.bl true)):∀x,k.has x=true->l.has x=true:=by
 obtain⟨o,b1,b2,b3,b4,b5⟩:=com hk hl;rw[b4]at h;cases o with
 | none=>cases h
 | some c=>
  have b3:∀x,c.has x=(k.has x && l.has x):=b3;have h:R.ok (T.bl (c.all.length == k.all.length))= .ok (.bl true):=h;have h:(c.all.length == k.all.length)=true:=by injection h with h;injection h
  intro x hx;have:=(uu b2.1 hk λx hx=>by rw[b3]at hx;exact(c7.mp hx).1).2 (eq_of_beq h) x hx
  rw[b3]at this;exact(c7.mp this).2
theorem qL {k l:Kd}(hk:k.Ok 3)(hl:l.Ok 3):∃b,y0 [k.t,l.t]= .ok (.bl b):=by
 obtain⟨o,_,_,_,b4,_⟩:=com hk hl;exact⟨_,b4⟩
theorem nb {b:Bool}:neC (.bl b) (.bl b)= .ok false:=by cases b <;> rfl
theorem uw {lo hi:Int}{x:T}:inR lo hi x=true↔∃i,x= .int i/\lo<=i/\i<=hi:=by
 constructor
 ·intro h;obtain⟨i,rfl⟩:=um h;simp[inR]at h;exact⟨i,rfl,h⟩
 ·rintro⟨i,rfl,h⟩
  simp[inR];exact h
theorem Jj {cs:List (Str×Int)}{x:T}:(Kd.pick cs).has x=true↔∃w,x= .str w/\w∈cs.map (·.1):=by
 have key:∀w:Str,(cs.any λc=>c.1 == w)=true↔w∈cs.map (·.1):=λw=>by
  rw[cY,aq];exact⟨λ⟨c,a,b⟩=>⟨c,a,beq_iff_eq.mp b⟩,λ⟨c,a,b⟩=>⟨c,a,beq_iff_eq.mpr b⟩⟩
 constructor
 ·intro h;cases x with
  | str w=>exact⟨w,rfl,(key w).mp h⟩
  | _=>cases h
 ·rintro⟨w,rfl,h⟩
  exact(key w).mpr h
def Hs (ks:List Kd)(xs:List T):Prop:=xs.length=ks.length/\∀(i:Nat) (k:Kd) (x:T),ks[i]? =some k->xs[i]? =some x->k.has x=true
theorem JL {α:Type}{l:List α}{i:Nat}{a:α}(h:l[i]? =some a):a∈l:=bz h
theorem Vz {ks:List Kd}{xs:List T}:(xs.length == ks.length && Kd.hass ks xs)=true↔Hs ks xs:=by
 rw[aj,beq_iff_eq,jD,aI];constructor
 ·rintro⟨h1,h2⟩
  refine⟨h1,λi k x a b=>h2 (k,x) (bz (i:=i) ?_)⟩;rw[ce];exact⟨a,b⟩
 ·rintro⟨h1,h2⟩
  refine⟨h1,λq hq=> ?_⟩;obtain⟨i,hi⟩:=dt.mp hq;obtain⟨a,b⟩:=ce.mp hi;exact h2 i q.1 q.2 a b
theorem Uj {k:Kd}{xs:List T}:xs.all k.has=true↔Hs (ag xs.length k) xs:=by
 rw[aI];constructor
 ·intro h;refine⟨by simp,λi k' x a b=> ?_⟩
  obtain rfl:k=k' :=(ix.mp (JL a)).2.symm;exact h x (JL b)
 ·rintro⟨_,h⟩ x hx
  obtain⟨i,hi⟩:=dt.mp hx;have hl:=(au.mp hi).1;exact h i k x (by rw[aZ,if_pos hl]) hi
theorem ux {ks:List Kd}{t:T}(h:(Kd.row ks).has t=true):∃xs,t= .tup xs/\Hs ks xs:=by
 simp only[Kd.has]at h;split at h
 ·exact⟨_,rfl,Vz.mp h⟩
 ·cases h
theorem wV {k:Kd}{lo hi:Nat}{t:T}(h:(Kd.many k lo hi).has t=true):∃xs,t= .tup xs/\lo<=xs.length/\xs.length<=hi/\Hs (ag xs.length k) xs:=by
 simp only[Kd.has]at h;split at h
 ·rw[aj,aj,decide_eq_true_eq,decide_eq_true_eq]at h;exact⟨_,rfl,h.1.1,h.1.2,Uj.mp h.2⟩
 ·cases h
theorem Xz {ks:List Kd}{xs:List T}(h:Hs ks xs):(Kd.row ks).has (.tup xs)=true:=by simp only[Kd.has];exact Vz.mpr h
theorem vD {k:Kd}{lo hi:Nat}{xs:List T}(h1:lo<=xs.length)(h2:xs.length<=hi)(h:Hs (ag xs.length k) xs):(Kd.many k lo hi).has (.tup xs)=true:=by
 simp only[Kd.has];rw[aj,aj,decide_eq_true_eq,decide_eq_true_eq];exact⟨⟨h1,h2⟩,Uj.mpr h⟩
theorem Jk {α:Type}(g:α->Int):∀l:List α,Zc (l.map λa=>T.int (g a))=some (l.map g)
 | []=>rfl
 | a :: l=>by
  show (match Zc (l.map λa=>T.int (g a)) with | some l' =>some (g a :: l') | none=>none)=_
  rw[Jk g l];rfl
theorem qM {α:Type}(g:α->Int)(l:List α):xO (.lst (l.map λa=>T.int (g a)))= .ok (.int (l.map g).sum):=by
 show (match Zc (l.map λa=>T.int (g a)) with | some l=>_ | none=>_)=_
 rw[Jk]
theorem XA {ks:List Kd}{xs:List T}(h:Hs ks xs):∀q∈ks.zip xs,q.1.has q.2=true:=λq hq=>by
 obtain⟨i,hi⟩:=dt.mp hq;obtain⟨a,b⟩:=ce.mp hi;exact h.2 i q.1 q.2 a b
theorem XB {α:Type}{p:α->Bool}{l:List α}(h:∀y∈l,p y ≠ true):l.filter p=[]:=List.filter_eq_nil_iff.mpr h
theorem yg {ft:En->R Bool}{fe:En->R T}{p:T->Bool}{h:T->T}{k:Nat}{js:List Nat}{ρ:En}(ts:List T)(hl:ts.length<=bnd)(H:∀t∈ts,ft ((wB k js ρ).set 0 (.vl t))= .ok (p t)/\(p t=true->fe ((wB k js ρ).set 0 (.vl t))= .ok (h t))):zL (zt 0) ft fe k js ρ ts= .ok ((ts.filter p).map h):=by
 unfold zL;rw[if_pos hl,ZL ts _ H];rfl
theorem uy:∀(l:List Int) (i:Int),ZJ (λa b=>decide (a < b)) i l∈i :: l/\∀x∈i :: l,ZJ (λa b=>decide (a < b)) i l<=x
 | [],i=>⟨ae,λx h=>by simp at h;subst h;exact l7 _⟩
 | j :: r,i=>by
  unfold ZJ
  by_cases hj:j < i
  ·simp only[hj,decide_true,if_true];obtain⟨h1,h2⟩:=uy r j;refine⟨ab _ h1,λx hx=> ?_⟩;rcases ak.mp hx with rfl | hx
   ·exact dD (h2 j ae) (iJ hj)
   ·exact h2 x hx
  ·simp only[hj,decide_false,aB,if_false];obtain⟨h1,h2⟩:=uy r i;refine⟨?_,λx hx=> ?_⟩
   ·rcases ak.mp h1 with h | h
    ·rw[h];exact ae
    ·exact ab _ (ab _ h)
   ·rcases ak.mp hx with rfl | hx
    ·exact h2 x ae
    ·rcases ak.mp hx with rfl | hx
     ·exact dD (h2 i ae) (lm.mp hj)
     ·exact h2 x (ab _ hx)
theorem uz:∀(l:List Int) (i:Int),ZJ (λa b=>decide (b < a)) i l∈i :: l/\∀x∈i :: l,x<=ZJ (λa b=>decide (b < a)) i l
 | [],i=>⟨ae,λx h=>by simp at h;subst h;exact l7 _⟩
 | j :: r,i=>by
  unfold ZJ
  by_cases hj:i < j
  ·simp only[hj,decide_true,if_true];obtain⟨h1,h2⟩:=uz r j;refine⟨ab _ h1,λx hx=> ?_⟩;rcases ak.mp hx with rfl | hx
   ·exact dD (iJ hj) (h2 j ae)
   ·exact h2 x hx
  ·simp only[hj,decide_false,aB,if_false];obtain⟨h1,h2⟩:=uz r i;refine⟨?_,λx hx=> ?_⟩
   ·rcases ak.mp h1 with h | h
    ·rw[h];exact ae
    ·exact ab _ (ab _ h)
   ·rcases ak.mp hx with rfl | hx
    ·exact h2 x ae
    ·rcases ak.mp hx with rfl | hx
     ·exact dD (lm.mp hj) (h2 i ae)
     ·exact h2 x (ab _ hx)
theorem z29 {α:Type}{g:α->Int}{l:List α}{m:Int}(h:∃a∈l,g a=m)(hm:∀a∈l,m<=g a):z1Q (.lst (l.map λa=>T.int (g a)))= .ok (.int m):=by
 show (match Zc (l.map λa=>T.int (g a)) with | some (i :: l)=>_ | _=>_)=_
 rw[Jk];cases l with
 | nil=>obtain⟨a,ha,_⟩:=h;cases ha
 | cons b l=>
  rw[ar];obtain⟨h1,h2⟩:=uy (l.map g) (g b);have e:ZJ (λa b=>decide (a < b)) (g b) (l.map g)=m:=by
   obtain⟨a,ha,e⟩:=h;refine fY ?_ ?_
   ·rw[← e];refine h2 _ ?_;rw[← ar];exact aq.mpr ⟨a,ha,rfl⟩
   ·rw[← ar (f:=g)]at h1;obtain⟨c,hc,ec⟩:=aq.mp h1;rw[← ec];exact hm c hc
  show R.ok (T.int (ZJ _ (g b) (l.map g)))=_;rw[e]
theorem XD {α:Type}{g:α->Int}{l:List α}{m:Int}(h:∃a∈l,g a=m)(hm:∀a∈l,g a<=m):z1P (.lst (l.map λa=>T.int (g a)))= .ok (.int m):=by
 show (match Zc (l.map λa=>T.int (g a)) with | some (i :: l)=>_ | _=>_)=_
 rw[Jk];cases l with
 | nil=>obtain⟨a,ha,_⟩:=h;cases ha
 | cons b l=>
  rw[ar];obtain⟨h1,h2⟩:=uz (l.map g) (g b);have e:ZJ (λa b=>decide (b < a)) (g b) (l.map g)=m:=by
   obtain⟨a,ha,e⟩:=h;refine fY ?_ ?_
   ·rw[← ar (f:=g)]at h1;obtain⟨c,hc,ec⟩:=aq.mp h1;rw[← ec];exact hm c hc
   ·rw[← e];refine h2 _ ?_;rw[← ar];exact aq.mpr ⟨a,ha,rfl⟩
  show R.ok (T.int (ZJ _ (g b) (l.map g)))=_;rw[e]
mutual
def Kd.dp:Kd->Int
 | .whole _ _=>1
 | .pick _=>1
 | .row ks=>1+Kd.dpm ks
 | .many k _ _=>1+k.dp
def Kd.dpm:List Kd->Int
 | []=>0
 | k :: ks=>if Kd.dpm ks < k.dp then k.dp else Kd.dpm ks
end
mutual
def Kd.wds:Kd->List Str
 | .whole _ _=>[]
 | .pick cs=>cs.map (·.1)
 | .row ks=>Kd.wdss ks
 | .many k _ _=>k.wds
def Kd.wdss:List Kd->List Str
 | []=>[]
 | k :: ks=>k.wds++Kd.wdss ks
end
mutual
def Kd.rlo:Kd->Int
 | .whole lo _=>lo
 | .pick _=>0
 | .row ks=>Kd.rlos ks
 | .many k lo hi=>if (hi:Int)*k.rlo < (lo:Int)*k.rlo then (hi:Int)*k.rlo else (lo:Int)*k.rlo
def Kd.rlos:List Kd->Int
 | []=>0
 | k :: ks=>k.rlo+Kd.rlos ks
end
mutual
def Kd.rhi:Kd->Int
 | .whole _ hi=>hi
 | .pick _=>0
 | .row ks=>Kd.rhis ks
 | .many k lo hi=>if (hi:Int)*k.rhi > (lo:Int)*k.rhi then (hi:Int)*k.rhi else (lo:Int)*k.rhi
def Kd.rhis:List Kd->Int
 | []=>0
 | k :: ks=>k.rhi+Kd.rhis ks
end
theorem Jl:∀ks:List Kd,Kd.rlos ks=(ks.map Kd.rlo).sum
 | []=>by simp[Kd.rlos]
 | k :: ks=>by simp only[Kd.rlos,ar,dl,Jl ks]
theorem Jm:∀ks:List Kd,Kd.rhis ks=(ks.map Kd.rhi).sum
 | []=>by simp[Kd.rhis]
 | k :: ks=>by simp only[Kd.rhis,ar,dl,Jm ks]
theorem ja:∀ks:List Kd,Kd.wdss ks=ks.flatMap Kd.wds
 | []=>by simp[Kd.wdss]
 | k :: ks=>by simp only[Kd.wdss,bx,ja ks]
theorem JM:∀ks:List Kd,(∀k∈ks,1<=k.dp)->0<=Kd.dpm ks/\(∀k∈ks,k.dp<=Kd.dpm ks)/\(ks ≠ []->∃k∈ks,k.dp=Kd.dpm ks)
 | [],_=>⟨by simp[Kd.dpm],λk h=>(by cases h),λh=>absurd rfl h⟩
 | k :: ks,h=>by
  obtain⟨h0,h1,h2⟩:=JM ks λq hq=>h q (ab _ hq);have hk:=h k ae;simp only[Kd.dpm]
  by_cases e:Kd.dpm ks < k.dp
  ·rw[if_pos e];refine⟨by omega,λq hq=> ?_,λ_=>⟨k,ae,rfl⟩⟩
   rcases ak.mp hq with rfl | hq
   ·omega
   ·have:=h1 q hq;omega
  ·rw[if_neg e];refine⟨h0,λq hq=> ?_,λ_=> ?_⟩
   ·rcases ak.mp hq with rfl | hq
    ·omega
    ·exact h1 q hq
   ·by_cases hn:ks=[]
    ·subst hn;simp only[Kd.dpm]at e;omega
    ·obtain⟨q,hq,e'⟩:=h2 hn;exact⟨q,ab _ hq,e'⟩
theorem WS:∀(d:Nat) (k:Kd),k.Ok d->1<=k.dp
 | 0,_,h=>h.elim
 | d+1,.whole lo hi,_=>by simp[Kd.dp]
 | d+1,.pick cs,_=>by simp[Kd.dp]
 | d+1,.row ks,h=>by
  have:=(JM ks λk hk=>WS d k (h.2.2 k hk)).1;simp only[Kd.dp];omega
 | d+1,.many k lo hi,h=>by
  have:=WS d k h.2.2;simp only[Kd.dp];omega
theorem Uk {t:T}{x:Str}{r:List T}(ht:t= .tup (.str x :: r))(h1:(x == "row")=false)(h2:(x == "many")=false):f_b [t]= .ok (.tup []):=by
 subst ht;show zg (b_b [.vl (.tup (.str x :: r))])=_;rw[b_b,zd (zq (by rw[cs0,h1])),zd (zq (by rw[cs0,h2])),zi (t:= .tup [])]
 ·rfl
 ·rfl
def Jn:Kd->List Kd
 | .row ks=>ks
 | .many k _ _=>[k]
 | _=>[]
theorem VA (k:Kd):f_b [k.t]= .ok (.tup ((Jn k).map Kd.t)):=by
 cases k with
 | whole lo hi=>exact Uk (x:="whole") (by rw[Kd.t]) rfl rfl
 | pick cs=>exact Uk (x:="pick") (by rw[Kd.t]) rfl rfl
 | row ks=>
  have e:f_b [(Kd.row ks).t]=zg (b_b [.vl (.tup [.str "row",.tup (ks.map Kd.t)])]):=by rw[Kd.t,Kd.ts_map];rfl
  rw[e,b_b,zO (t:= .tup (ks.map Kd.t))]
  ·rfl
  ·rw[wS (by rw[cs0,beq_self_eq_true]),zi]
   show zc _ _ _ [.vl (.tup [.str "row",.tup (ks.map Kd.t)])]=_;rw[j5]
 | many k lo hi=>
  have e:f_b [(Kd.many k lo hi).t]=zg (b_b [.vl (mt k.t lo hi)]):=by rw[Kd.t];rfl
  rw[e,b_b,zd (zq (by rw[cs0];rfl)),zO (t:= .tup [k.t])]
  ·rfl
  ·rw[wS (by rw[cs0,beq_self_eq_true]),zi]
   show Z4 _ [.vl (mt k.t lo hi)]=_;rw[z22 j5]
theorem qN {d:Nat}{k:Kd}(h:k.Ok (d+1)):(Jn k).length<=3/\∀q∈Jn k,q.Ok d:=by
 cases k with
 | whole lo hi=>exact⟨by simp[Jn],λq hq=>by cases hq⟩
 | pick cs=>exact⟨by simp[Jn],λq hq=>by cases hq⟩
 | row ks=>exact⟨h.2.1,h.2.2⟩
 | many k lo hi=>exact⟨by simp[Jn],λq hq=>by rw[aC.mp hq];exact h.2.2⟩
theorem XF {d:Nat}{k:Kd}(h:k.Ok (d+1)):k.dp=1+Kd.dpm (Jn k):=by
 cases k with
 | whole lo hi=>simp[Kd.dp,Jn,Kd.dpm]
 | pick cs=>simp[Kd.dp,Jn,Kd.dpm]
 | row ks=>simp[Kd.dp,Jn]
 | many k lo hi=>
  have h1:=WS d k h.2.2;have h0:Kd.dpm []=0:=by simp only[Kd.dpm]
  have e:Kd.dpm [k]=k.dp:=by rw[Kd.dpm,if_pos (by omega)]
  show (Kd.many k lo hi).dp=1+Kd.dpm [k];rw[e,Kd.dp]
theorem XG {ks:List Kd}(h:∀k∈ks,1<=k.dp){f g:En->R T}{ρ:En}(hf:f ρ= .ok (.lst (ks.map λk=>T.int k.dp)))(hg:g ρ= .ok (.int 0)):QW f g ρ= .ok (.int (Kd.dpm ks)):=by
 unfold QW;rw[hf,bOk,hg,bOk];cases ks with
 | nil=>simp only[Kd.dpm];rfl
 | cons k r=>
  obtain⟨h0,h1,h2⟩:=JM (k :: r) h;obtain⟨q,hq,e⟩:=h2 (by simp)
  exact XD (g:=Kd.dp) ⟨q,hq,e⟩ h1
theorem qO:∀(d n:Nat),d<=n->∀k:Kd,k.Ok d->S_s n 0 [k.t]= .ok (.int k.dp)
 | 0,_,_,_,h=>h.elim
 | d+1,n+1,hn,k,h=>by
  obtain⟨h3,hk⟩:=qN h;have e:S_s (n+1) 0 [k.t]=zg (b_s f_b (S_s n 0) [.vl k.t]):=by rw[S_s];rfl
  have ec:zL (zt 0) zQ (za 1 (S_s n 0) (z9 (vE 0) (ze))) 1 [] [.vl k.t] ((Jn k).map Kd.t)= .ok ((Jn k).map λq=>T.int q.dp):=by
   have:=zK (fe:=za 1 (S_s n 0) (z9 (vE 0) (ze))) (k:=1) (js:=[]) (ρ:=[.vl k.t]) (h:=λt=>match S_s n 0 [t] with | .ok u=>u | _=> .non) ((Jn k).map Kd.t) (by rw[af];exact ap h3 (by decide)) λt ht=>by
    obtain⟨q,hq,rfl⟩:=aq.mp ht;show za 1 _ _ [.vl q.t]=_;rw[zl,v0,bOk,qO d n (by omega) q (hk q hq)]
   rw[this,aF];exact congrArg R.ok (bc λq hq=>by
    show (match S_s n 0 [q.t] with | .ok u=>u | _=> .non)=_
    rw[qO d n (by omega) q (hk q hq)])
  rw[e,b_s,zi (t:= .int (1+Kd.dpm (Jn k)))]
  ·rw[XF h];rfl
  ·show zc _ _ _ [.vl k.t]=_;rw[zh,Z3,bOk,XG (ks:=Jn k) (λq hq=>WS d q (hk q hq)),bOk,Ze]
   ·rw[zH,ZF,zl,v0,bOk,VA,bOk];show (R.bind (R.ok ((Jn k).map Kd.t)) _)=_;rw[bOk];exact(by rw[ec,bOk])
   ·rfl
theorem Ul {k:Kd}(h:∀cs,k ≠ .pick cs):k.wds=(Jn k).flatMap Kd.wds:=by
 cases k with
 | whole lo hi=>simp[Kd.wds,Jn]
 | pick cs=>exact absurd rfl (h cs)
 | row ks=>simp only[Kd.wds,Jn,ja]
 | many k lo hi=>simp[Kd.wds,Jn]
theorem qP {α β:Type}{f:α->List β}{m:Nat}:∀{l:List α},(∀a∈l,(f a).length<=m)->(l.flatMap f).length<=l.length*m
 | [],_=>by simp
 | a :: l,h=>by
  have x:=h a ae;have y:=qP (l:=l) λb hb=>h b (ab _ hb);rw[bx,aA,av,Nat.succ_mul];omega
theorem wW:∀(d:Nat) (k:Kd),k.Ok (d+1)->k.wds.length<=4*3 ^ d
 | d,.whole lo hi,_=>by simp[Kd.wds]
 | d,.pick cs,h=>by
  have:1<=3 ^ d:=e_ (by simp)
  have:=h.2.1;simp only[Kd.wds,af];omega
 | 0,.row ks,h=>by
  have h1:=h.1;obtain⟨k,hk⟩:=jX (show 0 < ks.length from h1);exact(h.2.2 k (JL hk)).elim
 | d+1,.row ks,h=>by
  simp only[Kd.wds,ja];have a:=qP (f:=Kd.wds) (m:=4*3 ^ d) λk hk=>wW d k (h.2.2 k hk);have b:ks.length*(4*3 ^ d)<=3*(4*3 ^ d):=dB _ h.2.1;rw[dg];omega
 | 0,.many k lo hi,h=>h.2.2.elim
 | d+1,.many k lo hi,h=>by
  have:=wW d k h.2.2;simp only[Kd.wds];rw[dg];omega
theorem Gf {i:Nat}{f:En->R T}{ρ:En}{ts us:List T}(hi:ρ[i]? =some (.ow ts))(h:f ρ= .ok (.lst us))(hl:ts.length+us.length<=bnd):yl i f ρ= .nx (ρ.set i (.ow (ts++us))):=by
 unfold yl;rw[hi];dsimp only;rw[h,Zt];dsimp only;rw[if_pos hl]
theorem qQ {c:List T->R T}{K:Sl}:∀(ks:List Kd) (acc:List T) (x:Sl),(∀k∈ks,c [k.t]= .ok (.lst (k.wds.map T.str)))->acc.length+(ks.flatMap Kd.wds).length<=bnd->∃x',ZA (zt 2) (yl 1 (za 1 c (z9 (vE 2) (ze)))) (ks.map Kd.t) [K,.ow acc,x]= .nx [K,.ow (acc++(ks.flatMap Kd.wds).map T.str),x']
 | [],acc,x,_,_=>⟨x,by show RS.nx _=RS.nx _;rw[List.flatMap_nil,cN,cI]⟩
 | k :: ks,acc,x,h,hb=>by
  rw[bx,aA]at hb;obtain⟨x',ih⟩:=qQ (K:=K) ks (acc++k.wds.map T.str) (.vl k.t) (λq hq=>h q (ab _ hq)) (by rw[aA,af];omega)
  refine⟨x', ?_⟩;have e:yl 1 (za 1 c (z9 (vE 2) (ze))) [K,.ow acc,.vl k.t]= .nx [K,.ow (acc++k.wds.map T.str),.vl k.t]:=
   Gf (i:=1) (ts:=acc) rfl (by rw[zl,v2,bOk,h k ae]) (by simp;omega)
  rw[ar,jV rfl e,ih,bx,cK,bS]
theorem JN:∀(d n:Nat),d<=n->d<=3->∀k:Kd,k.Ok d->S_3 n 0 [k.t]= .ok (.lst (k.wds.map T.str))
 | 0,_,_,_,_,h=>h.elim
 | d+1,n+1,hn,hd,k,h=>by
  have hb1:bnd=16777216:=rfl;obtain⟨h3,hk⟩:=qN h;have e:S_3 (n+1) 0 [k.t]=zg (b_3 f_h f_b (S_3 n 0) [.vl k.t,.un,.un]):=by rw[S_3];rfl
  rw[e,b_3]
  by_cases hp:∃cs,k= .pick cs
  ·obtain⟨cs,rfl⟩:=hp;rw[zO (t:= .lst (cs.map λc=>T.str c.1))]
   ·simp only[Kd.wds,aF];rfl
   ·rw[wS (by rw[Kd.t,cs0,beq_self_eq_true]),zi]
    show za 1 _ _ [.vl (Kd.pick cs).t,.un,.un]=_;rw[zl,v0,bOk,Jg cs h.2.1]
  ·have hp' :∀cs,k ≠ .pick cs:=λcs e=>hp ⟨cs,e⟩;have hf:zk eqC (zc ixT (vE 0) (cE (.int 0))) (cE (.str "pick")) [.vl k.t,.un,.un]= .ok false:=by
    cases k with
    | pick cs=>exact absurd rfl (hp' cs)
    | whole lo hi=>rw[Kd.t,cs0];rfl
    | row ks=>rw[Kd.t,cs0];rfl
    | many k lo hi=>rw[Kd.t,cs0];rfl
   have hlen:((Jn k).flatMap Kd.wds).length<=36:=by
    rw[← Ul hp'];have:=wW d k h;have:3 ^ d<=3 ^ 2:=cP (by omega) (by omega)
    omega
   obtain⟨x',hL⟩:=qQ (c:=S_3 n 0) (K:= .vl k.t) (Jn k) [] .un (λq hq=>JN d n (by omega) (by omega) q (hk q hq)) (by rw[bY];omega)
   have e1:uN 1 ze [.vl k.t,.un,.un]= .nx [.vl k.t,.ow [],.un]:=rfl;have e2:jk (Zv (za 1 f_b (z9 (vE 0) (ze)))) (zt 2) (yl 1 (za 1 (S_3 n 0) (z9 (vE 2) (ze)))) [.vl k.t,.ow [],.un]= .nx [.vl k.t,.ow ([]++((Jn k).flatMap Kd.wds).map T.str),x']:=by
    have ei:Zv (za 1 f_b (z9 (vE 0) (ze))) [.vl k.t,.ow [],.un]= .ok ((Jn k).map Kd.t):=by
     rw[ZF,zl,v0,bOk,VA,bOk];rfl
    unfold jk;rw[ei,Zt];exact hL
   rw[zd (zq hf),zd e1,zd e2,zi (t:= .lst (k.wds.map T.str))]
   ·rfl
   ·rw[Ul hp'];rfl
theorem cmap {c:List T->R T}{ks:List Kd}{h:Kd->T}{ρ:En}{js:List Nat}(hl:ks.length<=3)(H:∀k∈ks,c [k.t]= .ok (h k))(hρ:∀t,(wB 1 js ρ).set 0 (.vl t)= .vl t :: (wB 1 js ρ).tail):zL (zt 0) zQ (za 1 c (z9 (vE 0) (ze))) 1 js ρ (ks.map Kd.t)= .ok (ks.map h):=by
 have:=zK (fe:=za 1 c (z9 (vE 0) (ze))) (k:=1) (js:=js) (ρ:=ρ) (h:=λt=>match c [t] with | .ok u=>u | _=> .non) (ks.map Kd.t) (by rw[af];exact ap hl (by decide)) λt ht=>by
  obtain⟨q,hq,rfl⟩:=aq.mp ht;rw[hρ,zl,v0,bOk,H q hq]
 rw[this,aF];exact congrArg R.ok (bc λq hq=>by
  show (match c [q.t] with | .ok u=>u | _=> .non)=_
  rw[H q hq])
theorem pr0 {α:Type}{a b:α->T}:∀(qs:List α) (x y:Sl),zy (zN 0 1) zQ (vE 0) (qs.map λq=>T.tup [a q,b q]) [x,y]= .ok (qs.map a)
 | [],_,_=>rfl
 | q :: qs,x,y=>by
  have e:zy (zN 0 1) zQ (vE 0) ((q :: qs).map λq=>T.tup [a q,b q]) [x,y]=(zy (zN 0 1) zQ (vE 0) (qs.map λq=>T.tup [a q,b q]) [.vl (a q),.vl (b q)]).bind λvs=> .ok (a q :: vs):=rfl;rw[e,pr0 qs];rfl
theorem pr1 {α:Type}{a b:α->T}:∀(qs:List α) (x y:Sl),zy (zN 0 1) zQ (vE 1) (qs.map λq=>T.tup [a q,b q]) [x,y]= .ok (qs.map b)
 | [],_,_=>rfl
 | q :: qs,x,y=>by
  have e:zy (zN 0 1) zQ (vE 1) ((q :: qs).map λq=>T.tup [a q,b q]) [x,y]=(zy (zN 0 1) zQ (vE 1) (qs.map λq=>T.tup [a q,b q]) [.vl (a q),.vl (b q)]).bind λvs=> .ok (b q :: vs):=rfl;rw[e,pr1 qs];rfl
theorem pr0R {α:Type}{a b:α->T}{qs:List α}{ρ:En}(hl:qs.length<=1000):zL (zN 0 1) zQ (vE 0) 2 [] ρ (qs.map λq=>T.tup [a q,b q])= .ok (qs.map a):=by
 unfold zL;rw[if_pos (by rw[af];exact ap hl (by decide))]
 show quiet (zy _ _ _ _ [.un,.un])=_;rw[pr0];rfl
theorem pr1R {α:Type}{a b:α->T}{qs:List α}{ρ:En}(hl:qs.length<=1000):zL (zN 0 1) zQ (vE 1) 2 [] ρ (qs.map λq=>T.tup [a q,b q])= .ok (qs.map b):=by
 unfold zL;rw[if_pos (by rw[af];exact ap hl (by decide))]
 show quiet (zy _ _ _ _ [.un,.un])=_;rw[pr1];rfl
abbrev rT (k:Kd):T:= .tup [.int k.rlo,.int k.rhi]
theorem vF {i j:Int}(h1:0<=i)(h2:i<=3):zT (.int i) (.int j)= .ok (.int (i*j)):=qb _ _ (.inl ⟨by omega,by omega⟩)
theorem Gg (i j:Int):Ww (.int i) (.int j)= .ok (.int (if j > i then j else i)):=rfl
theorem vG {c:List T->R T}{k:Kd}{lo hi:Nat}(h:lo<=hi)(h3:hi<=3)(hc:c [k.t]= .ok (rT k)):zg (gq c (en0 2 [(Kd.many k lo hi).t]))= .ok (rT (.many k lo hi)):=by
 have e:en0 2 [(Kd.many k lo hi).t]=[.vl (mt k.t lo hi),.un]:=by rw[Kd.t];rfl
 have e1:zD 1 (za 1 c (z9 (zc ixT (vE 0) (cE (.int 1))) (ze))) [.vl (mt k.t lo hi),.un]= .nx [.vl (mt k.t lo hi),.vl (rT k)]:=by
  rw[zC (t:=rT k)]
  ·rfl
  ·rw[zl,j5,bOk,hc]
 have a0:zc ixT (vE 1) (cE (.int 0)) [.vl (mt k.t lo hi),.vl (rT k)]= .ok (.int k.rlo):=by rw[zh,v1,bOk,Z3,bOk,at0]
 have a1:zc ixT (vE 1) (cE (.int 1)) [.vl (mt k.t lo hi),.vl (rT k)]= .ok (.int k.rhi):=by rw[zh,v1,bOk,Z3,bOk,at1]
 rw[e,gq,zd e1,zi (t:=rT (.many k lo hi))]
 ·rfl
 ·show Z4 _ [.vl (mt k.t lo hi),.vl (rT k)]=_;rw[W7 (x:= .int (Kd.many k lo hi).rlo) (y:= .int (Kd.many k lo hi).rhi)]
  ·rw[zh,zh,W8,bOk,a0,bOk,vF (by omega) (by omega),bOk,zh,ya,bOk,a0,bOk,vF (by omega) (by omega),bOk,qa]
   simp only[Kd.rlo]
  ·rw[zh,zh,W8,bOk,a1,bOk,vF (by omega) (by omega),bOk,zh,ya,bOk,a1,bOk,vF (by omega) (by omega),bOk,Gg]
   simp only[Kd.rhi]
theorem JO:∀(d n:Nat),2*d<=n->∀k:Kd,k.Ok d->S_7 n 0 [k.t]= .ok (rT k)
 | 0,_,_,_,h=>h.elim
 | d+1,n+2,hn,k,h=>by
  have ih:=JO d;have e:S_7 (n+2) 0 [k.t]=zg (b_7 (S_7 (n+1) 0) (S_7 (n+1) 1) (en0 2 [k.t])):=by rw[S_7]
  have e1:∀s,S_7 (n+1) 1 [s]=zg (gq (S_7 n 0) (en0 2 [s])):=λs=>by rw[S_7];intro h;cases h
  rw[e];cases k with
  | whole lo hi=>
   have e:en0 2 [(Kd.whole lo hi).t]=[.vl (.tup [.str "whole",.int lo,.int hi]),.un]:=by rw[Kd.t];rfl
   rw[e,b_7,zO (t:=rT (.whole lo hi))]
   ·rfl
   ·rw[wS (by rw[cs0,beq_self_eq_true]),zi]
    show Z4 _ [.vl (.tup [.str "whole",.int lo,.int hi]),.un]=_;rw[W7 j5 W8];simp only[rT,Kd.rlo,Kd.rhi]
  | pick cs=>
   have e:en0 2 [(Kd.pick cs).t]=[.vl (.tup [.str "pick",.tup (cs.map Zu)]),.un]:=by rw[Kd.t];rfl
   rw[e,b_7,zd (zq (by rw[cs0];rfl)),zO (t:=rT (.pick cs))]
   ·rfl
   ·rw[wS (by rw[cs0,beq_self_eq_true]),zi]
    simp only[rT,Kd.rlo,Kd.rhi];rfl
  | row ks=>
   have e:en0 2 [(Kd.row ks).t]=[.vl (.tup [.str "row",.tup (ks.map Kd.t)]),.un]:=by rw[Kd.t,Kd.ts_map];rfl
   have ec:zL (zt 0) zQ (za 1 (S_7 (n+1) 0) (z9 (vE 0) (ze))) 1 [] [.vl (.tup [.str "row",.tup (ks.map Kd.t)]),.un] (ks.map Kd.t)= .ok (ks.map rT):=cmap h.2.1 (λk hk=>ih (n+1) (by omega) k (h.2.2 k hk)) λt=>rfl
   have e1:zD 1 (zJ (Zv (zc ixT (vE 0) (cE (.int 1)))) (zt 0) (zQ) (za 1 (S_7 (n+1) 0) (z9 (vE 0) (ze))) 1 []) [.vl (.tup [.str "row",.tup (ks.map Kd.t)]),.un]= .nx [.vl (.tup [.str "row",.tup (ks.map Kd.t)]),.vl (.lst (ks.map rT))]:=by
    rw[zC (t:= .lst (ks.map rT))]
    ·rfl
    ·rw[zH,ZF,j5,bOk];show (R.bind (R.ok (ks.map Kd.t)) _)=_;rw[bOk,ec,bOk]
   have hl:ks.length<=1000:=ap h.2.1 (by decide)
   rw[e,b_7,zd (zq (by rw[cs0];rfl)),zd (zq (by rw[cs0];rfl)),zO (t:=rT (.row ks))]
   ·rfl
   ·rw[wS (by rw[cs0,beq_self_eq_true]),zd e1,zi]
    show Z4 _ [.vl (.tup [.str "row",.tup (ks.map Kd.t)]),.vl (.lst (ks.map rT))]=_;rw[W7 (x:= .int (Kd.row ks).rlo) (y:= .int (Kd.row ks).rhi)]
    ·rw[Zs,zH];show (R.bind (R.bind (R.ok (ks.map λk=>T.tup [T.int k.rlo,T.int k.rhi])) _) _)=_;rw[bOk,pr0R (a:=λk:Kd=>T.int k.rlo) (b:=λk:Kd=>T.int k.rhi) hl,bOk,bOk,qM];simp only[Kd.rlo,Jl]
    ·rw[Zs,zH];show (R.bind (R.bind (R.ok (ks.map λk=>T.tup [T.int k.rlo,T.int k.rhi])) _) _)=_;rw[bOk,pr1R (a:=λk:Kd=>T.int k.rlo) (b:=λk:Kd=>T.int k.rhi) hl,bOk,bOk,qM];simp only[Kd.rhi,Jm]
  | many k lo hi=>
   have hm:=vG (c:=S_7 n 0) h.1 h.2.1 (ih n (by omega) k h.2.2)
   rw[← e1]at hm;have e:en0 2 [(Kd.many k lo hi).t]=[.vl (mt k.t lo hi),.un]:=by rw[Kd.t];rfl
   rw[Kd.t]at hm;rw[e,b_7,zd (zq (by rw[cs0];rfl)),zd (zq (by rw[cs0];rfl)),zd (zq (by rw[cs0];rfl)),zi (t:=rT (.many k lo hi))]
   ·rfl
   ·show za 1 _ _ [.vl (mt k.t lo hi),.un]=_;rw[zl,v0,bOk,hm]
theorem Um {k:Kd}(hk:k.Ok 3):f_a [k.t]= .ok (.int k.dp):=by
 have h:f_s 8 [k.t]= .ok (.int k.dp):=qO 3 8 (by omega) k hk
 show zg (b_a f_8 (f_s 8) [.vl k.t])=_;rw[b_a,zd (Zx (t:= .non) (by rw[zl,v0,bOk,ZQ hk])),zi (t:= .int k.dp)]
 ·rfl
 ·show za _ _ _ [.vl k.t]=_;rw[zl,v0,bOk,h]
theorem Uo {k:Kd}(hk:k.Ok 3):f_1 [k.t]= .ok (rT k):=by
 have h:f_7 8 [k.t]= .ok (rT k):=JO 3 8 (by omega) k hk
 show zg (b_1 f_8 (f_7 8) [.vl k.t])=_;rw[b_1,zd (Zx (t:= .non) (by rw[zl,v0,bOk,ZQ hk])),zi (t:=rT k)]
 ·rfl
 ·show za _ _ _ [.vl k.t]=_;rw[zl,v0,bOk,h]
theorem Up:∀ws:List Str,wD (ws.map T.str)=some ws
 | []=>rfl
 | w :: ws=>by
  show (match wD (ws.map T.str) with | some r=>some (w :: r) | none=>none)=_
  rw[Up ws]
abbrev ssW (k:Kd):T:= .lst ((W6 (dd [] k.wds)).map T.str)
theorem XH {k:Kd}(hk:k.Ok 3):QV (.lst (k.wds.map T.str))= .ok (ssW k):=by
 have hl:=wW 2 k hk;unfold QV;dsimp only;rw[Up];dsimp only;rw[if_pos (by rw[af];omega)]
theorem JP {k:Kd}(hk:k.Ok 3):Vk [k.t]= .ok (ssW k):=by
 have h:f_3 8 [k.t]= .ok (.lst (k.wds.map T.str)):=JN 3 8 (by omega) (by omega) k hk
 show zg (z0o f_8 (f_3 8) [.vl k.t])=_;rw[z0o,zd (Zx (t:= .non) (by rw[zl,v0,bOk,ZQ hk])),zi (t:=ssW k)]
 ·rfl
 ·show ap1 _ _ [.vl k.t]=_;rw[Zs,zl,v0,bOk,h,bOk,XH hk]
theorem z2a (k:Kd):neC (ssW k) (ssW k)= .ok false:=wT (Pl.le (n:=4) (by omega) (λy hy=>by
 obtain⟨w,_,rfl⟩:=aq.mp hy;trivial))
theorem z2b (a b:Int):neC (.tup [.int a,.int b]) (.tup [.int a,.int b])= .ok false:=wT (Pl.le (n:=4) (by omega) (λy hy=>by
 rcases ak.mp hy with rfl | hy
 ·trivial
 ·rw[aC.mp hy];trivial))
def frT (q:Rat):T:= .tup [.int q.num,.int q.den]
theorem Gh {b:Nat}:neC (.int (b:Int)) (.int 0)= .ok (!(b == 0)):=by
 show R.ok (!((b:Int) == 0))=_;congr 2
 cases b with
 | zero=>rfl
 | succ n=>
  rw[show ((n+1 == 0)=false) from rfl,beq_eq_false_iff_ne];omega
theorem vH {g:En->R Bool}{fb:En->RS}{n:Nat}{ρ ρ' :En}(h:g ρ= .ok true)(hb:fb ρ= .nx ρ'):Zl g fb (n+1) ρ=Zl g fb n ρ' :=by
 show (g ρ).s _=_;rw[h,Zt,if_pos rfl,hb]
theorem qR {g:En->R Bool}{fb:En->RS}{n:Nat}{ρ:En}(h:g ρ= .ok false):Zl g fb (n+1) ρ= .nx ρ:=by
 show (g ρ).s _=_;rw[h,Zt,if_neg ay]
theorem modn {a b:Nat}(h:1<=b):jP (.int (a:Int)) (.int (b:Int))= .ok (.int ((a % b:Nat):Int)):=Vt h
abbrev gdB:En->RS:=zj (zD 2 (zc jP (vE 0) (vE 1))) (zj (zD 0 (vE 1)) (zD 1 (vE 2)))
theorem qS:∀(n b a:Nat) (x:Sl),b < n->∃x',Zl (zk neC (vB 1) (cE (.int 0))) gdB n [.vl (.int (a:Int)),.vl (.int (b:Int)),x]= .nx [.vl (.int ((fq a b:Nat):Int)),.vl (.int 0),x']
 | 0,b,a,x,h=>by omega
 | n+1,0,a,x,h=>⟨x,by
  rw[qR (show zk neC (vB 1) (cE (.int 0)) [.vl (.int (a:Int)),.vl (.int ((0:Nat):Int)),x]= .ok false from Gh),Nat.gcd_zero_right];rfl⟩
 | n+1,b+1,a,x,h=>by
  have e:gdB [.vl (.int (a:Int)),.vl (.int ((b+1:Nat):Int)),x]= .nx [.vl (.int ((b+1:Nat):Int)),.vl (.int ((a % (b+1):Nat):Int)),.vl (.int ((a % (b+1):Nat):Int))]:=by
   have e1:zD 2 (zc jP (vE 0) (vE 1)) [.vl (.int (a:Int)),.vl (.int ((b+1:Nat):Int)),x]= .nx [.vl (.int (a:Int)),.vl (.int ((b+1:Nat):Int)),.vl (.int ((a % (b+1):Nat):Int))]:=by
    rw[zC (t:= .int ((a % (b+1):Nat):Int))]
    ·rfl
    ·rw[zh,v0,bOk,v1,bOk,modn (by omega)]
   show zj _ _ _=_;rw[zd e1];rfl
  have hlt:a % (b+1) < n:=by have:=ip a (show b+1 > 0 by omega);omega
  obtain⟨x',hx⟩:=qS n (a % (b+1)) (b+1) (.vl (.int ((a % (b+1):Nat):Int))) hlt;refine⟨x', ?_⟩;rw[vH (show zk neC (vB 1) (cE (.int 0)) [.vl (.int (a:Int)),.vl (.int ((b+1:Nat):Int)),x]= .ok true from Gh) e,hx,iP (b+1),← Nat.gcd_rec,iP]
theorem XI {a b:Nat}(h:b < 2 ^ 9000):gr [.int (a:Int),.int (b:Int)]= .ok (.int ((fq a b:Nat):Int)):=by
 obtain⟨x',hx⟩:=qS (2 ^ 9000) b a .un h;show zg (z05 [.vl (.int (a:Int)),.vl (.int (b:Int)),.un])=_;unfold z05;rw[zd hx];rfl
theorem Gi (u:Int):z00 (.int u)= .ok (.int (u.natAbs:Int)):=by
 show R.ok (T.int (if u < 0 then -u else u))=_
 congr 2
 split <;> omega
theorem VB {u:Int}{g:Nat}(h0:1<=g)(h:g < 2 ^ 9000):k9 (.int u) (.int (g:Int))= .ok (.int (u / (g:Int))):=by
 show (if _ then _ else _)=_
 rw[if_pos];refine⟨by omega, ?_⟩
 rw[dM];exact(Nat.log2_lt (by omega)).mpr h
theorem z2c (u:Int)(d:Nat)(h:1<=d):(mkRat u d).num=u / ((fq u.natAbs d:Nat):Int)/\(((mkRat u d).den:Nat):Int)=(d:Int) / ((fq u.natAbs d:Nat):Int):=by
 rw[fy,fA,if_neg (by omega),if_neg (by omega),iP d]
 exact⟨rfl,Int.natCast_ediv _ _⟩
theorem XJ {u:Int}{d:Nat}(h:1<=d):1<=fq u.natAbs d/\fq u.natAbs d<=d:=⟨Nat.gcd_pos_of_pos_right _ h,Nat.gcd_le_right _ h⟩
theorem ZH {u:Int}{d:Nat}(h:1<=d)(hd:d < 2 ^ 9000):f_l [.int u,.int (d:Int)]= .ok (frT (mkRat u d)):=by
 obtain⟨g1,g2⟩:=XJ (u:=u) h;have hg:fq u.natAbs d < 2 ^ 9000:=bN g2 hd;obtain⟨m1,m2⟩:=z2c u d h;show zg (b_l gr [.vl (.int u),.vl (.int (d:Int)),.un])=_;unfold b_l;have e1:zD 2 (za 2 gr (z9 (ap1 z00 (vB 0)) (z9 (vE 1) (ze)))) [.vl (.int u),.vl (.int (d:Int)),.un]= .nx [.vl (.int u),.vl (.int (d:Int)),.vl (.int ((fq u.natAbs d:Nat):Int))]:=by
  rw[zC (t:= .int ((fq u.natAbs d:Nat):Int))]
  ·rfl
  ·rw[zB,Zs,w0,bOk,Gi,bOk,v1,bOk,XI hd]
 rw[zd e1,zi (t:=frT (mkRat u d))]
 ·rfl
 ·unfold frT;rw[m1,m2];exact W7 (VB g1 hg) (VB g1 hg)
structure Bd (q:Rat) (m:Nat):Prop where
 num:q.num.natAbs<=2 ^ m
 den:q.den<=2 ^ m
theorem Bd.le {q:Rat}{m n:Nat}(h:Bd q m)(hm:m<=n):Bd q n:=⟨ap h.num (cP (by decide) hm),ap h.den (cP (by decide) hm)⟩
theorem Bd.mk' {u:Int}{d m:Nat}(h:1<=d)(h1:u.natAbs<=2 ^ m)(h2:d<=2 ^ m):Bd (mkRat u d) m:=by
 constructor
 ·rw[fy,if_neg (by omega),Int.natAbs_ediv_of_dvd]
  ·exact ap (lj _ _) h1
  ·exact Int.natAbs_dvd_natAbs.mp (by simpa using Nat.gcd_dvd_right d u.natAbs)
 ·rw[fA,if_neg (by omega)]
  exact ap (lj _ _) h2
theorem VC (q:Rat):1<=q.den:=e_ q.den_nz
theorem Bd.mul {p q:Rat}{m n:Nat}(h:Bd p m)(k:Bd q n):Bd (p*q) (m+n):=by
 rw[Rat.mul_def'];refine Bd.mk' (db (VC p) (VC q)) ?_ ?_
 ·rw[i3,eH];exact bG h.num k.num
 ·rw[eH];exact bG h.den k.den
theorem XL {p q:Rat}{m n:Nat}(h:Bd p m)(k:Bd q n):(p.num*(q.den:Int)+q.num*(p.den:Int)).natAbs<=2 ^ (m+n+1):=by
 refine ap (Int.natAbs_add_le _ _) ?_;rw[i3,i3,dM,dM];have e1:=bG h.num k.den;have e2:=bG k.num h.den;rw[dg,eH];have e3:2 ^ n*2 ^ m=2 ^ m*2 ^ n:=cM _ _;omega
theorem Bd.add {p q:Rat}{m n:Nat}(h:Bd p m)(k:Bd q n):Bd (p+q) (m+n+1):=by
 rw[Rat.add_def'];refine Bd.mk' (db (VC p) (VC q)) (XL h k) ?_;refine ap (bG h.den k.den) ?_;rw[← eH];exact cP (by decide) (by omega)
theorem lt9 {n m:Nat}(h:n<=2 ^ m)(hm:m < 9000):n < 2 ^ 9000:=bN h (i4 (by decide) hm)
theorem ltb {n m:Nat}(h:n<=2 ^ m)(hm:m < 8000):n < big:=by
 unfold big;exact bN h (i4 (by decide) hm)
theorem z2d {i j:Int}{m n:Nat}(h:i.natAbs<=2 ^ m)(k:j.natAbs<=2 ^ n)(hm:m < 8000)(hn:n < 8000):mlT (.int i) (.int j)= .ok (.int (i*j)):=by
 show (if _ then _ else _)=_
 rw[if_pos ⟨ltb h hm,ltb k hn⟩]
theorem nd (d:Nat){m:Nat}(h:d<=2 ^ m):((d:Int)).natAbs<=2 ^ m:=by rw[dM];exact h
theorem ix0 {i:Nat}{a b:T}{ρ:En}(h:vE i ρ= .ok (.tup [a,b])):zc ixT (vE i) (cE (.int 0)) ρ= .ok a:=by rw[zh,h,bOk,Z3,bOk,at0]
theorem ix1 {i:Nat}{a b:T}{ρ:En}(h:vE i ρ= .ok (.tup [a,b])):zc ixT (vE i) (cE (.int 1)) ρ= .ok b:=by rw[zh,h,bOk,Z3,bOk,at1]
theorem qT {f g:En->R T}{ρ:En}{i j:Int}{m n:Nat}(hf:f ρ= .ok (.int i))(hg:g ρ= .ok (.int j))(h:i.natAbs<=2 ^ m)(k:j.natAbs<=2 ^ n)(hm:m < 8000)(hn:n < 8000):zc mlT f g ρ= .ok (.int (i*j)):=by
 rw[zh,hf,bOk,hg,bOk,z2d h k hm hn]
theorem XM {f g:En->R T}{ρ:En}{i j:Int}(hf:f ρ= .ok (.int i))(hg:g ρ= .ok (.int j)):zc zA f g ρ= .ok (.int (i+j)):=by
 rw[zh,hf,bOk,hg,bOk,Ze]
theorem wX {p q:Rat}{m n:Nat}(h:Bd p m)(k:Bd q n)(hm:m+n < 8000):f_v [frT p,frT q]= .ok (frT (p*q)):=by
 show zg (b_v f_l [.vl (frT p),.vl (frT q)])=_;unfold b_v;rw[zi (t:=frT (p*q))]
 ·rfl
 ·rw[zB];have e0:vE 0 (frz [.vl (frT p),.vl (frT q)])= .ok (.tup [.int p.num,.int p.den]):=rfl;have e1:vE 1 (frz [.vl (frT p),.vl (frT q)])= .ok (.tup [.int q.num,.int q.den]):=rfl;rw[qT (ix0 e0) (ix0 e1) h.num k.num (by omega) (by omega),bOk,qT (ix1 e0) (ix1 e1) (nd _ h.den) (nd _ k.den) (by omega) (by omega),bOk,← eJ,
   ZH (db (VC p) (VC q)) (lt9 (m:=m+n) (by rw[eH];exact bG h.den k.den) (by omega)),← Rat.mul_def']
theorem XN {p q:Rat}{m n:Nat}(h:Bd p m)(k:Bd q n)(hm:m+n < 8000):gu [frT p,frT q]= .ok (frT (p+q)):=by
 show zg (z06 f_l [.vl (frT p),.vl (frT q)])=_;unfold z06;rw[zi (t:=frT (p+q))]
 ·rfl
 ·rw[zB];have e0:vE 0 (frz [.vl (frT p),.vl (frT q)])= .ok (.tup [.int p.num,.int p.den]):=rfl;have e1:vE 1 (frz [.vl (frT p),.vl (frT q)])= .ok (.tup [.int q.num,.int q.den]):=rfl;rw[XM (qT (ix0 e0) (ix1 e1) h.num (nd _ k.den) (by omega) (by omega)) (qT (ix0 e1) (ix1 e0) k.num (nd _ h.den) (by omega) (by omega)),bOk,qT (ix1 e0) (ix1 e1) (nd _ h.den) (nd _ k.den) (by omega) (by omega),bOk,← eJ,
   ZH (db (VC p) (VC q)) (lt9 (m:=m+n) (by rw[eH];exact bG h.den k.den) (by omega)),← Rat.add_def']
def jO:List Rat->Rat
 | []=>0
 | q :: r=>q+jO r
abbrev tgB:En->RS:=zD 1 (za 2 gu (z9 (vE 1) (z9 (vE 2) (ze))))
theorem qU {s:Sl}{m:Nat}:∀(qs:List Rat) (p:Rat) (n:Nat) (x:Sl),(∀q∈qs,Bd q m)->Bd p n->n+qs.length*(m+1) < 8000->
  ∃x',ZA (zt 2) tgB (qs.map frT) [s,.vl (frT p),x]= .nx [s,.vl (frT (p+jO qs)),x']
 | [],p,n,x,_,_,_=>⟨x,by rw[jO,Rat.add_zero];rfl⟩
 | q :: r,p,n,x,hq,hp,hl=>by
  rw[av,dQ]at hl;have kq:=hq q ae;obtain⟨x',e⟩:=qU r (p+q) (n+m+1) (.vl (frT q)) (λa ha=>hq a (ab _ ha)) (hp.add kq) (by omega)
  refine⟨x', ?_⟩;rw[ar,jV (setg 2 _ _) (ρ2:=[s,.vl (frT (p+q)),.vl (frT q)]),e,jO,Rat.add_assoc];show zD 1 _ [s,.vl (frT p),.vl (frT q)]=_;rw[zC (t:=frT (p+q))]
  ·rfl
  ·rw[zB,v1,bOk,show vE 2 [s,.vl (frT p),.vl (frT q)]= .ok (frT q) from rfl,bOk,XN hp kq (by omega)]
theorem bd0:Bd 0 0:=⟨by decide,by decide⟩
theorem bd1:Bd 1 0:=⟨by decide,by decide⟩
theorem uA {qs:List Rat}{m:Nat}(h:∀q∈qs,Bd q m)(hl:qs.length*(m+1) < 8000):z08 [.lst (qs.map frT)]= .ok (frT (jO qs)):=by
 show zg (z07 gu [.vl (.lst (qs.map frT)),.un,.un])=_;unfold z07;have e1:zD 1 (Z4 (z9 (cE (.int 0)) (z9 (cE (.int 1)) (ze)))) [.vl (.lst (qs.map frT)),.un,.un]= .nx [.vl (.lst (qs.map frT)),.vl (frT 0),.un]:=by
  rw[zC (W7 rfl rfl)];rfl
 obtain⟨x',e⟩:=qU (s:= .vl (.lst (qs.map frT))) qs 0 0 .un h bd0 (by omega)
 have e2:jk (Zv (vE 0)) (zt 2) tgB [.vl (.lst (qs.map frT)),.vl (frT 0),.un]= .nx [.vl (.lst (qs.map frT)),.vl (frT (jO qs)),x']:=by
  rw[Rat.zero_add]at e;exact e
 rw[zd e1,zd e2];rfl
def Zb:List Rat->Rat
 | []=>1
 | q :: r=>q*Zb r
def u4 (cs:List (Str×Int)):Int:=(cs.map (·.2)).sum
mutual
def Kd.sh:Kd->T->Rat
 | .whole lo hi=>λ_=>mkRat 1 (hi+1 - lo).toNat
 | .pick cs=>λt=>match t with | .str x=>mkRat ((cs.lookup x).getD 0) (u4 cs).toNat | _=>0
 | .row ks=>λt=>match t with | .tup xs=>Kd.shs ks xs | _=>0
 | .many k lo hi=>λt=>match t with | .tup xs=>mkRat 1 (hi+1 - lo)*Zb (xs.map k.sh) | _=>0
def Kd.shs:List Kd->List T->Rat
 | []=>λ_=>1
 | k :: ks=>λxs=>match xs with | []=>1 | x :: xs=>k.sh x*Kd.shs ks xs
end
theorem wY:∀(ks:List Kd) (xs:List T),Kd.shs ks xs=Zb ((ks.zip xs).map λq=>q.1.sh q.2)
 | [],_=>by simp[Kd.shs,Zb]
 | k :: ks,[]=>by simp[Kd.shs,Zb]
 | k :: ks,x :: xs=>by simp[Kd.shs,Zb,wY ks xs]
theorem qV (k:Kd):∀xs:List T,((ag xs.length k).zip xs).map (λq=>q.1.sh q.2)=xs.map k.sh
 | []=>rfl
 | x :: xs=>by rw[av,aU,iu,ar,ar,qV k xs]
theorem Bd.prod {m:Nat}:∀{qs:List Rat},(∀q∈qs,Bd q m)->Bd (Zb qs) (qs.length*m)
 | [],_=>by rw[Zb];exact bd1.le (b9 _)
 | q :: r,h=>by
  rw[Zb,av,dQ,cn,iB];exact(h q ae).mul (Bd.prod λa ha=>h a (ab _ ha))
theorem qW:∀cs:List (Str×Int),jH (cs.map Zu)=some cs
 | []=>rfl
 | c :: cs=>by
  show (match jH (cs.map Zu) with | some l=>some ((c.1,c.2) :: l) | none=>none)=_
  rw[qW cs]
theorem Dst.nd {ws:List Str}(h:Dst ws):ws.Nodup:=by
 rw[aL,cf];intro i j hi hj hij e;refine h j _ (ac hj) ?_;rw[← e];rw[List.mem_take_iff_getElem];exact⟨i,by omega,rfl⟩
theorem wt:∀(cs:List (Str×Int)) (x:Str),(cs.any λc=>c.1 == x)=true->∃i,cs.lookup x=some i/\(x,i)∈cs
 | [],x,h=>by simp at h
 | c :: cs,x,h=>by
  rw[ib,la]at h
  by_cases e:c.1=x
  ·refine⟨c.2, ?_, ?_⟩
   ·rw[aK];simp[e]
   ·rw[← e];exact ae
  ·have h:(cs.any λc=>c.1 == x)=true:=h.resolve_left (by simp[e])
   obtain⟨i,h1,h2⟩:=wt cs x h;refine⟨i, ?_,ab _ h2⟩;rw[aK];have:(x == c.1)=false:=beq_eq_false_iff_ne.mpr (bq e);rw[this];exact h1
theorem VD:∀{cs:List (Str×Int)},(∀c∈cs,1<=c.2/\c.2<=20)->(cs.length:Int)<=u4 cs/\u4 cs<=20*cs.length
 | [],_=>by simp[u4]
 | c :: cs,h=>by
  have ih:=VD (cs:=cs) λa ha=>h a (ab _ ha);have h0:=h c ae;have e:u4 (c :: cs)=c.2+u4 cs:=by simp[u4]
  rw[e,av];omega
theorem VE {d:Nat}{cs:List (Str×Int)}(h:(Kd.pick cs).Ok (d+1)):1<=u4 cs/\u4 cs<=80/\∀c∈cs,1<=c.2/\c.2<=20:=by
 have hb:∀c∈cs,1<=c.2/\c.2<=20:=λc hc=>(h.2.2.1 c hc).2;have:=VD hb;have h1:=h.1;have h2:=h.2.1;exact⟨by omega,by omega,hb⟩
theorem wZ (cs:List (Str×Int))(x:Str):(Kd.pick cs).sh (.str x)=mkRat ((cs.lookup x).getD 0) (u4 cs).toNat:=by rw[Kd.sh]
theorem Gj {cs:List (Str×Int)}(hd:Dst (cs.map (·.1))){x:Str}{i:Int}(h:cs.lookup x=some i):Yo (.tup (cs.map Zu)) (.str x)= .ok (.int i):=by
 unfold Yo;dsimp only;rw[qW];dsimp only;rw[if_pos hd.nd,h]
theorem XO {cs:List (Str×Int)}(hd:Dst (cs.map (·.1))):wH (.tup (cs.map Zu))= .ok (.int (u4 cs)):=by
 unfold wH;dsimp only;rw[qW];dsimp only;rw[if_pos hd.nd];rfl
theorem vI {d:Nat}{cs:List (Str×Int)}(h:(Kd.pick cs).Ok (d+1)){x:Str}{i:Int}(hx:cs.lookup x=some i):z0n [(Kd.pick cs).t,.str x]= .ok (frT ((Kd.pick cs).sh (.str x))):=by
 obtain⟨w1',w2',_⟩:=VE h;show zg (z0m f_l [.vl (Kd.pick cs).t,.vl (.str x),.un])=_;unfold z0m;have e1:zc ixT (vE 0) (cE (.int 1)) [.vl (Kd.pick cs).t,.vl (.str x),.un]= .ok (.tup (cs.map Zu)):=by rw[Kd.t];exact j5
 have en:u4 cs=(((u4 cs).toNat:Nat):Int):=by omega
 show zg ((R.bind _ _).s _)=_;rw[e1,bOk,v1,bOk,Gj h.2.2.2 hx,bOk,XO h.2.2.2,bOk,en,ZH (by omega) (lt9 (m:=7) (by omega) (by decide)),Zt,wZ,hx]
 rfl
abbrev spB (c:List T->R T):En->RS:=zD 2 (za 2 f_v (z9 (vE 2) (z9 (za 2 c (z9 (vE 3) (z9 (vE 4) (ze)))) (ze))))
theorem qX {c:List T->R T}{s t:Sl}{m:Nat}:∀(qs:List (Kd×T)) (p:Rat) (n:Nat) (x y:Sl),(∀q∈qs,c [q.1.t,q.2]= .ok (frT (q.1.sh q.2))/\Bd (q.1.sh q.2) m)->Bd p n->n+qs.length*m < 8000->
  ∃x' y',ZA (zN 3 4) (spB c) (qs.map λq=>T.tup [q.1.t,q.2]) [s,t,.vl (frT p),x,y]= .nx [s,t,.vl (frT (p*Zb (qs.map λq=>q.1.sh q.2))),x',y']
 | [],p,n,x,y,_,_,_=>⟨x,y,by simp only[cN,Zb,Rat.mul_one];rfl⟩
 | q :: r,p,n,x,y,h,hp,hl=>by
  rw[av,dQ]at hl;obtain⟨k1,k2⟩:=h q ae;obtain⟨x',y',e⟩:=qX r (p*q.1.sh q.2) (n+m) (.vl q.1.t) (.vl q.2) (λa ha=>h a (ab _ ha)) (hp.mul k2) (by omega)
  refine⟨x',y', ?_⟩;rw[ar,ar,jV (ρ1:=[s,t,.vl (frT p),.vl q.1.t,.vl q.2]) (ρ2:=[s,t,.vl (frT (p*q.1.sh q.2)),.vl q.1.t,.vl q.2]) rfl,e,Zb,Rat.mul_assoc];show zD 2 _ [s,t,.vl (frT p),.vl q.1.t,.vl q.2]=_;rw[zC (t:=frT (p*q.1.sh q.2))]
  ·rfl
  ·rw[zB,show vE 2 [s,t,.vl (frT p),.vl q.1.t,.vl q.2]= .ok (frT p) from rfl,bOk,zB,show vE 3 [s,t,.vl (frT p),.vl q.1.t,.vl q.2]= .ok q.1.t from rfl,bOk,show vE 4 [s,t,.vl (frT p),.vl q.1.t,.vl q.2]= .ok q.2 from rfl,bOk,k1,bOk,wX hp k2 (by omega)]
theorem WT {c:List T->R T}{s:T}{m:Nat}(ks:List Kd)(xs:List T)(hs:j3 s= .ok (ks.map Kd.t))(hl:ks.length<=3)(hm:m<=1000)(H:∀q∈ks.zip xs,c [q.1.t,q.2]= .ok (frT (q.1.sh q.2))/\Bd (q.1.sh q.2) m):
  zg (gD f_v c (en0 5 [s,.tup xs]))= .ok (frT (Zb ((ks.zip xs).map λq=>q.1.sh q.2))):=by
 have e:en0 5 [s,.tup xs]=[.vl s,.vl (.tup xs),.un,.un,.un]:=rfl;have hz:(ks.zip xs).length*m < 8000:=by
  have h1:(ks.zip xs).length<=3:=by rw[dJ];omega
  have:=bG h1 hm;omega
 obtain⟨x',y',el⟩:=qX (c:=c) (s:= .vl s) (t:= .vl (.tup xs)) (ks.zip xs) 1 0 .un .un H bd1 (by omega)
 have e1:zD 2 (Z4 (z9 (cE (.int 1)) (z9 (cE (.int 1)) (ze)))) [.vl s,.vl (.tup xs),.un,.un,.un]= .nx [.vl s,.vl (.tup xs),.vl (frT 1),.un,.un]:=by
  rw[zC (W7 rfl rfl)];rfl
 have ez:Qg (vE 0) (vE 1) [.vl s,.vl (.tup xs),.vl (frT 1),.un,.un]= .ok ((ks.zip xs).map λq=>T.tup [q.1.t,q.2]):=by
  show (j3 s).bind _=_;rw[hs,bOk,← G5];rfl
 have e2:jk (Qg (vE 0) (vE 1)) (zN 3 4) (spB c) [.vl s,.vl (.tup xs),.vl (frT 1),.un,.un]= .nx [.vl s,.vl (.tup xs),.vl (frT (Zb ((ks.zip xs).map λq=>q.1.sh q.2))),x',y']:=by
  unfold jk;rw[ez,Zt,el,Rat.one_mul]
 rw[e,gD,zd e1,zd e2];rfl
def sb:Nat->Nat
 | 0=>0
 | d+1=>7+3*sb d
theorem z0v (d:Nat):sb (d+1)=7+3*sb d:=rfl
abbrev qY (a b:T):En:=[.vl a,.vl b,.un]
theorem ki {x w:Str}{r:List T}{b:T}(h:(x == w)=false){f:En->RS}:ifS (zk eqC (zc ixT (vE 0) (cE (.int 0))) (cE (.str w))) f nxS (qY (.tup (.str x :: r)) b)= .nx (qY (.tup (.str x :: r)) b):=
 zq (by rw[show zk eqC (zc ixT (vE 0) (cE (.int 0))) (cE (.str w)) (qY (.tup (.str x :: r)) b)= .ok (x == w) from cs0,h])
theorem z2e {x:Str}{r:List T}{b:T}{f:En->RS}:ifS (zk eqC (zc ixT (vE 0) (cE (.int 0))) (cE (.str x))) f nxS (qY (.tup (.str x :: r)) b)=f (qY (.tup (.str x :: r)) b):=
 wS (by rw[show zk eqC (zc ixT (vE 0) (cE (.int 0))) (cE (.str x)) (qY (.tup (.str x :: r)) b)= .ok (x == x) from cs0,beq_self_eq_true])
theorem Uq:∀(d n:Nat),2*d<=n->d<=3->∀(k:Kd) (x:T),k.Ok d->k.has x=true->S_p n 0 [k.t,x]= .ok (frT (k.sh x))/\Bd (k.sh x) (sb d)
 | 0,_,_,_,_,_,h,_=>h.elim
 | d+1,n+2,hn,hd3,k,x,h,hx=>by
  have ih:=Uq d n (by omega) (by omega)
  have hsb:sb d<=1000:=by
   have h2:d<=2:=by omega
   rcases(show d=0\/d=1\/d=2 by omega) with rfl | rfl | rfl <;> decide
  have e:S_p (n+2) 0 [k.t,x]=zg (b_p (f_2 20) f_v z0n (S_p (n+1) 1) (qY k.t x)):=by rw[S_p];rfl
  have e1:∀s y,S_p (n+1) 1 [s,y]=zg (gD f_v (S_p n 0) (en0 5 [s,y])):=λs y=>by rw[S_p];intro h;cases h
  rw[e];cases k with
  | whole lo hi=>
   obtain⟨a1,a2,a3⟩:=h;have hc:=ZK (d:=1) (by omega) (U5 d lo hi ⟨a1,a2,a3⟩)
   rw[ZV]at hc;constructor
   ·rw[show (Kd.whole lo hi).t= .tup [.str "whole",.int lo,.int hi] from by rw[Kd.t]]at hc ⊢
    rw[b_p,zO (t:=frT (mkRat 1 (hi+1 - lo).toNat)),Kd.sh]
    ·rfl
    ·rw[z2e,zi (t:=frT (mkRat 1 (hi+1 - lo).toNat))];show Z4 _ (qY _ x)=_;have ez:frT (mkRat 1 (hi+1 - lo).toNat)= .tup [.int 1,.int (((hi+1 - lo).toNat:Nat):Int)]:=by
      unfold frT;rw[fy,fA,if_neg (by omega),if_neg (by omega),show (1:Int).natAbs=1 from rfl,iQ,Nat.div_one]
      rfl
     rw[ez];exact W7 rfl (by rw[zl,v0,bOk,hc])
   ·rw[Kd.sh];refine(Bd.mk' (m:=7) (by omega) (by decide) (by omega)).le ?_
    rw[z0v];omega
  | pick cs=>
   cases x with
   | str y=>
    have hx' :(cs.any λc=>c.1 == y)=true:=by rw[Kd.has]at hx;exact hx
    obtain⟨i,hi,hm⟩:=wt cs y hx';obtain⟨w1',w2',w3'⟩:=VE h;have hw:=w3' _ hm;constructor
    ·have hs:=vI h hi;rw[show (Kd.pick cs).t= .tup [.str "pick",.tup (cs.map Zu)] from by rw[Kd.t]]at hs ⊢
     rw[b_p,zd (ki (by decide)),zO (t:=frT ((Kd.pick cs).sh (.str y)))]
     ·rfl
     ·rw[z2e,zi (t:=frT ((Kd.pick cs).sh (.str y)))];show za 2 _ _ (qY _ _)=_;rw[zB,v0,bOk,v1,bOk,hs]
    ·rw[wZ,hi];refine(Bd.mk' (m:=7) (by omega) ?_ (by omega)).le ?_
     ·show i.natAbs<=128;omega
     ·rw[z0v];omega
   | _=>rw[Kd.has]at hx;cases hx
  | row ks=>
   cases x with
   | tup xs=>
    have hx' :(xs.length == ks.length && Kd.hass ks xs)=true:=by rw[Kd.has]at hx;exact hx
    rw[aj,beq_iff_eq,jD,aI]at hx';have H:∀q∈ks.zip xs,S_p n 0 [q.1.t,q.2]= .ok (frT (q.1.sh q.2))/\Bd (q.1.sh q.2) (sb d):=λq hq=>ih q.1 q.2 (h.2.2 q.1 (bX hq).1) (hx'.2 q hq);have hp:=WT (s:= .tup (ks.map Kd.t)) ks xs rfl h.2.1 hsb H;have es:(Kd.row ks).sh (.tup xs)=Zb ((ks.zip xs).map λq=>q.1.sh q.2):=by rw[Kd.sh,← wY]
    rw[es];constructor
    ·rw[show (Kd.row ks).t= .tup [.str "row",.tup (ks.map Kd.t)] from by rw[Kd.t,Kd.ts_map]]
     rw[b_p,zd (ki (by decide)),zd (ki (by decide)),zO (t:=frT (Zb ((ks.zip xs).map λq=>q.1.sh q.2)))]
     ·rfl
     ·rw[z2e,zi (t:=frT (Zb ((ks.zip xs).map λq=>q.1.sh q.2)))];show za 2 _ _ (qY _ _)=_;rw[zB,j5,bOk,v1,bOk,e1,hp]
    ·have hb:=Bd.prod (qs:=(ks.zip xs).map λq=>q.1.sh q.2) (m:=sb d) (λq hq=>by
      obtain⟨a,ha,rfl⟩:=aq.mp hq;exact(H a ha).2)
     refine hb.le ?_;have h3:=h.2.1;have hz:((ks.zip xs).map λq=>q.1.sh q.2).length<=3:=by rw[af,dJ];omega
     have:=dB (sb d) hz;rw[z0v];omega
   | _=>rw[Kd.has]at hx;cases hx
  | many k lo hi=>
   cases x with
   | tup xs=>
    have hx' :(decide (lo<=xs.length) && decide (xs.length<=hi) && xs.all k.has)=true:=by rw[Kd.has]at hx;exact hx
    rw[aj,aj,decide_eq_true_eq,decide_eq_true_eq,aI]at hx';obtain⟨⟨l1,l2⟩,hx'⟩:=hx';have h1:=h.1;have h3:=h.2.1;have hx3:xs.length<=3:=by omega
    have H:∀q∈(ag xs.length k).zip xs,S_p n 0 [q.1.t,q.2]= .ok (frT (q.1.sh q.2))/\Bd (q.1.sh q.2) (sb d):=λq hq=>by
     have:=bX hq;have e:=bj this.1;refine ih q.1 q.2 ?_ ?_
     ·rw[e];exact h.2.2
     ·rw[e];exact hx' q.2 this.2
    have hp:=WT (s:= .lst ((ag xs.length k).map Kd.t)) (ag xs.length k) xs rfl (by rw[aW];exact hx3) hsb H
    rw[qV]at hp;have es:(Kd.many k lo hi).sh (.tup xs)=mkRat 1 (hi+1 - lo)*Zb (xs.map k.sh):=by rw[Kd.sh]
    have hb:=Bd.prod (qs:=xs.map k.sh) (m:=sb d) (λq hq=>by
      rw[← qV]at hq;obtain⟨a,ha,rfl⟩:=aq.mp hq;exact(H a ha).2)
    rw[af]at hb;have hb0:Bd (mkRat 1 (hi+1 - lo)) 2:=Bd.mk' (by omega) (by decide) (by show hi+1 - lo<=4;omega)
    have hz:=dB (sb d) hx3;rw[es];constructor
    ·rw[show (Kd.many k lo hi).t= .tup [.str "many",k.t,.int (lo:Int),.int (hi:Int)] from by rw[Kd.t]]
     have em:zc zT (jz (z9 (zc ixT (vE 0) (cE (.int 1))) (ze))) (ap1 ZO (vB 1)) [.vl (.tup [.str "many",k.t,.int (lo:Int),.int (hi:Int)]),.vl (.tup xs),.vl (frT (mkRat 1 (hi+1 - lo)))]= .ok (.lst ((ag xs.length k).map Kd.t)):=by
      rw[zh,gW j5,bOk,Zs,w1,bOk,jK,bOk,WL hx3,ZY,aS]
     have ez:frT (mkRat 1 (hi+1 - lo))= .tup [.int 1,.int ((hi:Int) - (lo:Int)+1)]:=by
      unfold frT;rw[fy,fA,if_neg (by omega),if_neg (by omega),show (1:Int).natAbs=1 from rfl,iQ,Nat.div_one,show ((hi+1 - lo:Nat):Int)=(hi:Int) - (lo:Int)+1 by omega]
      rfl
     have eq:zD 2 (Z4 (z9 (cE (.int 1)) (z9 (zc zA (zc J6 (zc ixT (vE 0) (cE (.int 3))) (zc ixT (vE 0) (cE (.int 2)))) (cE (.int 1))) (ze)))) (qY (.tup [.str "many",k.t,.int (lo:Int),.int (hi:Int)]) (.tup xs))= .nx [.vl (.tup [.str "many",k.t,.int (lo:Int),.int (hi:Int)]),.vl (.tup xs),.vl (frT (mkRat 1 (hi+1 - lo)))]:=by
      rw[ez,zC (W7 rfl (y:= .int ((hi:Int) - (lo:Int)+1)) (yb (by rw[zh,ya,bOk,W8,bOk,jm])))]
      rfl
     rw[b_p,zd (ki (by decide)),zd (ki (by decide)),zd (ki (by decide)),zd eq,zi (t:=frT (mkRat 1 (hi+1 - lo)*Zb (xs.map k.sh)))]
     ·rfl
     ·show za 2 _ _ [.vl (.tup [.str "many",k.t,.int (lo:Int),.int (hi:Int)]),.vl (.tup xs),.vl (frT (mkRat 1 (hi+1 - lo)))]=_;rw[zB,show vE 2 [.vl (.tup [.str "many",k.t,.int (lo:Int),.int (hi:Int)]),.vl (.tup xs),.vl (frT (mkRat 1 (hi+1 - lo)))]= .ok (frT (mkRat 1 (hi+1 - lo))) from rfl,bOk,zB,em,bOk,v1,bOk,e1,hp,bOk,wX hb0 hb (by omega)]
    ·refine(hb0.mul hb).le ?_;rw[z0v];omega
   | _=>rw[Kd.has]at hx;cases hx
theorem Ur:∀as bs:List Rat,jO (as++bs)=jO as+jO bs
 | [],bs=>by rw[bP,jO,Rat.zero_add]
 | a :: as,bs=>by rw[eC,jO,jO,Ur as bs,Rat.add_assoc]
mutual
def Kd.tot:Kd->T->Int
 | .whole _ _=>λt=>match t with | .int i=>i | _=>0
 | .pick _=>λ_=>0
 | .row ks=>λt=>match t with | .tup xs=>Kd.tots ks xs | _=>0
 | .many k _ _=>λt=>match t with | .tup xs=>(xs.map k.tot).sum | _=>0
def Kd.tots:List Kd->List T->Int
 | []=>λ_=>0
 | k :: ks=>λxs=>match xs with | []=>0 | x :: xs=>k.tot x+Kd.tots ks xs
end
mutual
def Kd.mn:Kd->Rat
 | .whole lo hi=>mkRat (lo+hi) 2
 | .pick _=>0
 | .row ks=>Kd.mns ks
 | .many k lo hi=>mkRat ((lo:Int)+(hi:Int)) 2*k.mn
def Kd.mns:List Kd->Rat
 | []=>0
 | k :: ks=>k.mn+Kd.mns ks
end
def mb:Nat->Nat
 | 0=>0
 | d+1=>12+3*(mb d+1)
theorem z2f (d:Nat):mb (d+1)=12+3*(mb d+1):=rfl
abbrev enM (a:T):En:=[.vl a,.un]
theorem kj {x w:Str}{r:List T}(h:(x == w)=false){f:En->RS}:ifS (zk eqC (zc ixT (vE 0) (cE (.int 0))) (cE (.str w))) f nxS (enM (.tup (.str x :: r)))= .nx (enM (.tup (.str x :: r))):=
 zq (by rw[show zk eqC (zc ixT (vE 0) (cE (.int 0))) (cE (.str w)) (enM (.tup (.str x :: r)))= .ok (x == w) from cs0,h])
theorem z2g {x:Str}{r:List T}{f:En->RS}:ifS (zk eqC (zc ixT (vE 0) (cE (.int 0))) (cE (.str x))) f nxS (enM (.tup (.str x :: r)))=f (enM (.tup (.str x :: r))):=
 wS (by rw[show zk eqC (zc ixT (vE 0) (cE (.int 0))) (cE (.str x)) (enM (.tup (.str x :: r)))= .ok (x == x) from cs0,beq_self_eq_true])
theorem W0:∀ks:List Kd,Kd.mns ks=jO (ks.map Kd.mn)
 | []=>by rw[Kd.mns];rfl
 | k :: ks=>by rw[Kd.mns,W0 ks];rfl
theorem Bd.sum {m:Nat}:∀{qs:List Rat},(∀q∈qs,Bd q m)->Bd (jO qs) (qs.length*(m+1))
 | [],_=>by rw[jO];exact bd0.le (b9 _)
 | q :: r,h=>by
  rw[jO,av,dQ];exact((h q ae).add (Bd.sum λa ha=>h a (ab _ ha))).le (by omega)
theorem qZ:∀(d n:Nat),d<=n->d<=3->∀k:Kd,k.Ok d->S_r n 0 [k.t]= .ok (frT k.mn)/\Bd k.mn (mb d)
 | 0,_,_,_,_,h=>h.elim
 | d+1,n+1,hn,hd3,k,h=>by
  have ih:=qZ d n (by omega) (by omega)
  have hmb:mb d<=1000:=by
   rcases(show d=0\/d=1\/d=2 by omega) with rfl | rfl | rfl <;> decide
  have e:S_r (n+1) 0 [k.t]=zg (b_r f_l f_v z08 (S_r n 0) (enM k.t)):=by rw[S_r];rfl
  rw[e];cases k with
  | whole lo hi=>
   obtain⟨a1,a2,a3⟩:=h;constructor
   ·rw[show (Kd.whole lo hi).t= .tup [.str "whole",.int lo,.int hi] from by rw[Kd.t],b_r,zO (t:=frT (mkRat (lo+hi) 2)),Kd.mn]
    ·rfl
    ·rw[z2g,zi (t:=frT (mkRat (lo+hi) 2))];show za 2 _ _ (enM _)=_;rw[zB,XM j5 W8,bOk,Z3,bOk];exact ZH (u:=lo+hi) (d:=2) (by decide) (lt9 (m:=1) (by decide) (by decide))
   ·rw[Kd.mn];exact(Bd.mk' (m:=6) (by decide) (by show (lo+hi).natAbs<=64;omega) (by decide)).le (by rw[z2f];omega)
  | pick cs=>
   constructor
   ·rw[show (Kd.pick cs).t= .tup [.str "pick",.tup (cs.map Zu)] from by rw[Kd.t],b_r,zd (kj (by decide)),zO (t:=frT 0),Kd.mn]
    ·rfl
    ·rw[z2g,zi (W7 rfl rfl)];rfl
   ·rw[Kd.mn];exact bd0.le (b9 _)
  | row ks=>
   have h3:=h.2.1;have hb:∀q∈ks.map Kd.mn,Bd q (mb d):=λq hq=>by
    obtain⟨k,hk,rfl⟩:=aq.mp hq;exact(ih k (h.2.2 k hk)).2
   have hz:(ks.map Kd.mn).length*(mb d+1)<=3*(mb d+1):=dB _ (by rw[af];exact h3)
   have em:(Kd.row ks).mn=jO (ks.map Kd.mn):=by rw[Kd.mn,W0]
   rw[em];constructor
   ·rw[show (Kd.row ks).t= .tup [.str "row",.tup (ks.map Kd.t)] from by rw[Kd.t,Kd.ts_map],b_r,zd (kj (by decide)),zd (kj (by decide)),zO (t:=frT (jO (ks.map Kd.mn)))]
    ·rfl
    ·rw[z2g,zi (t:=frT (jO (ks.map Kd.mn)))];show za 1 _ _ (enM _)=_;have ec:zJ (Zv (zc ixT (vE 0) (cE (.int 1)))) (zt 0) (zQ) (za 1 (S_r n 0) (z9 (vE 0) (ze))) 1 [] (enM (.tup [.str "row",.tup (ks.map Kd.t)]))= .ok (.lst ((ks.map Kd.mn).map frT)):=by
      rw[zH,show Zv (zc ixT (vE 0) (cE (.int 1))) (enM (.tup [.str "row",.tup (ks.map Kd.t)]))= .ok (ks.map Kd.t) from by unfold Zv;rw[j5];rfl,bOk]
      rw[zK (h:=λt=>match S_r n 0 [t] with | .ok v=>v | _=> .non) (ks.map Kd.t) (by rw[af];exact ap h3 (by decide)) (λt ht=>by
       obtain⟨k,hk,rfl⟩:=aq.mp ht;show za 1 _ _ [.vl k.t]=_;rw[zl,v0,bOk,(ih k (h.2.2 k hk)).1]),bOk,aF,aF]
      congr 2
      refine bc λk hk=> ?_;show (match S_r n 0 [k.t] with | .ok v=>v | _=> .non)=frT k.mn
      rw[(ih k (h.2.2 k hk)).1]
     rw[zl,ec,bOk,uA hb (by omega)]
   ·exact(Bd.sum hb).le (by rw[z2f];omega)
  | many k lo hi=>
   have h1:=h.1;have h3:=h.2.1;obtain⟨i1,i2⟩:=ih k h.2.2;have hb0:Bd (mkRat ((lo:Int)+(hi:Int)) 2) 3:=Bd.mk' (by decide) (by show ((lo:Int)+(hi:Int)).natAbs<=8;omega) (by decide)
   rw[show (Kd.many k lo hi).mn=mkRat ((lo:Int)+(hi:Int)) 2*k.mn from by rw[Kd.mn]]
   constructor
   ·rw[show (Kd.many k lo hi).t= .tup [.str "many",k.t,.int (lo:Int),.int (hi:Int)] from by rw[Kd.t]]
    have eq:zD 1 (za 2 f_l (z9 (zc zA (zc ixT (vE 0) (cE (.int 2))) (zc ixT (vE 0) (cE (.int 3)))) (z9 (cE (.int 2)) (ze)))) (enM (.tup [.str "many",k.t,.int (lo:Int),.int (hi:Int)]))= .nx [.vl (.tup [.str "many",k.t,.int (lo:Int),.int (hi:Int)]),.vl (frT (mkRat ((lo:Int)+(hi:Int)) 2))]:=by
     rw[zC (t:=frT (mkRat ((lo:Int)+(hi:Int)) 2))]
     ·rfl
     ·rw[zB,XM W8 ya,bOk,Z3,bOk];exact ZH (u:=(lo:Int)+(hi:Int)) (d:=2) (by decide) (lt9 (m:=1) (by decide) (by decide))
    rw[b_r,zd (kj (by decide)),zd (kj (by decide)),zd (kj (by decide)),zd eq,zi (t:=frT (mkRat ((lo:Int)+(hi:Int)) 2*k.mn))]
    ·rfl
    ·show za 2 _ _ [.vl (.tup [.str "many",k.t,.int (lo:Int),.int (hi:Int)]),.vl (frT (mkRat ((lo:Int)+(hi:Int)) 2))]=_;rw[zB,v1,bOk,zl,j5,bOk,i1,bOk,wX hb0 i2 (by omega)]
   ·exact(hb0.mul i2).le (by rw[z2f];omega)
theorem Q0 {k:Kd}(hk:k.Ok 3):f_9 [k.t]= .ok (frT k.mn):=by
 show zg (b_9 f_8 (f_r 20) [.vl k.t])=_;unfold b_9;rw[zd (Zx (t:= .non) (by rw[zl,v0,bOk,ZQ hk])),zi (t:=frT k.mn)]
 ·rfl
 ·show za 1 _ _ [.vl k.t]=_;rw[zl,v0,bOk];exact(qZ 3 20 (by omega) (by omega) k hk).1
mutual
def Kd.mir:Kd->Kd
 | .whole lo hi=> .whole (-hi) (-lo)
 | .pick cs=> .pick cs.reverse
 | .row ks=> .row (Kd.mirs ks).reverse
 | .many k lo hi=> .many k.mir lo hi
def Kd.mirs:List Kd->List Kd
 | []=>[]
 | k :: ks=>k.mir :: Kd.mirs ks
end
theorem Us:∀ks:List Kd,Kd.mirs ks=ks.map Kd.mir
 | []=>by simp[Kd.mirs]
 | k :: ks=>by simp[Kd.mirs,Us ks]
mutual
def mw:T->T
 | .int i=> .int (-i)
 | .tup xs=> .tup (mws xs).reverse
 | t=>t
def mws:List T->List T
 | []=>[]
 | x :: xs=>mw x :: mws xs
end
theorem Q1:∀xs:List T,mws xs=xs.map mw
 | []=>by simp[mws]
 | x :: xs=>by simp[mws,Q1 xs]
theorem Gk (i:Int):mw (.int i)= .int (-i):=by rw[mw]
theorem z0w (x:Str):mw (.str x)= .str x:=by rw[mw] <;> simp
theorem VF (xs:List T):mw (.tup xs)= .tup (xs.map mw).reverse:=by rw[mw,Q1]
mutual
theorem uB:∀t:T,mw (mw t)=t
 | .int i=>by rw[Gk,Gk,Int.neg_neg]
 | .tup xs=>by rw[VF,VF,be,dA,aF,Q2 xs]
 | .non=>by simp[mw]
 | .bl _=>by simp[mw]
 | .str _=>by simp[mw]
 | .lst _=>by simp[mw]
 | .fz _=>by simp[mw]
theorem Q2:∀xs:List T,xs.map (mw ∘ mw)=xs
 | []=>rfl
 | x :: xs=>by rw[ar,Q2 xs];show mw (mw x) :: xs=_;rw[uB x]
end
theorem Gm {x y:T}(h:mw x=mw y):x=y:=by rw[← uB x,h,uB]
theorem VG {ws:List Str}:Dst ws↔ws.Nodup:=by
 refine⟨Dst.nd,λh k w hw hm=> ?_⟩;obtain⟨j,hj,e⟩:=List.getElem_of_mem hm;rw[cT]at hj;rw[fm]at e;have hk:k < ws.length:=(au.mp hw).1;have e2:=(au.mp hw).2;have:=(fB h).mp (e.trans e2.symm);omega
theorem ZR (ks:List Kd):(Kd.row ks).mir= .row (ks.map Kd.mir).reverse:=by rw[Kd.mir,Us]
theorem jb:∀(d:Nat) (k:Kd),k.Ok d->k.mir.Ok d
 | 0,_,h=>h.elim
 | d+1,.whole lo hi,h=>by
  rw[Kd.mir];have h: -20<=lo/\lo<=hi/\hi<=20:=h;exact(show -20<= -hi/\ -hi<= -lo/\ -lo<=20 by omega)
 | d+1,.pick cs,h=>by
  rw[Kd.mir];obtain⟨h1,h2,h3,h4⟩:=h;refine⟨by simpa using h1,by simpa using h2,λc hc=>h3 c (by simpa using hc), ?_⟩
  rw[VG]at h4 ⊢;rw[be];exact List.pairwise_reverse.mpr (h4.imp bq)
 | d+1,.row ks,h=>by
  rw[ZR];obtain⟨h1,h2,h3⟩:=h;refine⟨by simpa using h1,by simpa using h2,λc hc=> ?_⟩
  rw[ci]at hc;obtain⟨k,hk,rfl⟩:=aq.mp hc;exact jb d k (h3 k hk)
 | d+1,.many k lo hi,h=>by
  rw[Kd.mir];obtain⟨h1,h2,h3⟩:=h;exact⟨h1,h2,jb d k h3⟩
theorem JQ:∀(d:Nat) (k:Kd),k.Ok d->k.mir.mir=k
 | 0,_,h=>h.elim
 | d+1,.whole lo hi,h=>by simp[Kd.mir]
 | d+1,.pick cs,h=>by simp[Kd.mir]
 | d+1,.row ks,h=>by
  rw[ZR,ZR,be,dA,aF];congr 1
  exact(bc λk hk=>JQ d k (h.2.2 k hk)).trans (List.map_id _)
 | d+1,.many k lo hi,h=>by rw[Kd.mir,Kd.mir,JQ d k h.2.2]
theorem VH {ks:List Kd}{xs:List T}(H:∀k∈ks,∀x,k.has x=true->k.mir.has (mw x)=true)(h:Hs ks xs):Hs (ks.map Kd.mir).reverse (xs.map mw).reverse:=by
 obtain⟨hl,h⟩:=h;refine⟨by simpa using hl,λi k x hk hx=> ?_⟩
 have hi:i < ks.length:=by have:=(au.mp hk).1;simpa using this
 rw[dr (by simpa using hi),af,ax]at hk
 rw[dr (by simpa[hl] using hi),af,ax,hl]at hx
 obtain⟨k',e1,rfl⟩:=fU.mp hk;obtain⟨x',e2,rfl⟩:=fU.mp hx;exact H k' (JL e1) x' (h _ _ _ e1 e2)
theorem ZZ:∀(d:Nat) (k:Kd) (x:T),k.Ok d->k.has x=true->k.mir.has (mw x)=true
 | 0,_,_,h,_=>h.elim
 | d+1,.whole lo hi,x,h,hx=>by
  rw[Kd.has]at hx;obtain⟨i,rfl,a,b⟩:=uw.mp hx;rw[Kd.mir,Kd.has,Gk];exact uw.mpr ⟨_,rfl,by omega,by omega⟩
 | d+1,.pick cs,x,h,hx=>by
  obtain⟨w,rfl,hw⟩:=Jj.mp hx;rw[Kd.mir,z0w];exact Jj.mpr ⟨w,rfl,by simpa using hw⟩
 | d+1,.row ks,x,h,hx=>by
  obtain⟨xs,rfl,hs⟩:=ux hx;rw[ZR,VF];exact Xz (VH (λk hk x hx=>ZZ d k x (h.2.2 k hk) hx) hs)
 | d+1,.many k lo hi,x,h,hx=>by
  obtain⟨xs,rfl,a,b,hs⟩:=wV hx;rw[Kd.mir,VF];refine vD (by simpa using a) (by simpa using b) ?_
  have:=VH (λk' hk x hx=>by rw[bj hk]at hx ⊢;exact ZZ d k x h.2.2 hx) hs
  rw[aS,List.reverse_replicate]at this;simpa using this
theorem JR {k:Kd}(hk:k.Ok 3)(x:T):k.mir.has (mw x)=k.has x:=by
 cases e:k.has x with
 | true=>exact ZZ 3 k x hk e
 | false=>
  cases e2:k.mir.has (mw x) with
  | false=>rfl
  | true=>
   have:=ZZ 3 k.mir (mw x) (jb 3 k hk) e2;rw[JQ 3 k hk,uB,e]at this;cases this
theorem Ut {k:Kd}(hk:k.Ok 3):k.all.length<=k.mir.all.length:=by
 have:=vz (k.all.map mw) k.mir.all (du.mpr ((wq 3 k hk).imp λh e=>h (Gm e))) λx hx=>by
  obtain⟨y,hy,rfl⟩:=aq.mp hx;exact(Za _ _).mpr (ZZ 3 k y hk ((Za _ _).mp hy))
 rwa[af]at this
theorem XQ {k:Kd}(hk:k.Ok 3):k.mir.all.length=k.all.length:=by
 have h1:=Ut hk;have h2:=Ut (jb 3 k hk);rw[JQ 3 k hk]at h2;omega
theorem WU:∀(d:Nat) (k:Kd),k.Ok d->k.mir.dp=k.dp
 | 0,_,h=>h.elim
 | d+1,.whole lo hi,h=>by simp[Kd.mir,Kd.dp]
 | d+1,.pick cs,h=>by simp[Kd.mir,Kd.dp]
 | d+1,.row ks,h=>by
  rw[ZR,Kd.dp,Kd.dp];have hp:∀k∈ks,1<=k.dp:=λk hk=>WS d k (h.2.2 k hk);have hq:∀k∈(ks.map Kd.mir).reverse,1<=k.dp:=λk hk=>by
   rw[ci]at hk;obtain⟨l,hl,rfl⟩:=aq.mp hk;rw[WU d l (h.2.2 l hl)];exact hp l hl
  obtain⟨a1,a2,a3⟩:=JM ks hp;obtain⟨b1,b2,b3⟩:=JM _ hq;have hne:ks ≠ []:=λe=>by have:=h.1;rw[e]at this;simp at this
  obtain⟨k,hk,ek⟩:=a3 hne;obtain⟨l,hl,el⟩:=b3 (by simpa using hne)
  rw[ci]at hl;obtain⟨m,hm,rfl⟩:=aq.mp hl;rw[WU d m (h.2.2 m hm)]at el;have c1:=a2 m hm;have c2:=b2 k.mir (by rw[ci];exact ia hk)
  rw[WU d k (h.2.2 k hk)]at c2;omega
 | d+1,.many k lo hi,h=>by rw[Kd.mir,Kd.dp,Kd.dp,WU d k h.2.2]
theorem W1:∀(d:Nat) (k:Kd),k.Ok d->∀w,w∈k.mir.wds↔w∈k.wds
 | 0,_,h=>h.elim
 | d+1,.whole lo hi,h=>by simp[Kd.mir,Kd.wds]
 | d+1,.pick cs,h=>by simp[Kd.mir,Kd.wds]
 | d+1,.row ks,h=>λw=>by
  rw[ZR,Kd.wds,Kd.wds,ja,ja,cg,cg];constructor
  ·rintro⟨k,hk,hw⟩
   rw[ci]at hk;obtain⟨l,hl,rfl⟩:=aq.mp hk;exact⟨l,hl,(W1 d l (h.2.2 l hl) w).mp hw⟩
  ·rintro⟨k,hk,hw⟩
   exact⟨k.mir,by rw[ci];exact ia hk,(W1 d k (h.2.2 k hk) w).mpr hw⟩
 | d+1,.many k lo hi,h=>by rw[Kd.mir,Kd.wds,Kd.wds];exact W1 d k h.2.2
theorem uC {α:Type}(f g:α->Int):∀l:List α,(∀a∈l,f a= -g a)->(l.map f).sum= -(l.map g).sum
 | [],_=>rfl
 | a :: l,h=>by simp only[ar,dl,uC f g l λb hb=>h b (ab _ hb),h a ae];omega
theorem W2:∀(d:Nat) (k:Kd),k.Ok d->k.mir.rlo= -k.rhi/\k.mir.rhi= -k.rlo
 | 0,_,h=>h.elim
 | d+1,.whole lo hi,h=>by simp[Kd.mir,Kd.rlo,Kd.rhi]
 | d+1,.pick cs,h=>by simp[Kd.mir,Kd.rlo,Kd.rhi]
 | d+1,.row ks,h=>by
  rw[ZR,Kd.rlo,Kd.rhi,Kd.rhi,Kd.rlo,Jl,Jm,Jm,Jl,be,be,fO,fO,aF,aF];exact⟨uC _ _ ks λk hk=>(W2 d k (h.2.2 k hk)).1,uC _ _ ks λk hk=>(W2 d k (h.2.2 k hk)).2⟩
 | d+1,.many k lo hi,h=>by
  obtain⟨a,b⟩:=W2 d k h.2.2;rw[Kd.mir,Kd.rlo,Kd.rhi,Kd.rhi,Kd.rlo,a,b,i5,i5,i5,i5];constructor <;> split <;> split <;> omega
theorem Uu:∀qs:List Rat,jO qs.reverse=jO qs
 | []=>rfl
 | q :: qs=>by rw[bv,Ur,Uu qs,jO,jO,jO,Rat.add_zero,Rat.add_comm]
theorem Uv {α:Type}(f g:α->Rat):∀l:List α,(∀a∈l,f a= -g a)->jO (l.map f)= -jO (l.map g)
 | [],_=>rfl
 | a :: l,h=>by simp only[ar,jO,Uv f g l λb hb=>h b (ab _ hb),h a ae,Rat.neg_add]
theorem Q3:∀(d:Nat) (k:Kd),k.Ok d->k.mir.mn= -k.mn
 | 0,_,h=>h.elim
 | d+1,.whole lo hi,h=>by
  rw[Kd.mir,Kd.mn,Kd.mn,Rat.neg_mkRat];congr 1;omega
 | d+1,.pick cs,h=>by simp[Kd.mir,Kd.mn]
 | d+1,.row ks,h=>by
  rw[ZR,Kd.mn,Kd.mn,W0,W0,be,Uu,aF];exact Uv _ _ ks λk hk=>Q3 d k (h.2.2 k hk)
 | d+1,.many k lo hi,h=>by rw[Kd.mir,Kd.mn,Kd.mn,Q3 d k h.2.2,Rat.mul_neg]
theorem WV:∀as bs:List Rat,Zb (as++bs)=Zb as*Zb bs
 | [],bs=>by simp[Zb,Rat.one_mul]
 | a :: as,bs=>by simp only[eC,Zb,WV as bs,Rat.mul_assoc]
theorem JS:∀qs:List Rat,Zb qs.reverse=Zb qs
 | []=>rfl
 | q :: qs=>by rw[bv,WV,JS qs,Zb,Zb,Zb,Rat.mul_one,Rat.mul_comm]
theorem yh {cs:List (Str×Int)}(h:(cs.map (·.1)).Nodup)(x:Str):cs.reverse.lookup x=cs.lookup x:=by
 induction cs with
 | nil=>rfl
 | cons c cs ih=>
  rw[ar,dI]at h;rw[bv,List.lookup_append,ih h.2];obtain⟨w,n⟩:=c
  by_cases e:x=w
  ·subst e;have:cs.lookup x=none:=by
    rw[List.lookup_eq_none_iff];intro p hp;exact bne_iff_ne.mpr λe=>h.1 (aq.mpr ⟨p,hp,e.symm⟩)
   rw[this];simp[List.lookup]
  ·have:(x == w)=false:=by simpa using e
   simp[List.lookup,this]
theorem Q4 {α β:Type}:∀(as:List α) (bs:List β),as.length=bs.length->as.reverse.zip bs.reverse=(as.zip bs).reverse
 | [],[],_=>rfl
 | [],_ :: _,h=>by cases h
 | _ :: _,[],h=>by cases h
 | a :: as,b :: bs,h=>by
  have h:as.length=bs.length:=Nat.succ.inj h;rw[bv,bv,List.zip_append (by simpa using h),Q4 as bs h];simp
theorem vJ (cs:List (Str×Int)):u4 cs.reverse=u4 cs:=by unfold u4;rw[be,fO]
theorem Q5:∀(d:Nat) (k:Kd) (x:T),k.Ok d->k.has x=true->k.mir.sh (mw x)=k.sh x
 | 0,_,_,h,_=>h.elim
 | d+1,.whole lo hi,x,h,hx=>by
  rw[Kd.mir,Kd.sh,Kd.sh];show mkRat 1 _=mkRat 1 _;congr 1;omega
 | d+1,.pick cs,x,h,hx=>by
  obtain⟨w,rfl,hw⟩:=Jj.mp hx;rw[Kd.mir,z0w,wZ,wZ,yh (VG.mp h.2.2.2),vJ]
 | d+1,.row ks,x,h,hx=>by
  obtain⟨xs,rfl,hs⟩:=ux hx;rw[ZR,VF,Kd.sh,Kd.sh];show Kd.shs _ _=Kd.shs _ _;rw[wY,wY,Q4 _ _ (by simp[hs.1]),be,JS,List.zip_map,aF]
  congr 1
  refine bc λq hq=> ?_;exact Q5 d q.1 q.2 (h.2.2 _ (bX hq).1) (XA hs q hq)
 | d+1,.many k lo hi,x,h,hx=>by
  obtain⟨xs,rfl,a,b,hs⟩:=wV hx;rw[Kd.mir,VF,Kd.sh,Kd.sh];show _*Zb _=_*Zb _;rw[be,JS,aF];congr 2
  refine bc λy hy=>Q5 d k y h.2.2 ?_;have:=Uj.mpr hs;exact aI.mp this y hy
theorem kl {x w:Str}{r:List T}(h:(x == w)=false){f:En->RS}:ifS (zk eqC (zc ixT (vE 0) (cE (.int 0))) (cE (.str w))) f nxS [.vl (.tup (.str x :: r))]= .nx [.vl (.tup (.str x :: r))]:=
 zq (by rw[cs0,h])
theorem z2h {x:Str}{r:List T}{f:En->RS}:ifS (zk eqC (zc ixT (vE 0) (cE (.int 0))) (cE (.str x))) f nxS [.vl (.tup (.str x :: r))]=f [.vl (.tup (.str x :: r))]:=
 wS (by rw[cs0,beq_self_eq_true])
theorem Uw {c:List T->R T}{xs:List T}{h:T->T}{f:En->R T}{ρ:En}(hf:f ρ= .ok (.tup xs))(hl:xs.length<=3)(H:∀x∈xs,c [x]= .ok (h x)):
  zJ (Va f) (zt 0) (zQ) (za 1 c (z9 (vE 0) (ze))) 1 [] ρ= .ok (.lst (xs.map h).reverse):=by
 have e1:Va f ρ= .ok xs.reverse:=by unfold Va;rw[hf,bOk];rfl
 rw[zH,e1,bOk,zK (h:=h) xs.reverse (by rw[bJ];exact ap hl (by decide)) λt ht=>by
  show za 1 c _ [.vl t]=_;rw[zl,v0,bOk,H t (ci.mp ht)],bOk,be]
theorem XR {f:En->R T}{ρ:En}{xs:List T}(h:f ρ= .ok (.lst xs)):ap1 Qe f ρ= .ok (.tup xs):=by rw[Zs,h,bOk];rfl
theorem XS {f:En->R T}{ρ:En}{i:Int}(h:f ρ= .ok (.int i)):yj f ρ= .ok (.int (-i)):=by rw[Vm,h,bOk]
theorem WW:∀(d n:Nat),d<=n->∀k:Kd,k.Ok d->S_5 n 0 [k.t]= .ok k.mir.t
 | 0,_,_,_,h=>h.elim
 | d+1,0,h,_,_=>by omega
 | d+1,n+1,hn,k,h=>by
  have ih:∀k:Kd,k.Ok d->S_5 n 0 [k.t]= .ok k.mir.t:=WW d n (by omega)
  show zg (b_5 (S_5 n 0) [.vl k.t])=_;unfold b_5;cases k with
  | whole lo hi=>
   rw[Kd.mir,Kd.t,Kd.t,zO (t:= .tup [.str "whole",.int (-hi),.int (-lo)])]
   ·rfl
   ·rw[z2h,zi];exact z21 rfl (XS W8) (XS j5)
  | pick cs=>
   rw[Kd.mir,Kd.t,Kd.t,zd (kl (by decide)),zO (t:= .tup [.str "pick",.tup (cs.reverse.map Zu)])]
   ·rfl
   ·rw[z2h,zi];refine W7 rfl ?_;show ap1 X9 _ [.vl _]=_;rw[Zs,j5,bOk,be];exact if_pos (by rw[af];exact ap h.2.1 (by decide))
  | row ks=>
   rw[ZR,Kd.t,Kd.t,Kd.ts_map,Kd.ts_map,zd (kl (by decide)),zd (kl (by decide)),zO (t:= .tup [.str "row",.tup ((ks.map Kd.mir).reverse.map Kd.t)])]
   ·rfl
   ·rw[z2h,zi];refine W7 rfl (XR ?_);have:= @Uw (S_5 n 0) (ks.map Kd.t) (λt=>match S_5 n 0 [t] with | .ok u=>u | _=>t) (zc ixT (vE 0) (cE (.int 1))) [.vl (.tup [.str "row",.tup (ks.map Kd.t)])] j5 (by rw[af];exact h.2.1) λt ht=>by
     obtain⟨k,hk,rfl⟩:=aq.mp ht;rw[ih k (h.2.2 k hk)]
    refine this.trans ?_;rw[aF,be,aF];congr 3
    refine bc λk hk=> ?_;show (match S_5 n 0 [k.t] with | .ok u=>u | _=>k.t)=k.mir.t
    rw[ih k (h.2.2 k hk)]
  | many k lo hi=>
   rw[Kd.mir,Kd.t,Kd.t,zd (kl (by decide)),zd (kl (by decide)),zd (kl (by decide)),zR]
   refine z0s rfl ?_ W8 ya;show za 1 _ _ [.vl _]=_;rw[zl,j5,bOk,ih k h.2.2]
theorem j0 {k:Kd}(hk:k.Ok 3):f_e [k.t]= .ok k.mir.t:=by
 show zg (b_e f_8 (f_5 8) [.vl k.t])=_;unfold b_e;rw[zd (Zx (t:= .non) (by rw[zl,v0,bOk,ZQ hk])),zR]
 show za 1 _ _ [.vl k.t]=_;rw[zl,v0,bOk];exact WW 3 8 (by omega) k hk
theorem VI {k:Kd}(hk:k.Ok 3)(x:T):f_y [k.t,x]= .ok (.bl (k.has x)):=by
 show zg (b_y f_8 (f_m 20) (en2 k.t x))=_;unfold b_y;rw[zd (Zx (t:= .non) (by rw[zl,v0,bOk,ZQ hk])),zR]
 show za 2 _ _ (en2 k.t x)=_;rw[zB,v0,bOk,v1,bOk];exact Vq 3 20 (by omega) k x hk
theorem Ux {k:Kd}(hk:k.Ok 3){x:T}(hx:k.has x=true):kd [k.t,x]= .ok .non:=by
 show zg (z0c f_y (en2 k.t x))=_;rw[z0c,zq (by rw[U0,wj,zB,v0,bOk,v1,bOk,VI hk,bOk,WE,bOk,hx];rfl)];rfl
theorem Uy {k:Kd}(hk:k.Ok 3){x:T}(hx:k.has x=true):f_6 [k.t,x]= .ok (frT (k.sh x)):=by
 show zg (b_6 kd (f_p 20) (en2 k.t x))=_;unfold b_6;rw[zd (Zx (t:= .non) (by rw[zB,v0,bOk,v1,bOk,Ux hk hx])),zR]
 show za 2 _ _ (en2 k.t x)=_;rw[zB,v0,bOk,v1,bOk];exact(Uq 3 20 (by omega) (by omega) k x hk hx).1
def Ws:Nat->T->Prop
 | _,.int _=>True
 | _,.str _=>True
 | d+1,.tup xs=>xs.length<=3/\∀x∈xs,Ws d x
 | _,_=>False
theorem vK:∀(d:Nat) (k:Kd) (x:T),k.Ok d->k.has x=true->Ws d x
 | 0,_,_,h,_=>h.elim
 | d+1,.whole lo hi,x,h,hx=>by
  rw[Kd.has]at hx;obtain⟨i,rfl,a,b⟩:=uw.mp hx;trivial
 | d+1,.pick cs,x,h,hx=>by
  obtain⟨w,rfl,hw⟩:=Jj.mp hx;trivial
 | d+1,.row ks,x,h,hx=>by
  obtain⟨xs,rfl,hs⟩:=ux hx;refine⟨hs.1 ▸ h.2.1,λx hx=> ?_⟩;obtain⟨i,hi⟩:=dt.mp hx;have hl:i < ks.length:=by have:=(au.mp hi).1;rw[hs.1]at this;exact this
  obtain⟨k,hk⟩:=jX hl;exact vK d k x (h.2.2 k (JL hk)) (hs.2 i k x hk hi)
 | d+1,.many k lo hi,x,h,hx=>by
  obtain⟨xs,rfl,a,b,hs⟩:=wV hx;exact⟨ap b h.2.1,λy hy=>vK d k y h.2.2 (aI.mp (Uj.mpr hs) y hy)⟩
theorem wu (t:T)(b:Bool)(h:isT "tuple" t=b):u8 (ap1 (u9 "tuple") (vB 0)) [.vl t]= .ok b:=by
 rw[wj,Zs,w0,bOk,u9,bOk,h];rfl
theorem Uz (t:T)(b:Bool)(h:isT "str" t=b):u8 (ap1 (u9 "str") (vB 0)) [.vl t]= .ok b:=by
 rw[wj,Zs,w0,bOk,u9,bOk,h];rfl
theorem VJ:∀(d n:Nat),d<=n->∀x:T,Ws d x->S_t (n+1) 0 [x]= .ok (mw x)
 | d,n,hn,.int i,h=>by
  show zg (b_t (S_t n 0) [.vl (.int i)])=_;unfold b_t;rw[zd (zq (wu _ false rfl)),zR,Gk,ZP,ZU,qC (Uz _ false rfl),XS v0]
 | d,n,hn,.str i,h=>by
  show zg (b_t (S_t n 0) [.vl (.str i)])=_;unfold b_t;rw[zd (zq (wu _ false rfl)),zR,z0w,ZP,ZU,qB (Uz _ true rfl),v0]
 | d+1,n+1,hn,.tup xs,h=>by
  show zg (b_t (S_t (n+1) 0) [.vl (.tup xs)])=_;unfold b_t;rw[zO (t:=mw (.tup xs))]
  ·rfl
  ·rw[wS (wu _ true rfl),zi];rw[VF];exact XR (Uw (h:=mw) v0 h.1 λx hx=>VJ d n (by omega) x (h.2 x hx))
 | d+1,0,hn,.tup xs,h=>by omega
 | 0,_,_,.tup _,h=>h.elim
 | 0,_,_,.non,h=>h.elim
 | 0,_,_,.bl _,h=>h.elim
 | 0,_,_,.lst _,h=>h.elim
 | 0,_,_,.fz _,h=>h.elim
 | _+1,_,_,.non,h=>h.elim
 | _+1,_,_,.bl _,h=>h.elim
 | _+1,_,_,.lst _,h=>h.elim
 | _+1,_,_,.fz _,h=>h.elim
theorem Q6 {k:Kd}(hk:k.Ok 3){x:T}(hx:k.has x=true):Vi [k.t,x]= .ok (mw x):=by
 show zg (z0d kd (f_t 8) (en2 k.t x))=_;unfold z0d;rw[zd (Zx (t:= .non) (by rw[zB,v0,bOk,v1,bOk,Ux hk hx])),zR]
 show za 1 _ _ (en2 k.t x)=_;rw[zl,v1,bOk];exact VJ 3 7 (by omega) x (vK 3 k x hk hx)
theorem UA:∀(d n:Nat),d<=n->∀x:T,Ws d x->S_q (n+1) 0 [x]= .ok (mw x)
 | d,n,hn,.int i,h=>by
  show zg (b_q (S_q n 0) [.vl (.int i)])=_;unfold b_q;rw[zd (zq (wu _ false rfl)),zR,Gk,ZP,ZU,qC (Uz _ false rfl),zh,Z3,bOk,v0,bOk,jm,fV]
 | d,n,hn,.str i,h=>by
  show zg (b_q (S_q n 0) [.vl (.str i)])=_;unfold b_q;rw[zd (zq (wu _ false rfl)),zR,z0w,ZP,ZU,qB (Uz _ true rfl),v0]
 | d+1,n+1,hn,.tup xs,h=>by
  show zg (b_q (S_q (n+1) 0) [.vl (.tup xs)])=_;unfold b_q;have hb:xs.length<=bnd:=ap h.1 (by decide)
  have e:zJ (Zv (vE 0)) (zt 0) (zQ) (za 1 (S_q (n+1) 0) (z9 (vE 0) (ze))) 1 [] [.vl (.tup xs)]= .ok (.lst (xs.map mw)):=by
   rw[zH,ZF,v0,bOk];show (R.ok xs).bind _=_;rw[bOk,zK (h:=mw) xs hb λt ht=>by
    show za 1 _ _ [.vl t]=_;rw[zl,v0,bOk];exact UA d n (by omega) t (h.2 t ht),bOk]
  rw[zO (t:=mw (.tup xs))]
  ·rfl
  ·rw[wS (wu _ true rfl),zi];rw[VF];refine XR ?_;show ap1 z1W _ [.vl (.tup xs)]=_;rw[Zs,e,bOk];exact if_pos (by rw[af];exact hb)
 | d+1,0,hn,.tup xs,h=>by omega
 | 0,_,_,.tup _,h=>h.elim
 | 0,_,_,.non,h=>h.elim
 | 0,_,_,.bl _,h=>h.elim
 | 0,_,_,.lst _,h=>h.elim
 | 0,_,_,.fz _,h=>h.elim
 | _+1,_,_,.non,h=>h.elim
 | _+1,_,_,.bl _,h=>h.elim
 | _+1,_,_,.lst _,h=>h.elim
 | _+1,_,_,.fz _,h=>h.elim
theorem vL:∀(ws acc:List Str),acc.Nodup->(dd acc ws).Nodup
 | [],acc,h=>h
 | w :: ws,acc,h=>by
  unfold dd
  by_cases e:w∈acc
  ·rw[if_pos e];exact vL ws acc h
  ·rw[if_neg e];exact vL ws _ (List.nodup_append.mpr ⟨h,by simp,λa ha b hb=>by rw[aC.mp hb];rintro rfl;exact e ha⟩)
theorem UB:∀(ws acc:List Str) (x:Str),x∈dd acc ws↔x∈acc\/x∈ws
 | [],acc,x=>by simp[dd]
 | w :: ws,acc,x=>by
  unfold dd
  by_cases e:w∈acc
  ·rw[if_pos e,UB ws acc,ak];constructor
   ·rintro(h | h)
    ·exact .inl h
    ·exact .inr (.inr h)
   ·rintro(h | rfl | h)
    ·exact .inl h
    ·exact .inl e
    ·exact .inr h
  ·rw[if_neg e,UB ws _,dh,aC,ak];constructor
   ·rintro((h | h) | h)
    ·exact .inl h
    ·exact .inr (.inl h)
    ·exact .inr (.inr h)
   ·rintro(h | h | h)
    ·exact .inl (.inl h)
    ·exact .inl (.inr h)
    ·exact .inr h
theorem W3 (x:Str):∀l:List Str,(yn x l).Perm (x :: l)
 | []=> .refl _
 | y :: r=>by
  unfold yn;split
  ·exact((W3 x r).cons y).trans (.swap x y r)
  ·exact .refl _
theorem ZC:∀l:List Str,(W6 l).Perm l
 | []=> .refl _
 | x :: r=>(W3 x (W6 r)).trans ((ZC r).cons x)
theorem Gn {a b:Str}:ltS a b=false↔b.cps.toList<=a.cps.toList:=by
 unfold ltS;rw[decide_eq_false_iff_not,l8]
theorem XT {a b:Str}(h:ltS a b=true):a.cps.toList<=b.cps.toList:=List.le_of_lt (of_decide_eq_true h)
theorem VL (x:Str):∀l:List Str,l.Pairwise (λa b=>a.cps.toList<=b.cps.toList)->(yn x l).Pairwise λa b=>a.cps.toList<=b.cps.toList
 | [],_=>by simp[yn]
 | y :: r,h=>by
  unfold yn;rw[b7]at h;split
  ·rename_i e;refine b7.mpr ⟨λz hz=> ?_,VL x r h.2⟩;rcases ak.mp ((W3 x r).mem_iff.mp hz) with rfl | hz
   ·exact XT e
   ·exact h.1 z hz
  ·rename_i e;have e:=Gn.mp (by simpa using e)
   refine b7.mpr ⟨λz hz=> ?_,b7.mpr h⟩;rcases ak.mp hz with rfl | hz
   ·exact e
   ·exact List.le_trans e (h.1 z hz)
theorem uD:∀l:List Str,(W6 l).Pairwise λa b=>a.cps.toList<=b.cps.toList
 | []=> .nil
 | x :: r=>VL x _ (uD r)
theorem XU {l m:List Str}(hl:l.Nodup)(hm:m.Nodup)(h:∀x,x∈l↔x∈m):l.Perm m:=by
 rw[List.perm_iff_count];intro a
 by_cases e:a∈l
 ·have h1:=i6.mp hl a;have h2:=i6.mp hm a;have h3:=iy.mpr e;have h4:=iy.mpr ((h a).mp e);omega
 ·rw[eI e,eI λx=>e ((h a).mpr x)]
theorem Q7 {a b:List Str}(h:∀w,w∈a↔w∈b):W6 (dd [] a)=W6 (dd [] b):=by
 refine List.Perm.eq_of_pairwise (le:=λa b=>a.cps.toList<=b.cps.toList) (λa b _ _ h1 h2=>Str.ext' (Array.toList_inj.mp (j_ h1 h2))) (uD _) (uD _) (((ZC _).trans (XU (vL _ _ .nil) (vL _ _ .nil) λx=> ?_)).trans (ZC _).symm);rw[UB,UB,h]
theorem Go {k:Kd}(hk:k.Ok 3):ssW k.mir=ssW k:=by
 show T.lst _=T.lst _;rw[Q7 (W1 3 k hk)]
theorem wv {k l:Kd}(hk:k.Ok 3)(hl:l.Ok 3):∃b,y0 [k.t,l.t]= .ok (.bl b)/\(b=true↔∀x,k.has x=true->l.has x=true):=by
 obtain⟨b,hb⟩:=qL hk hl;refine⟨b,hb,λe=>yf hk hl (by rw[hb,e]),λh=> ?_⟩
 have:=uv hk hl h;rw[hb]at this;injection this with h;injection h
theorem WX {k l:Kd}(hk:k.Ok 3)(hl:l.Ok 3):∃b,Vj [k.t,l.t]= .ok (.bl b)/\(b=true↔∀x,(k.has x && l.has x)=false):=by
 obtain⟨o,_,b2,b3,_,b5⟩:=com hk hl;refine⟨_,b5, ?_⟩;cases o with
 | none=>exact⟨λ_ x=>(b3 x).symm,λ_=>rfl⟩
 | some c=>
  refine⟨(λh=>nomatch h),λh=> ?_⟩;obtain⟨x,hx⟩:=jX (xs:=c.all) (i:=0) (Zw 3 c b2.1);have h1:=(Za c x).mp (bz hx);have h2:c.has x=(k.has x && l.has x):=b3 x;rw[h1,h x]at h2;cases h2
theorem Q8 {a b:Bool}(h:a=true↔b=true):a=b:=by cases a <;> cases b <;> simp_all
theorem JT (k:Kd)(hk:k.Ok 3)(x:T):k.mir.has x=k.has (mw x):=by rw[← JR hk (mw x),uB]
theorem yi {k l:Kd}(hk:k.Ok 3)(hl:l.Ok 3):∃b,y0 [k.t,l.t]= .ok (.bl b)/\y0 [k.mir.t,l.mir.t]= .ok (.bl b):=by
 obtain⟨b,h1,h2⟩:=wv hk hl;obtain⟨c,g1,g2⟩:=wv (jb 3 k hk) (jb 3 l hl);have:b=c:=Q8 (by
  rw[h2,g2];refine⟨λh x hx=> ?_,λh x hx=> ?_⟩
  ·rw[JT _ hk]at hx;rw[JT _ hl];exact h _ hx
  ·have:=h (mw x) (by rw[JR hk];exact hx)
   rwa[JR hl]at this)
 exact⟨b,h1,this ▸ g1⟩
theorem Q9 {k l:Kd}(hk:k.Ok 3)(hl:l.Ok 3):∃b,Vj [k.t,l.t]= .ok (.bl b)/\Vj [k.mir.t,l.mir.t]= .ok (.bl b):=by
 obtain⟨b,h1,h2⟩:=WX hk hl;obtain⟨c,g1,g2⟩:=WX (jb 3 k hk) (jb 3 l hl);have:b=c:=Q8 (by
  rw[h2,g2];refine⟨λh x=> ?_,λh x=> ?_⟩
  ·rw[JT _ hk,JT _ hl];exact h _
  ·have:=h (mw x);rwa[JR hk,JR hl]at this)
 exact⟨b,h1,this ▸ g1⟩
theorem uE:∀(d:Nat) (k:Kd),k.Ok d->Pl (2*d+2) k.t
 | 0,_,h=>h.elim
 | d+1,.whole lo hi,h=>by
  rw[Kd.t];intro x hx;simp only[ak,bp,or_false]at hx;rcases hx with rfl | rfl | rfl <;> trivial
 | d+1,.pick cs,h=>by
  rw[Kd.t];intro x hx;simp only[ak,bp,or_false]at hx;rcases hx with rfl | rfl
  ·trivial
  ·intro y hy;obtain⟨c,hc,rfl⟩:=aq.mp hy;refine Pl.le (n:=2) (by omega) ?_
   intro z hz;simp only[ak,bp,or_false]at hz;rcases hz with rfl | rfl <;> trivial
 | d+1,.row ks,h=>by
  rw[Kd.t,Kd.ts_map];intro x hx;simp only[ak,bp,or_false]at hx;rcases hx with rfl | rfl
  ·trivial
  ·intro y hy;obtain⟨c,hc,rfl⟩:=aq.mp hy;exact uE d c (h.2.2 c hc)
 | d+1,.many k lo hi,h=>by
  rw[Kd.t];intro x hx;simp only[ak,bp,or_false]at hx;rcases hx with rfl | rfl | rfl | rfl
  ·trivial
  ·exact Pl.le (by omega) (uE d k h.2.2)
  ·trivial
  ·trivial
theorem XV {k:Kd}(hk:k.Ok 3):neC k.t k.t= .ok false:=wT (Pl.le (by omega) (uE 3 k hk))
theorem UC {k:Kd}(hk:k.Ok 3){x:T}(hx:k.has x=true):neC x x= .ok false:=wT (Pl.le (by omega) (vx 3 k x hk hx))
theorem z2i (q:Rat):neC (frT q) (frT q)= .ok false:=z2b _ _
abbrev En4 (ns:List Int)(k l:Kd)(u x y a b c d:Sl):En:=[.vl (scr ns),.vl k.t,.vl l.t,.vl k.mir.t,u,x,y,a,b,c,d]
abbrev loB:En->RS:=(zj (zD 6 (za 2 Vi (z9 (vE 1) (z9 (vE 5) (ze)))))
  (zj (ifS (orT (zk neC (vB 6) (za 1 (f_q 8) (z9 (vE 5) (ze)))) (orT (zk jr (za 2 f_y (z9 (vE 3) (z9 (vE 6) (ze)))) (cE (.bl true))) (zk neC (za 2 Vi (z9 (vE 3) (z9 (vE 6) (ze)))) (vB 5)))) (zn (cE (.bl false))) (nxS))
  (zj (ifS (zk neC (za 2 f_6 (z9 (vE 3) (z9 (vE 6) (ze)))) (za 2 f_6 (z9 (vE 1) (z9 (vE 5) (ze))))) (zn (cE (.bl false))) (nxS))
  (Y2 4 (vE 6)))))
theorem XW {ns:List Int}{k l:Kd}(hk:k.Ok 3){u:List T}(hu:u.length < bnd){x:T}(hx:k.has x=true)(y a b c d:Sl):
  loB (En4 ns k l (.ow u) (.vl x) y a b c d)= .nx (En4 ns k l (.ow (u++[mw x])) (.vl x) (.vl (mw x)) a b c d):=by
 have hm:=jb 3 k hk;have hy:k.mir.has (mw x)=true:=ZZ 3 k x hk hx;have eab:f_q 8 [x]= .ok (mw x):=UA 3 7 (by omega) x (vK 3 k x hk hx)
 have v1:∀y,vE 1 (En4 ns k l (.ow u) (.vl x) y a b c d)= .ok k.t:=λ_=>rfl;have v3:∀y,vE 3 (En4 ns k l (.ow u) (.vl x) y a b c d)= .ok k.mir.t:=λ_=>rfl;have v5:∀y,vE 5 (En4 ns k l (.ow u) (.vl x) y a b c d)= .ok x:=λ_=>rfl;have w5:∀y,vB 5 (En4 ns k l (.ow u) (.vl x) y a b c d)= .ok x:=λ_=>rfl;have v6:vE 6 (En4 ns k l (.ow u) (.vl x) (.vl (mw x)) a b c d)= .ok (mw x):=rfl;have w6:vB 6 (En4 ns k l (.ow u) (.vl x) (.vl (mw x)) a b c d)= .ok (mw x):=rfl;have e1:zD 6 (za 2 Vi (z9 (vE 1) (z9 (vE 5) (ze)))) (En4 ns k l (.ow u) (.vl x) y a b c d)= .nx (En4 ns k l (.ow u) (.vl x) (.vl (mw x)) a b c d):=by
  rw[zC (t:=mw x)]
  ·rfl
  ·rw[zB,v1,bOk,v5,bOk,Q6 hk hx]
 have e2:orT (zk neC (vB 6) (za 1 (f_q 8) (z9 (vE 5) (ze)))) (orT (zk jr (za 2 f_y (z9 (vE 3) (z9 (vE 6) (ze)))) (cE (.bl true))) (zk neC (za 2 Vi (z9 (vE 3) (z9 (vE 6) (ze)))) (vB 5))) (En4 ns k l (.ow u) (.vl x) (.vl (mw x)) a b c d)= .ok false:=by
  rw[wN,zu,w6,bOk,zl,v5,bOk,eab,bOk,UC hm hy,bOk,if_neg ay,wN,zu,zB,v3,bOk,v6,bOk,VI hm,bOk,hy,Z3,bOk];show (R.ok false).bind _=_;rw[bOk,if_neg ay,zu,zB,v3,bOk,v6,bOk,Q6 hm hy,bOk,w5,bOk,uB,UC hk hx]
 have e3:zk neC (za 2 f_6 (z9 (vE 3) (z9 (vE 6) (ze)))) (za 2 f_6 (z9 (vE 1) (z9 (vE 5) (ze)))) (En4 ns k l (.ow u) (.vl x) (.vl (mw x)) a b c d)= .ok false:=by
  rw[zu,zB,v3,bOk,v6,bOk,Uy hm hy,bOk,zB,v1,bOk,v5,bOk,Uy hk hx,bOk,Q5 3 k x hk hx,z2i]
 unfold loB;rw[zd e1,zd (zq e2),zd (zq e3),Vu (ts:=u) (t:=mw x) rfl hu v6];rfl
theorem Qa {ns:List Int}{k l:Kd}(hk:k.Ok 3){a b c d:Sl}:∀(xs u:List T) (x y:Sl),(∀z∈xs,k.has z=true)->u.length+xs.length<=1000->
  ∃x' y',ZA (zt 5) loB xs (En4 ns k l (.ow u) x y a b c d)= .nx (En4 ns k l (.ow (u++xs.map mw)) x' y' a b c d)
 | [],u,x,y,_,_=>⟨x,y,by simp[ZA]⟩
 | z :: xs,u,x,y,h,hl=>by
  rw[av]at hl;have e:=XW (ns:=ns) (l:=l) hk (u:=u) (aH (show u.length < 1001 by omega) (by decide)) (h z ae) y a b c d
  obtain⟨x',y',ih⟩:=Qa (ns:=ns) (l:=l) hk (a:=a) (b:=b) (c:=c) (d:=d) xs (u++[mw z]) (.vl z) (.vl (mw z)) (λv hv=>h v (ab _ hv)) (by rw[aA,aG];omega)
  refine⟨x',y',(jV (ρ1:=En4 ns k l (.ow u) (.vl z) y a b c d) rfl e).trans (ih.trans ?_)⟩;rw[ar,bS,List.singleton_append]
theorem XX {x:T}{ys:List T}(hp:∀y∈ys,Pl 30 y)(h:x∈ys):JV (λy=>eqF 30 y x) ys=some true:=by
 obtain⟨b,hb,hf⟩:=WR (f:=λy=>eqF 30 y x) ys λy hy=>Ji 30 y x (hp y hy);cases b with
 | true=>exact hb
 | false=>have:=hf rfl x h;rw[show eqF 30 x x=some true from Z5 30 x (hp x h)]at this;cases this
theorem z2j {x:T}{ys:List T}(hp:∀y∈ys,Pl 30 y)(h:x∈ys):WZ x (.lst ys)= .ok false:=by
 unfold WZ inC;show R.bind (match JV (λy=>eqF 30 y x) ys with | some b=>R.ok b | none=>R.bad) _=_
 rw[XX hp h];rfl
theorem law_ok (ns:List Int)(h:ns.length<=63):f_0 [.fz (ns.map T.int)]= .ok (.bl true):=by
 obtain⟨k,hk,h60,ek⟩:=U6 ns 0 (by omega) 60 (by omega)
 obtain⟨l,hl,_,el⟩:=U6 ns 90000 (by omega) 60 (by omega)
 have hm:=jb 3 k hk;have hn:=jb 3 l hl;have hml:=XQ hk;show zg (b_0 f_4 f_y kf Xe (f_c 8) vi f_a Vk f_1 f_e Vi y0 Vj f_6 f_9 (f_q 8) [.vl (scr ns),.un,.un,.un,.un,.un,.un,.un,.un,.un,.un])=_;unfold b_0;have e1:Kw 1 2 (z9 (za 3 vi (z9 (vE 0) (z9 (cE (.int 0)) (z9 (cE (.int 60)) (ze))))) (z9 (za 3 vi (z9 (vE 0) (z9 (cE (.int 90000)) (z9 (cE (.int 60)) (ze))))) (ze))) [.vl (scr ns),.un,.un,.un,.un,.un,.un,.un,.un,.un,.un]= .nx [.vl (scr ns),.vl k.t,.vl l.t,.un,.un,.un,.un,.un,.un,.un,.un]:=by
  rw[gK,ZE,v0,bOk,Z3,bOk,Z3,bOk];show R.s (vi [scr ns,.int 0,.int ((60:Nat):Int)]) _=_;rw[ek,Zt,ZE,v0,bOk,Z3,bOk,Z3,bOk];show R.s (vi [scr ns,.int 90000,.int ((60:Nat):Int)]) _=_;rw[el,Zt];rfl
 have e2:zD 3 (za 1 f_e (z9 (vE 1) (ze))) [.vl (scr ns),.vl k.t,.vl l.t,.un,.un,.un,.un,.un,.un,.un,.un]= .nx (En4 ns k l .un .un .un .un .un .un .un):=by
  rw[zC (t:=k.mir.t)]
  ·rfl
  ·rw[zl,v1,bOk,j0 hk]
 have v1:∀u x y a b c d,vE 1 (En4 ns k l u x y a b c d)= .ok k.t:=λ_ _ _ _ _ _ _=>rfl;have w1:∀u x y a b c d,vB 1 (En4 ns k l u x y a b c d)= .ok k.t:=λ_ _ _ _ _ _ _=>rfl;have v2:∀u x y a b c d,vE 2 (En4 ns k l u x y a b c d)= .ok l.t:=λ_ _ _ _ _ _ _=>rfl;have v3:∀u x y a b c d,vE 3 (En4 ns k l u x y a b c d)= .ok k.mir.t:=λ_ _ _ _ _ _ _=>rfl;have e3:orT (zk jr (za 1 f_4 (z9 (vE 3) (ze))) (cE (.bl true))) (zk neC (za 1 f_e (z9 (vE 3) (ze))) (vB 1)) (En4 ns k l .un .un .un .un .un .un .un)= .ok false:=by
  rw[wN,zu,zl,v3,bOk,wl _ (Jd 3 _ (WP 3 _ hm)).so,bOk,WP 3 _ hm,Z3,bOk];show (R.ok false).bind _=_;rw[bOk,if_neg ay,zu,zl,v3,bOk,j0 hm,bOk,w1,bOk,JQ 3 k hk,XV hk]
 have e4:orT (zk neC (za 1 kf (z9 (vE 3) (ze))) (za 1 kf (z9 (vE 1) (ze)))) (zk neC (za 1 f_a (z9 (vE 3) (ze))) (za 1 f_a (z9 (vE 1) (ze)))) (En4 ns k l .un .un .un .un .un .un .un)= .ok false:=by
  rw[wN,zu,zl,v3,bOk,Vy hm,bOk,zl,v1,bOk,Vy hk,bOk,hml,Ga,bOk,if_neg ay,zu,zl,v3,bOk,Um hm,bOk,zl,v1,bOk,Um hk,bOk,WU 3 k hk,Ga]
 have e5:uN 4 (ze) (En4 ns k l .un .un .un .un .un .un .un)= .nx (En4 ns k l (.ow []) .un .un .un .un .un .un):=rfl;obtain⟨x,y,e6⟩:=Qa (ns:=ns) (l:=l) hk (a:= .un) (b:= .un) (c:= .un) (d:= .un) k.all [] .un .un (λz hz=>(Za k z).mp hz) (by simp;omega)
 rw[bP]at e6;have e6:jk (Zv (za 1 (f_c 8) (z9 (vE 1) (ze)))) (zt 5) loB (En4 ns k l (.ow []) .un .un .un .un .un .un)= .nx (En4 ns k l (.ow (k.all.map mw)) x y .un .un .un .un):=by
  unfold jk;rw[ZF,zl,v1,bOk,show f_c 8 [k.t]= .ok (.lst k.all) from qh 3 8 (by omega) (by omega) k hk (by omega),bOk]
  exact e6
 have hp:∀z∈k.all.map mw,Pl 30 z:=λz hz=>by
  obtain⟨v,hv,rfl⟩:=aq.mp hz;exact Pl.le (by omega) (vx 3 k.mir (mw v) hm (ZZ 3 k v hk ((Za k v).mp hv)))
 have e7:gm (orT (zk neC (zJ (Zv (za 1 Xe (z9 (vE 3) (ze)))) (zt 0) (zk WZ (vB 0) (vB 1)) (vE 0) 1 [4]) (jz (ze))) (zk neC (za 1 Vk (z9 (vE 3) (ze))) (za 1 Vk (z9 (vE 1) (ze))))) (En4 ns k l (.ow (k.all.map mw)) x y .un .un .un .un)= .ok false:=by
  have hv:∀s:Sl,QC s=s\/True:=λ_=> .inr trivial;have ef:frz (En4 ns k l (.ow (k.all.map mw)) x y .un .un .un .un)=En4 ns k l (.vl (.lst (k.all.map mw))) (QC x) (QC y) .un .un .un .un:=rfl;have ec:zJ (Zv (za 1 Xe (z9 (vE 3) (ze)))) (zt 0) (zk WZ (vB 0) (vB 1)) (vE 0) 1 [4] (En4 ns k l (.vl (.lst (k.all.map mw))) (QC x) (QC y) .un .un .un .un)= .ok (.lst []):=by
   rw[zH,ZF,zl,v3,bOk,wU hm (by omega),bOk]
   show (R.ok k.mir.all).bind _=_;rw[bOk,yg (p:=λ_=>false) (h:=id) k.mir.all (ap (show k.mir.all.length<=60 by omega) (by decide)) (λt ht=>⟨by
    show zk WZ (vB 0) (vB 1) [.vl t,.vl (.lst (k.all.map mw))]=_;rw[zu,G.w0,bOk,G.w1,bOk,z2j hp];refine aq.mpr ⟨mw t,(Za _ _).mpr ?_,uB t⟩;have:=(Za _ _).mp ht;rwa[JT k hk]at this,λe=>by cases e⟩),bOk,XB (λ_ _=>ay)]
   rfl
  have:orT (zk neC (zJ (Zv (za 1 Xe (z9 (vE 3) (ze)))) (zt 0) (zk WZ (vB 0) (vB 1)) (vE 0) 1 [4]) (jz (ze))) (zk neC (za 1 Vk (z9 (vE 3) (ze))) (za 1 Vk (z9 (vE 1) (ze)))) (frz (En4 ns k l (.ow (k.all.map mw)) x y .un .un .un .un))= .ok false:=by
   rw[ef,wN,zu,ec,bOk];show (R.ok false).bind _=_;rw[bOk,if_neg ay,zu,zl,v3,bOk,JP hm,bOk,zl,v1,bOk,JP hk,bOk,Go hk,z2a]
  unfold gm;rw[this]
 have e8:xR (za 1 f_1 (z9 (vE 1) (ze))) (zN 7 8) (En4 ns k l (.ow (k.all.map mw)) x y .un .un .un .un)= .nx (En4 ns k l (.ow (k.all.map mw)) x y (.vl (.int k.rlo)) (.vl (.int k.rhi)) .un .un):=by
  unfold xR;rw[zl,v1,bOk,Uo hk];rfl
 have e9:xR (za 1 f_9 (z9 (vE 1) (ze))) (zN 9 10) (En4 ns k l (.ow (k.all.map mw)) x y (.vl (.int k.rlo)) (.vl (.int k.rhi)) .un .un)= .nx (En4 ns k l (.ow (k.all.map mw)) x y (.vl (.int k.rlo)) (.vl (.int k.rhi)) (.vl (.int k.mn.num)) (.vl (.int k.mn.den))):=by
  unfold xR;rw[zl,v1,bOk,Q0 hk];rfl
 obtain⟨r1,r2⟩:=W2 3 k hk;have e10:orT (zk neC (za 1 f_1 (z9 (vE 3) (ze))) (Z4 (z9 (zc J6 (cE (.int 0)) (vE 8)) (z9 (zc J6 (cE (.int 0)) (vE 7)) (ze))))) (zk neC (za 1 f_9 (z9 (vE 3) (ze))) (Z4 (z9 (zc J6 (cE (.int 0)) (vE 9)) (z9 (vE 10) (ze))))) (En4 ns k l (.ow (k.all.map mw)) x y (.vl (.int k.rlo)) (.vl (.int k.rhi)) (.vl (.int k.mn.num)) (.vl (.int k.mn.den)))= .ok false:=by
  have t1:Z4 (z9 (zc J6 (cE (.int 0)) (vE 8)) (z9 (zc J6 (cE (.int 0)) (vE 7)) (ze))) (En4 ns k l (.ow (k.all.map mw)) x y (.vl (.int k.rlo)) (.vl (.int k.rhi)) (.vl (.int k.mn.num)) (.vl (.int k.mn.den)))= .ok (.tup [.int (0 - k.rhi),.int (0 - k.rlo)]):=rfl;have t2:Z4 (z9 (zc J6 (cE (.int 0)) (vE 9)) (z9 (vE 10) (ze))) (En4 ns k l (.ow (k.all.map mw)) x y (.vl (.int k.rlo)) (.vl (.int k.rhi)) (.vl (.int k.mn.num)) (.vl (.int k.mn.den)))= .ok (.tup [.int (0 - k.mn.num),.int k.mn.den]):=rfl;have q1:rT k.mir= .tup [.int (0 - k.rhi),.int (0 - k.rlo)]:=by show T.tup [.int _,.int _]=_;rw[r1,r2,fV,fV]
  have q2:frT k.mir.mn= .tup [.int (0 - k.mn.num),.int k.mn.den]:=by rw[Q3 3 k hk,fV];rfl
  rw[wN,zu,zl,v3,bOk,Uo hm,bOk,t1,bOk,q1,z2b,bOk,if_neg ay,zu,zl,v3,bOk,Q0 hm,bOk,t2,bOk,q2,z2b]
 obtain⟨bw,f1,f2⟩:=yi hk hl;obtain⟨ba,f3,f4⟩:=Q9 hk hl;have e11:zk neC (za 2 y0 (z9 (vE 3) (z9 (za 1 f_e (z9 (vE 2) (ze))) (ze)))) (za 2 y0 (z9 (vE 1) (z9 (vE 2) (ze)))) (En4 ns k l (.ow (k.all.map mw)) x y (.vl (.int k.rlo)) (.vl (.int k.rhi)) (.vl (.int k.mn.num)) (.vl (.int k.mn.den)))= .ok false:=by
  rw[zu,zB,v3,bOk,zl,v2,bOk,j0 hl,bOk,f2,bOk,zB,v1,bOk,v2,bOk,f1,bOk,nb]
 rw[zd e1,zd e2,zd (zq e3),zd (zq e4),zd e5,zd e6,zd (zq e7),zd e8,zd e9,zd (zq e10),zd (zq e11),zR];have ef:frz (En4 ns k l (.ow (k.all.map mw)) x y (.vl (.int k.rlo)) (.vl (.int k.rhi)) (.vl (.int k.mn.num)) (.vl (.int k.mn.den)))=En4 ns k l (.vl (.lst (k.all.map mw))) (QC x) (QC y) (.vl (.int k.rlo)) (.vl (.int k.rhi)) (.vl (.int k.mn.num)) (.vl (.int k.mn.den)):=rfl;rw[ef,j8,zB,v3,bOk,zl,v2,bOk,j0 hl,bOk,f4,bOk,zB,v1,bOk,v2,bOk,f3,bOk];cases ba <;> rfl
end G
namespace G
open PySem PySem.Spec PyProof.Rows L2 PV
def top (i:Nat):Stmt:=PySem.Challenge.pw_worthkinds_k04_whole_mirrored.main.body.getD i (.Pass ⟨0,0,0,0⟩)
abbrev s_u:Stmt:=top 11
abbrev N_u:List Str:=["thing"]
theorem sc_u:zf N_u ["thing"] (zb s_u):=by refine⟨rfl,rfl,rfl, ?_,rfl, ?_, ?_⟩ <;> decide+kernel
abbrev s_1q:Stmt:=top 14
abbrev N_1q:List Str:=["low","high","least","most"]
theorem Gp:zf N_1q ["low","high","least","most"] (zb s_1q):=by refine⟨rfl,rfl,rfl, ?_,rfl, ?_, ?_⟩ <;> decide+kernel
abbrev s_k:Stmt:=top 12
abbrev N_k:List Str:=["thing","least","most"]
theorem sc_k:zf N_k ["thing","least","most"] (zb s_k):=by refine⟨rfl,rfl,rfl, ?_,rfl, ?_, ?_⟩ <;> decide+kernel
abbrev z2k:Stmt:=top 13
abbrev N_1f:List Str:=["thing"]
theorem Gq:zf N_1f ["thing"] (zb z2k):=by refine⟨rfl,rfl,rfl, ?_,rfl, ?_, ?_⟩ <;> decide+kernel
abbrev s_1d:Stmt:=top 17
abbrev N_1d:List Str:=["thing"]
theorem Gr:zf N_1d ["thing"] (zb s_1d):=by refine⟨rfl,rfl,rfl, ?_,rfl, ?_, ?_⟩ <;> decide+kernel
abbrev z0x:Stmt:=top 16
abbrev z2l:List Str:=["thing","words"]
theorem XY:zf z2l ["thing"] (zb z0x):=by refine⟨rfl,rfl,rfl, ?_,rfl, ?_, ?_⟩ <;> decide+kernel
abbrev s_g:Stmt:=top 15
abbrev N_g:List Str:=["thing","levels"]
theorem sc_g:zf N_g ["thing","levels"] (zb s_g):=by refine⟨rfl,rfl,rfl, ?_,rfl, ?_, ?_⟩ <;> decide+kernel
abbrev z2m:Stmt:=top 18
abbrev N_1n:List Str:=["thing","levels"]
theorem Gs:zf N_1n ["thing","levels"] (zb z2m):=by refine⟨rfl,rfl,rfl, ?_,rfl, ?_, ?_⟩ <;> decide+kernel
abbrev s_4:Stmt:=top 7
abbrev N_4:List Str:=["thing"]
theorem sc_4:zf N_4 ["thing"] (zb s_4):=by refine⟨rfl,rfl,rfl, ?_,rfl, ?_, ?_⟩ <;> decide+kernel
abbrev s_8:Stmt:=top 9
abbrev N_8:List Str:=["kind"]
theorem sc_8:zf N_8 ["kind"] (zb s_8):=by refine⟨rfl,rfl,rfl, ?_,rfl, ?_, ?_⟩ <;> decide+kernel
abbrev s_5:Stmt:=top 33
abbrev N_5:List Str:=["kind"]
theorem sc_5:zf N_5 ["kind"] (zb s_5):=by refine⟨rfl,rfl,rfl, ?_,rfl, ?_, ?_⟩ <;> decide+kernel
abbrev s_e:Stmt:=top 26
abbrev N_e:List Str:=["kind"]
theorem sc_e:zf N_e ["kind"] (zb s_e):=by refine⟨rfl,rfl,rfl, ?_,rfl, ?_, ?_⟩ <;> decide+kernel
abbrev s_n:Stmt:=top 74
abbrev N_n:List Str:=["_law_lists","_law_made","_law_some","_law_longer","_law_ahead"]
theorem sc_n:zf N_n ["_law_lists"] (zb s_n):=by refine⟨rfl,rfl,rfl, ?_,rfl, ?_, ?_⟩ <;> decide+kernel
abbrev s_c:Stmt:=top 73
abbrev N_c:List Str:=["_law_kind_here","_law_made","_law_size_here"]
theorem sc_c:zf N_c ["_law_kind_here"] (zb s_c):=by refine⟨rfl,rfl,rfl, ?_,rfl, ?_, ?_⟩ <;> decide+kernel
abbrev s_7:Stmt:=top 31
abbrev N_7:List Str:=["kind","reaches"]
theorem z2n:zf N_7 ["kind"] (zb s_7):=by refine⟨rfl,rfl,rfl, ?_,rfl, ?_, ?_⟩ <;> decide+kernel
abbrev s_1s:Stmt:=top 32
abbrev N_1s:List Str:=["kind","part"]
theorem Gu:zf N_1s ["kind"] (zb s_1s):=by refine⟨rfl,rfl,rfl, ?_,rfl, ?_, ?_⟩ <;> decide+kernel
abbrev s_1:Stmt:=top 25
abbrev N_1:List Str:=["kind"]
theorem sc_1:zf N_1 ["kind"] (zb s_1):=by refine⟨rfl,rfl,rfl, ?_,rfl, ?_, ?_⟩ <;> decide+kernel
abbrev s_1g:Stmt:=top 59
abbrev N_1g:List Str:=["one","other","rest"]
theorem Gv:zf N_1g ["one","other"] (zb s_1g):=by refine⟨rfl,rfl,rfl, ?_,rfl, ?_, ?_⟩ <;> decide+kernel
abbrev s_l:Stmt:=top 58
abbrev N_l:List Str:=["up","down","divisor"]
theorem sc_l:zf N_l ["up","down"] (zb s_l):=by refine⟨rfl,rfl,rfl, ?_,rfl, ?_, ?_⟩ <;> decide+kernel
abbrev s_v:Stmt:=top 60
abbrev N_v:List Str:=["one","other"]
theorem sc_v:zf N_v ["one","other"] (zb s_v):=by refine⟨rfl,rfl,rfl, ?_,rfl, ?_, ?_⟩ <;> decide+kernel
abbrev s_1l:Stmt:=top 61
abbrev N_1l:List Str:=["one","other"]
theorem Gw:zf N_1l ["one","other"] (zb s_1l):=by refine⟨rfl,rfl,rfl, ?_,rfl, ?_, ?_⟩ <;> decide+kernel
abbrev s_1m:Stmt:=top 62
abbrev N_1m:List Str:=["fractions","total","each"]
theorem Gx:zf N_1m ["fractions"] (zb s_1m):=by refine⟨rfl,rfl,rfl, ?_,rfl, ?_, ?_⟩ <;> decide+kernel
abbrev s_r:Stmt:=top 66
abbrev N_r:List Str:=["kind","mean_length"]
theorem sc_r:zf N_r ["kind"] (zb s_r):=by refine⟨rfl,rfl,rfl, ?_,rfl, ?_, ?_⟩ <;> decide+kernel
abbrev s_9:Stmt:=top 57
abbrev N_9:List Str:=["kind"]
theorem sc_9:zf N_9 ["kind"] (zb s_9):=by refine⟨rfl,rfl,rfl, ?_,rfl, ?_, ?_⟩ <;> decide+kernel
abbrev s_1p:Stmt:=top 68
abbrev N_1p:List Str:=["_law_script","_law_k"]
theorem Gy:zf N_1p ["_law_script","_law_k"] (zb s_1p):=by refine⟨rfl,rfl,rfl, ?_,rfl, ?_, ?_⟩ <;> decide+kernel
abbrev s_f:Stmt:=top 69
abbrev N_f:List Str:=["_law_script","_law_k","_law_many","_law_drawn"]
theorem sc_f:zf N_f ["_law_script","_law_k","_law_many"] (zb s_f):=by refine⟨rfl,rfl,rfl, ?_,rfl, ?_, ?_⟩ <;> decide+kernel
abbrev z2o:Stmt:=top 70
abbrev N_19:List Str:=["_law_script","_law_at","_law_letters"]
theorem Gz:zf N_19 ["_law_script","_law_at"] (zb z2o):=by refine⟨rfl,rfl,rfl, ?_,rfl, ?_, ?_⟩ <;> decide+kernel
abbrev z2p:Stmt:=top 71
abbrev N_1b:List Str:=["_law_script","_law_at","_law_low","_law_words","_law_k","_law_word"]
theorem GA:zf N_1b ["_law_script","_law_at"] (zb z2p):=by refine⟨rfl,rfl,rfl, ?_,rfl, ?_, ?_⟩ <;> decide+kernel
abbrev s_o:Stmt:=top 72
abbrev N_o:List Str:=["_law_script","_law_at","_law_deep","_law_way","_law_some","_law_low"]
theorem z2q:zf N_o ["_law_script","_law_at","_law_deep"] (zb s_o):=by refine⟨rfl,rfl,rfl, ?_,rfl, ?_, ?_⟩ <;> decide+kernel
abbrev s_i:Stmt:=top 75
abbrev N_i:List Str:=["_law_kind_here","_law_sizes","_law_made","_law_size_here","_law_inner"]
theorem sc_i:zf N_i ["_law_kind_here"] (zb s_i):=by refine⟨rfl,rfl,rfl, ?_,rfl, ?_, ?_⟩ <;> decide+kernel
abbrev s_14:Stmt:=top 76
abbrev N_14:List Str:=["_law_script","_law_at","_law_most","_law_kind_here","_law_k"]
theorem GB:zf N_14 ["_law_script","_law_at","_law_most"] (zb s_14):=by refine⟨rfl,rfl,rfl, ?_,rfl, ?_, ?_⟩ <;> decide+kernel
abbrev s_h:Stmt:=top 19
abbrev N_h:List Str:=["kind"]
theorem sc_h:zf N_h ["kind"] (zb s_h):=by refine⟨rfl,rfl,rfl, ?_,rfl, ?_, ?_⟩ <;> decide+kernel
abbrev s_m:Stmt:=top 20
abbrev N_m:List Str:=["kind","thing"]
theorem sc_m:zf N_m ["kind","thing"] (zb s_m):=by refine⟨rfl,rfl,rfl, ?_,rfl, ?_, ?_⟩ <;> decide+kernel
abbrev z2r:Stmt:=top 21
abbrev N_1k:List Str:=["kinds","parts"]
theorem GC:zf N_1k ["kinds","parts"] (zb z2r):=by refine⟨rfl,rfl,rfl, ?_,rfl, ?_, ?_⟩ <;> decide+kernel
abbrev s_y:Stmt:=top 8
abbrev N_y:List Str:=["kind","thing"]
theorem sc_y:zf N_y ["kind","thing"] (zb s_y):=by refine⟨rfl,rfl,rfl, ?_,rfl, ?_, ?_⟩ <;> decide+kernel
abbrev s_10:Stmt:=top 10
abbrev N_10:List Str:=["kind","worth"]
theorem GD:zf N_10 ["kind","worth"] (zb s_10):=by refine⟨rfl,rfl,rfl, ?_,rfl, ?_, ?_⟩ <;> decide+kernel
abbrev s_t:Stmt:=top 34
abbrev N_t:List Str:=["worth"]
theorem sc_t:zf N_t ["worth"] (zb s_t):=by refine⟨rfl,rfl,rfl, ?_,rfl, ?_, ?_⟩ <;> decide+kernel
abbrev s_15:Stmt:=top 27
abbrev N_15:List Str:=["kind","worth"]
theorem GE:zf N_15 ["kind","worth"] (zb s_15):=by refine⟨rfl,rfl,rfl, ?_,rfl, ?_, ?_⟩ <;> decide+kernel
abbrev s_1i:Stmt:=top 52
abbrev N_1i:List Str:=["one","other","low","high"]
theorem GF:zf N_1i ["one","other"] (zb s_1i):=by refine⟨rfl,rfl,rfl, ?_,rfl, ?_, ?_⟩ <;> decide+kernel
abbrev z2s:Stmt:=top 53
abbrev N_1a:List Str:=["one","other","words","choices"]
theorem XZ:zf N_1a ["one","other"] (zb z2s):=by refine⟨rfl,rfl,rfl, ?_,rfl, ?_, ?_⟩ <;> decide+kernel
abbrev s_1c:Stmt:=top 50
abbrev N_1c:List Str:=["kind","length"]
theorem GG:zf N_1c ["kind","length"] (zb s_1c):=by refine⟨rfl,rfl,rfl, ?_,rfl, ?_, ?_⟩ <;> decide+kernel
abbrev s_d:Stmt:=top 49
abbrev N_d:List Str:=["one","other"]
theorem sc_d:zf N_d ["one","other"] (zb s_d):=by refine⟨rfl,rfl,rfl, ?_,rfl, ?_, ?_⟩ <;> decide+kernel
abbrev z2t:Stmt:=top 51
abbrev N_1j:List Str:=["one_kinds","other_kinds","shared"]
theorem k0:zf N_1j ["one_kinds","other_kinds"] (zb z2t):=by refine⟨rfl,rfl,rfl, ?_,rfl, ?_, ?_⟩ <;> decide+kernel
abbrev s_1t:Stmt:=top 54
abbrev N_1t:List Str:=["one","other","low","high","part"]
theorem GH:zf N_1t ["one","other"] (zb s_1t):=by refine⟨rfl,rfl,rfl, ?_,rfl, ?_, ?_⟩ <;> decide+kernel
abbrev s_x:Stmt:=top 46
abbrev N_x:List Str:=["one","other"]
theorem sc_x:zf N_x ["one","other"] (zb s_x):=by refine⟨rfl,rfl,rfl, ?_,rfl, ?_, ?_⟩ <;> decide+kernel
abbrev s_2:Stmt:=top 39
abbrev N_2:List Str:=["kind"]
theorem sc_2:zf N_2 ["kind"] (zb s_2):=by refine⟨rfl,rfl,rfl, ?_,rfl, ?_, ?_⟩ <;> decide+kernel
abbrev s_z:Stmt:=top 40
abbrev N_z:List Str:=["kinds","count","kind"]
theorem sc_z:zf N_z ["kinds"] (zb s_z):=by refine⟨rfl,rfl,rfl, ?_,rfl, ?_, ?_⟩ <;> decide+kernel
abbrev s_w:Stmt:=top 41
abbrev N_w:List Str:=["kind","length"]
theorem sc_w:zf N_w ["kind","length"] (zb s_w):=by refine⟨rfl,rfl,rfl, ?_,rfl, ?_, ?_⟩ <;> decide+kernel
abbrev s_11:Stmt:=top 47
abbrev N_11:List Str:=["one","other","shared"]
theorem GI:zf N_11 ["one","other"] (zb s_11):=by refine⟨rfl,rfl,rfl, ?_,rfl, ?_, ?_⟩ <;> decide+kernel
abbrev s_17:Stmt:=top 48
abbrev N_17:List Str:=["one","other"]
theorem GJ:zf N_17 ["one","other"] (zb s_17):=by refine⟨rfl,rfl,rfl, ?_,rfl, ?_, ?_⟩ <;> decide+kernel
abbrev s_1e:Stmt:=top 37
abbrev N_1e:List Str:=["kind"]
theorem GK:zf N_1e ["kind"] (zb s_1e):=by refine⟨rfl,rfl,rfl, ?_,rfl, ?_, ?_⟩ <;> decide+kernel
abbrev s_b:Stmt:=top 28
abbrev N_b:List Str:=["kind"]
theorem sc_b:zf N_b ["kind"] (zb s_b):=by refine⟨rfl,rfl,rfl, ?_,rfl, ?_, ?_⟩ <;> decide+kernel
abbrev s_s:Stmt:=top 29
abbrev N_s:List Str:=["kind"]
theorem sc_s:zf N_s ["kind"] (zb s_s):=by refine⟨rfl,rfl,rfl, ?_,rfl, ?_, ?_⟩ <;> decide+kernel
abbrev s_a:Stmt:=top 23
abbrev N_a:List Str:=["kind"]
theorem sc_a:zf N_a ["kind"] (zb s_a):=by refine⟨rfl,rfl,rfl, ?_,rfl, ?_, ?_⟩ <;> decide+kernel
abbrev s_1h:Stmt:=top 64
abbrev N_1h:List Str:=["kind","word","weights"]
theorem k6:zf N_1h ["kind","word"] (zb s_1h):=by refine⟨rfl,rfl,rfl, ?_,rfl, ?_, ?_⟩ <;> decide+kernel
abbrev s_p:Stmt:=top 63
abbrev N_p:List Str:=["kind","worth","one_length"]
theorem sc_p:zf N_p ["kind","worth"] (zb s_p):=by refine⟨rfl,rfl,rfl, ?_,rfl, ?_, ?_⟩ <;> decide+kernel
abbrev s_1o:Stmt:=top 65
abbrev N_1o:List Str:=["kinds","parts","share","kind","part"]
theorem GL:zf N_1o ["kinds","parts"] (zb s_1o):=by refine⟨rfl,rfl,rfl, ?_,rfl, ?_, ?_⟩ <;> decide+kernel
abbrev s_6:Stmt:=top 56
abbrev N_6:List Str:=["kind","worth"]
theorem sc_6:zf N_6 ["kind","worth"] (zb s_6):=by refine⟨rfl,rfl,rfl, ?_,rfl, ?_, ?_⟩ <;> decide+kernel
abbrev s_3:Stmt:=top 30
abbrev N_3:List Str:=["kind","words","part"]
theorem sc_3:zf N_3 ["kind"] (zb s_3):=by refine⟨rfl,rfl,rfl, ?_,rfl, ?_, ?_⟩ <;> decide+kernel
abbrev s_18:Stmt:=top 24
abbrev N_18:List Str:=["kind"]
theorem GM:zf N_18 ["kind"] (zb s_18):=by refine⟨rfl,rfl,rfl, ?_,rfl, ?_, ?_⟩ <;> decide+kernel
abbrev s_q:Stmt:=top 77
abbrev N_q:List Str:=["_law_worth"]
theorem sc_q:zf N_q ["_law_worth"] (zb s_q):=by refine⟨rfl,rfl,rfl, ?_,rfl, ?_, ?_⟩ <;> decide+kernel
abbrev s_j:Stmt:=top 42
abbrev N_j:List Str:=["kind","number"]
theorem sc_j:zf N_j ["kind","number"] (zb s_j):=by refine⟨rfl,rfl,rfl, ?_,rfl, ?_, ?_⟩ <;> decide+kernel
abbrev s_1r:Stmt:=top 43
abbrev N_1r:List Str:=["kind","number","length"]
theorem GN:zf N_1r ["kind","number"] (zb s_1r):=by refine⟨rfl,rfl,rfl, ?_,rfl, ?_, ?_⟩ <;> decide+kernel
abbrev s_12:Stmt:=top 44
abbrev N_12:List Str:=["kinds","number","parts","rest","kind","count"]
theorem GO:zf N_12 ["kinds","number"] (zb s_12):=by refine⟨rfl,rfl,rfl, ?_,rfl, ?_, ?_⟩ <;> decide+kernel
abbrev z2u:Stmt:=top 38
abbrev N_16:List Str:=["kind","count"]
theorem GP:zf N_16 ["kind"] (zb z2u):=by refine⟨rfl,rfl,rfl, ?_,rfl, ?_, ?_⟩ <;> decide+kernel
abbrev s_0:Stmt:=top 78
abbrev N_0:List Str:=["_law_script","_law_kind_here","_law_other","_law_made","_law_due","_law_worth","_law_about_here","_law_low","_law_high","_law_up","_law_down"]
theorem sc_0:zf N_0 ["_law_script"] (zb s_0):=by refine⟨rfl,rfl,rfl, ?_,rfl, ?_, ?_⟩ <;> decide+kernel
structure Fn (K:al) (mg:Str->Option Value) (x:Str) (st:Stmt) (ps:List Str) (f:Addr) (fd:FuncData):Prop where
 F:Fun K x x st f fd
 b:L2.Binds K fd ps []
 m:mg x=some (.ref f)
set_option genInjectivity false in
set_option genSizeOf false in
structure Tx (K:al) (mg:Str->Option Value) where
 a_u:Addr
 d_u:FuncData
 C_u:Fn K mg "is_whole" s_u ["thing"] a_u d_u
 a_1q:Addr
 d_1q:FuncData
 C_1q:Fn K mg "is_span" s_1q ["low","high","least","most"] a_1q d_1q
 a_k:Addr
 d_k:FuncData
 C_k:Fn K mg "is_tuple_of" s_k ["thing","least","most"] a_k d_k
 a_1f:Addr
 d_1f:FuncData
 C_1f:Fn K mg "is_word" z2k ["thing"] a_1f d_1f
 a_1d:Addr
 d_1d:FuncData
 C_1d:Fn K mg "is_choice" s_1d ["thing"] a_1d d_1d
 a_13:Addr
 d_13:FuncData
 C_13:Fn K mg "are_choices" z0x ["thing"] a_13 d_13
 a_g:Addr
 d_g:FuncData
 C_g:Fn K mg "is_kind_within" s_g ["thing","levels"] a_g d_g
 a_1n:Addr
 d_1n:FuncData
 C_1n:Fn K mg "are_kinds_within" z2m ["thing","levels"] a_1n d_1n
 a_4:Addr
 d_4:FuncData
 C_4:Fn K mg "is_kind" s_4 ["thing"] a_4 d_4
 a_8:Addr
 d_8:FuncData
 C_8:Fn K mg "need_kind" s_8 ["kind"] a_8 d_8
 a_5:Addr
 d_5:FuncData
 C_5:Fn K mg "mirror_of" s_5 ["kind"] a_5 d_5
 a_e:Addr
 d_e:FuncData
 C_e:Fn K mg "mirrored" s_e ["kind"] a_e d_e
 a_n:Addr
 d_n:FuncData
 C_n:Fn K mg "_law_rows_of" s_n ["_law_lists"] a_n d_n
 a_c:Addr
 d_c:FuncData
 C_c:Fn K mg "_law_all" s_c ["_law_kind_here"] a_c d_c
 a_7:Addr
 d_7:FuncData
 C_7:Fn K mg "reach_of" s_7 ["kind"] a_7 d_7
 a_1s:Addr
 d_1s:FuncData
 C_1s:Fn K mg "reach_of_many" s_1s ["kind"] a_1s d_1s
 a_1:Addr
 d_1:FuncData
 C_1:Fn K mg "reach" s_1 ["kind"] a_1 d_1
 a_1g:Addr
 d_1g:FuncData
 C_1g:Fn K mg "greatest_divisor" s_1g ["one","other"] a_1g d_1g
 a_l:Addr
 d_l:FuncData
 C_l:Fn K mg "fraction" s_l ["up","down"] a_l d_l
 a_v:Addr
 d_v:FuncData
 C_v:Fn K mg "times" s_v ["one","other"] a_v d_v
 a_1l:Addr
 d_1l:FuncData
 C_1l:Fn K mg "plus" s_1l ["one","other"] a_1l d_1l
 a_1m:Addr
 d_1m:FuncData
 C_1m:Fn K mg "together" s_1m ["fractions"] a_1m d_1m
 a_r:Addr
 d_r:FuncData
 C_r:Fn K mg "mean_within" s_r ["kind"] a_r d_r
 a_9:Addr
 d_9:FuncData
 C_9:Fn K mg "mean" s_9 ["kind"] a_9 d_9
 a_1p:Addr
 d_1p:FuncData
 C_1p:Fn K mg "_law_cell" s_1p ["_law_script","_law_k"] a_1p d_1p
 a_f:Addr
 d_f:FuncData
 C_f:Fn K mg "_law_pick" s_f ["_law_script","_law_k","_law_many"] a_f d_f
 a_19:Addr
 d_19:FuncData
 C_19:Fn K mg "_law_word_of" z2o ["_law_script","_law_at"] a_19 d_19
 a_1b:Addr
 d_1b:FuncData
 C_1b:Fn K mg "_law_leaf_kind" z2p ["_law_script","_law_at"] a_1b d_1b
 a_o:Addr
 d_o:FuncData
 C_o:Fn K mg "_law_kind" s_o ["_law_script","_law_at","_law_deep"] a_o d_o
 a_i:Addr
 d_i:FuncData
 C_i:Fn K mg "_law_size" s_i ["_law_kind_here"] a_i d_i
 a_14:Addr
 d_14:FuncData
 C_14:Fn K mg "_law_small" s_14 ["_law_script","_law_at","_law_most"] a_14 d_14
 a_h:Addr
 d_h:FuncData
 C_h:Fn K mg "words_of_pick" s_h ["kind"] a_h d_h
 a_m:Addr
 d_m:FuncData
 C_m:Fn K mg "has_worth" s_m ["kind","thing"] a_m d_m
 a_1k:Addr
 d_1k:FuncData
 C_1k:Fn K mg "have_parts" z2r ["kinds","parts"] a_1k d_1k
 a_y:Addr
 d_y:FuncData
 C_y:Fn K mg "is_worth" s_y ["kind","thing"] a_y d_y
 a_10:Addr
 d_10:FuncData
 C_10:Fn K mg "need_worth" s_10 ["kind","worth"] a_10 d_10
 a_t:Addr
 d_t:FuncData
 C_t:Fn K mg "mirror_of_worth" s_t ["worth"] a_t d_t
 a_15:Addr
 d_15:FuncData
 C_15:Fn K mg "mirrored_worth" s_15 ["kind","worth"] a_15 d_15
 a_1i:Addr
 d_1i:FuncData
 C_1i:Fn K mg "common_whole" s_1i ["one","other"] a_1i d_1i
 a_1a:Addr
 d_1a:FuncData
 C_1a:Fn K mg "common_pick" z2s ["one","other"] a_1a d_1a
 a_1c:Addr
 d_1c:FuncData
 C_1c:Fn K mg "kinds_of_parts" s_1c ["kind","length"] a_1c d_1c
 a_d:Addr
 d_d:FuncData
 C_d:Fn K mg "common_kind" s_d ["one","other"] a_d d_d
 a_1j:Addr
 d_1j:FuncData
 C_1j:Fn K mg "common_row" z2t ["one_kinds","other_kinds"] a_1j d_1j
 a_1t:Addr
 d_1t:FuncData
 C_1t:Fn K mg "common_many" s_1t ["one","other"] a_1t d_1t
 a_x:Addr
 d_x:FuncData
 C_x:Fn K mg "both" s_x ["one","other"] a_x d_x
 a_2:Addr
 d_2:FuncData
 C_2:Fn K mg "count_of" s_2 ["kind"] a_2 d_2
 a_z:Addr
 d_z:FuncData
 C_z:Fn K mg "count_of_parts" s_z ["kinds"] a_z d_z
 a_w:Addr
 d_w:FuncData
 C_w:Fn K mg "count_shorter" s_w ["kind","length"] a_w d_w
 a_11:Addr
 d_11:FuncData
 C_11:Fn K mg "is_within" s_11 ["one","other"] a_11 d_11
 a_17:Addr
 d_17:FuncData
 C_17:Fn K mg "are_apart" s_17 ["one","other"] a_17 d_17
 a_1e:Addr
 d_1e:FuncData
 C_1e:Fn K mg "how_many" s_1e ["kind"] a_1e d_1e
 a_b:Addr
 d_b:FuncData
 C_b:Fn K mg "kinds_within" s_b ["kind"] a_b d_b
 a_s:Addr
 d_s:FuncData
 C_s:Fn K mg "depth_of" s_s ["kind"] a_s d_s
 a_a:Addr
 d_a:FuncData
 C_a:Fn K mg "depth" s_a ["kind"] a_a d_a
 a_1h:Addr
 d_1h:FuncData
 C_1h:Fn K mg "share_of_word" s_1h ["kind","word"] a_1h d_1h
 a_p:Addr
 d_p:FuncData
 C_p:Fn K mg "share_within" s_p ["kind","worth"] a_p d_p
 a_1o:Addr
 d_1o:FuncData
 C_1o:Fn K mg "share_of_parts" s_1o ["kinds","parts"] a_1o d_1o
 a_6:Addr
 d_6:FuncData
 C_6:Fn K mg "share_of" s_6 ["kind","worth"] a_6 d_6
 a_3:Addr
 d_3:FuncData
 C_3:Fn K mg "words_of" s_3 ["kind"] a_3 d_3
 a_18:Addr
 d_18:FuncData
 C_18:Fn K mg "words_in" s_18 ["kind"] a_18 d_18
 a_q:Addr
 d_q:FuncData
 C_q:Fn K mg "_law_about" s_q ["_law_worth"] a_q d_q
 a_j:Addr
 d_j:FuncData
 C_j:Fn K mg "worth_at" s_j ["kind","number"] a_j d_j
 a_1r:Addr
 d_1r:FuncData
 C_1r:Fn K mg "many_at" s_1r ["kind","number"] a_1r d_1r
 a_12:Addr
 d_12:FuncData
 C_12:Fn K mg "parts_at" s_12 ["kinds","number"] a_12 d_12
 a_16:Addr
 d_16:FuncData
 C_16:Fn K mg "all_worths" z2u ["kind"] a_16 d_16
 a_0:Addr
 d_0:FuncData
 C_0:Fn K mg "law" s_0 ["_law_script"] a_0 d_0
 z_abs:mg "abs"=none
 z_all:mg "all"=none
 z_bool:mg "bool"=none
 z_dict:mg "dict"=none
 z_enumerate:mg "enumerate"=none
 z_int:mg "int"=none
 z_isinstance:mg "isinstance"=none
 z_len:mg "len"=none
 z_list:mg "list"=none
 z_max:mg "max"=none
 z_min:mg "min"=none
 z_range:mg "range"=none
 z_reversed:mg "reversed"=none
 z_set:mg "set"=none
 z_sorted:mg "sorted"=none
 z_str:mg "str"=none
 z_sum:mg "sum"=none
 z_tuple:mg "tuple"=none
 z_zip:mg "zip"=none
 c_DEEPEST:∃u,mg "DEEPEST"=some u/\∃t,u=Value.int 3 t
 c_MOST_TOLD:∃u,mg "MOST_TOLD"=some u/\∃t,u=Value.int 500 t
section
variable (P:Program)(w:World){K:al}{mg:Str->Option Value}(base:Heap)(cl:Nat->Value)(tx:Tx K mg)(k:Nat)(c:List T->R T)
abbrev Q_u:Prop:=zV P w K mg base CX0 k tx.a_u tx.d_u ["thing"] (spP cl 1 c)
abbrev z2v:Prop:=zV P w K mg base CX0 k tx.a_1q tx.d_1q ["low","high","least","most"] (spP cl 4 c)
abbrev Q_k:Prop:=zV P w K mg base CX0 k tx.a_k tx.d_k ["thing","least","most"] (spP cl 3 c)
abbrev z2w:Prop:=zV P w K mg base CX0 k tx.a_1f tx.d_1f ["thing"] (spP cl 1 c)
abbrev z2x:Prop:=zV P w K mg base CX0 k tx.a_1d tx.d_1d ["thing"] (spP cl 1 c)
abbrev z2y:Prop:=zV P w K mg base CX0 k tx.a_13 tx.d_13 ["thing"] (spP cl 1 c)
abbrev Q_g:Prop:=zV P w K mg base CX0 k tx.a_g tx.d_g ["thing","levels"] (spP cl 2 c)
abbrev z0y:Prop:=zV P w K mg base CX0 k tx.a_1n tx.d_1n ["thing","levels"] (spP cl 2 c)
abbrev Q_4:Prop:=zV P w K mg base CX0 k tx.a_4 tx.d_4 ["thing"] (spP cl 1 c)
abbrev Q_8:Prop:=zV P w K mg base CX0 k tx.a_8 tx.d_8 ["kind"] (spP cl 1 c)
abbrev Q_5:Prop:=zV P w K mg base CX0 k tx.a_5 tx.d_5 ["kind"] (spP cl 1 c)
abbrev Q_e:Prop:=zV P w K mg base CX0 k tx.a_e tx.d_e ["kind"] (spP cl 1 c)
abbrev Q_n:Prop:=zV P w K mg base CX0 k tx.a_n tx.d_n ["_law_lists"] (spP cl 1 c)
abbrev Q_c:Prop:=zV P w K mg base CX0 k tx.a_c tx.d_c ["_law_kind_here"] (spP cl 1 c)
abbrev Q_7:Prop:=zV P w K mg base CX0 k tx.a_7 tx.d_7 ["kind"] (spP cl 1 c)
abbrev z0z:Prop:=zV P w K mg base CX0 k tx.a_1s tx.d_1s ["kind"] (spP cl 1 c)
abbrev Q_1:Prop:=zV P w K mg base CX0 k tx.a_1 tx.d_1 ["kind"] (spP cl 1 c)
abbrev z2z:Prop:=zV P w K mg base CX0 k tx.a_1g tx.d_1g ["one","other"] (spP cl 2 c)
abbrev Q_l:Prop:=zV P w K mg base CX0 k tx.a_l tx.d_l ["up","down"] (spP cl 2 c)
abbrev Q_v:Prop:=zV P w K mg base CX0 k tx.a_v tx.d_v ["one","other"] (spP cl 2 c)
abbrev z2A:Prop:=zV P w K mg base CX0 k tx.a_1l tx.d_1l ["one","other"] (spP cl 2 c)
abbrev z2B:Prop:=zV P w K mg base CX0 k tx.a_1m tx.d_1m ["fractions"] (spP cl 1 c)
abbrev Q_r:Prop:=zV P w K mg base CX0 k tx.a_r tx.d_r ["kind"] (spP cl 1 c)
abbrev Q_9:Prop:=zV P w K mg base CX0 k tx.a_9 tx.d_9 ["kind"] (spP cl 1 c)
abbrev z2C:Prop:=zV P w K mg base CX0 k tx.a_1p tx.d_1p ["_law_script","_law_k"] (spP cl 2 c)
abbrev Q_f:Prop:=zV P w K mg base CX0 k tx.a_f tx.d_f ["_law_script","_law_k","_law_many"] (spP cl 3 c)
abbrev z2D:Prop:=zV P w K mg base CX0 k tx.a_19 tx.d_19 ["_law_script","_law_at"] (spP cl 2 c)
abbrev z2E:Prop:=zV P w K mg base CX0 k tx.a_1b tx.d_1b ["_law_script","_law_at"] (spP cl 2 c)
abbrev Q_o:Prop:=zV P w K mg base CX0 k tx.a_o tx.d_o ["_law_script","_law_at","_law_deep"] (spP cl 3 c)
abbrev Q_i:Prop:=zV P w K mg base CX0 k tx.a_i tx.d_i ["_law_kind_here"] (spP cl 1 c)
abbrev z2F:Prop:=zV P w K mg base CX0 k tx.a_14 tx.d_14 ["_law_script","_law_at","_law_most"] (spP cl 3 c)
abbrev Q_h:Prop:=zV P w K mg base CX0 k tx.a_h tx.d_h ["kind"] (spP cl 1 c)
abbrev Q_m:Prop:=zV P w K mg base CX0 k tx.a_m tx.d_m ["kind","thing"] (spP cl 2 c)
abbrev z0A:Prop:=zV P w K mg base CX0 k tx.a_1k tx.d_1k ["kinds","parts"] (spP cl 2 c)
abbrev Q_y:Prop:=zV P w K mg base CX0 k tx.a_y tx.d_y ["kind","thing"] (spP cl 2 c)
abbrev z0B:Prop:=zV P w K mg base CX0 k tx.a_10 tx.d_10 ["kind","worth"] (spP cl 2 c)
abbrev Q_t:Prop:=zV P w K mg base CX0 k tx.a_t tx.d_t ["worth"] (spP cl 1 c)
abbrev z2G:Prop:=zV P w K mg base CX0 k tx.a_15 tx.d_15 ["kind","worth"] (spP cl 2 c)
abbrev z2H:Prop:=zV P w K mg base CX0 k tx.a_1i tx.d_1i ["one","other"] (spP cl 2 c)
abbrev z2I:Prop:=zV P w K mg base CX0 k tx.a_1a tx.d_1a ["one","other"] (spP cl 2 c)
abbrev z2J:Prop:=zV P w K mg base CX0 k tx.a_1c tx.d_1c ["kind","length"] (spP cl 2 c)
abbrev Q_d:Prop:=zV P w K mg base CX0 k tx.a_d tx.d_d ["one","other"] (spP cl 2 c)
abbrev z0C:Prop:=zV P w K mg base CX0 k tx.a_1j tx.d_1j ["one_kinds","other_kinds"] (spP cl 2 c)
abbrev z0D:Prop:=zV P w K mg base CX0 k tx.a_1t tx.d_1t ["one","other"] (spP cl 2 c)
abbrev Q_x:Prop:=zV P w K mg base CX0 k tx.a_x tx.d_x ["one","other"] (spP cl 2 c)
abbrev Q_2:Prop:=zV P w K mg base CX0 k tx.a_2 tx.d_2 ["kind"] (spP cl 1 c)
abbrev Q_z:Prop:=zV P w K mg base CX0 k tx.a_z tx.d_z ["kinds"] (spP cl 1 c)
abbrev Q_w:Prop:=zV P w K mg base CX0 k tx.a_w tx.d_w ["kind","length"] (spP cl 2 c)
abbrev z2K:Prop:=zV P w K mg base CX0 k tx.a_11 tx.d_11 ["one","other"] (spP cl 2 c)
abbrev z2L:Prop:=zV P w K mg base CX0 k tx.a_17 tx.d_17 ["one","other"] (spP cl 2 c)
abbrev z2M:Prop:=zV P w K mg base CX0 k tx.a_1e tx.d_1e ["kind"] (spP cl 1 c)
abbrev Q_b:Prop:=zV P w K mg base CX0 k tx.a_b tx.d_b ["kind"] (spP cl 1 c)
abbrev Q_s:Prop:=zV P w K mg base CX0 k tx.a_s tx.d_s ["kind"] (spP cl 1 c)
abbrev Q_a:Prop:=zV P w K mg base CX0 k tx.a_a tx.d_a ["kind"] (spP cl 1 c)
abbrev z2N:Prop:=zV P w K mg base CX0 k tx.a_1h tx.d_1h ["kind","word"] (spP cl 2 c)
abbrev Q_p:Prop:=zV P w K mg base CX0 k tx.a_p tx.d_p ["kind","worth"] (spP cl 2 c)
abbrev z0E:Prop:=zV P w K mg base CX0 k tx.a_1o tx.d_1o ["kinds","parts"] (spP cl 2 c)
abbrev Q_6:Prop:=zV P w K mg base CX0 k tx.a_6 tx.d_6 ["kind","worth"] (spP cl 2 c)
abbrev Q_3:Prop:=zV P w K mg base CX0 k tx.a_3 tx.d_3 ["kind"] (spP cl 1 c)
abbrev z2O:Prop:=zV P w K mg base CX0 k tx.a_18 tx.d_18 ["kind"] (spP cl 1 c)
abbrev Q_q:Prop:=zV P w K mg base CX0 k tx.a_q tx.d_q ["_law_worth"] (spP cl 1 c)
abbrev Q_j:Prop:=zV P w K mg base CX0 k tx.a_j tx.d_j ["kind","number"] (spP cl 2 c)
abbrev z0F:Prop:=zV P w K mg base CX0 k tx.a_1r tx.d_1r ["kind","number"] (spP cl 2 c)
abbrev GQ:Prop:=zV P w K mg base CX0 k tx.a_12 tx.d_12 ["kinds","number"] (spP cl 2 c)
abbrev z2P:Prop:=zV P w K mg base CX0 k tx.a_16 tx.d_16 ["kind"] (spP cl 1 c)
abbrev Q_0:Prop:=zV P w K mg base CX0 k tx.a_0 tx.d_0 ["_law_script"] (spP cl 1 c)
end
theorem cZ {X:Cx}{Y:Fx}{cl:Nat->Value}{k j n:Nat}{f:Addr}{fd:FuncData}{ps:List Str}{g:List T->R T}{x:Str}{st:Stmt}{a:Expr}{es:List Expr}{ga:En->R (List T)}{p pos:Pos}(hy:Y.cl=cl)(F:zV X.prog X.w X.K X.mg X.base CX0 j f fd ps (spP cl n g))(hr:JU k X.A)(C:Fn X.K X.mg x st ps f fd)(ha:UK X Y (a :: es) ga)(hj:j<=k:=by omega)(gl:Gl X x:=by rfl)(hd:(x == ("__debug__":Str))=false:=by decide)
  (hs:starEach (a :: es) X.env=(false,eval a X.env) :: starEach es X.env:=by exact Zh rfl) (hz:((backTo pos (starEach es X.env)).any λx=>x.fst)=false:=by exact jd rfl):Snd X Y (.Call (.Name x p) (a :: es) [] pos) (za n g ga):=xD hy F hr hj gl C.m C.F.kp C.b ha hd hs hz
section
variable {P:Program}{w:World}{K:al}{mg:Str->Option Value}{base:Heap}{cl:Nat->Value}{tx:Tx K mg}
set_option hygiene false
local macro_rules | `(tactic| gp_on)=> `(tactic| first
  | (show UK _ _ _ _;first
   | refine K2 ?_ ?_
   | exact z17)
  | (show Snd _ _ (.Name ..) _;first
   | exact z13 _ (pv _)
   | exact Yd (by rfl) c_DEEPEST.1 c_DEEPEST.2
   | exact Yd (by rfl) c_MOST_TOLD.1 c_MOST_TOLD.2)
  | (show Snd _ _ (.Constant ..) _;first
   | exact z14
   | exact z16
   | exact s_bl
   | exact z15)
  | (show UM _ _ _ _;first
   | refine Ke ?_ ?_
   | exact z1u
   | refine z1v ?_)
  | (show wA _ _ _ _;first
   | refine z1w ?_
   | refine z1x ?_ ?_ ?_
   | refine Kf nd (by rfl) (.inl (by rfl)) ?_
   | refine Kg ?_
   | refine z1A g_ (by rfl) ?_ ?_ ?_
   | refine V1 nd (by rfl) (.inl (by rfl)) ?_
   | exact z1K
   | refine z1z (pv _) ?_
   | refine z1y (pv _) ?_
   | refine Kf nd (by rfl) (.inr (by rfl)) ?_
   | refine KQ ?_ (V6 (by rfl) nd (by rfl) (by rfl) (.inl (by rfl)) (.inl (by rfl)))
   | exact s_mv (pv _) nd (by rfl) (.inl (by rfl))
   | refine Y3 (n:=_ ^ _) g_ ?_ ?_
   | refine Y3 (n:=_) g_ ?_ ?_
   | refine z1F (by rfl) nd (by rfl) (by rfl) (by decide) (by rfl) (by rfl) ?_ (by rfl)
   | refine V1 nd (by rfl) (.inr (by rfl)) ?_)
  | (show jw _ _ _ _;first
   | exact K1 _ (pv _)
   | refine Snd.b ?_)
  | (show Snd _ _ (.Call ..) _;first
   | refine z1q (by rfl) tx.z_len ?_
   | refine xr (by rfl) tx.z_tuple ?_
   | refine Kc (by rfl) (by rfl) tx.z_min ?_ ?_
   | refine QB (n:="tuple") (yX _) (by rfl) tx.z_isinstance (by rfl) tx.z_tuple PyProof.Rows.Boot.«tuple» ?_
   | refine z1t hr.hd (by rfl) tx.z_all ?_
   | refine KG (by rfl) tx.z_int ?_
   | refine QB (n:="str") (xu _) (by rfl) tx.z_isinstance (by rfl) tx.z_str PyProof.Rows.Boot.«str» ?_
   | refine z1L hr.hd (by rfl) tx.z_sum ?_
   | refine KR (by rfl) (by rfl) tx.z_max ?_ ?_
   | refine QB (n:="int") (xt _) (by rfl) tx.z_isinstance (by rfl) tx.z_int PyProof.Rows.Boot.«int» ?_
   | refine QB (n:="bool") (QA _) (by rfl) tx.z_isinstance (by rfl) tx.z_bool PyProof.Rows.Boot.«bool» ?_
   | refine Kv hr.hd (by rfl) tx.z_len (by rfl) tx.z_set ?_
   | refine Xa hr.hd (by rfl) tx.z_tuple (by rfl) tx.z_reversed ?_
   | refine xN hr.hd (by rfl) tx.z_list (by rfl) tx.z_range ?_ ?_
   | refine z1R (by rfl) tx.z_abs ?_
   | refine Ku ?_
   | refine KS hr.hd (by rfl) tx.z_max ?_ ?_
   | refine KU hr.hd (by rfl) tx.z_sorted (by rfl) tx.z_set ?_
   | refine KP hr.hd (by rfl) tx.z_tuple (by rfl) tx.z_reversed ?_
   | refine cZ hy O_f hr tx.C_f ?_
   | refine cZ hy O_8 hr tx.C_8 ?_
   | refine cZ hy O_2 hr tx.C_2 ?_
   | refine cZ hy O_k hr tx.C_k ?_
   | refine cZ hy O_u hr tx.C_u ?_
   | refine cZ hy O_l hr tx.C_l ?_
   | refine cZ hy O_h hr tx.C_h ?_
   | refine cZ hy O_e hr tx.C_e ?_
   | refine cZ hy O_c hr tx.C_c ?_
   | refine cZ hy O_v hr tx.C_v ?_
   | refine cZ hy O_o hr tx.C_o ?_
   | refine cZ hy O_i hr tx.C_i ?_
   | refine cZ hy O_w hr tx.C_w ?_
   | refine cZ hy O_1q hr tx.C_1q ?_
   | refine cZ hy O_g hr tx.C_g ?_
   | refine cZ hy O_4 hr tx.C_4 ?_
   | refine cZ hy O_5 hr tx.C_5 ?_
   | refine cZ hy O_n hr tx.C_n ?_
   | refine cZ hy O_7 hr tx.C_7 ?_
   | refine cZ hy O_r hr tx.C_r ?_
   | refine cZ (hy'.trans hy) O_f hr tx.C_f ?_
   | refine cZ hy O_1k hr tx.C_1k ?_
   | refine cZ hy O_y hr tx.C_y ?_
   | refine cZ hy O_10 hr tx.C_10 ?_
   | refine cZ hy O_1j hr tx.C_1j ?_
   | refine cZ hy O_1c hr tx.C_1c ?_
   | refine cZ hy O_d hr tx.C_d ?_
   | refine cZ hy O_x hr tx.C_x ?_
   | refine cZ hy O_b hr tx.C_b ?_
   | refine cZ hy O_1o hr tx.C_1o ?_
   | refine cZ hy O_p hr tx.C_p ?_
   | refine cZ hy O_3 hr tx.C_3 ?_
   | refine cZ hy O_12 hr tx.C_12 ?_
   | refine cZ hy O_14 hr tx.C_14 ?_
   | refine cZ hy O_1e hr tx.C_1e ?_
   | refine cZ hy O_a hr tx.C_a ?_
   | refine cZ hy O_15 hr tx.C_15 ?_
   | refine cZ hy O_6 hr tx.C_6 ?_
   | refine cZ hy O_18 hr tx.C_18 ?_
   | refine cZ hy O_1 hr tx.C_1 ?_
   | refine cZ hy O_9 hr tx.C_9 ?_
   | refine cZ hy O_11 hr tx.C_11 ?_
   | refine cZ hy O_17 hr tx.C_17 ?_
   | refine cZ hy O_1f hr tx.C_1f ?_
   | refine cZ (hy'.trans hy) O_1d hr tx.C_1d ?_
   | refine cZ hy O_13 hr tx.C_13 ?_
   | refine cZ hy O_1n hr tx.C_1n ?_
   | refine cZ (hy'.trans hy) O_g hr tx.C_g ?_
   | refine cZ (hy'.trans hy) O_5 hr tx.C_5 ?_
   | refine cZ (hy'.trans hy) O_c hr tx.C_c ?_
   | refine cZ (hy'.trans hy) O_7 hr tx.C_7 ?_
   | refine cZ hy O_1s hr tx.C_1s ?_
   | refine cZ hy O_1g hr tx.C_1g ?_
   | refine cZ hy O_1l hr tx.C_1l ?_
   | refine cZ hy O_1m hr tx.C_1m ?_
   | refine cZ (hy'.trans hy) O_r hr tx.C_r ?_
   | refine cZ hy O_1p hr tx.C_1p ?_
   | refine cZ hy O_19 hr tx.C_19 ?_
   | refine cZ hy O_1b hr tx.C_1b ?_
   | refine cZ (hy'.trans hy) O_o hr tx.C_o ?_
   | refine cZ (hy'.trans hy) O_i hr tx.C_i ?_
   | refine cZ (hy'.trans hy) O_m hr tx.C_m ?_
   | refine cZ hy O_m hr tx.C_m ?_
   | refine cZ (hy'.trans hy) O_t hr tx.C_t ?_
   | refine cZ hy O_t hr tx.C_t ?_
   | refine cZ hy O_1i hr tx.C_1i ?_
   | refine cZ hy O_1a hr tx.C_1a ?_
   | refine cZ hy O_1t hr tx.C_1t ?_
   | refine cZ (hy'.trans hy) O_d hr tx.C_d ?_
   | refine cZ hy O_z hr tx.C_z ?_
   | refine cZ (hy'.trans hy) O_z hr tx.C_z ?_
   | refine cZ (hy'.trans hy) O_s hr tx.C_s ?_
   | refine cZ hy O_s hr tx.C_s ?_
   | refine cZ hy O_1h hr tx.C_1h ?_
   | refine cZ (hy'.trans hy) O_q hr tx.C_q ?_
   | refine cZ hy O_1r hr tx.C_1r ?_
   | refine cZ hy O_j hr tx.C_j ?_
   | refine cZ (hy'.trans hy) O_j hr tx.C_j ?_
   | refine cZ hy O_q hr tx.C_q ?_
   | refine cZ hy O_16 hr tx.C_16 ?_)
  | (show Snd _ _ (.Subscript ..) _;first
   | refine s_ix ?_ ?_
   | refine z1X ?_)
  | (show wy _ _ _ _;first
   | refine Wo K5 (vV hr.units) ?_ ?_ (jx _)
   | refine Wo z1f (K6 hr.units) ?_ ?_ (jx _)
   | refine z1n ?_
   | refine Wo z1h K8 ?_ ?_ (jx _)
   | refine Wo Wp jR ?_ ?_ (jx _)
   | refine Wo z1g K7 ?_ ?_ (jx _)
   | refine Wo Qx (vW hr.units) ?_ ?_ (by rfl)
   | refine Wo vX yV ?_ ?_ (jx _)
   | refine xp Wp Wp jR jR ?_ ?_ ?_
   | refine Wo K9 (xm hr.units) ?_ ?_ (by rfl)
   | refine z1Y ?_
   | refine z1o ?_
   | refine yk.t ?_)
  | (show Snd _ _ (.BinOp ..) _;first
   | refine z1a ?_ ?_
   | refine z1d ?_ ?_
   | refine z1b ?_ ?_
   | refine z1c ?_ ?_
   | refine s_ml ?_ ?_
   | refine z1S ?_ ?_
   | refine K4 ?_ ?_
   | refine z1V ?_ ?_)
  | (show ym _ _ _ _ _;first
   | refine Kl (by rfl) tx.z_range ?_
   | refine z1O (by rfl) tx.z_reversed ?_
   | refine z1I (by rfl) tx.z_zip ?_ ?_
   | refine Km (by rfl) tx.z_range ?_ ?_
   | refine Ks (by rfl) tx.z_enumerate ?_
   | refine z1E ?_)
  | (show Snd _ _ (.Tuple ..) _;first
   | refine z18 ?_)
  | (show Snd _ _ (.BoolOp ..) _;first
   | refine z1j ?_ ?_
   | refine z1i ?_)
  | (show ua _ _ _ _;first
   | exact Kp
   | refine Kq ?_)
  | (show yk _ _ _ _;first
   | refine w_or ?_ ?_
   | refine z1m ?_ ?_
   | refine z1l ?_
   | refine Kb ?_)
  | (show Snd _ _ (.Compare ..) _;first
   | refine Qw K5 (vV hr.units) ?_ ?_ (jx _)
   | refine xo Wp Wp jR jR ?_ ?_ ?_
   | refine Qy Wp Wp Wp jR jR jR ?_ ?_ ?_ ?_
   | refine Qw Qx (vW hr.units) ?_ ?_ (by rfl)
   | refine Qw vX yV ?_ ?_ (jx _)
   | refine Qw xn Ka ?_ ?_ (jx _))
  | (show Kn _ _ _ _;first
   | exact V5 nd (by rfl) (.inl (by rfl))
   | exact V5 nd (by rfl) (.inr (by rfl))
   | exact V6 (by rfl) nd (by rfl) (by rfl) (.inl (by rfl)) (.inl (by rfl)))
  | (show Snd _ _ (.List ..) _;first
   | refine z19 ?_)
  | (show Snd _ _ (.UnaryOp ..) _;first
   | refine z1e ?_
   | refine z1k ?_)
  | (show Snd _ _ (.IfExp ..) _;first
   | refine s_if ?_ ?_ ?_)
  )
theorem ok_u:Q_u P w base cl tx 1 (λts=>zg (b_u  (en0 1 ts))):=by
 refine zp tx.C_u.F sc_u rfl (λcdv A outer s H E Y hy hr=> ?_) (λts h=>rfl);have nd:=sc_u.nd
 repeat' gp_on
theorem z2Q {c_u:List T->R T}(O_u:Q_u P w base cl tx 1 c_u):z2v P w base cl tx 2 (λts=>zg (b_1q c_u (en0 4 ts))):=by
 refine zp tx.C_1q.F Gp rfl (λcdv A outer s H E Y hy hr=> ?_) (λts h=>rfl);have nd:=Gp.nd
 repeat' gp_on
theorem ok_k:Q_k P w base cl tx 1 (λts=>zg (b_k  (en0 3 ts))):=by
 refine zp tx.C_k.F sc_k rfl (λcdv A outer s H E Y hy hr=> ?_) (λts h=>rfl);have nd:=sc_k.nd
 repeat' gp_on
theorem z2R:z2w P w base cl tx 1 (λts=>zg (b_1f  (en0 1 ts))):=by
 refine zp tx.C_1f.F Gq rfl (λcdv A outer s H E Y hy hr=> ?_) (λts h=>rfl);have nd:=Gq.nd
 repeat' gp_on
 refine Z8 (zW ["sign"] N_1f (zb z2k) (by rfl) (by rfl) (by decide+kernel) (by rfl) ?_ (λ_ _ _ _ _ _=>zm (show aL (["sign"]:List Str) by decide+kernel) (by rfl) (.inl (by rfl)) (.inr (by rfl))) (zE 0) (zF 0) (λY' hy' _ _ _ _ _ _=> ?_) (λY' hy' _ _ _ _ _ _ _ hp' => ?_))
 repeat' gp_on
theorem z2S {c_u c_k c_1f:List T->R T}(O_u:Q_u P w base cl tx 1 c_u)(O_k:Q_k P w base cl tx 1 c_k)(O_1f:z2w P w base cl tx 1 c_1f):z2x P w base cl tx 2 (λts=>zg (z02 c_u c_k c_1f (en0 1 ts))):=by
 refine zp tx.C_1d.F Gr rfl (λcdv A outer s H E Y hy hr=> ?_) (λts h=>rfl);have nd:=Gr.nd
 repeat' gp_on
theorem z2T {c_k c_1d:List T->R T}(O_k:Q_k P w base cl tx 1 c_k)(O_1d:z2x P w base cl tx 2 c_1d):z2y P w base cl tx 3 (λts=>zg (z03 c_k c_1d (en0 2 ts))):=by
 refine zp tx.C_13.F XY rfl (λcdv A outer s H E Y hy hr=> ?_) (λts h=>rfl);have nd:=XY.nd
 repeat' gp_on
 refine Z8 (zW ["part"] z2l (zb z0x) (by rfl) (by rfl) (by decide+kernel) (by rfl) ?_ (λ_ _ _ _ _ _=>zm (show aL (["part"]:List Str) by decide+kernel) (by rfl) (.inl (by rfl)) (.inr (by rfl))) (zE 0) (zF 0) (λY' hy' _ _ _ _ _ _=> ?_) (λY' hy' _ _ _ _ _ _ _ hp' => ?_))
 repeat' gp_on
 refine Wr (i:=1) (zW ["choice"] z2l (zb z0x) (by rfl) (by rfl) (by decide+kernel) (by rfl) ?_ (λ_ _ _ _ _ _=>zm (show aL (["choice"]:List Str) by decide+kernel) (by rfl) (.inl (by rfl)) (.inr (by rfl))) (zE 0) (zF 0) (λY' hy' _ _ _ _ _ _=> ?_) (λY' hy' _ _ _ _ _ _ _ hp' => ?_)) XY.nd (by rfl) (.inl (by rfl)) (by rfl)
 repeat' gp_on
theorem ok_g {j:Nat}(hj:3<=j){c_1q c_g c_13 c_1n:List T->R T}(O_1q:z2v P w base cl tx 2 c_1q)(O_g:Q_g P w base cl tx j c_g)(O_13:z2y P w base cl tx 3 c_13)(O_1n:z0y P w base cl tx j c_1n):Q_g P w base cl tx (j+1) (λts=>zg (b_g c_1q c_g c_13 c_1n (en0 2 ts))):=by
 refine zp tx.C_g.F sc_g rfl (λcdv A outer s H E Y hy hr=> ?_) (λts h=>rfl);have nd:=sc_g.nd
 repeat' gp_on
theorem z2U {j:Nat}(hj:3<=j){c_k c_g:List T->R T}(O_k:Q_k P w base cl tx 1 c_k)(O_g:Q_g P w base cl tx j c_g):z0y P w base cl tx (j+1) (λts=>zg (z04 c_k c_g (en0 2 ts))):=by
 refine zp tx.C_1n.F Gs rfl (λcdv A outer s H E Y hy hr=> ?_) (λts h=>rfl);have nd:=Gs.nd
 repeat' gp_on
 refine Z8 (zW ["part","levels"] N_1n (zb z2m) (by rfl) (by rfl) (by decide+kernel) (by rfl) ?_ (λ_ _ _ _ _ _=>zm (show aL (["part","levels"]:List Str) by decide+kernel) (by rfl) (.inl (by rfl)) (.inr (by rfl))) (zE 0) (zF 0) (λY' hy' _ _ _ _ _ _=> ?_) (λY' hy' _ _ _ _ _ _ _ hp' => ?_))
 repeat' gp_on
theorem ok_4 {c_g:List T->R T}(O_g:Q_g P w base cl tx 23 c_g):Q_4 P w base cl tx 24 (λts=>zg (b_4 c_g (en0 1 ts))):=by
 obtain⟨u_DEEPEST,c_DEEPEST⟩:=tx.c_DEEPEST;refine zp tx.C_4.F sc_4 rfl (λcdv A outer s H E Y hy hr=> ?_) (λts h=>rfl);have nd:=sc_4.nd
 repeat' gp_on
theorem ok_8 {c_4:List T->R T}(O_4:Q_4 P w base cl tx 24 c_4):Q_8 P w base cl tx 25 (λts=>zg (b_8 c_4 (en0 1 ts))):=by
 refine zp tx.C_8.F sc_8 rfl (λcdv A outer s H E Y hy hr=> ?_) (λts h=>rfl);have nd:=sc_8.nd
 repeat' gp_on
theorem ok_5 {j:Nat}(hj:0<=j){c_5:List T->R T}(O_5:Q_5 P w base cl tx j c_5):Q_5 P w base cl tx (j+1) (λts=>zg (b_5 c_5 (en0 1 ts))):=by
 refine zp tx.C_5.F sc_5 rfl (λcdv A outer s H E Y hy hr=> ?_) (λts h=>rfl);have nd:=sc_5.nd
 repeat' gp_on
 refine Z8 (zW ["part"] N_5 (zb s_5) (by rfl) (by rfl) (by decide+kernel) (by rfl) ?_ (λ_ _ _ _ _ _=>zm (show aL (["part"]:List Str) by decide+kernel) (by rfl) (.inl (by rfl)) (.inr (by rfl))) (zE 0) (zF 0) (λY' hy' _ _ _ _ _ _=> ?_) (λY' hy' _ _ _ _ _ _ _ hp' => ?_))
 repeat' gp_on
theorem ok_e {c_8 c_5:List T->R T}(O_8:Q_8 P w base cl tx 25 c_8)(O_5:Q_5 P w base cl tx 8 c_5):Q_e P w base cl tx 26 (λts=>zg (b_e c_8 c_5 (en0 1 ts))):=by
 refine zp tx.C_e.F sc_e rfl (λcdv A outer s H E Y hy hr=> ?_) (λts h=>rfl);have nd:=sc_e.nd
 repeat' gp_on
theorem ok_n:Q_n P w base cl tx 1 (λts=>zg (b_n  (en0 5 ts))):=by
 refine zp tx.C_n.F sc_n rfl (λcdv A outer s H E Y hy hr=> ?_) (λts h=>rfl);have nd:=sc_n.nd
 repeat' gp_on
 refine Z8 (zW ["_law_one","_law_ahead"] N_n (zb s_n) (by rfl) (by rfl) (by decide+kernel) (by rfl) ?_ (λ_ _ _ _ _ _=>zm (show aL (["_law_one","_law_ahead"]:List Str) by decide+kernel) (by rfl) (.inl (by rfl)) (.inr (by rfl))) (zE 0) (zF 0) (λY' hy' _ _ _ _ _ _=> ?_) (λY' hy' _ _ _ _ _ _ _ hp' => ?_))
 repeat' gp_on
theorem ok_c {j:Nat}(hj:1<=j){c_c c_n:List T->R T}(O_c:Q_c P w base cl tx j c_c)(O_n:Q_n P w base cl tx 1 c_n):Q_c P w base cl tx (j+1) (λts=>zg (b_c c_c c_n (en0 3 ts))):=by
 refine zp tx.C_c.F sc_c rfl (λcdv A outer s H E Y hy hr=> ?_) (λts h=>rfl);have nd:=sc_c.nd
 repeat' gp_on
 refine Z8 (zW ["_law_word","_law_heavy"] N_c (zb s_c) (by rfl) (by rfl) (by decide+kernel) (by rfl) ?_ (λ_ _ _ _ _ _=>Jp (by rfl) (Z2 (zm (show aL (["_law_word","_law_heavy"]:List Str) by decide+kernel) (by rfl) (.inl (by rfl)) (.inr (by rfl))) (Z2 (zm (show aL (["_law_word","_law_heavy"]:List Str) by decide+kernel) (by rfl) (.inl (by rfl)) (.inr (by rfl))) jo))) (je _ 0 1) (jg 0 1) (λY' hy' _ _ _ _ _ _=> ?_) (λY' hy' _ _ _ _ _ _ _ hp' => ?_))
 repeat' gp_on
 refine Z8 (zW ["_law_one"] N_c (zb s_c) (by rfl) (by rfl) (by decide+kernel) (by rfl) ?_ (λ_ _ _ _ _ _=>zm (show aL (["_law_one"]:List Str) by decide+kernel) (by rfl) (.inl (by rfl)) (.inr (by rfl))) (zE 0) (zF 0) (λY' hy' _ _ _ _ _ _=> ?_) (λY' hy' _ _ _ _ _ _ _ hp' => ?_))
 repeat' gp_on
theorem ok_7 {j:Nat}(hj:0<=j){c_7 c_1s:List T->R T}(O_7:Q_7 P w base cl tx j c_7)(O_1s:z0z P w base cl tx j c_1s):Q_7 P w base cl tx (j+1) (λts=>zg (b_7 c_7 c_1s (en0 2 ts))):=by
 refine zp tx.C_7.F z2n rfl (λcdv A outer s H E Y hy hr=> ?_) (λts h=>rfl);have nd:=z2n.nd
 repeat' gp_on
 refine Wr (i:=1) (zW ["part"] N_7 (zb s_7) (by rfl) (by rfl) (by decide+kernel) (by rfl) ?_ (λ_ _ _ _ _ _=>zm (show aL (["part"]:List Str) by decide+kernel) (by rfl) (.inl (by rfl)) (.inr (by rfl))) (zE 0) (zF 0) (λY' hy' _ _ _ _ _ _=> ?_) (λY' hy' _ _ _ _ _ _ _ hp' => ?_)) z2n.nd (by rfl) (.inl (by rfl)) (by rfl)
 repeat' gp_on
 refine Z8 (zW ["least","most"] N_7 (zb s_7) (by rfl) (by rfl) (by decide+kernel) (by rfl) ?_ (λ_ _ _ _ _ _=>Jp (by rfl) (Z2 (zm (show aL (["least","most"]:List Str) by decide+kernel) (by rfl) (.inl (by rfl)) (.inr (by rfl))) (Z2 (zm (show aL (["least","most"]:List Str) by decide+kernel) (by rfl) (.inl (by rfl)) (.inr (by rfl))) jo))) (je _ 0 1) (jg 0 1) (λY' hy' _ _ _ _ _ _=> ?_) (λY' hy' _ _ _ _ _ _ _ hp' => ?_))
 repeat' gp_on
 refine Z8 (zW ["least","most"] N_7 (zb s_7) (by rfl) (by rfl) (by decide+kernel) (by rfl) ?_ (λ_ _ _ _ _ _=>Jp (by rfl) (Z2 (zm (show aL (["least","most"]:List Str) by decide+kernel) (by rfl) (.inl (by rfl)) (.inr (by rfl))) (Z2 (zm (show aL (["least","most"]:List Str) by decide+kernel) (by rfl) (.inl (by rfl)) (.inr (by rfl))) jo))) (je _ 0 1) (jg 0 1) (λY' hy' _ _ _ _ _ _=> ?_) (λY' hy' _ _ _ _ _ _ _ hp' => ?_))
 repeat' gp_on
theorem z2V {j:Nat}(hj:0<=j){c_7:List T->R T}(O_7:Q_7 P w base cl tx j c_7):z0z P w base cl tx (j+1) (λts=>zg (gq c_7 (en0 2 ts))):=by
 refine zp tx.C_1s.F Gu rfl (λcdv A outer s H E Y hy hr=> ?_) (λts h=>rfl);have nd:=Gu.nd
 repeat' gp_on
theorem ok_1 {c_8 c_7:List T->R T}(O_8:Q_8 P w base cl tx 25 c_8)(O_7:Q_7 P w base cl tx 8 c_7):Q_1 P w base cl tx 26 (λts=>zg (b_1 c_8 c_7 (en0 1 ts))):=by
 refine zp tx.C_1.F sc_1 rfl (λcdv A outer s H E Y hy hr=> ?_) (λts h=>rfl);have nd:=sc_1.nd
 repeat' gp_on
theorem z2W:z2z P w base cl tx 1 (λts=>zg (z05  (en0 3 ts))):=by
 refine zp tx.C_1g.F Gv rfl (λcdv A outer s H E Y hy hr=> ?_) (λts h=>rfl);have nd:=Gv.nd
 repeat' gp_on
theorem ok_l {c_1g:List T->R T}(O_1g:z2z P w base cl tx 1 c_1g):Q_l P w base cl tx 2 (λts=>zg (b_l c_1g (en0 3 ts))):=by
 refine zp tx.C_l.F sc_l rfl (λcdv A outer s H E Y hy hr=> ?_) (λts h=>rfl);have nd:=sc_l.nd
 repeat' gp_on
theorem ok_v {c_l:List T->R T}(O_l:Q_l P w base cl tx 2 c_l):Q_v P w base cl tx 3 (λts=>zg (b_v c_l (en0 2 ts))):=by
 refine zp tx.C_v.F sc_v rfl (λcdv A outer s H E Y hy hr=> ?_) (λts h=>rfl);have nd:=sc_v.nd
 repeat' gp_on
theorem z2X {c_l:List T->R T}(O_l:Q_l P w base cl tx 2 c_l):z2A P w base cl tx 3 (λts=>zg (z06 c_l (en0 2 ts))):=by
 refine zp tx.C_1l.F Gw rfl (λcdv A outer s H E Y hy hr=> ?_) (λts h=>rfl);have nd:=Gw.nd
 repeat' gp_on
theorem z2Y {c_1l:List T->R T}(O_1l:z2A P w base cl tx 3 c_1l):z2B P w base cl tx 4 (λts=>zg (z07 c_1l (en0 3 ts))):=by
 refine zp tx.C_1m.F Gx rfl (λcdv A outer s H E Y hy hr=> ?_) (λts h=>rfl);have nd:=Gx.nd
 repeat' gp_on
theorem ok_r {j:Nat}(hj:4<=j){c_l c_v c_1m c_r:List T->R T}(O_l:Q_l P w base cl tx 2 c_l)(O_v:Q_v P w base cl tx 3 c_v)(O_1m:z2B P w base cl tx 4 c_1m)(O_r:Q_r P w base cl tx j c_r):Q_r P w base cl tx (j+1) (λts=>zg (b_r c_l c_v c_1m c_r (en0 2 ts))):=by
 refine zp tx.C_r.F sc_r rfl (λcdv A outer s H E Y hy hr=> ?_) (λts h=>rfl);have nd:=sc_r.nd
 repeat' gp_on
 refine Z8 (zW ["part"] N_r (zb s_r) (by rfl) (by rfl) (by decide+kernel) (by rfl) ?_ (λ_ _ _ _ _ _=>zm (show aL (["part"]:List Str) by decide+kernel) (by rfl) (.inl (by rfl)) (.inr (by rfl))) (zE 0) (zF 0) (λY' hy' _ _ _ _ _ _=> ?_) (λY' hy' _ _ _ _ _ _ _ hp' => ?_))
 repeat' gp_on
theorem ok_9 {c_8 c_r:List T->R T}(O_8:Q_8 P w base cl tx 25 c_8)(O_r:Q_r P w base cl tx 24 c_r):Q_9 P w base cl tx 26 (λts=>zg (b_9 c_8 c_r (en0 1 ts))):=by
 refine zp tx.C_9.F sc_9 rfl (λcdv A outer s H E Y hy hr=> ?_) (λts h=>rfl);have nd:=sc_9.nd
 repeat' gp_on
theorem z2Z:z2C P w base cl tx 1 (λts=>zg (b_1p  (en0 2 ts))):=by
 refine zp tx.C_1p.F Gy rfl (λcdv A outer s H E Y hy hr=> ?_) (λts h=>rfl);have nd:=Gy.nd
 repeat' gp_on
theorem ok_f {c_1p:List T->R T}(O_1p:z2C P w base cl tx 1 c_1p):Q_f P w base cl tx 2 (λts=>zg (b_f c_1p (en0 4 ts))):=by
 refine zp tx.C_f.F sc_f rfl (λcdv A outer s H E Y hy hr=> ?_) (λts h=>rfl);have nd:=sc_f.nd
 repeat' gp_on
theorem z30 {c_f:List T->R T}(O_f:Q_f P w base cl tx 2 c_f):z2D P w base cl tx 3 (λts=>zg (z09 c_f (en0 3 ts))):=by
 refine zp tx.C_19.F Gz rfl (λcdv A outer s H E Y hy hr=> ?_) (λts h=>rfl);have nd:=Gz.nd
 repeat' gp_on
 refine Z8 (zW ["_law_k","_law_script","_law_at","_law_letters"] N_19 (zb z2o) (by rfl) (by rfl) (by decide+kernel) (by rfl) ?_ (λ_ _ _ _ _ _=>zm (show aL (["_law_k","_law_script","_law_at","_law_letters"]:List Str) by decide+kernel) (by rfl) (.inl (by rfl)) (.inr (by rfl))) (zE 0) (zF 0) (λY' hy' _ _ _ _ _ _=> ?_) (λY' hy' _ _ _ _ _ _ _ hp' => ?_))
 repeat' gp_on
theorem z31 {c_f c_19:List T->R T}(O_f:Q_f P w base cl tx 2 c_f)(O_19:z2D P w base cl tx 3 c_19):z2E P w base cl tx 4 (λts=>zg (z0a c_f c_19 (en0 6 ts))):=by
 refine zp tx.C_1b.F GA rfl (λcdv A outer s H E Y hy hr=> ?_) (λts h=>rfl);have nd:=GA.nd
 repeat' gp_on
 refine Z8 (zW ["_law_k","_law_word","_law_script","_law_at"] N_1b (zb z2p) (by rfl) (by rfl) (by decide+kernel) (by rfl) ?_ (λ_ _ _ _ _ _=>Jp (by rfl) (Z2 (zm (show aL (["_law_k","_law_word","_law_script","_law_at"]:List Str) by decide+kernel) (by rfl) (.inl (by rfl)) (.inr (by rfl))) (Z2 (zm (show aL (["_law_k","_law_word","_law_script","_law_at"]:List Str) by decide+kernel) (by rfl) (.inl (by rfl)) (.inr (by rfl))) jo))) (je _ 0 1) (jg 0 1) (λY' hy' _ _ _ _ _ _=> ?_) (λY' hy' _ _ _ _ _ _ _ hp' => ?_))
 repeat' gp_on
theorem ok_o {j:Nat}(hj:4<=j){c_f c_1b c_o:List T->R T}(O_f:Q_f P w base cl tx 2 c_f)(O_1b:z2E P w base cl tx 4 c_1b)(O_o:Q_o P w base cl tx j c_o):Q_o P w base cl tx (j+1) (λts=>zg (b_o c_f c_1b c_o (en0 6 ts))):=by
 refine zp tx.C_o.F z2q rfl (λcdv A outer s H E Y hy hr=> ?_) (λts h=>rfl);have nd:=z2q.nd
 repeat' gp_on
 refine Wr (i:=4) (zW ["_law_k","_law_script","_law_at","_law_deep"] N_o (zb s_o) (by rfl) (by rfl) (by decide+kernel) (by rfl) ?_ (λ_ _ _ _ _ _=>zm (show aL (["_law_k","_law_script","_law_at","_law_deep"]:List Str) by decide+kernel) (by rfl) (.inl (by rfl)) (.inr (by rfl))) (zE 0) (zF 0) (λY' hy' _ _ _ _ _ _=> ?_) (λY' hy' _ _ _ _ _ _ _ hp' => ?_)) z2q.nd (by rfl) (.inl (by rfl)) (by rfl)
 repeat' gp_on
theorem ok_i {j:Nat}(hj:9<=j){c_c c_i:List T->R T}(O_c:Q_c P w base cl tx 9 c_c)(O_i:Q_i P w base cl tx j c_i):Q_i P w base cl tx (j+1) (λts=>zg (b_i c_c c_i (en0 5 ts))):=by
 refine zp tx.C_i.F sc_i rfl (λcdv A outer s H E Y hy hr=> ?_) (λts h=>rfl);have nd:=sc_i.nd
 repeat' gp_on
 refine Z8 (zW ["_law_one"] N_i (zb s_i) (by rfl) (by rfl) (by decide+kernel) (by rfl) ?_ (λ_ _ _ _ _ _=>zm (show aL (["_law_one"]:List Str) by decide+kernel) (by rfl) (.inl (by rfl)) (.inr (by rfl))) (zE 0) (zF 0) (λY' hy' _ _ _ _ _ _=> ?_) (λY' hy' _ _ _ _ _ _ _ hp' => ?_))
 repeat' gp_on
theorem z32 {c_o c_i:List T->R T}(O_o:Q_o P w base cl tx 12 c_o)(O_i:Q_i P w base cl tx 17 c_i):z2F P w base cl tx 18 (λts=>zg (z0b c_o c_i (en0 5 ts))):=by
 refine zp tx.C_14.F GB rfl (λcdv A outer s H E Y hy hr=> ?_) (λts h=>rfl);have nd:=GB.nd
 repeat' gp_on
theorem ok_h:Q_h P w base cl tx 1 (λts=>zg (b_h  (en0 1 ts))):=by
 refine zp tx.C_h.F sc_h rfl (λcdv A outer s H E Y hy hr=> ?_) (λts h=>rfl);have nd:=sc_h.nd
 repeat' gp_on
 refine Z8 (zW ["choice"] N_h (zb s_h) (by rfl) (by rfl) (by decide+kernel) (by rfl) ?_ (λ_ _ _ _ _ _=>zm (show aL (["choice"]:List Str) by decide+kernel) (by rfl) (.inl (by rfl)) (.inr (by rfl))) (zE 0) (zF 0) (λY' hy' _ _ _ _ _ _=> ?_) (λY' hy' _ _ _ _ _ _ _ hp' => ?_))
 repeat' gp_on
theorem ok_m {j:Nat}(hj:1<=j){c_u c_k c_h c_1k:List T->R T}(O_u:Q_u P w base cl tx 1 c_u)(O_k:Q_k P w base cl tx 1 c_k)(O_h:Q_h P w base cl tx 1 c_h)(O_1k:z0A P w base cl tx j c_1k):Q_m P w base cl tx (j+1) (λts=>zg (b_m c_u c_k c_h c_1k (en0 2 ts))):=by
 refine zp tx.C_m.F sc_m rfl (λcdv A outer s H E Y hy hr=> ?_) (λts h=>rfl);have nd:=sc_m.nd
 repeat' gp_on
theorem z33 {j:Nat}(hj:1<=j){c_m:List T->R T}(O_m:Q_m P w base cl tx j c_m):z0A P w base cl tx (j+1) (λts=>zg (gA c_m (en0 2 ts))):=by
 refine zp tx.C_1k.F GC rfl (λcdv A outer s H E Y hy hr=> ?_) (λts h=>rfl);have nd:=GC.nd
 repeat' gp_on
 refine Z8 (zW ["kind","part"] N_1k (zb z2r) (by rfl) (by rfl) (by decide+kernel) (by rfl) ?_ (λ_ _ _ _ _ _=>Jp (by rfl) (Z2 (zm (show aL (["kind","part"]:List Str) by decide+kernel) (by rfl) (.inl (by rfl)) (.inr (by rfl))) (Z2 (zm (show aL (["kind","part"]:List Str) by decide+kernel) (by rfl) (.inl (by rfl)) (.inr (by rfl))) jo))) (je _ 0 1) (jg 0 1) (λY' hy' _ _ _ _ _ _=> ?_) (λY' hy' _ _ _ _ _ _ _ hp' => ?_))
 repeat' gp_on
theorem ok_y {c_8 c_m:List T->R T}(O_8:Q_8 P w base cl tx 25 c_8)(O_m:Q_m P w base cl tx 21 c_m):Q_y P w base cl tx 26 (λts=>zg (b_y c_8 c_m (en0 2 ts))):=by
 refine zp tx.C_y.F sc_y rfl (λcdv A outer s H E Y hy hr=> ?_) (λts h=>rfl);have nd:=sc_y.nd
 repeat' gp_on
theorem z34 {c_y:List T->R T}(O_y:Q_y P w base cl tx 26 c_y):z0B P w base cl tx 27 (λts=>zg (z0c c_y (en0 2 ts))):=by
 refine zp tx.C_10.F GD rfl (λcdv A outer s H E Y hy hr=> ?_) (λts h=>rfl);have nd:=GD.nd
 repeat' gp_on
theorem ok_t {j:Nat}(hj:0<=j){c_t:List T->R T}(O_t:Q_t P w base cl tx j c_t):Q_t P w base cl tx (j+1) (λts=>zg (b_t c_t (en0 1 ts))):=by
 refine zp tx.C_t.F sc_t rfl (λcdv A outer s H E Y hy hr=> ?_) (λts h=>rfl);have nd:=sc_t.nd
 repeat' gp_on
 refine Z8 (zW ["part"] N_t (zb s_t) (by rfl) (by rfl) (by decide+kernel) (by rfl) ?_ (λ_ _ _ _ _ _=>zm (show aL (["part"]:List Str) by decide+kernel) (by rfl) (.inl (by rfl)) (.inr (by rfl))) (zE 0) (zF 0) (λY' hy' _ _ _ _ _ _=> ?_) (λY' hy' _ _ _ _ _ _ _ hp' => ?_))
 repeat' gp_on
theorem z35 {c_10 c_t:List T->R T}(O_10:z0B P w base cl tx 27 c_10)(O_t:Q_t P w base cl tx 8 c_t):z2G P w base cl tx 28 (λts=>zg (z0d c_10 c_t (en0 2 ts))):=by
 refine zp tx.C_15.F GE rfl (λcdv A outer s H E Y hy hr=> ?_) (λts h=>rfl);have nd:=GE.nd
 repeat' gp_on
theorem z36:z2H P w base cl tx 1 (λts=>zg (z0e  (en0 4 ts))):=by
 refine zp tx.C_1i.F GF rfl (λcdv A outer s H E Y hy hr=> ?_) (λts h=>rfl);have nd:=GF.nd
 repeat' gp_on
theorem z37 {c_h:List T->R T}(O_h:Q_h P w base cl tx 1 c_h):z2I P w base cl tx 2 (λts=>zg (z0f c_h (en0 4 ts))):=by
 refine zp tx.C_1a.F XZ rfl (λcdv A outer s H E Y hy hr=> ?_) (λts h=>rfl);have nd:=XZ.nd
 repeat' gp_on
 refine Wr (i:=3) (zW ["choice","words"] N_1a (zb z2s) (by rfl) (by rfl) (by decide+kernel) (by rfl) ?_ (λ_ _ _ _ _ _=>zm (show aL (["choice","words"]:List Str) by decide+kernel) (by rfl) (.inl (by rfl)) (.inr (by rfl))) (zE 0) (zF 0) (λY' hy' _ _ _ _ _ _=> ?_) (λY' hy' _ _ _ _ _ _ _ hp' => ?_)) XZ.nd (by rfl) (.inl (by rfl)) (by rfl)
 repeat' gp_on
theorem z38:z2J P w base cl tx 1 (λts=>zg (z0g  (en0 2 ts))):=by
 refine zp tx.C_1c.F GG rfl (λcdv A outer s H E Y hy hr=> ?_) (λts h=>rfl);have nd:=GG.nd
 repeat' gp_on
theorem ok_d {j:Nat}(hj:2<=j){c_1c c_1j c_1i c_1a c_1t:List T->R T}(O_1c:z2J P w base cl tx 1 c_1c)(O_1j:z0C P w base cl tx j c_1j)(O_1i:z2H P w base cl tx 1 c_1i)(O_1a:z2I P w base cl tx 2 c_1a)(O_1t:z0D P w base cl tx j c_1t):Q_d P w base cl tx (j+1) (λts=>zg (b_d c_1c c_1j c_1i c_1a c_1t (en0 2 ts))):=by
 refine zp tx.C_d.F sc_d rfl (λcdv A outer s H E Y hy hr=> ?_) (λts h=>rfl);have nd:=sc_d.nd
 repeat' gp_on
theorem z39 {j:Nat}(hj:2<=j){c_d:List T->R T}(O_d:Q_d P w base cl tx j c_d):z0C P w base cl tx (j+1) (λts=>zg (z0h c_d (en0 3 ts))):=by
 refine zp tx.C_1j.F k0 rfl (λcdv A outer s H E Y hy hr=> ?_) (λts h=>rfl);have nd:=k0.nd
 repeat' gp_on
 refine Wr (i:=2) (zW ["one","other"] N_1j (zb z2t) (by rfl) (by rfl) (by decide+kernel) (by rfl) ?_ (λ_ _ _ _ _ _=>Jp (by rfl) (Z2 (zm (show aL (["one","other"]:List Str) by decide+kernel) (by rfl) (.inl (by rfl)) (.inr (by rfl))) (Z2 (zm (show aL (["one","other"]:List Str) by decide+kernel) (by rfl) (.inl (by rfl)) (.inr (by rfl))) jo))) (je _ 0 1) (jg 0 1) (λY' hy' _ _ _ _ _ _=> ?_) (λY' hy' _ _ _ _ _ _ _ hp' => ?_)) k0.nd (by rfl) (.inl (by rfl)) (by rfl)
 repeat' gp_on
theorem z3a {j:Nat}(hj:2<=j){c_d:List T->R T}(O_d:Q_d P w base cl tx j c_d):z0D P w base cl tx (j+1) (λts=>zg (z0i c_d (en0 5 ts))):=by
 refine zp tx.C_1t.F GH rfl (λcdv A outer s H E Y hy hr=> ?_) (λts h=>rfl);have nd:=GH.nd
 repeat' gp_on
theorem ok_x {c_8 c_d:List T->R T}(O_8:Q_8 P w base cl tx 25 c_8)(O_d:Q_d P w base cl tx 22 c_d):Q_x P w base cl tx 26 (λts=>zg (b_x c_8 c_d (en0 2 ts))):=by
 refine zp tx.C_x.F sc_x rfl (λcdv A outer s H E Y hy hr=> ?_) (λts h=>rfl);have nd:=sc_x.nd
 repeat' gp_on
theorem ok_2 {j:Nat}(hj:0<=j){c_z c_w:List T->R T}(O_z:Q_z P w base cl tx j c_z)(O_w:Q_w P w base cl tx j c_w):Q_2 P w base cl tx (j+1) (λts=>zg (b_2 c_z c_w (en0 1 ts))):=by
 refine zp tx.C_2.F sc_2 rfl (λcdv A outer s H E Y hy hr=> ?_) (λts h=>rfl);have nd:=sc_2.nd
 repeat' gp_on
theorem ok_z {j:Nat}(hj:0<=j){c_2:List T->R T}(O_2:Q_2 P w base cl tx j c_2):Q_z P w base cl tx (j+1) (λts=>zg (b_z c_2 (en0 3 ts))):=by
 refine zp tx.C_z.F sc_z rfl (λcdv A outer s H E Y hy hr=> ?_) (λts h=>rfl);have nd:=sc_z.nd
 repeat' gp_on
theorem ok_w {j:Nat}(hj:0<=j){c_z:List T->R T}(O_z:Q_z P w base cl tx j c_z):Q_w P w base cl tx (j+1) (λts=>zg (b_w c_z (en0 2 ts))):=by
 refine zp tx.C_w.F sc_w rfl (λcdv A outer s H E Y hy hr=> ?_) (λts h=>rfl);have nd:=sc_w.nd
 repeat' gp_on
 refine Z8 (zW ["each","kind"] N_w (zb s_w) (by rfl) (by rfl) (by decide+kernel) (by rfl) ?_ (λ_ _ _ _ _ _=>zm (show aL (["each","kind"]:List Str) by decide+kernel) (by rfl) (.inl (by rfl)) (.inr (by rfl))) (zE 0) (zF 0) (λY' hy' _ _ _ _ _ _=> ?_) (λY' hy' _ _ _ _ _ _ _ hp' => ?_))
 repeat' gp_on
theorem z3b {c_2 c_x:List T->R T}(O_2:Q_2 P w base cl tx 20 c_2)(O_x:Q_x P w base cl tx 26 c_x):z2K P w base cl tx 27 (λts=>zg (z0j c_2 c_x (en0 3 ts))):=by
 refine zp tx.C_11.F GI rfl (λcdv A outer s H E Y hy hr=> ?_) (λts h=>rfl);have nd:=GI.nd
 repeat' gp_on
theorem z3c {c_x:List T->R T}(O_x:Q_x P w base cl tx 26 c_x):z2L P w base cl tx 27 (λts=>zg (z0k c_x (en0 2 ts))):=by
 refine zp tx.C_17.F GJ rfl (λcdv A outer s H E Y hy hr=> ?_) (λts h=>rfl);have nd:=GJ.nd
 repeat' gp_on
theorem z3d {c_8 c_2:List T->R T}(O_8:Q_8 P w base cl tx 25 c_8)(O_2:Q_2 P w base cl tx 20 c_2):z2M P w base cl tx 26 (λts=>zg (z0l c_8 c_2 (en0 1 ts))):=by
 refine zp tx.C_1e.F GK rfl (λcdv A outer s H E Y hy hr=> ?_) (λts h=>rfl);have nd:=GK.nd
 repeat' gp_on
theorem ok_b:Q_b P w base cl tx 1 (λts=>zg (b_b  (en0 1 ts))):=by
 refine zp tx.C_b.F sc_b rfl (λcdv A outer s H E Y hy hr=> ?_) (λts h=>rfl);have nd:=sc_b.nd
 repeat' gp_on
theorem ok_s {j:Nat}(hj:1<=j){c_b c_s:List T->R T}(O_b:Q_b P w base cl tx 1 c_b)(O_s:Q_s P w base cl tx j c_s):Q_s P w base cl tx (j+1) (λts=>zg (b_s c_b c_s (en0 1 ts))):=by
 refine zp tx.C_s.F sc_s rfl (λcdv A outer s H E Y hy hr=> ?_) (λts h=>rfl);have nd:=sc_s.nd
 repeat' gp_on
 refine Z8 (zW ["part"] N_s (zb s_s) (by rfl) (by rfl) (by decide+kernel) (by rfl) ?_ (λ_ _ _ _ _ _=>zm (show aL (["part"]:List Str) by decide+kernel) (by rfl) (.inl (by rfl)) (.inr (by rfl))) (zE 0) (zF 0) (λY' hy' _ _ _ _ _ _=> ?_) (λY' hy' _ _ _ _ _ _ _ hp' => ?_))
 repeat' gp_on
theorem ok_a {c_8 c_s:List T->R T}(O_8:Q_8 P w base cl tx 25 c_8)(O_s:Q_s P w base cl tx 9 c_s):Q_a P w base cl tx 26 (λts=>zg (b_a c_8 c_s (en0 1 ts))):=by
 refine zp tx.C_a.F sc_a rfl (λcdv A outer s H E Y hy hr=> ?_) (λts h=>rfl);have nd:=sc_a.nd
 repeat' gp_on
theorem z3e {c_l:List T->R T}(O_l:Q_l P w base cl tx 2 c_l):z2N P w base cl tx 3 (λts=>zg (z0m c_l (en0 3 ts))):=by
 refine zp tx.C_1h.F k6 rfl (λcdv A outer s H E Y hy hr=> ?_) (λts h=>rfl);have nd:=k6.nd
 repeat' gp_on
 refine X4 (i:=2) (j:=1) (by decide) hy O_l hr (by omega) (by rfl) tx.C_l.m tx.C_l.F.kp tx.C_l.b k6.nd (by rfl) (.inl (by rfl)) (by rfl) tx.z_dict (by rfl) tx.z_sum (pv 2) (pv 1) ?_ (pi' :=pv 2)
 repeat' gp_on
theorem ok_p {j:Nat}(hj:20<=j){c_2 c_v c_1h c_1o:List T->R T}(O_2:Q_2 P w base cl tx 20 c_2)(O_v:Q_v P w base cl tx 3 c_v)(O_1h:z2N P w base cl tx 3 c_1h)(O_1o:z0E P w base cl tx j c_1o):Q_p P w base cl tx (j+1) (λts=>zg (b_p c_2 c_v c_1h c_1o (en0 3 ts))):=by
 refine zp tx.C_p.F sc_p rfl (λcdv A outer s H E Y hy hr=> ?_) (λts h=>rfl);have nd:=sc_p.nd
 repeat' gp_on
theorem z3f {j:Nat}(hj:20<=j){c_v c_p:List T->R T}(O_v:Q_v P w base cl tx 3 c_v)(O_p:Q_p P w base cl tx j c_p):z0E P w base cl tx (j+1) (λts=>zg (gD c_v c_p (en0 5 ts))):=by
 refine zp tx.C_1o.F GL rfl (λcdv A outer s H E Y hy hr=> ?_) (λts h=>rfl);have nd:=GL.nd
 repeat' gp_on
theorem ok_6 {c_10 c_p:List T->R T}(O_10:z0B P w base cl tx 27 c_10)(O_p:Q_p P w base cl tx 40 c_p):Q_6 P w base cl tx 41 (λts=>zg (b_6 c_10 c_p (en0 2 ts))):=by
 refine zp tx.C_6.F sc_6 rfl (λcdv A outer s H E Y hy hr=> ?_) (λts h=>rfl);have nd:=sc_6.nd
 repeat' gp_on
theorem ok_3 {j:Nat}(hj:1<=j){c_h c_b c_3:List T->R T}(O_h:Q_h P w base cl tx 1 c_h)(O_b:Q_b P w base cl tx 1 c_b)(O_3:Q_3 P w base cl tx j c_3):Q_3 P w base cl tx (j+1) (λts=>zg (b_3 c_h c_b c_3 (en0 3 ts))):=by
 refine zp tx.C_3.F sc_3 rfl (λcdv A outer s H E Y hy hr=> ?_) (λts h=>rfl);have nd:=sc_3.nd
 repeat' gp_on
theorem z3g {c_8 c_3:List T->R T}(O_8:Q_8 P w base cl tx 25 c_8)(O_3:Q_3 P w base cl tx 9 c_3):z2O P w base cl tx 26 (λts=>zg (z0o c_8 c_3 (en0 1 ts))):=by
 refine zp tx.C_18.F GM rfl (λcdv A outer s H E Y hy hr=> ?_) (λts h=>rfl);have nd:=GM.nd
 repeat' gp_on
theorem ok_q {j:Nat}(hj:0<=j){c_q:List T->R T}(O_q:Q_q P w base cl tx j c_q):Q_q P w base cl tx (j+1) (λts=>zg (b_q c_q (en0 1 ts))):=by
 refine zp tx.C_q.F sc_q rfl (λcdv A outer s H E Y hy hr=> ?_) (λts h=>rfl);have nd:=sc_q.nd
 repeat' gp_on
 refine Z8 (zW ["_law_part"] N_q (zb s_q) (by rfl) (by rfl) (by decide+kernel) (by rfl) ?_ (λ_ _ _ _ _ _=>zm (show aL (["_law_part"]:List Str) by decide+kernel) (by rfl) (.inl (by rfl)) (.inr (by rfl))) (zE 0) (zF 0) (λY' hy' _ _ _ _ _ _=> ?_) (λY' hy' _ _ _ _ _ _ _ hp' => ?_))
 repeat' gp_on
theorem ok_j {j:Nat}(hj:20<=j){c_h c_1r c_12:List T->R T}(O_h:Q_h P w base cl tx 1 c_h)(O_1r:z0F P w base cl tx j c_1r)(O_12:GQ P w base cl tx j c_12):Q_j P w base cl tx (j+1) (λts=>zg (b_j c_h c_1r c_12 (en0 2 ts))):=by
 refine zp tx.C_j.F sc_j rfl (λcdv A outer s H E Y hy hr=> ?_) (λts h=>rfl);have nd:=sc_j.nd
 repeat' gp_on
theorem z3h {j:Nat}(hj:20<=j){c_w c_12:List T->R T}(O_w:Q_w P w base cl tx 20 c_w)(O_12:GQ P w base cl tx j c_12):z0F P w base cl tx (j+1) (λts=>zg (kg c_w c_12 (en0 3 ts))):=by
 refine zp tx.C_1r.F GN rfl (λcdv A outer s H E Y hy hr=> ?_) (λts h=>rfl);have nd:=GN.nd
 repeat' gp_on
theorem z3i {j:Nat}(hj:20<=j){c_2 c_j:List T->R T}(O_2:Q_2 P w base cl tx 20 c_2)(O_j:Q_j P w base cl tx j c_j):GQ P w base cl tx (j+1) (λts=>zg (Xd c_2 c_j (en0 6 ts))):=by
 refine zp tx.C_12.F GO rfl (λcdv A outer s H E Y hy hr=> ?_) (λts h=>rfl);have nd:=GO.nd
 repeat' gp_on
theorem z3j {c_8 c_2 c_j:List T->R T}(O_8:Q_8 P w base cl tx 25 c_8)(O_2:Q_2 P w base cl tx 20 c_2)(O_j:Q_j P w base cl tx 40 c_j):z2P P w base cl tx 41 (λts=>zg (z0p c_8 c_2 c_j (en0 2 ts))):=by
 obtain⟨u_MOST_TOLD,c_MOST_TOLD⟩:=tx.c_MOST_TOLD;refine zp tx.C_16.F GP rfl (λcdv A outer s H E Y hy hr=> ?_) (λts h=>rfl);have nd:=GP.nd
 repeat' gp_on
 refine Z8 (zW ["number","kind"] N_16 (zb z2u) (by rfl) (by rfl) (by decide+kernel) (by rfl) ?_ (λ_ _ _ _ _ _=>zm (show aL (["number","kind"]:List Str) by decide+kernel) (by rfl) (.inl (by rfl)) (.inr (by rfl))) (zE 0) (zF 0) (λY' hy' _ _ _ _ _ _=> ?_) (λY' hy' _ _ _ _ _ _ _ hp' => ?_))
 repeat' gp_on
theorem ok_0 {c_4 c_y c_1e c_16 c_c c_14 c_a c_18 c_1 c_e c_15 c_11 c_17 c_6 c_9 c_q:List T->R T}(O_4:Q_4 P w base cl tx 24 c_4)(O_y:Q_y P w base cl tx 26 c_y)(O_1e:z2M P w base cl tx 26 c_1e)(O_16:z2P P w base cl tx 41 c_16)(O_c:Q_c P w base cl tx 9 c_c)(O_14:z2F P w base cl tx 18 c_14)(O_a:Q_a P w base cl tx 26 c_a)(O_18:z2O P w base cl tx 26 c_18)(O_1:Q_1 P w base cl tx 26 c_1)(O_e:Q_e P w base cl tx 26 c_e)(O_15:z2G P w base cl tx 28 c_15)(O_11:z2K P w base cl tx 27 c_11)(O_17:z2L P w base cl tx 27 c_17)(O_6:Q_6 P w base cl tx 41 c_6)(O_9:Q_9 P w base cl tx 26 c_9)(O_q:Q_q P w base cl tx 8 c_q):Q_0 P w base cl tx 42 (λts=>zg (b_0 c_4 c_y c_1e c_16 c_c c_14 c_a c_18 c_1 c_e c_15 c_11 c_17 c_6 c_9 c_q (en0 11 ts))):=by
 refine zp tx.C_0.F sc_0 rfl (λcdv A outer s H E Y hy hr=> ?_) (λts h=>rfl);have nd:=sc_0.nd
 repeat' gp_on
 refine Z8 (zW ["_law_worth","_law_due"] N_0 (zb s_0) (by rfl) (by rfl) (by decide+kernel) (by rfl) ?_ (λ_ _ _ _ _ _=>zm (show aL (["_law_worth","_law_due"]:List Str) by decide+kernel) (by rfl) (.inl (by rfl)) (.inr (by rfl))) (zE 0) (zF 0) (λY' hy' _ _ _ _ _ _=> ?_) (λY' hy' _ _ _ _ _ _ _ hp' => ?_))
 repeat' gp_on
end
theorem zX {P:Program}{w:World}{K:al}{mg:Str->Option Value}{base:Heap}{CX:CXT}{cl:Nat->Value}{k n:Nat}{f:Addr}{fd:FuncData}{ps:List Str}(hn:n=ps.length):zV P w K mg base CX k f fd ps (spP cl n (λ_=> .bad)):=
 ⟨λvs H Q E h=>by rw[← hn];exact spP.len vs H Q E h,λA outer s H args us vs Q E _ _ _ _ ⟨B,ts,_,_,_,q⟩=>q.elim⟩
section
variable {P:Program}{w:World}{K:al}{mg:Str->Option Value}{base:Heap}{cl:Nat->Value}{tx:Tx K mg}
theorem GR:Q_0 P w base cl tx 42 f_0:=by
 have O_u:Q_u P w base cl tx 1 f_u:=ok_u;have O_1q:z2v P w base cl tx 2 z01:=z2Q O_u;have O_k:Q_k P w base cl tx 1 f_k:=ok_k;have O_1f:z2w P w base cl tx 1 ka:=z2R;have O_1d:z2x P w base cl tx 2 Xc:=z2S O_u O_k O_1f;have O_13:z2y P w base cl tx 3 gp:=z2T O_k O_1d;have R_g:∀n:Nat,Q_g P w base cl tx (3+n) (S_g n 0)/\z0y P w base cl tx (3+n) (S_g n 1):=by
  intro n
  induction n with
  | zero=>exact⟨zX rfl,zX rfl⟩
  | succ n ih=>
   exact⟨ok_g (j:=3+n) (by omega) O_1q ih.1 O_13 ih.2,z2U (j:=3+n) (by omega) O_k ih.1⟩
 have O_g:Q_g P w base cl tx 23 (f_g 20):=(R_g 20).1;have O_1n:z0y P w base cl tx 23 (f_1n 20):=(R_g 20).2;have O_4:Q_4 P w base cl tx 24 f_4:=ok_4 O_g;have O_8:Q_8 P w base cl tx 25 f_8:=ok_8 O_4;have R_5:∀n:Nat,Q_5 P w base cl tx (0+n) (S_5 n 0):=by
  intro n
  induction n with
  | zero=>exact zX rfl
  | succ n ih=>
   exact ok_5 (j:=0+n) (by omega) ih
 have O_5:Q_5 P w base cl tx 8 (f_5 8):=(R_5 8);have O_e:Q_e P w base cl tx 26 f_e:=ok_e O_8 O_5;have O_n:Q_n P w base cl tx 1 f_n:=ok_n;have R_c:∀n:Nat,Q_c P w base cl tx (1+n) (S_c n 0):=by
  intro n
  induction n with
  | zero=>exact zX rfl
  | succ n ih=>
   exact ok_c (j:=1+n) (by omega) ih O_n
 have O_c:Q_c P w base cl tx 9 (f_c 8):=(R_c 8);have R_7:∀n:Nat,Q_7 P w base cl tx (0+n) (S_7 n 0)/\z0z P w base cl tx (0+n) (S_7 n 1):=by
  intro n
  induction n with
  | zero=>exact⟨zX rfl,zX rfl⟩
  | succ n ih=>
   exact⟨ok_7 (j:=0+n) (by omega) ih.1 ih.2,z2V (j:=0+n) (by omega) ih.1⟩
 have O_7:Q_7 P w base cl tx 8 (f_7 8):=(R_7 8).1;have O_1s:z0z P w base cl tx 8 (f_1s 8):=(R_7 8).2;have O_1:Q_1 P w base cl tx 26 f_1:=ok_1 O_8 O_7;have O_1g:z2z P w base cl tx 1 gr:=z2W;have O_l:Q_l P w base cl tx 2 f_l:=ok_l O_1g;have O_v:Q_v P w base cl tx 3 f_v:=ok_v O_l;have O_1l:z2A P w base cl tx 3 gu:=z2X O_l;have O_1m:z2B P w base cl tx 4 z08:=z2Y O_1l;have R_r:∀n:Nat,Q_r P w base cl tx (4+n) (S_r n 0):=by
  intro n
  induction n with
  | zero=>exact zX rfl
  | succ n ih=>
   exact ok_r (j:=4+n) (by omega) O_l O_v O_1m ih
 have O_r:Q_r P w base cl tx 24 (f_r 20):=(R_r 20);have O_9:Q_9 P w base cl tx 26 f_9:=ok_9 O_8 O_r;have O_1p:z2C P w base cl tx 1 gx:=z2Z;have O_f:Q_f P w base cl tx 2 f_f:=ok_f O_1p;have O_19:z2D P w base cl tx 3 kb:=z30 O_f;have O_1b:z2E P w base cl tx 4 gy:=z31 O_f O_19;have R_o:∀n:Nat,Q_o P w base cl tx (4+n) (S_o n 0):=by
  intro n
  induction n with
  | zero=>exact zX rfl
  | succ n ih=>
   exact ok_o (j:=4+n) (by omega) O_f O_1b ih
 have O_o:Q_o P w base cl tx 12 (f_o 8):=(R_o 8);have R_i:∀n:Nat,Q_i P w base cl tx (9+n) (S_i n 0):=by
  intro n
  induction n with
  | zero=>exact zX rfl
  | succ n ih=>
   exact ok_i (j:=9+n) (by omega) O_c ih
 have O_i:Q_i P w base cl tx 17 (f_i 8):=(R_i 8);have O_14:z2F P w base cl tx 18 vi:=z32 O_o O_i;have O_h:Q_h P w base cl tx 1 f_h:=ok_h;have R_m:∀n:Nat,Q_m P w base cl tx (1+n) (S_m n 0)/\z0A P w base cl tx (1+n) (S_m n 1):=by
  intro n
  induction n with
  | zero=>exact⟨zX rfl,zX rfl⟩
  | succ n ih=>
   exact⟨ok_m (j:=1+n) (by omega) O_u O_k O_h ih.2,z33 (j:=1+n) (by omega) ih.1⟩
 have O_m:Q_m P w base cl tx 21 (f_m 20):=(R_m 20).1;have O_1k:z0A P w base cl tx 21 (f_1k 20):=(R_m 20).2;have O_y:Q_y P w base cl tx 26 f_y:=ok_y O_8 O_m;have O_10:z0B P w base cl tx 27 kd:=z34 O_y;have R_t:∀n:Nat,Q_t P w base cl tx (0+n) (S_t n 0):=by
  intro n
  induction n with
  | zero=>exact zX rfl
  | succ n ih=>
   exact ok_t (j:=0+n) (by omega) ih
 have O_t:Q_t P w base cl tx 8 (f_t 8):=(R_t 8);have O_15:z2G P w base cl tx 28 Vi:=z35 O_10 O_t;have O_1i:z2H P w base cl tx 1 gB:=z36;have O_1a:z2I P w base cl tx 2 gC:=z37 O_h;have O_1c:z2J P w base cl tx 1 ke:=z38;have R_d:∀n:Nat,Q_d P w base cl tx (2+n) (S_d n 0)/\z0C P w base cl tx (2+n) (S_d n 1)/\z0D P w base cl tx (2+n) (S_d n 2):=by
  intro n
  induction n with
  | zero=>exact⟨zX rfl,zX rfl,zX rfl⟩
  | succ n ih=>
   exact⟨ok_d (j:=2+n) (by omega) O_1c ih.2.1 O_1i O_1a ih.2.2,z39 (j:=2+n) (by omega) ih.1,z3a (j:=2+n) (by omega) ih.1⟩
 have O_d:Q_d P w base cl tx 22 (f_d 20):=(R_d 20).1;have O_1j:z0C P w base cl tx 22 (f_1j 20):=(R_d 20).2.1;have O_1t:z0D P w base cl tx 22 (f_1t 20):=(R_d 20).2.2;have O_x:Q_x P w base cl tx 26 f_x:=ok_x O_8 O_d;have R_2:∀n:Nat,Q_2 P w base cl tx (0+n) (S_2 n 0)/\Q_z P w base cl tx (0+n) (S_2 n 1)/\Q_w P w base cl tx (0+n) (S_2 n 2):=by
  intro n
  induction n with
  | zero=>exact⟨zX rfl,zX rfl,zX rfl⟩
  | succ n ih=>
   exact⟨ok_2 (j:=0+n) (by omega) ih.2.1 ih.2.2,ok_z (j:=0+n) (by omega) ih.1,ok_w (j:=0+n) (by omega) ih.2.1⟩
 have O_2:Q_2 P w base cl tx 20 (f_2 20):=(R_2 20).1;have O_z:Q_z P w base cl tx 20 (f_z 20):=(R_2 20).2.1;have O_w:Q_w P w base cl tx 20 (f_w 20):=(R_2 20).2.2;have O_11:z2K P w base cl tx 27 y0:=z3b O_2 O_x;have O_17:z2L P w base cl tx 27 Vj:=z3c O_x;have O_1e:z2M P w base cl tx 26 kf:=z3d O_8 O_2;have O_b:Q_b P w base cl tx 1 f_b:=ok_b;have R_s:∀n:Nat,Q_s P w base cl tx (1+n) (S_s n 0):=by
  intro n
  induction n with
  | zero=>exact zX rfl
  | succ n ih=>
   exact ok_s (j:=1+n) (by omega) O_b ih
 have O_s:Q_s P w base cl tx 9 (f_s 8):=(R_s 8);have O_a:Q_a P w base cl tx 26 f_a:=ok_a O_8 O_s;have O_1h:z2N P w base cl tx 3 z0n:=z3e O_l;have R_p:∀n:Nat,Q_p P w base cl tx (20+n) (S_p n 0)/\z0E P w base cl tx (20+n) (S_p n 1):=by
  intro n
  induction n with
  | zero=>exact⟨zX rfl,zX rfl⟩
  | succ n ih=>
   exact⟨ok_p (j:=20+n) (by omega) O_2 O_v O_1h ih.2,z3f (j:=20+n) (by omega) O_v ih.1⟩
 have O_p:Q_p P w base cl tx 40 (f_p 20):=(R_p 20).1;have O_1o:z0E P w base cl tx 40 (f_1o 20):=(R_p 20).2;have O_6:Q_6 P w base cl tx 41 f_6:=ok_6 O_10 O_p;have R_3:∀n:Nat,Q_3 P w base cl tx (1+n) (S_3 n 0):=by
  intro n
  induction n with
  | zero=>exact zX rfl
  | succ n ih=>
   exact ok_3 (j:=1+n) (by omega) O_h O_b ih
 have O_3:Q_3 P w base cl tx 9 (f_3 8):=(R_3 8);have O_18:z2O P w base cl tx 26 Vk:=z3g O_8 O_3;have R_q:∀n:Nat,Q_q P w base cl tx (0+n) (S_q n 0):=by
  intro n
  induction n with
  | zero=>exact zX rfl
  | succ n ih=>
   exact ok_q (j:=0+n) (by omega) ih
 have O_q:Q_q P w base cl tx 8 (f_q 8):=(R_q 8);have R_j:∀n:Nat,Q_j P w base cl tx (20+n) (S_j n 0)/\z0F P w base cl tx (20+n) (S_j n 1)/\GQ P w base cl tx (20+n) (S_j n 2):=by
  intro n
  induction n with
  | zero=>exact⟨zX rfl,zX rfl,zX rfl⟩
  | succ n ih=>
   exact⟨ok_j (j:=20+n) (by omega) O_h ih.2.1 ih.2.2,z3h (j:=20+n) (by omega) O_w ih.2.2,z3i (j:=20+n) (by omega) O_2 ih.1⟩
 have O_j:Q_j P w base cl tx 40 (f_j 20):=(R_j 20).1;have O_1r:z0F P w base cl tx 40 (f_1r 20):=(R_j 20).2.1;have O_12:GQ P w base cl tx 40 (f_12 20):=(R_j 20).2.2;have O_16:z2P P w base cl tx 41 Xe:=z3j O_8 O_2 O_j;have O_0:Q_0 P w base cl tx 42 f_0:=ok_0 O_4 O_y O_1e O_16 O_c O_14 O_a O_18 O_1 O_e O_15 O_11 O_17 O_6 O_9 O_q;exact O_0
end
theorem fn1 {K:al}{h:Heap}{mg:Str->Option Value}{f:Addr}{od an:Option Addr}{sl:Array (Option Value)}{oc kV dc pm cd ct:Value}{x:Str}{st:Stmt}{ps:List Str}(X:K.In h)(G:h.Ns mainGlobals mg)(e:PySem.W.nsIn K mainGlobals x=some (some (.ref f)))(l:K.lookup f=some ⟨oc,od,.func (cB x x (j6 st) (ZM st) (zb st) .none kV dc pm an cd ct),sl⟩)(g:eX K cd x=true)(k:cS K (.ref f)=true)
  (hb:∀F:Fun K x x st f (cB x x (j6 st) (ZM st) (zb st) .none kV dc pm an cd ct),L2.Binds K (cB x x (j6 st) (ZM st) (zb st) .none kV dc pm an cd ct) ps []):Fn K mg x st ps f (cB x x (j6 st) (ZM st) (zb st) .none kV dc pm an cd ct):=
 have F:=kZ (st:=st) l g k
 ⟨F,hb F,PySem.W.mg_of X G e⟩
theorem fin_ {l:PySem.W.OpenLaw}{w:World}{K:al}{h:Heap}{mg:Str->Option Value}{fa:Addr}(X:K.In h)(G:h.Ns mainGlobals mg)(hfa:mg "law"=some (.ref fa))(tx:Tx K mg)(hB:∀(s:Shared) (v:Value),BindsTo s tx.d_0 ⟨[v],[]⟩ [("_law_script",v)]):∃fd:FuncData,(∀(s:Shared) (v:Value),BindsTo s fd ⟨[v],[]⟩ [("_law_script",v)])/\∀base:Heap,K.In base->base.Ns mainGlobals mg->zV l.prog w K mg base CX0 42 fa fd ["_law_script"] (spP (λ_=> .none) 1 f_0):=by
 have e:=hfa.symm.trans tx.C_0.m;cases e;exact⟨tx.d_0,hB,λbase KB _=>GR⟩
def uF (K:al):Bool:=K.all λp=> !(p.2.cls == Value.type "list")
theorem k7 {K:al}(h:uF K=true){a:Addr}{o:Obj}(e:K.lookup a=some o)(c:o.cls=Value.type "list"):False:=by
 have hm:(a,o)∈K:=by
  clear h
  induction K with
  | nil=>cases e
  | cons p r ih=>
   obtain⟨b,u⟩:=p
   by_cases hb:a=b
   ·subst hb;have e' :some u=some o:=by simpa[aK] using e
    cases e';exact ae
   ·have e' :r.lookup a=some o:=by rw[aK,(beq_eq_false_iff_ne.mpr hb)]at e;exact e
    exact ab _ (ih e')
 have:=aI.mp h _ hm;rw[c]at this;simp at this
theorem GS {cl:Nat->Value}{K:al}{H:Hp}{a:Addr}{ns:List Int}(hL:f_0 [.fz (ns.map T.int)]= .ok (.bl true))(hK:uF K=true)(hO:GW H)(hS:SqL K H a (ns.map V.int)):spP cl 1 f_0 [.ref a] H (λv _=>v= .bl true) λ_ _ _=>False:=by
 have scrR:∀ns:List Int,zI H (ns.map V.int) (ns.map T.int):=λns=>by
  induction ns with
  | nil=>exact .nil
  | cons n r ih=>exact .cons (.int n) ih
 rcases hS with (h | ⟨o,h⟩) | ⟨o,its,n,e,c,_⟩
 ·rcases hO a with z | ⟨ob,xs,z⟩ <;> (rw[h]at z;cases z)
 ·refine⟨H,[.fz (ns.map T.int)],rfl,zw.refl H,.cons (.fz h (scrR ns)) .nil, ?_⟩;rw[hL];intro v H' _ r;cases r;rfl
 ·exact(k7 hK e c).elim
theorem walk {l:PySem.W.OpenLaw}{q:Program}{loose:List Str}{XP:(Str->Option Value)->Heap->Prop}{YP:World->Heap->Prop}{d:DefRec}{K:Params->al}(hn:l.most=some 63)(hdf:d.params.defaults=[])
  (hL:∀ns:List Int,ns.length<=63->f_0 [.fz (ns.map T.int)]= .ok (.bl true)) (hK:∀p,uF (K p)=true)
  (hY:∀(w:World) (h:Heap),YP w h->(K w.params).In h)
  (F:∀(w:World) (mg:Str->Option Value) (fa:Addr) (h:Heap),(K w.params).In h->h.Ns mainGlobals mg->mg d.name=some (.ref fa)->
   ∃fd:FuncData,(∀(s:Shared) (u:Value),BindsTo s fd ⟨[u],[]⟩ [("_law_script",u)])/\∀base:Heap,(K w.params).In base->base.Ns mainGlobals mg->zV l.prog w (K w.params) mg base CX0 42 fa fd ["_law_script"] (spP (λ_=> .none) 1 f_0)):
  PySem.W.WalkO q loose XP YP l.row.toRowW d [] (λf vs=>ll f vs):=
 L2.walk_of (n:=63) (k:=42) (x:="_law_script") (CX:=λw=>CX0) (sp:=λw=>spP (λ_=> .none) 1 f_0) hn (by decide) hdf ⟨rfl,by decide,by decide,rfl⟩ hY F (λw H a ns hl hO hS=>GS (hL ns hl) (hK w.params) hO hS) λ_ _ _ _ _ z=>z
end G
namespace PySem.W.Fast
def tw17298595732685029938:=0
def tw17336731092296303984:=0
def tw2622618595189137937:=0
def tw6742009265789120323:=0
def tw3953082192029247721:=0
def tw2160968229065857045:=0
def tw15670979378536616961:=0
def tw2868186157953406360:=0
def tw2129785764497784599:=0
def tw14549642405781603032:=0
def tw9185057475907564299:=0
def tw12731717629891810867:=0
def tw7727898788633999393:=0
def tw11884770160322625802:=0
def tw14937865483620339766:=0
def tw12182382902470549765:=0
def tw12090487626376057759:=0
def tw4568781580680262890:=0
def tw13820506989552195965:=0
def tw3987799469759036575:=0
def tw3191655936639024424:=0
def tw5406148354166707751:=0
def tw18171338971320467296:=0
def tw8345773029320349100:=0
def tw7757956718205420926:=0
def tw7938065823222088204:=0
def tw12122200618738658835:=0
def tw8721912691093043313:=0
def tw7761256597872538596:=0
def tw7446260351683552120:=0
def tw15751219187774403993:=0
def tw5903706461172148189:=0
def tw12985921328617148921:=0
def tw10707673210629941833:=0
def tw7123353845764321440:=0
def tw4736235380246895107:=0
def tw3568935983627252372:=0
def tw8787772501756540167:=0
def tw1176984139722745089:=0
def tw3069559682886550486:=0
def tw14285656824924352358:=0
def tw9693599039986151050:=0
def tw13181894207305350884:=0
def tw9992857630627176569:=0
def tw3652964102427425945:=0
def tw8836208404959877165:=0
def tw7154860418562211791:=0
def tw12584173468868147982:=0
def tw7889561028679575515:=0
def tw17768274281134203047:=0
def tw17082844610599530769:=0
def tw13984120758363897975:=0
def tw5732011037244433000:=0
def tw15089574051311749822:=0
def tw10477244245726522186:=0
def tw10813223954597437952:=0
def tw657878721410116255:=0
def tw16181320513735867246:=0
def tw3881026489866791532:=0
def tw5750838506469327498:=0
def tw6177109790182344971:=0
def tw13210804782799297681:=0
def tw12818711313518484143:=0
def tw13570529314085579236:=0
def tw17367286653415478779:=0
def tw9199120980734071780:=0
def tw4237926017109743246:=0
def tw9028689065313229361:=0
end PySem.W.Fast
open PySem PySem.W PyProof.Rows
set_option maxRecDepth 100000 in
set_option maxHeartbeats 0 in
theorem PySem.Challenge.cw_worthkinds_k04_whole_mirrored_holds : PySem.Challenge.rw_worthkinds_k04_whole_mirrored.Holds := by
 w_on; o_law; k_head; (case hw=>w_witness2)
 k_fill
 refine G.walk (l:=PySem.Challenge.rw_worthkinds_k04_whole_mirrored) rfl rfl G.law_ok ?nl (fun w h Y=>PySem.W.kIn_of Y) ?F
 case nl=>intro p; kernel_rfl
 case F=>
  intro w mg fa h KX G0 hmg
  obtain ⟨a0,d0,C0⟩:∃ a d,G.Fn _ mg "is_whole" G.s_u ["thing"] a d:=by
   refine' ⟨_,_,G.fn1 KX G0 ?e ?l ?g ?k (fun F=>F.binds (ps:=["thing"]) fun _ _ _ _ _ _ us hl=>match us,hl with | [_],_=>rfl)⟩
   (case e|l|g|k=>k_is)
  obtain ⟨a1,d1,C1⟩:∃ a d,G.Fn _ mg "is_span" G.s_1q ["low","high","least","most"] a d:=by
   refine' ⟨_,_,G.fn1 KX G0 ?e ?l ?g ?k (fun F=>F.binds (ps:=["low","high","least","most"]) fun _ _ _ _ _ _ us hl=>match us,hl with | [_,_,_,_],_=>rfl)⟩
   (case e|l|g|k=>k_is)
  obtain ⟨a2,d2,C2⟩:∃ a d,G.Fn _ mg "is_tuple_of" G.s_k ["thing","least","most"] a d:=by
   refine' ⟨_,_,G.fn1 KX G0 ?e ?l ?g ?k (fun F=>F.binds (ps:=["thing","least","most"]) fun _ _ _ _ _ _ us hl=>match us,hl with | [_,_,_],_=>rfl)⟩
   (case e|l|g|k=>k_is)
  obtain ⟨a3,d3,C3⟩:∃ a d,G.Fn _ mg "is_word" G.z2k ["thing"] a d:=by
   refine' ⟨_,_,G.fn1 KX G0 ?e ?l ?g ?k (fun F=>F.binds (ps:=["thing"]) fun _ _ _ _ _ _ us hl=>match us,hl with | [_],_=>rfl)⟩
   (case e|l|g|k=>k_is)
  obtain ⟨a4,d4,C4⟩:∃ a d,G.Fn _ mg "is_choice" G.s_1d ["thing"] a d:=by
   refine' ⟨_,_,G.fn1 KX G0 ?e ?l ?g ?k (fun F=>F.binds (ps:=["thing"]) fun _ _ _ _ _ _ us hl=>match us,hl with | [_],_=>rfl)⟩
   (case e|l|g|k=>k_is)
  obtain ⟨a5,d5,C5⟩:∃ a d,G.Fn _ mg "are_choices" G.z0x ["thing"] a d:=by
   refine' ⟨_,_,G.fn1 KX G0 ?e ?l ?g ?k (fun F=>F.binds (ps:=["thing"]) fun _ _ _ _ _ _ us hl=>match us,hl with | [_],_=>rfl)⟩
   (case e|l|g|k=>k_is)
  obtain ⟨a6,d6,C6⟩:∃ a d,G.Fn _ mg "is_kind_within" G.s_g ["thing","levels"] a d:=by
   refine' ⟨_,_,G.fn1 KX G0 ?e ?l ?g ?k (fun F=>F.binds (ps:=["thing","levels"]) fun _ _ _ _ _ _ us hl=>match us,hl with | [_,_],_=>rfl)⟩
   (case e|l|g|k=>k_is)
  obtain ⟨a7,d7,C7⟩:∃ a d,G.Fn _ mg "are_kinds_within" G.z2m ["thing","levels"] a d:=by
   refine' ⟨_,_,G.fn1 KX G0 ?e ?l ?g ?k (fun F=>F.binds (ps:=["thing","levels"]) fun _ _ _ _ _ _ us hl=>match us,hl with | [_,_],_=>rfl)⟩
   (case e|l|g|k=>k_is)
  obtain ⟨a8,d8,C8⟩:∃ a d,G.Fn _ mg "is_kind" G.s_4 ["thing"] a d:=by
   refine' ⟨_,_,G.fn1 KX G0 ?e ?l ?g ?k (fun F=>F.binds (ps:=["thing"]) fun _ _ _ _ _ _ us hl=>match us,hl with | [_],_=>rfl)⟩
   (case e|l|g|k=>k_is)
  obtain ⟨a9,d9,C9⟩:∃ a d,G.Fn _ mg "need_kind" G.s_8 ["kind"] a d:=by
   refine' ⟨_,_,G.fn1 KX G0 ?e ?l ?g ?k (fun F=>F.binds (ps:=["kind"]) fun _ _ _ _ _ _ us hl=>match us,hl with | [_],_=>rfl)⟩
   (case e|l|g|k=>k_is)
  obtain ⟨a10,d10,C10⟩:∃ a d,G.Fn _ mg "mirror_of" G.s_5 ["kind"] a d:=by
   refine' ⟨_,_,G.fn1 KX G0 ?e ?l ?g ?k (fun F=>F.binds (ps:=["kind"]) fun _ _ _ _ _ _ us hl=>match us,hl with | [_],_=>rfl)⟩
   (case e|l|g|k=>k_is)
  obtain ⟨a11,d11,C11⟩:∃ a d,G.Fn _ mg "mirrored" G.s_e ["kind"] a d:=by
   refine' ⟨_,_,G.fn1 KX G0 ?e ?l ?g ?k (fun F=>F.binds (ps:=["kind"]) fun _ _ _ _ _ _ us hl=>match us,hl with | [_],_=>rfl)⟩
   (case e|l|g|k=>k_is)
  obtain ⟨a12,d12,C12⟩:∃ a d,G.Fn _ mg "_law_rows_of" G.s_n ["_law_lists"] a d:=by
   refine' ⟨_,_,G.fn1 KX G0 ?e ?l ?g ?k (fun F=>F.binds (ps:=["_law_lists"]) fun _ _ _ _ _ _ us hl=>match us,hl with | [_],_=>rfl)⟩
   (case e|l|g|k=>k_is)
  obtain ⟨a13,d13,C13⟩:∃ a d,G.Fn _ mg "_law_all" G.s_c ["_law_kind_here"] a d:=by
   refine' ⟨_,_,G.fn1 KX G0 ?e ?l ?g ?k (fun F=>F.binds (ps:=["_law_kind_here"]) fun _ _ _ _ _ _ us hl=>match us,hl with | [_],_=>rfl)⟩
   (case e|l|g|k=>k_is)
  obtain ⟨a14,d14,C14⟩:∃ a d,G.Fn _ mg "reach_of" G.s_7 ["kind"] a d:=by
   refine' ⟨_,_,G.fn1 KX G0 ?e ?l ?g ?k (fun F=>F.binds (ps:=["kind"]) fun _ _ _ _ _ _ us hl=>match us,hl with | [_],_=>rfl)⟩
   (case e|l|g|k=>k_is)
  obtain ⟨a15,d15,C15⟩:∃ a d,G.Fn _ mg "reach_of_many" G.s_1s ["kind"] a d:=by
   refine' ⟨_,_,G.fn1 KX G0 ?e ?l ?g ?k (fun F=>F.binds (ps:=["kind"]) fun _ _ _ _ _ _ us hl=>match us,hl with | [_],_=>rfl)⟩
   (case e|l|g|k=>k_is)
  obtain ⟨a16,d16,C16⟩:∃ a d,G.Fn _ mg "reach" G.s_1 ["kind"] a d:=by
   refine' ⟨_,_,G.fn1 KX G0 ?e ?l ?g ?k (fun F=>F.binds (ps:=["kind"]) fun _ _ _ _ _ _ us hl=>match us,hl with | [_],_=>rfl)⟩
   (case e|l|g|k=>k_is)
  obtain ⟨a17,d17,C17⟩:∃ a d,G.Fn _ mg "greatest_divisor" G.s_1g ["one","other"] a d:=by
   refine' ⟨_,_,G.fn1 KX G0 ?e ?l ?g ?k (fun F=>F.binds (ps:=["one","other"]) fun _ _ _ _ _ _ us hl=>match us,hl with | [_,_],_=>rfl)⟩
   (case e|l|g|k=>k_is)
  obtain ⟨a18,d18,C18⟩:∃ a d,G.Fn _ mg "fraction" G.s_l ["up","down"] a d:=by
   refine' ⟨_,_,G.fn1 KX G0 ?e ?l ?g ?k (fun F=>F.binds (ps:=["up","down"]) fun _ _ _ _ _ _ us hl=>match us,hl with | [_,_],_=>rfl)⟩
   (case e|l|g|k=>k_is)
  obtain ⟨a19,d19,C19⟩:∃ a d,G.Fn _ mg "times" G.s_v ["one","other"] a d:=by
   refine' ⟨_,_,G.fn1 KX G0 ?e ?l ?g ?k (fun F=>F.binds (ps:=["one","other"]) fun _ _ _ _ _ _ us hl=>match us,hl with | [_,_],_=>rfl)⟩
   (case e|l|g|k=>k_is)
  obtain ⟨a20,d20,C20⟩:∃ a d,G.Fn _ mg "plus" G.s_1l ["one","other"] a d:=by
   refine' ⟨_,_,G.fn1 KX G0 ?e ?l ?g ?k (fun F=>F.binds (ps:=["one","other"]) fun _ _ _ _ _ _ us hl=>match us,hl with | [_,_],_=>rfl)⟩
   (case e|l|g|k=>k_is)
  obtain ⟨a21,d21,C21⟩:∃ a d,G.Fn _ mg "together" G.s_1m ["fractions"] a d:=by
   refine' ⟨_,_,G.fn1 KX G0 ?e ?l ?g ?k (fun F=>F.binds (ps:=["fractions"]) fun _ _ _ _ _ _ us hl=>match us,hl with | [_],_=>rfl)⟩
   (case e|l|g|k=>k_is)
  obtain ⟨a22,d22,C22⟩:∃ a d,G.Fn _ mg "mean_within" G.s_r ["kind"] a d:=by
   refine' ⟨_,_,G.fn1 KX G0 ?e ?l ?g ?k (fun F=>F.binds (ps:=["kind"]) fun _ _ _ _ _ _ us hl=>match us,hl with | [_],_=>rfl)⟩
   (case e|l|g|k=>k_is)
  obtain ⟨a23,d23,C23⟩:∃ a d,G.Fn _ mg "mean" G.s_9 ["kind"] a d:=by
   refine' ⟨_,_,G.fn1 KX G0 ?e ?l ?g ?k (fun F=>F.binds (ps:=["kind"]) fun _ _ _ _ _ _ us hl=>match us,hl with | [_],_=>rfl)⟩
   (case e|l|g|k=>k_is)
  obtain ⟨a24,d24,C24⟩:∃ a d,G.Fn _ mg "_law_cell" G.s_1p ["_law_script","_law_k"] a d:=by
   refine' ⟨_,_,G.fn1 KX G0 ?e ?l ?g ?k (fun F=>F.binds (ps:=["_law_script","_law_k"]) fun _ _ _ _ _ _ us hl=>match us,hl with | [_,_],_=>rfl)⟩
   (case e|l|g|k=>k_is)
  obtain ⟨a25,d25,C25⟩:∃ a d,G.Fn _ mg "_law_pick" G.s_f ["_law_script","_law_k","_law_many"] a d:=by
   refine' ⟨_,_,G.fn1 KX G0 ?e ?l ?g ?k (fun F=>F.binds (ps:=["_law_script","_law_k","_law_many"]) fun _ _ _ _ _ _ us hl=>match us,hl with | [_,_,_],_=>rfl)⟩
   (case e|l|g|k=>k_is)
  obtain ⟨a26,d26,C26⟩:∃ a d,G.Fn _ mg "_law_word_of" G.z2o ["_law_script","_law_at"] a d:=by
   refine' ⟨_,_,G.fn1 KX G0 ?e ?l ?g ?k (fun F=>F.binds (ps:=["_law_script","_law_at"]) fun _ _ _ _ _ _ us hl=>match us,hl with | [_,_],_=>rfl)⟩
   (case e|l|g|k=>k_is)
  obtain ⟨a27,d27,C27⟩:∃ a d,G.Fn _ mg "_law_leaf_kind" G.z2p ["_law_script","_law_at"] a d:=by
   refine' ⟨_,_,G.fn1 KX G0 ?e ?l ?g ?k (fun F=>F.binds (ps:=["_law_script","_law_at"]) fun _ _ _ _ _ _ us hl=>match us,hl with | [_,_],_=>rfl)⟩
   (case e|l|g|k=>k_is)
  obtain ⟨a28,d28,C28⟩:∃ a d,G.Fn _ mg "_law_kind" G.s_o ["_law_script","_law_at","_law_deep"] a d:=by
   refine' ⟨_,_,G.fn1 KX G0 ?e ?l ?g ?k (fun F=>F.binds (ps:=["_law_script","_law_at","_law_deep"]) fun _ _ _ _ _ _ us hl=>match us,hl with | [_,_,_],_=>rfl)⟩
   (case e|l|g|k=>k_is)
  obtain ⟨a29,d29,C29⟩:∃ a d,G.Fn _ mg "_law_size" G.s_i ["_law_kind_here"] a d:=by
   refine' ⟨_,_,G.fn1 KX G0 ?e ?l ?g ?k (fun F=>F.binds (ps:=["_law_kind_here"]) fun _ _ _ _ _ _ us hl=>match us,hl with | [_],_=>rfl)⟩
   (case e|l|g|k=>k_is)
  obtain ⟨a30,d30,C30⟩:∃ a d,G.Fn _ mg "_law_small" G.s_14 ["_law_script","_law_at","_law_most"] a d:=by
   refine' ⟨_,_,G.fn1 KX G0 ?e ?l ?g ?k (fun F=>F.binds (ps:=["_law_script","_law_at","_law_most"]) fun _ _ _ _ _ _ us hl=>match us,hl with | [_,_,_],_=>rfl)⟩
   (case e|l|g|k=>k_is)
  obtain ⟨a31,d31,C31⟩:∃ a d,G.Fn _ mg "words_of_pick" G.s_h ["kind"] a d:=by
   refine' ⟨_,_,G.fn1 KX G0 ?e ?l ?g ?k (fun F=>F.binds (ps:=["kind"]) fun _ _ _ _ _ _ us hl=>match us,hl with | [_],_=>rfl)⟩
   (case e|l|g|k=>k_is)
  obtain ⟨a32,d32,C32⟩:∃ a d,G.Fn _ mg "has_worth" G.s_m ["kind","thing"] a d:=by
   refine' ⟨_,_,G.fn1 KX G0 ?e ?l ?g ?k (fun F=>F.binds (ps:=["kind","thing"]) fun _ _ _ _ _ _ us hl=>match us,hl with | [_,_],_=>rfl)⟩
   (case e|l|g|k=>k_is)
  obtain ⟨a33,d33,C33⟩:∃ a d,G.Fn _ mg "have_parts" G.z2r ["kinds","parts"] a d:=by
   refine' ⟨_,_,G.fn1 KX G0 ?e ?l ?g ?k (fun F=>F.binds (ps:=["kinds","parts"]) fun _ _ _ _ _ _ us hl=>match us,hl with | [_,_],_=>rfl)⟩
   (case e|l|g|k=>k_is)
  obtain ⟨a34,d34,C34⟩:∃ a d,G.Fn _ mg "is_worth" G.s_y ["kind","thing"] a d:=by
   refine' ⟨_,_,G.fn1 KX G0 ?e ?l ?g ?k (fun F=>F.binds (ps:=["kind","thing"]) fun _ _ _ _ _ _ us hl=>match us,hl with | [_,_],_=>rfl)⟩
   (case e|l|g|k=>k_is)
  obtain ⟨a35,d35,C35⟩:∃ a d,G.Fn _ mg "need_worth" G.s_10 ["kind","worth"] a d:=by
   refine' ⟨_,_,G.fn1 KX G0 ?e ?l ?g ?k (fun F=>F.binds (ps:=["kind","worth"]) fun _ _ _ _ _ _ us hl=>match us,hl with | [_,_],_=>rfl)⟩
   (case e|l|g|k=>k_is)
  obtain ⟨a36,d36,C36⟩:∃ a d,G.Fn _ mg "mirror_of_worth" G.s_t ["worth"] a d:=by
   refine' ⟨_,_,G.fn1 KX G0 ?e ?l ?g ?k (fun F=>F.binds (ps:=["worth"]) fun _ _ _ _ _ _ us hl=>match us,hl with | [_],_=>rfl)⟩
   (case e|l|g|k=>k_is)
  obtain ⟨a37,d37,C37⟩:∃ a d,G.Fn _ mg "mirrored_worth" G.s_15 ["kind","worth"] a d:=by
   refine' ⟨_,_,G.fn1 KX G0 ?e ?l ?g ?k (fun F=>F.binds (ps:=["kind","worth"]) fun _ _ _ _ _ _ us hl=>match us,hl with | [_,_],_=>rfl)⟩
   (case e|l|g|k=>k_is)
  obtain ⟨a38,d38,C38⟩:∃ a d,G.Fn _ mg "common_whole" G.s_1i ["one","other"] a d:=by
   refine' ⟨_,_,G.fn1 KX G0 ?e ?l ?g ?k (fun F=>F.binds (ps:=["one","other"]) fun _ _ _ _ _ _ us hl=>match us,hl with | [_,_],_=>rfl)⟩
   (case e|l|g|k=>k_is)
  obtain ⟨a39,d39,C39⟩:∃ a d,G.Fn _ mg "common_pick" G.z2s ["one","other"] a d:=by
   refine' ⟨_,_,G.fn1 KX G0 ?e ?l ?g ?k (fun F=>F.binds (ps:=["one","other"]) fun _ _ _ _ _ _ us hl=>match us,hl with | [_,_],_=>rfl)⟩
   (case e|l|g|k=>k_is)
  obtain ⟨a40,d40,C40⟩:∃ a d,G.Fn _ mg "kinds_of_parts" G.s_1c ["kind","length"] a d:=by
   refine' ⟨_,_,G.fn1 KX G0 ?e ?l ?g ?k (fun F=>F.binds (ps:=["kind","length"]) fun _ _ _ _ _ _ us hl=>match us,hl with | [_,_],_=>rfl)⟩
   (case e|l|g|k=>k_is)
  obtain ⟨a41,d41,C41⟩:∃ a d,G.Fn _ mg "common_kind" G.s_d ["one","other"] a d:=by
   refine' ⟨_,_,G.fn1 KX G0 ?e ?l ?g ?k (fun F=>F.binds (ps:=["one","other"]) fun _ _ _ _ _ _ us hl=>match us,hl with | [_,_],_=>rfl)⟩
   (case e|l|g|k=>k_is)
  obtain ⟨a42,d42,C42⟩:∃ a d,G.Fn _ mg "common_row" G.z2t ["one_kinds","other_kinds"] a d:=by
   refine' ⟨_,_,G.fn1 KX G0 ?e ?l ?g ?k (fun F=>F.binds (ps:=["one_kinds","other_kinds"]) fun _ _ _ _ _ _ us hl=>match us,hl with | [_,_],_=>rfl)⟩
   (case e|l|g|k=>k_is)
  obtain ⟨a43,d43,C43⟩:∃ a d,G.Fn _ mg "common_many" G.s_1t ["one","other"] a d:=by
   refine' ⟨_,_,G.fn1 KX G0 ?e ?l ?g ?k (fun F=>F.binds (ps:=["one","other"]) fun _ _ _ _ _ _ us hl=>match us,hl with | [_,_],_=>rfl)⟩
   (case e|l|g|k=>k_is)
  obtain ⟨a44,d44,C44⟩:∃ a d,G.Fn _ mg "both" G.s_x ["one","other"] a d:=by
   refine' ⟨_,_,G.fn1 KX G0 ?e ?l ?g ?k (fun F=>F.binds (ps:=["one","other"]) fun _ _ _ _ _ _ us hl=>match us,hl with | [_,_],_=>rfl)⟩
   (case e|l|g|k=>k_is)
  obtain ⟨a45,d45,C45⟩:∃ a d,G.Fn _ mg "count_of" G.s_2 ["kind"] a d:=by
   refine' ⟨_,_,G.fn1 KX G0 ?e ?l ?g ?k (fun F=>F.binds (ps:=["kind"]) fun _ _ _ _ _ _ us hl=>match us,hl with | [_],_=>rfl)⟩
   (case e|l|g|k=>k_is)
  obtain ⟨a46,d46,C46⟩:∃ a d,G.Fn _ mg "count_of_parts" G.s_z ["kinds"] a d:=by
   refine' ⟨_,_,G.fn1 KX G0 ?e ?l ?g ?k (fun F=>F.binds (ps:=["kinds"]) fun _ _ _ _ _ _ us hl=>match us,hl with | [_],_=>rfl)⟩
   (case e|l|g|k=>k_is)
  obtain ⟨a47,d47,C47⟩:∃ a d,G.Fn _ mg "count_shorter" G.s_w ["kind","length"] a d:=by
   refine' ⟨_,_,G.fn1 KX G0 ?e ?l ?g ?k (fun F=>F.binds (ps:=["kind","length"]) fun _ _ _ _ _ _ us hl=>match us,hl with | [_,_],_=>rfl)⟩
   (case e|l|g|k=>k_is)
  obtain ⟨a48,d48,C48⟩:∃ a d,G.Fn _ mg "is_within" G.s_11 ["one","other"] a d:=by
   refine' ⟨_,_,G.fn1 KX G0 ?e ?l ?g ?k (fun F=>F.binds (ps:=["one","other"]) fun _ _ _ _ _ _ us hl=>match us,hl with | [_,_],_=>rfl)⟩
   (case e|l|g|k=>k_is)
  obtain ⟨a49,d49,C49⟩:∃ a d,G.Fn _ mg "are_apart" G.s_17 ["one","other"] a d:=by
   refine' ⟨_,_,G.fn1 KX G0 ?e ?l ?g ?k (fun F=>F.binds (ps:=["one","other"]) fun _ _ _ _ _ _ us hl=>match us,hl with | [_,_],_=>rfl)⟩
   (case e|l|g|k=>k_is)
  obtain ⟨a50,d50,C50⟩:∃ a d,G.Fn _ mg "how_many" G.s_1e ["kind"] a d:=by
   refine' ⟨_,_,G.fn1 KX G0 ?e ?l ?g ?k (fun F=>F.binds (ps:=["kind"]) fun _ _ _ _ _ _ us hl=>match us,hl with | [_],_=>rfl)⟩
   (case e|l|g|k=>k_is)
  obtain ⟨a51,d51,C51⟩:∃ a d,G.Fn _ mg "kinds_within" G.s_b ["kind"] a d:=by
   refine' ⟨_,_,G.fn1 KX G0 ?e ?l ?g ?k (fun F=>F.binds (ps:=["kind"]) fun _ _ _ _ _ _ us hl=>match us,hl with | [_],_=>rfl)⟩
   (case e|l|g|k=>k_is)
  obtain ⟨a52,d52,C52⟩:∃ a d,G.Fn _ mg "depth_of" G.s_s ["kind"] a d:=by
   refine' ⟨_,_,G.fn1 KX G0 ?e ?l ?g ?k (fun F=>F.binds (ps:=["kind"]) fun _ _ _ _ _ _ us hl=>match us,hl with | [_],_=>rfl)⟩
   (case e|l|g|k=>k_is)
  obtain ⟨a53,d53,C53⟩:∃ a d,G.Fn _ mg "depth" G.s_a ["kind"] a d:=by
   refine' ⟨_,_,G.fn1 KX G0 ?e ?l ?g ?k (fun F=>F.binds (ps:=["kind"]) fun _ _ _ _ _ _ us hl=>match us,hl with | [_],_=>rfl)⟩
   (case e|l|g|k=>k_is)
  obtain ⟨a54,d54,C54⟩:∃ a d,G.Fn _ mg "share_of_word" G.s_1h ["kind","word"] a d:=by
   refine' ⟨_,_,G.fn1 KX G0 ?e ?l ?g ?k (fun F=>F.binds (ps:=["kind","word"]) fun _ _ _ _ _ _ us hl=>match us,hl with | [_,_],_=>rfl)⟩
   (case e|l|g|k=>k_is)
  obtain ⟨a55,d55,C55⟩:∃ a d,G.Fn _ mg "share_within" G.s_p ["kind","worth"] a d:=by
   refine' ⟨_,_,G.fn1 KX G0 ?e ?l ?g ?k (fun F=>F.binds (ps:=["kind","worth"]) fun _ _ _ _ _ _ us hl=>match us,hl with | [_,_],_=>rfl)⟩
   (case e|l|g|k=>k_is)
  obtain ⟨a56,d56,C56⟩:∃ a d,G.Fn _ mg "share_of_parts" G.s_1o ["kinds","parts"] a d:=by
   refine' ⟨_,_,G.fn1 KX G0 ?e ?l ?g ?k (fun F=>F.binds (ps:=["kinds","parts"]) fun _ _ _ _ _ _ us hl=>match us,hl with | [_,_],_=>rfl)⟩
   (case e|l|g|k=>k_is)
  obtain ⟨a57,d57,C57⟩:∃ a d,G.Fn _ mg "share_of" G.s_6 ["kind","worth"] a d:=by
   refine' ⟨_,_,G.fn1 KX G0 ?e ?l ?g ?k (fun F=>F.binds (ps:=["kind","worth"]) fun _ _ _ _ _ _ us hl=>match us,hl with | [_,_],_=>rfl)⟩
   (case e|l|g|k=>k_is)
  obtain ⟨a58,d58,C58⟩:∃ a d,G.Fn _ mg "words_of" G.s_3 ["kind"] a d:=by
   refine' ⟨_,_,G.fn1 KX G0 ?e ?l ?g ?k (fun F=>F.binds (ps:=["kind"]) fun _ _ _ _ _ _ us hl=>match us,hl with | [_],_=>rfl)⟩
   (case e|l|g|k=>k_is)
  obtain ⟨a59,d59,C59⟩:∃ a d,G.Fn _ mg "words_in" G.s_18 ["kind"] a d:=by
   refine' ⟨_,_,G.fn1 KX G0 ?e ?l ?g ?k (fun F=>F.binds (ps:=["kind"]) fun _ _ _ _ _ _ us hl=>match us,hl with | [_],_=>rfl)⟩
   (case e|l|g|k=>k_is)
  obtain ⟨a60,d60,C60⟩:∃ a d,G.Fn _ mg "_law_about" G.s_q ["_law_worth"] a d:=by
   refine' ⟨_,_,G.fn1 KX G0 ?e ?l ?g ?k (fun F=>F.binds (ps:=["_law_worth"]) fun _ _ _ _ _ _ us hl=>match us,hl with | [_],_=>rfl)⟩
   (case e|l|g|k=>k_is)
  obtain ⟨a61,d61,C61⟩:∃ a d,G.Fn _ mg "worth_at" G.s_j ["kind","number"] a d:=by
   refine' ⟨_,_,G.fn1 KX G0 ?e ?l ?g ?k (fun F=>F.binds (ps:=["kind","number"]) fun _ _ _ _ _ _ us hl=>match us,hl with | [_,_],_=>rfl)⟩
   (case e|l|g|k=>k_is)
  obtain ⟨a62,d62,C62⟩:∃ a d,G.Fn _ mg "many_at" G.s_1r ["kind","number"] a d:=by
   refine' ⟨_,_,G.fn1 KX G0 ?e ?l ?g ?k (fun F=>F.binds (ps:=["kind","number"]) fun _ _ _ _ _ _ us hl=>match us,hl with | [_,_],_=>rfl)⟩
   (case e|l|g|k=>k_is)
  obtain ⟨a63,d63,C63⟩:∃ a d,G.Fn _ mg "parts_at" G.s_12 ["kinds","number"] a d:=by
   refine' ⟨_,_,G.fn1 KX G0 ?e ?l ?g ?k (fun F=>F.binds (ps:=["kinds","number"]) fun _ _ _ _ _ _ us hl=>match us,hl with | [_,_],_=>rfl)⟩
   (case e|l|g|k=>k_is)
  obtain ⟨a64,d64,C64⟩:∃ a d,G.Fn _ mg "all_worths" G.z2u ["kind"] a d:=by
   refine' ⟨_,_,G.fn1 KX G0 ?e ?l ?g ?k (fun F=>F.binds (ps:=["kind"]) fun _ _ _ _ _ _ us hl=>match us,hl with | [_],_=>rfl)⟩
   (case e|l|g|k=>k_is)
  obtain ⟨a65,d65,C65,hB⟩:∃ a d,G.Fn _ mg "law" G.s_0 ["_law_script"] a d/\∀ (s:PySem.Shared) (v:PySem.Value),BindsTo s d ⟨[v],[]⟩ [("_law_script",v)]:=by
   refine' ⟨_,_,G.fn1 KX G0 ?e ?l ?g ?k (fun F=>F.binds (ps:=["_law_script"]) fun _ _ _ _ _ _ us hl=>match us,hl with | [_],_=>rfl),fun s v=> .of_eq rfl⟩
   (case e|l|g|k=>k_is)
  refine' G.fin_ KX G0 hmg ⟨a0,d0,C0,a1,d1,C1,a2,d2,C2,a3,d3,C3,a4,d4,C4,a5,d5,C5,a6,d6,C6,a7,d7,C7,a8,d8,C8,a9,d9,C9,a10,d10,C10,a11,d11,C11,a12,d12,C12,a13,d13,C13,a14,d14,C14,a15,d15,C15,a16,d16,C16,a17,d17,C17,a18,d18,C18,a19,d19,C19,a20,d20,C20,a21,d21,C21,a22,d22,C22,a23,d23,C23,a24,d24,C24,a25,d25,C25,a26,d26,C26,a27,d27,C27,a28,d28,C28,a29,d29,C29,a30,d30,C30,a31,d31,C31,a32,d32,C32,a33,d33,C33,a34,d34,C34,a35,d35,C35,a36,d36,C36,a37,d37,C37,a38,d38,C38,a39,d39,C39,a40,d40,C40,a41,d41,C41,a42,d42,C42,a43,d43,C43,a44,d44,C44,a45,d45,C45,a46,d46,C46,a47,d47,C47,a48,d48,C48,a49,d49,C49,a50,d50,C50,a51,d51,C51,a52,d52,C52,a53,d53,C53,a54,d54,C54,a55,d55,C55,a56,d56,C56,a57,d57,C57,a58,d58,C58,a59,d59,C59,a60,d60,C60,a61,d61,C61,a62,d62,C62,a63,d63,C63,a64,d64,C64,a65,d65,C65,PySem.W.mg_none_of KX G0 (by k_is),PySem.W.mg_none_of KX G0 (by k_is),PySem.W.mg_none_of KX G0 (by k_is),PySem.W.mg_none_of KX G0 (by k_is),PySem.W.mg_none_of KX G0 (by k_is),PySem.W.mg_none_of KX G0 (by k_is),PySem.W.mg_none_of KX G0 (by k_is),PySem.W.mg_none_of KX G0 (by k_is),PySem.W.mg_none_of KX G0 (by k_is),PySem.W.mg_none_of KX G0 (by k_is),PySem.W.mg_none_of KX G0 (by k_is),PySem.W.mg_none_of KX G0 (by k_is),PySem.W.mg_none_of KX G0 (by k_is),PySem.W.mg_none_of KX G0 (by k_is),PySem.W.mg_none_of KX G0 (by k_is),PySem.W.mg_none_of KX G0 (by k_is),PySem.W.mg_none_of KX G0 (by k_is),PySem.W.mg_none_of KX G0 (by k_is),PySem.W.mg_none_of KX G0 (by k_is),⟨_,PySem.W.mg_of KX G0 (by k_is),_,rfl⟩,⟨_,PySem.W.mg_of KX G0 (by k_is),_,rfl⟩⟩ hB
