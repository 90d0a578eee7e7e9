import PyProof.Rows.All
import Wide.All
import OpenK.AllK
import Wide.FinOn
import Lean
import PyProof.EqAt
import PyProof.EqKinds
import PyProof.TupleCall
import PyProof.NeKinds
import PyProof.WalksEnum
import PyProof.StrWalks
import PyProof.ExcAttrAll.ValueError
import PyProof.ZipIter
import KE.KRevIter
import PyProof.ListNew
import PyProof.WalksMore
import PyProof.ReprLoop
import PyProof.FactsAll.list
import PyProof.CollectIter
import PyProof.TupleOfGen
import PyProof.Draws
import PyProof.EnumMake
import PyProof.SeqI3
import KE.KMinBuiltin
import PyProof.SetRoads
import PyProof.CollectWalk
import KE.KDictSum
import PyProof.AttrMiss
import PyProof.IsiH_tuple
import KE.KDictOf
import PyProof.FitsBits
import PyProof.SliceList
import PyProof.InstFacts
import PyProof.Rows.StrNews2
import PyProof.StrBlockH
import PyProof.CallStr
import KE.KIntText
import PyProof.Rows.RuleB_pow
import KE.KSortTup
import PyProof.ReprRoads
import KE.KLam
import PyProof.MaxThree
import PySem.Challenge.RW_worthkinds_k46_whole_kinds_in_rows
open PySem renaming wpAny_bind->a7,wpAny_pure->ag,wpAny_newObj_type->aM,codeAny_builtin->aS,wpAny_setField_rec->aX,plainId_quiet->aZ,wpAny_of_eq->b7,wpAny_setState_of->bf,wpAny_field->bh,wpAny_truthy_bool->bi,wpAny_seqItems->bp,wpAny_call_entry->bq,wpAny_holding->bB,sizeLine_eq->bH,wpAny_Call_Name_kw->bO,wpAny_callSpecial?_slot->bP,codeAny_mono->bZ,wpAny_specialOf->cg,mem_of_lookup->ci,wpAny_isInstance->cn,wpAny_rule->cu,wpAny_passesOwn->cz,wpAny_updateSeq->cA,wpAny_mono->cS,wpAny_typeOf->cT,typeLookup_type->cW,wpAny_ite_split->cX,wpAny_attempt->c_,call_meets->d9,wpAny_tryCatch->de,wpAny_letGo->dA,typeIs_int->dM,seqSlot_of->iR,call->lf
open List renaming mem_cons_of_mem->a8,getElem?_eq_getElem->a9,length_map->aa,mem_cons_self->ac,replicate->ae,mem_cons->aj,getElem?_eq_some_iff->ak,getElem?_map->ar,mem_map->au,length_cons->aw,map_cons->ay,length_append->az,size_toArray->aA,mem_singleton->aC,getElem?_set_ne->aD,length_replicate->aF,length_singleton->aG,getElem?_eq_none->aH,map_replicate->aI,getElem?_append_right->aJ,flatMap_cons->aK,mem_of_getElem?->aN,map_map->aO,lookup_cons->aP,all_eq_true->aQ,getElem?_append_left->aT,getElem?_replicate->aU,eq_of_mem_replicate->aY,pairwise_cons->a_,mem_append_right->b9,range->bc,not_mem_nil->be,getElem?_set_self->bj,map_congr_left->br,length_range->bw,append_nil->bz,of_mem_zip->bA,map_append->bC,replicate_succ->bF,length_reverse->bG,append_assoc->bI,mem_iff_getElem?->bK,length_nil->bN,all_cons->bR,mem_range->bS,reverse_cons->bU,getElem?_zip_eq_some->bV,pairwise_iff_getElem->bX,map_reverse->bY,map_nil->c7,reverse_reverse->c8,length_set->cf,mem_flatMap->cq,mem_append->cy,ext_getElem?->cB,mem_iff_getElem->cC,length_take->cL,length_eq_zero_iff->cM,any_eq_true->cP,nil_append->cV,length_zip->cY,sum_cons->d3,getElem?_reverse->d5,getElem?_range->dj,mem_filter->dr,nodup_cons->dt,range_succ_eq_map->dD,pairwise_map->dI,mem_reverse->dP,mem_append_left->dS,count_eq_zero_of_not_mem->dU,filterMap_cons->dY,foldl->eH,length_eraseIdx_of_lt->eM,zip_cons_cons->eP,drop_eq_getElem_cons->eR,flatten_cons->eU,range'->eW,getElem_take->eX,getElem?_take_of_lt->eY,idxOf_lt_length_iff->eZ,getElem_inj->fh,prefix_refl->fr,getElem_map->fw,getElem_mem->fA,nodup_range->fB,cons_append->fD,flatMap_nil->fE,map_flatMap->fF,flatMap_map->fG,range_succ->fU,pairwise_flatMap->g7,getElem?_range'->h7,getElem_toArray->hV,nodup_iff_count->i4,any_cons->i8,mem_filterMap->i9,getElem_idxOf->ij,getElem?_take->ip,mem_replicate->iq,count_pos_iff->iu,all_map->iy,drop_length->iS,le_antisymm->iW,length->iZ,not_lt->k_,forIn_cons->l5,find?_cons->l9
open PySem.Heap renaming get?_push_of_some->ab,get?_push_size->af,lt_size->ao,get?_update_other->aW,size_push->bo,get?_update_self->bu,SameBut->bv,ExtBut->hU
open Bool renaming and_eq_true->ah,false_eq_true->aB,false_ne_true->aE,and_eq_true_iff->bQ,eq_false_iff->cb,true_and->cI,and_true->dR,eq_iff_iff->dX,not_true->e_,or_eq_true->l6
open PySem.W renaming Frag->ai,kia_one->bx,fnOf->cj,kitOne->cJ,keepIn->cK,codeIn->eG,cellsFrom_some->fH,instObj->fR,lookIn->g_,kitx_list->iw,kitx_dict->ix,plainGet->iP
open Nat renaming le_refl->am,le_trans->aq,le_add_right->av,ne_of_lt->ax,lt_of_lt_of_le->aL,zero_le->b6,lt_irrefl->ba,mul_le_mul->bg,lt_of_le_of_lt->bm,lt_succ_of_lt->bJ,ne_of_gt->bT,mul_comm->c6,one_mul->ck,mul_pos->cD,pow_le_pow_right->cF,lt_succ_self->cN,le_mul_of_pos_right->cR,mul_assoc->d0,gcd->d7,mul_le_mul_right->dg,pow_add->dh,le_succ->dz,add_mul->dB,gcd_comm->dL,add_le_add_left->dZ,le_of_lt->e9,succ_mul->eh,mod_lt->eJ,pos_of_ne_zero->eK,gcd_pos_of_pos_right->fg,add_comm->fK,lt_trans->fN,pow_succ->fO,zero_add->fP,min_le_left->fW,div_add_mod->fX,div_le_self->fY,div_lt_of_lt_mul->hZ,pow_lt_pow_right->h_,eq_zero_or_pos->il,gcd_zero_right->ir,lt_succ_of_le->iL,gcd_one_right->iO,gcd_le_right->iY
open Option.some renaming inj->aR
open PyProof.Rows renaming callWith_type1->aV
open Array renaming length_toList->b8,getElem?_eq_none->bE,getElem?_eq_getElem->bW,getD->io,toList_push->iH
open Ne renaming symm->bb
open PySem.F renaming called_set->bn,slot_tuple_getattribute->cx,slot_int_rmul->cU,slot_zip_next->d4,called_tuple->db,args_tuple_add_2->dq,entry_tuple_add->dw,plainAttrs_list->dy,slot_tuple_add->dC,slot_tuple_iterator_next->dF,plain_tuple_new->dG,slot_tuple_mul->dN,plain_max_loop->dO,plain_extend_loop->d_,plain_extend_loop->eS,args_int_rmul_2->eV,slot_dict_values->f6,slot_int_index->fk,entry_int_rmul->fq,args_zip_next_1->fv,slot_list_index->fx,entry_max_loop->fy,entry_zip_next->fM,fills_int_mul->fS,entry_proto_collect->f_,sub_list_frozenset->hJ,args_object_init_2->hX,entry_object_init->i6,args_tuple_mul_2->ib,typeCall_tuple_1->ik,slot_tuple_rmul->iz,entry_tuple_mul->iA,entry_type_call->iB,plain_list_iadd->iC,entry_list_iadd->iD,newCall_tuple_1->iE,entry_tuple_new->iF,typeCall_set_1->iU,entry_set_init->iV,slot_set_iter->l8
open PySem.Builtin.List renaming listSameRef->bL,listTooLong->b_,listExtendWith->d6,listLengthHint->eA,listFitsIndex->eN
open PySem.Str renaming ofString->bM
open Int renaming toNat_natCast->c9,natCast_mul->ce,eq_ofNat_of_zero_le->cQ,le_trans->di,natAbs_natCast->du,fdiv_eq_ediv_of_nonneg->eC,emod_lt_of_pos->eO,natAbs_mul->eQ,le_antisymm->fT,emod_nonneg->fV,le_of_lt->iG,le_refl->j_,natCast_add->ld,not_lt->lg,gcd->lh
open False renaming elim->cG
open PySem.Builtin.Tuple renaming tupleExact->cH,tupleTooMany->eI
open PyProof.Rows.F renaming entry_set_update_loop->cO,plain_set_update_loop->fu
open PySem.SeqAt renaming EqAt->d8,RcNeAt->dE,RcAt->fL
open PySem.SetTable renaming grown->df,below->dH
open PySem.Heap.SameBut renaming update->dk
open List.Pairwise renaming imp->dJ
open PySem.Shared renaming TypeIs->dQ
open PySem.Builtin.Frozenset renaming updateFrom->dW
open PySem.Calls renaming Name_function_global->eB,spliced_cons->eD,spliced_nil->eT,callWith_builtin->fI
open PyProof.Rows.KeyOrd renaming klt_of_klt_of_kle->f7,kle_of_klt->iK
open Option renaming isNone->f8,map_eq_some_iff->fQ,map->im,getD_none->iQ,map_some->l7
open Rat renaming num_mkRat->f9,den_mkRat->ff,mul_def'->iM,add_def'->iN
open PySem.Builtin.Range renaming rangeSize->fj
open PySem.Obj renaming mapSeq->fJ,data_mapFields->ii
open PySem.PassesOwn renaming never->fZ
open PySem.Around renaming under_plainId->hW,under_plain->ig
open PySem.Value renaming isStrOf_shape->i5
open PySem.Builtin.Int renaming intBits->i7
open PySem.SeqAt.EqAt renaming of_refs->ia,same->l0
open PySem.Walks renaming list->ic
open PySem.Code renaming quiet_builtin->ie
open PySem.pickOrder renaming go->iI
open PySem.SetTable.below renaming go->iJ
open PySem.WalksT renaming enumerate->iT
open Classical renaming skolem->iX
open PySem.ItemsOf renaming nil->i_
noncomputable section
set_option maxHeartbeats 4000000
set_option Elab.async false
set_option linter.all false
set_option compiler.extract_closed false
set_option maxRecDepth 100000
namespace L2
open PySem PySem.Spec PyProof.Rows
noncomputable abbrev Key:=Sum Int Str
def Qn:Key->Value->Bool
 | .inl k,v=>Value.isInt k v
 | .inr x,v=>Value.isStrOf x v
def keyH (w:World):Key->Int
 | .inl k=>hashInt k
 | .inr x=>hashStr w x
theorem zO:∀{k:Key} {v:Value},Qn k v=true->(∃i t,k=Sum.inl i/\v=Value.int i t)\/(∃x t,k=Sum.inr x/\v=Value.str x t)
 | .inl i,v,h=>by
  obtain⟨t,e⟩:=Value.isInt_shape h;exact .inl ⟨i,t,rfl,e⟩
 | .inr x,v,h=>by
  obtain⟨t,e⟩:=i5 h;exact .inr ⟨x,t,rfl,e⟩
theorem yf (x:Str)(t:Tok):Qn (.inr x) (.str x t)=true:=by simp[Qn,Value.isStrOf]
theorem kB (a b:Int):decide ((Sum.inl a:Key)=Sum.inl b)=(a == b):=by
 by_cases e:a=b
 ·subst e;simp
 ·have h:¬ (Sum.inl a:Key)=Sum.inl b:=λq=>e (Sum.inl.inj q);rw[decide_eq_false h];exact(beq_eq_false_iff_ne.mpr e).symm
theorem kC (a b:Str):decide ((Sum.inr a:Key)=Sum.inr b)=decide (a=b):=by
 by_cases e:a=b
 ·simp
 ·have h:¬ (Sum.inr a:Key)=Sum.inr b:=λq=>e (Sum.inr.inj q);rw[decide_eq_false h,decide_eq_false e]
theorem kD (a:Int)(b:Str):decide ((Sum.inl a:Key)=Sum.inr b)=false:=decide_eq_false (λq=>nomatch q)
theorem kE (a:Str)(b:Int):decide ((Sum.inr a:Key)=Sum.inl b)=false:=decide_eq_false (λq=>nomatch q)
def ZK (prog:Program)(w:World):PySem.KeyKind prog w Key where
 is:=Qn
 hash:=keyH w
 inj:=λv a b ha hb=>by
  rcases zO ha with ⟨i,t,rfl,rfl⟩ | ⟨x,t,rfl,rfl⟩
  ·rcases zO hb with ⟨j,u,rfl,e⟩ | ⟨y,u,rfl,e⟩
   ·injection e with e1 _;rw[e1]
   ·exact nomatch e
  ·rcases zO hb with ⟨j,u,rfl,e⟩ | ⟨y,u,rfl,e⟩
   ·exact nomatch e
   ·injection e with e1 _;rw[e1]
 byValue:=λk v h=>by
  rcases zO h with ⟨i,t,rfl,rfl⟩ | ⟨x,t,rfl,rfl⟩ <;> rfl
 pyHash:=λhv h=>by
  rcases zO hv with ⟨i,t,rfl,rfl⟩ | ⟨x,t,rfl,rfl⟩
  ·exact wpAny_pyHash_int h
  ·exact wpAny_pyHash_str h
 eqBool:=λhu hv h=>by
  rcases zO hu with ⟨i,t,rfl,rfl⟩ | ⟨x,t,rfl,rfl⟩
  ·rcases zO hv with ⟨j,u,rfl,rfl⟩ | ⟨y,u,rfl,rfl⟩
   ·rw[kB]at h;exact wpAny_eqBool_int h
   ·rw[kD]at h;exact d8.int_str i t y u _ _ _ _ h
  ·rcases zO hv with ⟨j,u,rfl,rfl⟩ | ⟨y,u,rfl,rfl⟩
   ·rw[kE]at h;exact d8.str_int x t j u _ _ _ _ h
   ·rw[kC]at h;exact wpAny_eqBool_str h
 «strs»:=λk x t v h=>by
  rcases zO h with ⟨i,u,rfl,e⟩ | ⟨y,u,rfl,e⟩
  ·exact nomatch e
  ·injection e with e1 _;subst e1;cases v <;> rfl
theorem J8 (prog:Program)(w:World)(x:Str)(t:Tok):(ZK prog w).is (.inr x) (.str x t)=true:=yf x t
end L2
namespace L2
open PySem PySem.Spec PyProof.Rows
inductive V where
 | non | bl (b:Bool) | int (i:Int) | str (x:Str) | byt (b:Array UInt8) | flt (b:UInt64) | ref (a:Addr) | ty (n:String)
 deriving DecidableEq
noncomputable def Z3:V->Value->Prop
 | .non,u=>u=Value.none
 | .bl b,u=>u=Value.bool b
 | .int i,u=>∃t,u=Value.int i t
 | .str x,u=>∃t,u=Value.str x t
 | .byt b,u=>∃t,u=Value.bytes b t
 | .flt b,u=>∃t,u=Value.float b t
 | .ref a,u=>u=Value.ref a
 | .ty n,u=>u=Value.type n
abbrev zU:List V->List Value->Prop:=Paired Z3
theorem zU.length (r:zU xs us):xs.length=us.length:=Paired.length r
theorem zU.get:∀{xs:List V} {us:List Value} {i:Nat} {x:V},zU xs us->xs[i]? =some x->∃u,us[i]? =some u/\Z3 x u
 | _,_,_,_,.nil,e=>by simp at e
 | _,_,0,_,.cons r _,e=>by simp at e;subst e;exact⟨_,rfl,r⟩
 | _,_,i+1,x,.cons _ t,e=>by
  obtain⟨u,h1,h2⟩:=zU.get t (by simpa using e)
  exact⟨u,by simpa using h1,h2⟩
theorem zU.append:∀{xs ys:List V} {us ws:List Value},zU xs us->zU ys ws->zU (xs++ys) (us++ws)
 | _,_,_,_,.nil,s=>s
 | _,_,_,_,.cons r t,s=> .cons r (zU.append t s)
theorem zU.take:∀{xs:List V} {us:List Value} (n:Nat),zU xs us->zU (xs.take n) (us.take n)
 | _,_,0,_=> .nil
 | _,_,_+1,.nil=> .nil
 | _,_,n+1,.cons r t=> .cons r (zU.take n t)
theorem zU.drop:∀{xs:List V} {us:List Value} (n:Nat),zU xs us->zU (xs.drop n) (us.drop n)
 | _,_,0,r=>r
 | _,_,_+1,.nil=> .nil
 | _,_,n+1,.cons _ t=>zU.drop n t
def z0M:Option V->Option Value->Prop
 | some v,some u=>Z3 v u
 | none,none=>True
 | _,_=>False
def KV {κ:Type}:List (κ×V)->List (κ×Value)->Prop:=Paired λ(p:κ×V) (q:κ×Value)=>p.1=q.1/\Z3 p.2 q.2
def kV:Key->V
 | .inl i=> .int i
 | .inr x=> .str x
inductive HO where
 | lst (xs:List V)
 | tup (xs:List V)
 | dK (kvs:List (Key×V)) | dT (kvs:List (List Key×V))
 | set (S:Int->Bool) (n:Nat)
 | ins (C dx:Addr) (fs:List (Str×V))
 | own (x:Addr)
 | xd (fs:List (Str×V))
 | met (f x:Addr)
 | rng (lo hi:Int)
 | frz (o:Obj) (u:HO)
 | tbl (ps:Array Value) (q:Str)
 | ext (φ:Heap->Prop)
noncomputable abbrev Hp:=Addr->Option HO
def upd (H:Hp)(a:Addr)(o:HO):Hp:=λb=>if b=a then some o else H b
theorem zr:upd H a o a=some o:=by unfold upd;rw[if_pos rfl]
theorem zm (h:b ≠ a):upd H a o b=H b:=by unfold upd;rw[if_neg h]
theorem zv {H:Hp}{a b:Addr}{o:HO}(h:H a=some o)(h' :H b=none):a ≠ b:=by
 intro e;subst e;rw[h]at h';cases h'
noncomputable def ITN (h:Heap)(a:Addr)(its:Array Value):Prop:=IsTup h a its/\((∃i t,its[0]? =some (Value.int i t))\/∃o,h.get? a=some o/\o.dict=none)
theorem ITN.new (h:Heap)(its:Array Value):ITN (h.push { cls:= .type "tuple",data:= .seq its }) h.objs.size its:=⟨IsTup.new h its,.inr ⟨_,af _ rfl,rfl⟩⟩
section
variable (P:Program)(w:World)
def zX (H:Hp)(h:Heap)(a:Addr):HO->Prop
 | .lst xs=>xs.length<=sizeLine/\∃(its:List Value) (n:Nat),zU xs its/\h.get? a=some { cls:= .type "list",data:= .seq its.toArray n }
 | .tup xs=>xs.length<=sizeLine/\∃its:List Value,zU xs its/\ITN h a its.toArray
 | .dK kvs=>kvs.length<=sizeLine/\(a == sysModules)=false/\∃vs,KV kvs vs/\h.DictOf (ZK P w) a vs
 | .dT kvs=>kvs.length<=sizeLine/\(a == sysModules)=false/\∃xs:List (List Key×Addr×Value),
   Paired (λ(p:List Key×V) (q:List Key×Addr×Value)=>p.1=q.1/\H q.2.1=some (.tup (p.1.map kV))/\Z3 p.2 q.2.2) kvs xs/\
   ∃o es ep,h.get? a=some o/\o.ExactDict/\o.data= .dict es ep/\es.toList=xs.map (entryOfKey (tupleKind (ZK P w)))/\(xs.map (·.1)).Nodup
 | .set S n=>h.SetOf (intKind P w) a S n
 | .ins C dx fs=>H dx=some (.own a)/\fs.length<=1000/\dx ≠ a/\h.get? a=some (fR C dx)/\
   ∃mA,h.Ns1 dx mA/\(∀f,z0M (fs.lookup f) (mA f))/\PySem.Within mA (fs.map (·.1))
 | .own _=>∃o,h.get? a=some o
 | .xd fs=>∃mA,h.Ns1 a mA/\∀f,z0M (fs.lookup f) (mA f)
 | .rng lo hi=>∃t u v,h.get? a=some { cls:= .type "range",data:= .fields #[.int lo t,.int hi u,.int 1 v] }
 | .frz o u=>h.get? a=some o/\zX H h a u
 | .tbl ps q=>∃more:Array Value,h.get? a=some { cls:= .none,data:= .fields (ps++more) }/\TriplesOk (ps++more).toList/\∀p cv,codeAmong p (ps++more).toList=some cv->∃c oc vs t,cv= .ref c/\H c=some (.frz oc (.own c))/\oc.data= .fields vs/\vs[1]? =some (.str q t)
 | .met f x=>h.get? a=some (PySem.W.methodObj (.ref f) (.ref x))
 | .ext φ=>φ h/\(∃o,h.get? a=some o)/\∀h1 h2:Heap,φ h1->(∀o,h1.get? a=some o->h2.get? a=some o)->φ h2
def HOk (H:Hp)(h:Heap):Prop:=∀a o,H a=some o->zX P w H h a o
end
section
variable {P:Program}{w:World}{H H' :Hp}{h h' :Heap}{a:Addr}{o:HO}
theorem zX.lt (x:zX P w H h a o):a < h.objs.size:=by
 cases o with
 | lst xs=>obtain⟨_,_,_,_,e⟩:=x;exact ao e
 | tup xs=>obtain⟨_,_,_,p,_⟩:=x;exact p.lt
 | dK kvs=>obtain⟨_,_,_,_,o,_,_,e,_⟩:=x;exact ao e
 | dT kvs=>obtain⟨_,_,_,_,o,_,_,e,_⟩:=x;exact ao e
 | set S n=>obtain⟨o,_,_,_,e,_⟩:=x;exact ao e
 | ins C dx fs=>obtain⟨_,_,_,e,_⟩:=x;exact ao e
 | own y=>obtain⟨_,e⟩:=x;exact ao e
 | xd fs=>obtain⟨_,⟨_,_,_,e,_⟩,_⟩:=x;exact ao e
 | rng lo hi=>obtain⟨_,_,_,e⟩:=x;exact ao e
 | frz ob u=>obtain⟨e,_⟩:=x;exact ao e
 | tbl ps q=>obtain⟨_,e,_⟩:=x;exact ao e
 | met f y=>exact ao (x)
 | ext φ=>obtain⟨_,⟨_,e⟩,_⟩:=x;exact ao e
theorem Paired.mapP {α β:Type}{F G:α->β->Prop}:∀{l₁:List α} {l₂:List β},Paired F l₁ l₂->(∀a b,F a b->G a b)->Paired G l₁ l₂
 | _,_,.nil,_=> .nil
 | _,_,.cons r t,f=> .cons (f _ _ r) (Paired.mapP t f)
theorem zX.stay (x:zX P w H h a o)(k:∀b u,(b=a\/H b=some (.own a))->h.get? b=some u->h'.get? b=some u)
  (ho:∀b,H b=some (.own a)->H' b=some (.own a)) (ht:∀b xs,H b=some (.tup xs)->H' b=some (.tup xs)) (hf:∀b o u,H b=some (.frz o u)->H' b=some (.frz o u):=by exact λ_ _ _ q=>q):zX P w H' h' a o:=by
 induction o with
 | lst xs=>obtain⟨z,its,n,r,e⟩:=x;exact⟨z,its,n,r,k _ _ (.inl rfl) e⟩
 | tup xs=>obtain⟨z,its,r,⟨ob,e,c⟩,q⟩:=x;exact⟨z,its,r,⟨ob,k _ _ (.inl rfl) e,c⟩,q.imp id λ⟨o2,e2,d2⟩=>⟨o2,k _ _ (.inl rfl) e2,d2⟩⟩
 | dK kvs=>obtain⟨z,y,vs,r,ob,es,ep,e,c⟩:=x;exact⟨z,y,vs,r,ob,es,ep,k _ _ (.inl rfl) e,c⟩
 | dT kvs=>
  obtain⟨z,y,xs,r,ob,es,ep,e,c⟩:=x;exact⟨z,y,xs,Paired.mapP r λp q z=>⟨z.1,ht _ _ z.2.1,z.2.2⟩,ob,es,ep,k _ _ (.inl rfl) e,c⟩
 | set S n=>obtain⟨ob,es,ep,t,e,c⟩:=x;exact⟨ob,es,ep,t,k _ _ (.inl rfl) e,c⟩
 | ins C dx fs=>
  obtain⟨d,z,ne,e,mA,⟨od,es,ep,e2,c⟩,r⟩:=x;exact⟨ho _ d,z,ne,k _ _ (.inl rfl) e,mA,⟨od,es,ep,k _ _ (.inr d) e2,c⟩,r⟩
 | own y=>obtain⟨ob,e⟩:=x;exact⟨ob,k _ _ (.inl rfl) e⟩
 | xd fs=>obtain⟨mA,⟨od,es,ep,e,c⟩,r⟩:=x;exact⟨mA,⟨od,es,ep,k _ _ (.inl rfl) e,c⟩,r⟩
 | rng lo hi=>obtain⟨t,u,v,e⟩:=x;exact⟨t,u,v,k _ _ (.inl rfl) e⟩
 | frz ob u ih=>obtain⟨e,q⟩:=x;exact⟨k _ _ (.inl rfl) e,ih q⟩
 | tbl ps q=>
  obtain⟨m,e,tr,al⟩:=x;exact⟨m,k a _ (.inl rfl) e,tr,λp cv z=>let ⟨c,oc,vs,t,e1,e2,e3⟩:=al p cv z;⟨c,oc,vs,t,e1,hf _ _ _ e2,e3⟩⟩
 | met f y=>
  have e:=x;exact k a _ (.inl rfl) e
 | ext φ=>obtain⟨p,⟨o,e⟩,st⟩:=x;exact⟨st _ _ p λo q=>k _ _ (.inl rfl) q,⟨o,k _ _ (.inl rfl) e⟩,st⟩
theorem HOk.lt (x:HOk P w H h)(e:H a=some o):a < h.objs.size:=(x a o e).lt
theorem HOk.fresh (x:HOk P w H h)(e:h.objs.size<=a):H a=none:=by
 cases q:H a with
 | none=>rfl
 | some u=>exact absurd (aL (x.lt q) e) (ba _)
theorem HOk.kept (x:HOk P w H h)(k:∀b u,h.get? b=some u->h'.get? b=some u):HOk P w H h' :=λa o e=>
 (x a o e).stay (λb u _ q=>k b u q) (λ_ q=>q) λ_ _ q=>q
theorem HOk.laid (x:HOk P w H h)(k:∀b u,h.get? b=some u->h'.get? b=some u)(hp:h.objs.size<=a)(new:zX P w (upd H a o) h' a o):HOk P w (upd H a o) h' :=λb u e=>by
 have hn:=x.fresh hp
 by_cases hb:b=a
 ·subst hb;rw[zr]at e;cases e;exact new
 ·rw[zm hb]at e;exact(x b u e).stay (λc v _ q=>k c v q) (λc q=>by rw[zm (zv q hn)];exact q) (λc xs q=>by rw[zm (zv q hn)];exact q) λc o u q=>by rw[zm (zv q hn)];exact q
end
def Rd (H:Hp)(a:Addr)(u:HO):Prop:=H a=some u\/∃o,H a=some (.frz o u)
theorem Rd.ok (r:Rd H a u)(x:HOk P w H h):zX P w H h a u:=by
 rcases r with r | ⟨o,r⟩
 ·exact x a u r
 ·obtain⟨_,q⟩:=x a _ r;exact q
noncomputable def Mut:Option HO->Prop
 | some (.lst _)=>True
 | some (.dK _)=>True
 | some (.dT _)=>True
 | some (.set _ _)=>True
 | some (.ins _ _ _)=>True
 | some (.ext _)=>True
 | _=>False
section
theorem HOk.write (ok:HOk P w H h)(mu:Mut (H x))(he:e=x\/H e=some (.own x))(k:∀b u,b ≠ e->h.get? b=some u->h'.get? b=some u)(heo:∃u,h'.get? e=some u)
  (new:zX P w (upd H x o') h' x o'):HOk P w (upd H x o') h' :=λb u q=>by
 have nown:∀c y,H c=some (.own y)->c ≠ x:=λc y r z=>by subst z;rw[r]at mu;exact mu
 have ntup:∀c xs,H c=some (.tup xs)->c ≠ x:=λc xs r z=>by subst z;rw[r]at mu;exact mu
 by_cases hb:b=x
 ·subst hb;rw[zr]at q;cases q;exact new
 ·rw[zm hb]at q
  by_cases hbe:b=e
  ·have q' :H b=some (.own x):=by
    rcases he with z | z
    ·exact absurd (hbe.trans z) hb
    ·rw[hbe];exact z
   rw[q]at q';cases q';obtain⟨v,hv⟩:=heo;exact⟨v,by rw[hbe];exact hv⟩
  ·refine(ok b u q).stay (λc v hc r=>k c v ?_ r) (λc r=>by rw[zm (nown c b r)];exact r) (λc xs r=>by rw[zm (ntup c xs r)];exact r) λc o u r=>by rw[zm (λz=>by subst z;rw[r]at mu;exact mu)];exact r
   rcases hc with rfl | hc
   ·exact hbe
   ·rintro rfl
    rcases he with z | z
    ·exact nown c b hc z
    ·rw[hc]at z;cases z;exact hb rfl
end
structure Un (fs ex:List Addr) (H H' :Hp) (h h' :Heap):Prop where
 keep:∀b o,h.get? b=some o->H b=none->b ∉ fs->b ∉ ex->h'.get? b=some o
 slot:∀b o,h.get? b=some o->H b=none->b∈fs->b ∉ ex->∃sl,h'.get? b=some { o with slots:=sl }
 free:∀b o,h.get? b=some o->H b=none->b ∉ ex->H' b=none
 there:∀b o,h.get? b=some o->b ∉ ex->∃o',h'.get? b=some o'
 tups:∀b xs,H b=some (.tup xs)->H' b=some (.tup xs)
 frzs:∀b o u,H b=some (.frz o u)->H' b=some (.frz o u)
 tbls:∀b ps q,H b=some (.tbl ps q)->H' b=some (.tbl ps q)
section
variable {fs fs' ex ex' :List Addr}{H H1 H2:Hp}{h h1 h2 h' :Heap}{a x e:Addr}{o:HO}
theorem Un.any (u:Un fs ex H H1 h h1)(q:h.get? b=some ob)(n:H b=none)(hx:b ∉ ex):∃sl,h1.get? b=some { ob with slots:=sl }:=by
 by_cases hb:b∈fs
 ·exact u.slot b ob q n hb hx
 ·exact⟨ob.slots,u.keep b ob q n hb hx⟩
theorem Un.kept (k:∀b u,h.get? b=some u->h'.get? b=some u):Un fs ex H H h h' :=
 ⟨λb ob q _ _ _=>k b ob q,λb ob q _ _ _=>⟨ob.slots,k b ob q⟩,λ_ _ _ n _=>n,λb ob q _=>⟨ob,k b ob q⟩,λ_ _ q=>q,λ_ _ _ q=>q,λ_ _ _ q=>q⟩
theorem Un.refl:Un fs ex H H h h:=Un.kept λ_ _ q=>q
theorem Un.laid (k:∀b u,h.get? b=some u->h'.get? b=some u)(hp:h.objs.size<=a)(hn:H a=none):Un fs ex H (upd H a o) h h' where
 keep:=λb u q _ _ _=>k b u q
 slot:=λb u q _ _ _=>⟨u.slots,k b u q⟩
 free:=λb u q n _=>by rw[zm (ax (aL (ao q) hp))];exact n
 there:=λb u q _=>⟨u,k b u q⟩
 tups:=λb xs q=>by rw[zm (zv q hn)];exact q
 frzs:=λb u xs q=>by rw[zm (zv q hn)];exact q
 tbls:=λb ps q e=>by rw[zm (zv e hn)];exact e
theorem Un.write (mu:Mut (H x))(he:e=x\/H e=some (.own x))(k:∀b u,b ≠ e->h.get? b=some u->h'.get? b=some u)(heo:∃u,h'.get? e=some u):Un fs ex H (upd H x o) h h' :=by
 have hx:∀b,H b=none->b ≠ x:=λb n z=>by subst z;rw[n]at mu;exact mu
 have hb:∀b,H b=none->b ≠ e:=λb n z=>by
  subst z;rcases he with r | r
  ·exact hx b n r
  ·rw[n]at r;cases r
 have hm:∀b u,H b=some u->¬ Mut (some u)->b ≠ x:=λb u q nm z=>by subst z;rw[q]at mu;exact nm mu
 refine⟨λb u q n _ _=>k b u (hb b n) q,λb u q n _ _=>⟨u.slots,k b u (hb b n) q⟩,λb u q n _=>by rw[zm (hx b n)];exact n,λb u q _=> ?_,
  λb xs q=>by rw[zm (hm b _ q λz=>z)];exact q,λb u xs q=>by rw[zm (hm b _ q λz=>z)];exact q,λb ps q e=>by rw[zm (hm b _ e λz=>z)];exact e⟩
 by_cases hbe:b=e
 ·subst hbe;exact heo
 ·exact⟨u,k b u hbe q⟩
end
def trk (h:Heap)(H:Hp):List Addr:=(bc h.objs.size).filter λa=>(H a).isSome
def km (h:Heap)(H:Hp):Heap:=PySem.W.hideAll h (trk h H)
theorem yg (h:Heap)(H:Hp):(km h H).objs.size=h.objs.size:=PySem.W.hideAll_size _ _
theorem Qo (e:h.get? b=some o)(n:H b=none):(km h H).get? b=some o:=
 PySem.W.hideAll_get _ e λhm=>by
  have q:=(dr.mp hm).2;rw[n]at q;simp at q
theorem x6 (e:(km h H).get? b=some o):h.get? b=some o/\H b=none:=by
 have e' :=PySem.W.of_hideAll _ e;refine⟨e', ?_⟩;cases q:H b with
 | none=>rfl
 | some x=>
  have hm:b∈trk h H:=dr.mpr ⟨bS.mpr (ao e'),by simp[q]⟩
  have z:(km h H).get? b=none:=PySem.W.hideAll_none _ hm;rw[z]at e;cases e
end L2
namespace L2
open PySem PySem.Spec PyProof.Rows
structure Mod (K:ai) (mg:Str->Option Value) (base:Heap):Prop where
 kin:K.In base
 glob:base.Ns mainGlobals mg
 blt:∃mb,base.Ns builtinsNs mb/\∀x:Str,x ≠ "__name__"->mb x=bootBuiltins x
 nolimit:base.NoLimit
structure Cx where
 prog:Program
 w:World
 K:ai
 mg:Str->Option Value
 base:Heap
 A:Around
 N:List Str
 s₀:Shared
 H₀:Hp
 env:Env
 outer:List Env
 stack:List Env
 ex:List Addr
 fn:Str->Bool
 calm:Bool
 pn:List (Addr×Obj)
 xe:Value->Shared->Prop
noncomputable def frs (l:List Env):List Addr:=l.filterMap (·.frame)
abbrev Cx.fs (X:Cx):List Addr:=frs X.outer
noncomputable def Vis (sc:Scope)(x:Str):Prop:=sc.names.lookup x=some .local\/sc.names.lookup x=some .cell\/sc.names.lookup x=some .free
noncomputable def Loc (sc:Scope)(x:Str):Prop:=sc.names.lookup x=some .local\/sc.names.lookup x=some .cell
noncomputable def Look (env:Env)(h:Heap)(m:Str->Option Value)(x:Str)(u:Value):Prop:=
 (env.kindOf x=some .local/\m x=some u)\/((env.kindOf x=some .cell\/env.kindOf x=some .free)/\∃c,env.cells.lookup x=some c/\h.IsCell c (some u))
structure Cx.Ok (X:Cx):Prop where
 mod:Mod X.K X.mg X.base
 kind:X.env.scope.kind= .function
 glob:X.env.globals=mainGlobals
 blt:X.env.builtins=builtinsNs
 above:X.s₀.heap.objs.size<=X.env.locals
 inj:∀x y c,X.env.cells.lookup x=some c->X.env.cells.lookup y=some c->x=y
 has:∀x,(X.env.kindOf x=some .cell\/X.env.kindOf x=some .free)->∃c,X.env.cells.lookup x=some c
 cab:∀x c,X.fn x=true->X.env.cells.lookup x=some c->X.s₀.heap.objs.size<=c
 hd:X.calm=true->X.A.handled=none
 frames:X.A.frames=some X.stack
 stk:X.stack=X.outer\/(X.stack=X.env :: X.outer/\X.env.frame=some X.env.locals)
 exf:∀b∈X.ex,b ≠ X.env.locals/\∀x c,X.env.cells.lookup x=some c->c ≠ b
 bs:∀b o,X.base.get? b=some o->X.s₀.heap.get? b=some o/\X.H₀ b=none
 bsz:X.base.objs.size<=X.s₀.heap.objs.size
 noex:∀b o,X.base.get? b=some o->b ∉ X.ex
 exfs:∀b∈X.ex,b ∉ X.fs
 funs:X.s₀.heap.FunFrames X.base X.outer
 frf:∀b∈X.fs,X.H₀ b=none
structure Inv (X:Cx) (pins:List (Addr×Obj)) (σ:List (Option V)) (H:Hp) (s:Shared):Prop where
 ok:X.Ok
 os:s.os=X.s₀.os
 bare:AllBare s.gens
 base:Un X.fs X.ex X.H₀ H X.s₀.heap s.heap
 loc:∃m,s.heap.Ns X.env.locals m/\∀(i:Nat) (x:Str) (v:V),X.N[i]? =some x->σ[i]? =some (some v)->Vis X.env.scope x->∃u,Z3 v u/\Look X.env s.heap m x u
 cell:∀x c,X.env.cells.lookup x=some c->∃v,s.heap.IsCell c v
 free:H X.env.locals=none
 freeC:∀x c,X.env.cells.lookup x=some c->H c=none
 pin:∀p∈X.pn++pins,s.heap.get? p.1=some p.2/\H p.1=none/\p.1 ≠ X.env.locals/\p.1 ∉ X.fs/\∀v,p.2.data ≠ .cell v
 hok:HOk X.prog X.w H s.heap
 len:σ.length=X.N.length
section
variable {X:Cx}{pins:List (Addr×Obj)}{σ:List (Option V)}{H H' :Hp}{s:Shared}{h' :Heap}
theorem Cx.Ok.nofr (ok:X.Ok){b:Addr}{o:Obj}(e:X.base.get? b=some o):b ∉ X.fs:=λhb=>by
 have:=(ok.funs.mem hb).1;rw[e]at this;cases this
theorem Inv.bs (I:Inv X pins σ H s):∀b o,X.base.get? b=some o->s.heap.get? b=some o/\H b=none:=λb o e=>
 ⟨I.base.keep b o (I.ok.bs b o e).1 (I.ok.bs b o e).2 (I.ok.nofr e) (I.ok.noex b o e),I.base.free b o (I.ok.bs b o e).1 (I.ok.bs b o e).2 (I.ok.noex b o e)⟩
theorem Inv.bk (I:Inv X pins σ H s):∀b o,X.base.get? b=some o->s.heap.get? b=some o:=λb o e=>(I.bs b o e).1
theorem Inv.mod (I:Inv X pins σ H s):Mod X.K X.mg X.base:=I.ok.mod
theorem Inv.kIn (I:Inv X pins σ H s):X.K.In s.heap:=I.ok.mod.kin.keeps I.bk
theorem Inv.lt (I:Inv X pins σ H s):X.env.locals < s.heap.objs.size:=let ⟨_,hn,_⟩:=I.loc;hn.lt
theorem Inv.sz (I:Inv X pins σ H s):X.s₀.heap.objs.size<=s.heap.objs.size:=aq I.ok.above (e9 I.lt)
theorem Inv.nofs (I:Inv X pins σ H s)(h:s.heap.objs.size<=a):a ∉ X.fs:=λhb=>by
 obtain⟨_,o,ho,_⟩:=I.ok.funs.mem hb;exact absurd (aL (ao ho) (aq I.sz h)) (ba _)
theorem Inv.cne (I:Inv X pins σ H s):∀x c,X.env.cells.lookup x=some c->c ≠ X.env.locals:=λx c e z=>by
 obtain⟨v,o,ho,hd⟩:=I.cell x c e;obtain⟨m,⟨o',es,ep,ho',hd',_⟩,_⟩:=I.loc;rw[z,ho']at ho;cases ho;rw[hd']at hd;cases hd
theorem Inv.funs (I:Inv X pins σ H s):s.heap.FunFrames X.base X.outer:=by
 have all:∀(l:List Env),(∀b∈frs l,b∈X.fs)->X.s₀.heap.FunFrames X.base l->s.heap.FunFrames X.base l:=by
  intro l
  induction l with
  | nil=>intro _ _;trivial
  | cons env r ih=>
   intro hs hl;obtain⟨hk,⟨L,o,hf,hn,ho,hd⟩,hr⟩:=hl;have hL:=hs L (by unfold frs;rw[dY,hf];exact ac)
   obtain⟨sl,e⟩:=I.base.slot L o ho (I.ok.frf L hL) hL λz=>I.ok.exfs L z hL;exact⟨hk,⟨L,_,hf,hn,e,hd⟩,ih (λb hb=>hs b (by unfold frs;rw[dY,hf];exact a8 _ hb)) hr⟩
 exact all _ (λ_ hb=>hb) I.ok.funs
theorem Inv.stack (I:Inv X pins σ H s):s.heap.FunFrames X.base X.stack:=by
 rcases I.ok.stk with e | ⟨e,hf⟩
 ·rw[e];exact I.funs
 ·rw[e];obtain⟨m,hn,_⟩:=I.loc;refine .cons (by rw[I.ok.kind];decide) hf hn ?_ I.funs
  exact Heap.get?_none_of_le (aq I.ok.bsz I.ok.above)
theorem Inv.stkSub (I:Inv X pins σ H s):∀b∈frs X.stack,b∈X.env.locals :: X.fs:=λb hb=>by
 rcases I.ok.stk with e | ⟨e,hf⟩
 ·rw[e]at hb;exact a8 _ hb
 ·rw[e]at hb;unfold frs at hb;rw[dY,hf]at hb;exact hb
theorem Inv.stkFree (I:Inv X pins σ H s):∀b∈frs X.stack,H b=none:=λb hb=>by
 rcases aj.mp (I.stkSub b hb) with e | hb
 ·rw[e];exact I.free
 ·obtain⟨_,o,ho,_⟩:=I.ok.funs.mem hb;exact I.base.free b o ho (I.ok.frf b hb) λz=>I.ok.exfs b z hb
theorem Inv.step {g' :Array GenState}{t' :Nat}{d' :Drawn}{ch:List Addr}(I:Inv X pins σ H s)
  (hch:∀b∈ch,(b∈X.ex\/X.s₀.heap.objs.size<=b)/\b ≠ X.env.locals/\(∀x c,X.env.cells.lookup x=some c->c ≠ b)/\∀p∈X.pn++pins,p.1 ≠ b)
  (keep:∀b o,b ≠ X.env.locals->b ∉ X.fs->b ∉ ch->s.heap.get? b=some o->H b=none->h'.get? b=some o)
  (slot:∀b o,b ≠ X.env.locals->b∈X.fs->b ∉ ch->s.heap.get? b=some o->H b=none->∃sl,h'.get? b=some { o with slots:=sl }) (free:∀b o,b ∉ ch->s.heap.get? b=some o->H b=none->H' b=none)
  (there:∀b o,b ∉ ch->s.heap.get? b=some o->∃o',h'.get? b=some o')
  (tups:∀b xs,H b=some (.tup xs)->H' b=some (.tup xs)) (frzs:∀b o u,H b=some (.frz o u)->H' b=some (.frz o u)) (tbls:∀b ps q,H b=some (.tbl ps q)->H' b=some (.tbl ps q))
  (ns:∀m,s.heap.Ns X.env.locals m->h'.Ns X.env.locals m) (hok:HOk X.prog X.w H' h') (hg:AllBare g'):
  Inv X pins σ H' { s with heap:=h',gens:=g',drawn:=d',toks:=t' }:=by
 have neL:∀b o,X.s₀.heap.get? b=some o->b ≠ X.env.locals:=λb o e=>ax (aL (ao e) I.ok.above);have neC:∀b o,X.s₀.heap.get? b=some o->b ∉ X.ex->b ∉ ch:=λb o e hx hb=>by
  rcases(hch b hb).1 with z | z
  ·exact hx z
  ·exact absurd (aL (ao e) z) (ba _)
 have cellK:∀x c,X.env.cells.lookup x=some c->∀v,s.heap.IsCell c v->h'.IsCell c v:=λx c e v ⟨o,ho,hd⟩=>by
  have nch:=λz=>(hch c z).2.2.1 x c e rfl
  by_cases hc:c∈X.fs
  ·obtain⟨sl,q⟩:=slot c o (I.cne x c e) hc nch ho (I.freeC x c e);exact⟨_,q,hd⟩
  ·exact⟨o,keep c o (I.cne x c e) hc nch ho (I.freeC x c e),hd⟩
 refine⟨I.ok,I.os,hg,⟨λb o e n hb hx=> ?_,λb o e n hb hx=> ?_,λb o e n hx=> ?_,λb o e hx=> ?_,λb xs e=>tups b xs (I.base.tups b xs e),λb o xs e=>frzs b o xs (I.base.frzs b o xs e),λb ps q e=>tbls b ps q (I.base.tbls b ps q e)⟩, ?_,λx c e=> ?_, ?_,λx c e=> ?_,λp hp=> ?_,hok,I.len⟩
 ·exact keep b o (neL b o e) hb (neC b o e hx) (I.base.keep b o e n hb hx) (I.base.free b o e n hx)
 ·obtain⟨sl,e1⟩:=I.base.slot b o e n hb hx;obtain⟨sl',e2⟩:=slot b _ (neL b o e) hb (neC b o e hx) e1 (I.base.free b o e n hx);exact⟨sl',e2⟩
 ·obtain⟨o',e1⟩:=I.base.there b o e hx;exact free b o' (neC b o e hx) e1 (I.base.free b o e n hx)
 ·obtain⟨o',e1⟩:=I.base.there b o e hx;exact there b o' (neC b o e hx) e1
 ·obtain⟨m,hn,hl⟩:=I.loc;refine⟨m,ns m hn,λi x v e1 e2 e3=> ?_⟩;obtain⟨u,r,l⟩:=hl i x v e1 e2 e3;refine⟨u,r, ?_⟩;rcases l with l | ⟨k,c,e,z⟩
  ·exact .inl l
  ·exact .inr ⟨k,c,e,cellK x c e _ z⟩
 ·obtain⟨v,z⟩:=I.cell x c e;exact⟨v,cellK x c e v z⟩
 ·obtain⟨m,⟨o,_,_,ho,_⟩,_⟩:=I.loc;exact free _ o (λz=>(hch _ z).2.1 rfl) ho I.free
 ·obtain⟨v,o,ho,hd⟩:=I.cell x c e;exact free c o (λz=>(hch c z).2.2.1 x c e rfl) ho (I.freeC x c e)
 ·obtain⟨e,n,ne,nf,d⟩:=I.pin p hp;have nch:=λz=>(hch p.1 z).2.2.2 p hp rfl;exact⟨keep p.1 p.2 ne nf nch e n,free p.1 p.2 nch e n,ne,nf,d⟩
theorem Inv.un {t' :Nat}(I:Inv X pins σ H s)(u:Un X.fs [] H H' s.heap h')(hok:HOk X.prog X.w H' h'):Inv X pins σ H' { s with heap:=h',toks:=t' }:=by
 obtain⟨m,⟨o,es,ep,ho,r⟩,_⟩:=id I.loc;obtain⟨sl,hL⟩:=u.any ho I.free (by simp)
 exact I.step (ch:=[]) (λ_ z=>nomatch z) (λb o _ hb _ e n=>u.keep b o e n hb (by simp)) (λb o _ hb _ e n=>u.slot b o e n hb (by simp)) (λb o _ e n=>u.free b o e n (by simp)) (λb o _ e=>u.there b o e (by simp)) u.tups u.frzs u.tbls (λm' hm=>by
  obtain⟨o',es',ep',ho',r'⟩:=hm;rw[ho]at ho';cases ho';exact⟨_,es',ep',hL,r'⟩) hok I.bare
theorem Inv.call {g' :Array GenState}{t' :Nat}{d' :Drawn}{ch:List Addr}(I:Inv X pins σ H s)(u:Un (frs X.stack) ch H H' s.heap h')(hok:HOk X.prog X.w H' h')(hg:AllBare g')
  (hch:∀b∈ch,(b∈X.ex\/X.s₀.heap.objs.size<=b)/\b ≠ X.env.locals/\(∀x c,X.env.cells.lookup x=some c->c ≠ b)/\∀p∈X.pn++pins,p.1 ≠ b):
  Inv X pins σ H' { s with heap:=h',gens:=g',drawn:=d',toks:=t' }:=by
 obtain⟨m,⟨o,es,ep,ho,r⟩,_⟩:=id I.loc;obtain⟨sl,hL⟩:=u.any ho I.free λz=>(hch _ z).2.1 rfl;exact I.step hch (λb o hL hb hc e n=>u.keep b o e n (λz=>(aj.mp (I.stkSub b z)).elim hL hb) hc) (λb o _ _ hc e n=>u.any e n hc) (λb o hc e n=>u.free b o e n hc) (λb o hc e=>u.there b o e hc) u.tups u.frzs u.tbls (λm' hm=>by
  obtain⟨o',es',ep',ho',r'⟩:=hm;rw[ho]at ho';cases ho';exact⟨_,es',ep',hL,r'⟩) hok hg
theorem Inv.turned {t' :Nat}{it:Addr}(I:Inv X pins σ H s)(k:∀b o,b ≠ it->s.heap.get? b=some o->h'.get? b=some o)(hn:H it=none)(hL:it ≠ X.env.locals)
  (h1:it∈X.ex\/X.s₀.heap.objs.size<=it) (h2:∀x c,X.env.cells.lookup x=some c->c ≠ it) (h3:∀p∈X.pn++pins,p.1 ≠ it):Inv X pins σ H { s with heap:=h',toks:=t' }:=by
 have nit:∀b u,H b=some u->b ≠ it:=λb u e z=>by rw[z,hn]at e;cases e
 refine I.step (ch:=[it]) (λb hb=> ?_) (λb o _ _ hc e _=>k b o (λz=>hc (by simp[z])) e) (λb o _ _ hc e _=>⟨o.slots,k b o (λz=>hc (by simp[z])) e⟩) (λ_ _ _ _ n=>n)
  (λb o hc e=>⟨o,k b o (λz=>hc (by simp[z])) e⟩) (λ_ _ e=>e) (λ_ _ _ e=>e) (λ_ _ _ e=>e) (λm hm=> ?_) (λb u e=> ?_) I.bare
 ·have e:=by simpa using hb
  subst e;exact⟨h1,hL,h2,h3⟩
 ·obtain⟨o,es,ep,ho,r⟩:=hm;exact⟨o,es,ep,k _ o (bb hL) ho,r⟩
 ·refine(I.hok b u e).stay (λc v hc q=>k c v ?_ q) (λ_ q=>q) λ_ _ q=>q;rcases hc with z | z
  ·rw[z];exact nit b u e
  ·exact nit c _ z
theorem Inv.tok (I:Inv X pins σ H s)(t:Nat):Inv X pins σ H { s with toks:=t }:=I.un Un.refl I.hok
theorem Inv.kept (I:Inv X pins σ H s)(k:∀b u,s.heap.get? b=some u->h'.get? b=some u):Inv X pins σ H { s with heap:=h',toks:=t' }:=I.un (Un.kept k) (I.hok.kept k)
theorem Inv.laid (I:Inv X pins σ H s)(k:∀b u,s.heap.get? b=some u->h'.get? b=some u)(hp:s.heap.objs.size<=a)(new:zX X.prog X.w (upd H a o) h' a o):
  Inv X pins σ (upd H a o) { s with heap:=h',toks:=t' }:=I.un (Un.laid k hp (I.hok.fresh hp)) (I.hok.laid k hp new)
theorem Inv.write (I:Inv X pins σ H s)(mu:Mut (H x))(he:e=x\/H e=some (.own x))(k:∀b u,b ≠ e->s.heap.get? b=some u->h'.get? b=some u)(heo:∃u,h'.get? e=some u)
  (new:zX X.prog X.w (upd H x o) h' x o):Inv X pins σ (upd H x o) { s with heap:=h',toks:=t' }:=I.un (Un.write mu he k heo) (I.hok.write mu he k heo new)
theorem Inv.pins_of (I:Inv X pins σ H s)(h:∀p∈pins',s.heap.get? p.1=some p.2/\H p.1=none/\p.1 ≠ X.env.locals/\p.1 ∉ X.fs/\∀v,p.2.data ≠ .cell v):Inv X pins' σ H s:=
 ⟨I.ok,I.os,I.bare,I.base,I.loc,I.cell,I.free,I.freeC,λp hp=>(cy.mp hp).elim (λz=>I.pin p (dS _ z)) (h p),I.hok,I.len⟩
theorem uA {N:List Str}(hN:N.Nodup){i j:Nat}{x:Str}(a:N[i]? =some x)(b:N[j]? =some x):i=j:=by
 obtain⟨h1,e1⟩:=ak.mp a;obtain⟨h2,e2⟩:=ak.mp b;exact(fh hN).mp (e1.trans e2.symm)
theorem W0 {M:Model}{A:Around}{E:Value->Shared->Prop}{i:Nat}{x:Str}{v:V}{u:Value}{Q:Unit->Shared->Prop}(I:Inv X pins σ H s)(hN:X.N.Nodup)(hi:X.N[i]? =some x)(hx:Loc X.env.scope x)(r:Z3 v u)
  (h:∀s',Inv X pins (σ.set i (some v)) H s' ->(∃a,bv a s.heap s'.heap/\(a=X.env.locals\/X.env.cells.lookup x=some a))->Q () s') (hf:X.fn x=true\/X.env.scope.names.lookup x=some .local:=by first | exact .inl rfl | exact .inr rfl | assumption):wpAny M A (storeName X.env x u) Q E s:=by
 obtain⟨m,hn,hl⟩:=id I.loc;have hcls:(X.env.scope.kind == .class || (X.env.scope.kind == .module && X.env.locals != X.env.globals))=false:=by rw[I.ok.kind];rfl
 have hiσ:i < σ.length:=by rw[I.len];exact(ak.mp hi).1
 have cne:=I.cne;have tracked:∀{a:Addr} {h' :Heap},(∃o,s.heap.get? a=some o/\H a=none)->bv a _ h' ->HOk _ X.w H h' :=λ{a h'} ha hs b ob e=>by
  obtain⟨_,_,hfree⟩:=ha;refine(I.hok b ob e).stay (λc w' hc q=>(hs.2 c ?_).trans q) (λ_ q=>q) λ_ _ q=>q
  rintro rfl
  rcases hc with rfl | hc
  ·rw[hfree]at e;cases e
  ·rw[hfree]at hc;cases hc
 rcases hx with hk | hk
 ·refine wpAny_storeName_local hk hn (λh' hn' hs=> ?_) hcls;obtain⟨oL,_,_,hoL,_⟩:=id hn;refine h _ ⟨I.ok,I.os,I.bare,⟨λb o e n hb hx=> ?_,λb o e n hb hx=> ?_,I.base.free,λb o e hx=> ?_,I.base.tups,I.base.frzs,I.base.tbls⟩,⟨_,hn',λj y v' e1 e2 e3=> ?_⟩,λy c e=> ?_,I.free,I.freeC,λp hp=> ?_,tracked ⟨oL,hoL,I.free⟩ hs,by simpa using I.len⟩ ⟨_,hs,.inl rfl⟩
  ·exact(hs.2 b (ax (aL (ao e) I.ok.above))).trans (I.base.keep b o e n hb hx)
  ·obtain⟨sl,e1⟩:=I.base.slot b o e n hb hx;exact⟨sl,(hs.2 b (ax (aL (ao e) I.ok.above))).trans e1⟩
  ·obtain⟨o',e1⟩:=I.base.there b o e hx;exact⟨o',(hs.2 b (ax (aL (ao e) I.ok.above))).trans e1⟩
  ·by_cases hj:j=i
   ·subst hj;rw[hi]at e1;cases e1;rw[bj hiσ]at e2;cases e2;exact⟨u,r,.inl ⟨hk,by simp⟩⟩
   ·rw[aD (bb hj)]at e2;obtain⟨u',r',q⟩:=hl j y v' e1 e2 e3;refine⟨u',r', ?_⟩;rcases q with ⟨k,e⟩ | ⟨k,c,e,z⟩
    ·refine .inl ⟨k, ?_⟩;have:y ≠ x:=λe=>hj (uA hN e1 (e ▸ hi));simp[this,e]
    ·exact .inr ⟨k,c,e,z.sameBut hs (cne y c e)⟩
  ·obtain⟨w',z⟩:=I.cell y c e;exact⟨w',z.sameBut hs (cne y c e)⟩
  ·obtain⟨e,n,ne,nf,d⟩:=I.pin p hp;exact⟨(hs.2 p.1 ne).trans e,n,ne,nf,d⟩
 ·have hfn:X.fn x=true:=by
   rcases hf with z | z
   ·exact z
   ·rw[z]at hk;cases hk
  obtain⟨c,hc⟩:=I.ok.has x (.inl hk);obtain⟨w',z⟩:=I.cell x c hc;refine wpAny_storeName_cell I.ok.kind hk hc z (λh' hc' hs=> ?_);obtain⟨oc,hoc,hocd⟩:=id z;refine h _ ⟨I.ok,I.os,I.bare,⟨λb o e n hb hx=> ?_,λb o e n hb hx=> ?_,I.base.free,λb o e hx=> ?_,I.base.tups,I.base.frzs,I.base.tbls⟩,⟨m,hn.sameBut hs (bb (cne x c hc)),λj y v' e1 e2 e3=> ?_⟩,λy c' e=> ?_,I.free,I.freeC,λp hp=> ?_,tracked ⟨oc,hoc,I.freeC x c hc⟩ hs,by simpa using I.len⟩ ⟨c,hs,.inr hc⟩
  ·exact(hs.2 b (ax (aL (ao e) (I.ok.cab x c hfn hc)))).trans (I.base.keep b o e n hb hx)
  ·obtain⟨sl,e1⟩:=I.base.slot b o e n hb hx;exact⟨sl,(hs.2 b (ax (aL (ao e) (I.ok.cab x c hfn hc)))).trans e1⟩
  ·obtain⟨o',e1⟩:=I.base.there b o e hx;exact⟨o',(hs.2 b (ax (aL (ao e) (I.ok.cab x c hfn hc)))).trans e1⟩
  ·by_cases hj:j=i
   ·subst hj;rw[hi]at e1;cases e1;rw[bj hiσ]at e2;cases e2;exact⟨u,r,.inr ⟨.inl hk,c,hc,hc'⟩⟩
   ·rw[aD (bb hj)]at e2;obtain⟨u',r',q⟩:=hl j y v' e1 e2 e3;refine⟨u',r', ?_⟩;rcases q with q | ⟨k,c',e,z'⟩
    ·exact .inl q
    ·refine .inr ⟨k,c',e,z'.sameBut hs ?_⟩
     rintro rfl
     exact hj (uA hN e1 (I.ok.inj _ _ _ e hc ▸ hi))
  ·by_cases hcc:c' =c
   ·subst hcc;exact⟨_,hc'⟩
   ·obtain⟨w2,z2⟩:=I.cell y c' e;exact⟨w2,z2.sameBut hs hcc⟩
  ·obtain⟨e,n,ne,nf,d⟩:=I.pin p hp;refine⟨(hs.2 p.1 ?_).trans e,n,ne,nf,d⟩;intro q;rw[q,hoc]at e;have q' :=aR e;exact d w' (by rw[← q'];exact hocd)
theorem jT {Q:Unit->Shared->Prop}(I:Inv X pins σ H s)(hN:X.N.Nodup)(hi:X.N[i]? =some x)(hx:Loc X.env.scope x)(r:Z3 v u)
  (h:∀s',Inv X pins (σ.set i (some v)) H s' ->Q () s') (hf:X.fn x=true\/X.env.scope.names.lookup x=some .local:=by first | exact .inl rfl | exact .inr rfl | assumption):wpAny M A (storeName X.env x u) Q E s:=
 W0 I hN hi hx r (λs' I' _=>h s' I') hf
theorem Inv.call' (I:Inv X pins σ H s)(ho:s'.os=s.os)(u:Un (frs X.stack) ch H H' s.heap s'.heap)(hok:HOk X.prog X.w H' s'.heap)(hg:AllBare s'.gens)
  (hch:∀b∈ch,(b∈X.ex\/X.s₀.heap.objs.size<=b)/\b ≠ X.env.locals/\(∀x c,X.env.cells.lookup x=some c->c ≠ b)/\∀p∈X.pn++pins,p.1 ≠ b):Inv X pins σ H' s' :=by
 obtain⟨h',g',d',t',o'⟩:=s';have e:=ho;subst e;exact I.call u hok hg hch
end
abbrev XK:=Value->Option Addr->Hp->Prop
noncomputable abbrev St:=List (Option V)
abbrev VK:=V->Hp->Prop
abbrev TE:=St->Hp->VK->Prop
abbrev TT:=St->Hp->(Bool->Hp->Prop)->Prop
abbrev TA:=St->Hp->(List V->Hp->Prop)->Prop
structure vZ where
 nx:St->Hp->Prop
 rt:VK
 bk:St->Hp->Prop:=λ_ _=>False
 ct:St->Hp->Prop:=λ_ _=>False
abbrev TS:=vZ->St->Hp->Prop
def EP (X:Cx)(pins:List (Addr×Obj))(σ:St)(Q:VK)(u:Value)(s' :Shared):Prop:=∃v H',Inv X pins σ H' s' /\Z3 v u/\Q v H'
def TP (X:Cx)(pins:List (Addr×Obj))(σ:St)(Q:Bool->Hp->Prop)(b:Bool)(s' :Shared):Prop:=∃H',Inv X pins σ H' s' /\Q b H'
def AP (X:Cx)(pins:List (Addr×Obj))(σ:St)(Q:List V->Hp->Prop)(us:List Value)(s' :Shared):Prop:=∃vs H',Inv X pins σ H' s' /\zU vs us/\Q vs H'
def SP (X:Cx)(pins:List (Addr×Obj))(D:vZ)(f:Flow)(s' :Shared):Prop:=
 match f with
 | .next=>∃σ' H',Inv X pins σ' H' s' /\D.nx σ' H'
 | .brk=>∃σ' H',Inv X pins σ' H' s' /\D.bk σ' H'
 | .cont=>∃σ' H',Inv X pins σ' H' s' /\D.ct σ' H'
 | .ret u=>∃v σ' H',Inv X pins σ' H' s' /\Z3 v u/\D.rt v H'
def PE (X:Cx)(e:Expr)(t:TE):Prop:=
 ∀(pins:List (Addr×Obj)) (s:Shared) (σ:St) (H:Hp) (Q:VK),Inv X pins σ H s->t σ H Q->wpAny (model X.prog X.w) X.A (eval e X.env) (EP X pins σ Q) X.xe s
def PT (X:Cx)(e:Expr)(t:TT):Prop:=
 ∀(pins:List (Addr×Obj)) (s:Shared) (σ:St) (H:Hp) (Q:Bool->Hp->Prop),Inv X pins σ H s->t σ H Q->wpAny (model X.prog X.w) X.A (isTrue e X.env (eval e X.env)) (TP X pins σ Q) X.xe s
def PW (X:Cx)(e:Expr)(t:TT):Prop:=
 ∀(whole:Sem Value) (pins:List (Addr×Obj)) (s:Shared) (σ:St) (H:Hp) (Q:Bool->Hp->Prop),Inv X pins σ H s->t σ H Q->wpAny (model X.prog X.w) X.A (isTrue e X.env whole) (TP X pins σ Q) X.xe s
theorem PW.pt (h:PW X e t):PT X e t:=h _
def PA (X:Cx)(es:List Expr)(t:TA):Prop:=
 ∀(pos:Pos) (pins:List _) (s:Shared) (σ:St) (H:Hp) (Q:List V->Hp->Prop),Inv X pins σ H s->t σ H Q->wpAny (model X.prog X.w) X.A (spliced (backTo pos (starEach es X.env))) (AP X pins σ Q) X.xe s
def PS (X:Cx)(st:Stmt)(t:TS):Prop:=
 ∀(pins:List (Addr×Obj)) (s:Shared) (σ:St) (H:Hp) (D:vZ),Inv X pins σ H s->t D σ H->wpAny (model X.prog X.w) X.A (exec st X.env) (SP X pins D) X.xe s
def PSs (X:Cx)(st:List Stmt)(t:TS):Prop:=
 ∀(pins:List (Addr×Obj)) (s:Shared) (σ:St) (H:Hp) (D:vZ),Inv X pins σ H s->t D σ H->wpAny (model X.prog X.w) X.A (execs st X.env) (SP X pins D) X.xe s
theorem thn {α:Type}{t:Sem α}{Q Q' :α->Shared->Prop}(h:wpAny M A t Q E s)(hQ:∀a s,Q a s->Q' a s):wpAny M A t Q' E s:=cS h hQ λ_ _ x=>x
end L2
namespace L2
open PySem PySem.Spec PyProof.Rows
section
theorem bin (ha:PE X a ta)(hb:PE X b tb){R:V->V->Hp->Prop}(I:Inv X pins σ H s)(h:ta σ H λx H1=>tb σ H1 λy H2=>R x y H2)
  {α:Type} {Q:α->Shared->Prop} {f:Value->Value->Sem α}
  (hf:∀v u s2 x y H2,Inv X pins σ H2 s2->Z3 x v->Z3 y u->R x y H2->wpAny (model X.prog X.w) X.A (f v u) Q X.xe s2):
  wpAny (model X.prog X.w) X.A (eval a X.env) (λv s₁=>wpAny (model X.prog X.w) X.A (eval b X.env) (λu s₂=>wpAny (model X.prog X.w) X.A (f v u) Q X.xe s₂) X.xe s₁) X.xe s:=by
 refine thn (ha _ s σ H _ I h) λv s1 ⟨x,H1,I1,r1,q1⟩=> ?_;refine thn (hb _ s1 σ H1 _ I1 q1) λu s2 ⟨y,H2,I2,r2,q2⟩=> ?_;exact hf v u s2 x y H2 I2 r1 r2 q2
def Qi (i:Nat):TE:=λσ H Q=>∃v,σ[i]? =some (some v)/\Q v H
def tC (v:V):TE:=λ_ H Q=>Q v H
theorem V0 (hN:X.N[i]? =some x)(hv:Vis X.env.scope x)(hd:(x == ("__debug__":Str))=false:=by decide)(hcd:(x == ("__classdict__":Str))=false:=by decide):PE X (.Name x pos) (Qi i):=by
 intro pins s σ H Q I h;obtain⟨v,e,h⟩:=h;obtain⟨m,hn,hl⟩:=I.loc;obtain⟨u,r,l⟩:=hl i x v hN e hv;have fin:EP X _ σ Q u s:=⟨v,H,I,r,h⟩;rcases l with ⟨hk,hm⟩ | ⟨hk,c,hc,hcell⟩
 ·exact wpAny_Name (wpAny_loadName_local I.ok.kind hk hn hm fin) hd
 ·rcases hk with hk | hk
  ·exact wpAny_Name (wpAny_loadName_cell I.ok.kind hk hc hcell fin) hd
  ·exact wpAny_Name (wpAny_loadName_free I.ok.kind hk hc hcell fin hcd) hd
theorem kF {i j pos}:PE X (.Constant (.int i) j pos) (tC (.int i)):=λ_ _ _ H _ I h=>wpAny_Constant_int ⟨.int i,H,I.tok _,⟨_,rfl⟩,h⟩
theorem z0N {b j pos}:PE X (.Constant (.bool b) j pos) (tC (.bl b)):=λ_ _ _ H _ I h=>Constant_bool ⟨.bl b,H,I,rfl,h⟩
theorem kG {j pos}:PE X (.Constant .none j pos) (tC .non):=λ_ _ _ H _ I h=>Constant_none ⟨.non,H,I,rfl,h⟩
theorem V1 {x j pos}:PE X (.Constant (.str x) j pos) (tC (.str x)):=λ_ _ _ H _ I h=>Calls.Constant_str ⟨.str x,H,I.tok _,⟨_,rfl⟩,h⟩
noncomputable def Gl (X:Cx)(x:Str):Prop:=X.env.kindOf x=some .globalImplicit
theorem yh (I:Inv X pins σ H s)(hg:Gl X x)(hm:X.mg x=some u)(h:Q u s)
  (hd:(x == ("__debug__":Str))=false:=by decide):wpAny (model X.prog X.w) X.A (eval (.Name x pos) X.env) Q E s:=
 eB I.ok.kind hg (Calls.loadGlobal_global (by rw[I.ok.glob];exact I.mod.glob.keeps I.bk) hm h) hd
theorem ZC (I:Inv X pins σ H s)(hg:Gl X x)(hm:X.mg x=none)(hv:bootBuiltins x=some u)(h:Q u s)
  (hn:x ≠ "__name__":=by decide) (hd:(x == ("__debug__":Str))=false:=by decide):wpAny (model X.prog X.w) X.A (eval (.Name x pos) X.env) Q E s:=by
 obtain⟨mb,h1,h2⟩:=I.mod.blt;exact eB I.ok.kind hg (Calls.loadGlobal_builtin (by rw[I.ok.glob];exact I.mod.glob.keeps I.bk) hm (by rw[I.ok.blt];exact h1.keeps I.bk) ((h2 x hn).trans hv) h) hd
theorem x8 (hg:Gl X x)(hm:X.mg x=some u)(r:Z3 v u)(hd:(x == ("__debug__":Str))=false:=by decide):PE X (.Name x pos) (tC v):=
 λ_ _ _ H _ I h=>yh I hg hm ⟨v,H,I,r,h⟩ hd
theorem x9 (hg:Gl X x)(hm:X.mg x=none)(hv:bootBuiltins x=some u)(r:Z3 v u)(hn:x ≠ "__name__":=by decide)(hd:(x == ("__debug__":Str))=false:=by decide):PE X (.Name x pos) (tC v):=
 λ_ _ _ H _ I h=>ZC I hg hm hv ⟨v,H,I,r,h⟩ hn hd
variable {tA tB' :TT}{rest:List Expr}
def tAnd (t u:TT):TT:=λσ H Q=>t σ H λc H1=>if c=true then u σ H1 Q else Q false H1
def tOr (t u:TT):TT:=λσ H Q=>t σ H λc H1=>if c=true then Q true H1 else u σ H1 Q
def tNot (t:TT):TT:=λσ H Q=>t σ H λc H1=>Q (!c) H1
theorem xa (ha:PT X a tA):PW X (.BoolOp .And [a] pos) tA:=by
 intro wh pins s σ H Q I h;refine isTrue_and (thn (ha _ s σ H Q I h) λc s1 e=> ?_);cases c with
 | true=>exact isTrue_and_nil e
 | false=>exact e
theorem kH (ha:PT X a tA):PW X (.BoolOp .Or [a] pos) tA:=by
 intro wh pins s σ H Q I h;refine isTrue_or (thn (ha _ s σ H Q I h) λc s1 e=> ?_);cases c with
 | false=>exact isTrue_or_nil e
 | true=>exact e
theorem kI (ha:PT X a tA)(hb:PW X (.BoolOp .And (b :: rest) pos) tB'):PW X (.BoolOp .And (a :: b :: rest) pos) (tAnd tA tB'):=by
 intro wh pins s σ H Q I h;refine isTrue_and (thn (ha _ s σ H _ I h) λc s1 ⟨H1,I1,q1⟩=> ?_);cases c with
 | true=>exact hb wh _ s1 σ H1 Q I1 q1
 | false=>exact⟨H1,I1,q1⟩
theorem z0O (ha:PT X a tA)(hb:PW X (.BoolOp .Or (b :: rest) pos) tB'):PW X (.BoolOp .Or (a :: b :: rest) pos) (tOr tA tB'):=by
 intro wh pins s σ H Q I h;refine isTrue_or (thn (ha _ s σ H _ I h) λc s1 ⟨H1,I1,q1⟩=> ?_);cases c with
 | true=>exact⟨H1,I1,q1⟩
 | false=>exact hb wh _ s1 σ H1 Q I1 q1
theorem kJ (ha:PT X a tA):PT X (.UnaryOp .Not a pos) (tNot tA):=by
 intro pins s σ H Q I h;exact isTrue_not (ha _ s σ H (λc H1=>Q _ H1) I h)
def z0P (ta tb:TE):TE:=λσ H Q=>ta σ H λx H1=>∃c,x= .bl c/\if c=true then tb σ H1 Q else Q (.bl false) H1
def z0Q (ta:TE):TE:=λσ H Q=>ta σ H λx H1=>∃c,x= .bl c/\Q (.bl (!c)) H1
theorem kK {op}(h:PE X a t):PE X (.BoolOp op [a] pos) t:=λpins s σ H Q I hw=>BoolOp_one (h _ s σ H Q I hw)
theorem kL (ha:PE X a ta)(hb:PE X (.BoolOp .And (b :: rest) pos) tb):PE X (.BoolOp .And (a :: b :: rest) pos) (z0P ta tb):=by
 intro pins s σ H Q I h;refine BoolOp_and (thn (ha _ s σ H _ I h) λv s1 ⟨x,H1,I1,r1,q1⟩=> ?_);obtain⟨c,rfl,q1⟩:=q1;cases r1;refine bi ?_;cases c with
 | true=>exact hb _ s1 σ H1 Q I1 q1
 | false=>exact⟨.bl _,H1,I1,rfl,q1⟩
theorem kM (ha:PE X a ta):PE X (.UnaryOp .Not a pos) (z0Q ta):=by
 intro pins s σ H Q I h;refine UnaryOp_ (thn (ha _ s σ H _ I h) λv s1 ⟨x,H1,I1,r1,q1⟩=> ?_);obtain⟨c,rfl,q1⟩:=q1;cases r1;exact not_of (bi ⟨.bl _,H1,I1,rfl,q1⟩)
def tIf (t:TT)(ta tb:TE):TE:=λσ H Q=>t σ H λc H1=>if c=true then ta σ H1 Q else tb σ H1 Q
theorem Qp (hc:PT X c tA)(ha:PE X a ta)(hb:PE X b tb):PE X (.IfExp c a b pos) (tIf tA ta tb):=by
 intro pins s σ H Q I h;refine wpAny_IfExp (thn (hc _ s σ H _ I h) λd s1 ⟨H1,I1,q1⟩=> ?_);cases d with
 | true=>exact ha _ s1 σ H1 Q I1 q1
 | false=>exact hb _ s1 σ H1 Q I1 q1
end
end L2
namespace L2
open PySem PySem.Spec PyProof.Rows
def SqL (K:ai)(H:Hp)(a:Addr)(xs:List V):Prop:=
 Rd H a (.lst xs)\/
  ∃(o:Obj) (its:Array Value) (n:Nat),K.lookup a=some o/\o.cls= .type "list"/\o.dict=none/\o.data= .seq its n/\its.size<=sizeLine/\zU xs its.toList
def SqT (K:ai)(H:Hp)(a:Addr)(xs:List V):Prop:=
 Rd H a (.tup xs)\/
  ∃(o:Obj) (its:Array Value) (n:Nat),K.lookup a=some o/\o.cls= .type "tuple"/\o.data= .seq its n/\its.size<=sizeLine/\zU xs its.toList
noncomputable def absV:Value->Option V
 | .none=>some .non
 | .bool b=>some (.bl b)
 | .int i _=>some (.int i)
 | .str x _=>some (.str x)
 | .bytes b _=>some (.byt b)
 | .float b _=>some (.flt b)
 | .ref a=>some (.ref a)
 | .type n=>some (.ty n)
 | _=>none
theorem Z3.abs (r:Z3 x u):absV u=some x:=by
 cases x with
 | non=>cases r;rfl
 | bl _=>cases r;rfl
 | int _=>obtain⟨t,rfl⟩:=r;rfl
 | str _=>obtain⟨t,rfl⟩:=r;rfl
 | byt _=>obtain⟨t,rfl⟩:=r;rfl
 | flt _=>obtain⟨t,rfl⟩:=r;rfl
 | ref _=>cases r;rfl
 | ty _=>cases r;rfl
theorem Z3.inj (r:Z3 x u)(q:Z3 y u):x=y:=aR (r.abs.symm.trans q.abs)
theorem zU.inj:∀{xs ys:List V} {us:List Value},zU xs us->zU ys us->xs=ys
 | _,_,_,.nil,.nil=>rfl
 | _,_,_,.cons r t,.cons r' t' =>by rw[r.inj r',zU.inj t t']
section
variable {X:Cx}{pins:List (Addr×Obj)}{σ:St}{H:Hp}{s:Shared}{a:Addr}{xs ys:List V}
theorem SqL.of {K:ai}(h:H a=some (.lst xs)):SqL K H a xs:= .inl (.inl h)
theorem SqT.of {K:ai}(h:H a=some (.tup xs)):SqT K H a xs:= .inl (.inl h)
theorem Inv.list (I:Inv X pins σ H s)(h:SqL X.K H a xs):∃its:List Value,zU xs its/\PlainL s.heap a its.toArray/\xs.length<=sizeLine:=by
 rcases h with h | ⟨o,its,n,hk,hc,hd,hs,hz,r⟩
 ·obtain⟨z,its,n,r,e⟩:=h.ok I.hok;exact⟨its,r,⟨_,n,e,rfl,rfl,rfl⟩,z⟩
 ·refine⟨its.toList,r,⟨o,n,I.kIn a o hk,hc,hd,by simpa using hs⟩, ?_⟩
  have e:=r.length;simp only[b8]at e;omega
theorem Inv.tuple (I:Inv X pins σ H s)(h:SqT X.K H a xs):∃its:List Value,zU xs its/\IsTup s.heap a its.toArray/\xs.length<=sizeLine:=by
 rcases h with h | ⟨o,its,n,hk,hc,hs,hz,r⟩
 ·obtain⟨z,its,r,p,_⟩:=h.ok I.hok;exact⟨its,r,p,z⟩
 ·refine⟨its.toList,r,⟨o,I.kIn a o hk,hc,n,by simpa using hs⟩, ?_⟩
  have e:=r.length;simp only[b8]at e;omega
theorem Inv.list_inj (I:Inv X pins σ H s)(h:SqL X.K H a xs)(h' :SqL X.K H a ys):xs=ys:=by
 obtain⟨its,r,⟨o,n,e,_,_,d⟩,_⟩:=I.list h;obtain⟨its',r',⟨o',n',e',_,_,d'⟩,_⟩:=I.list h';rw[e]at e';cases e';rw[d]at d';injection d' with d1 _;have:=by simpa using congrArg Array.toList d1
 subst this;exact r.inj r'
theorem Inv.tuple_inj (I:Inv X pins σ H s)(h:SqT X.K H a xs)(h' :SqT X.K H a ys):xs=ys:=by
 obtain⟨its,r,⟨o,e,_,n,d⟩,_⟩:=I.tuple h;obtain⟨its',r',⟨o',e',_,n',d'⟩,_⟩:=I.tuple h';rw[e]at e';cases e';rw[d]at d';injection d' with d1 _;have:=by simpa using congrArg Array.toList d1
 subst this;exact r.inj r'
end
noncomputable abbrev Cx.wish (X:Cx)(E:Value->Shared->Prop):Cx:={ X with xe:=E }
abbrev Cx.nox (X:Cx):Cx:=X.wish λ_ _=>False
theorem Cx.Ok.wish {X:Cx}(ok:X.Ok)(E:Value->Shared->Prop):(X.wish E).Ok:=
 ⟨ok.mod,ok.kind,ok.glob,ok.blt,ok.above,ok.inj,ok.has,ok.cab,ok.hd,ok.frames,ok.stk,ok.exf,ok.bs,ok.bsz,ok.noex,ok.exfs,ok.funs,ok.frf⟩
theorem Cx.Ok.unwish {X:Cx}{E:Value->Shared->Prop}(ok:(X.wish E).Ok):X.Ok:=
 ⟨ok.mod,ok.kind,ok.glob,ok.blt,ok.above,ok.inj,ok.has,ok.cab,ok.hd,ok.frames,ok.stk,ok.exf,ok.bs,ok.bsz,ok.noex,ok.exfs,ok.funs,ok.frf⟩
section
variable {X:Cx}{pins:List (Addr×Obj)}{σ:St}{H:Hp}{s:Shared}{E:Value->Shared->Prop}
theorem Inv.wish (I:Inv X pins σ H s)(E:Value->Shared->Prop):Inv (X.wish E) pins σ H s:=⟨I.ok.wish E,I.os,I.bare,I.base,I.loc,I.cell,I.free,I.freeC,I.pin,I.hok,I.len⟩
theorem Inv.unwish (I:Inv (X.wish E) pins σ H s):Inv X pins σ H s:=⟨I.ok.unwish,I.os,I.bare,I.base,I.loc,I.cell,I.free,I.freeC,I.pin,I.hok,I.len⟩
theorem SP.unwish {D:vZ}{f:Flow}(h:SP (X.wish E) pins D f s'):SP X pins D f s' :=by
 cases f with
 | next=>obtain⟨σ',H',I,q⟩:=h;exact⟨σ',H',I.unwish,q⟩
 | brk=>obtain⟨σ',H',I,q⟩:=h;exact⟨σ',H',I.unwish,q⟩
 | cont=>obtain⟨σ',H',I,q⟩:=h;exact⟨σ',H',I.unwish,q⟩
 | ret u=>obtain⟨v,σ',H',I,r,q⟩:=h;exact⟨v,σ',H',I.unwish,r,q⟩
theorem PSs.nox {st:List Stmt}{t:TS}(h:PSs X.nox st t):PSs X st t:=λpins s σ H D I hw=>
 cS (h _ s σ H D (I.wish _) hw) (λ_ _ q=>q.unwish) λ_ _ z=>cG z
end
section
variable {X:Cx}{st:Stmt}{rest:List Stmt}{t u:TS}{e:Expr}{te:TE}{pos:Pos}
def z0R:TS:=λD σ H=>D.nx σ H
def tSeq (t u:TS):TS:=λD σ H=>t { D with nx:=u D } σ H
theorem xb:PSs X [] z0R:=λ_ _ σ H _ I h=>wpAny_execs_nil ⟨σ,H,I,h⟩
theorem uB (h1:PS X st t)(h2:PSs X rest u):PSs X (st :: rest) (tSeq t u):=by
 intro pins s σ H D I h;refine wpAny_execs_cons (thn (h1 _ s σ H _ I h) λf s1 q=> ?_);cases f with
 | next=>
  obtain⟨σ',H',I',q⟩:=q;exact h2 _ s1 σ' H' D I' q
 | ret v=>exact q
 | brk=>exact q
 | cont=>exact q
theorem yi (h1:PS X st t):PSs X [st] t:=by
 intro pins s σ H D I h;refine wpAny_execs_cons (thn (h1 _ s σ H D I h) λf s1 q=> ?_);cases f with
 | next=>exact wpAny_execs_nil q
 | ret v=>exact q
 | brk=>exact q
 | cont=>exact q
theorem Inv.quiet (I:Inv X pins σ H s):interactive X.env=false:=by simp[interactive,I.ok.kind]
def z0S (te:TE):TS:=λD σ H=>te σ H λ_ H1=>D.nx σ H1
theorem WT (he:PE X e te)(hs:swapsWith e none pos.line X.env=pure false:=by rfl):PS X (.Expr e pos) (z0S te):=by
 intro pins s σ H D I h;exact wpAny_Expr_any (thn (he _ s σ H _ I h) λv s1 ⟨x,H1,I1,r1,q1⟩=>⟨σ,H1,I1,q1⟩) I.quiet hs
def tRet (te:TE):TS:=λD σ H=>te σ H D.rt
theorem V2 (he:PE X e te):PS X (.Return (some e) pos) (tRet te):=by
 intro pins s σ H D I h;exact wpAny_Return_some (thn (he _ s σ H _ I h) λv s1 ⟨x,H1,I1,r1,q1⟩=>⟨x,σ,H1,I1,r1,q1⟩)
def tIfS (c:TT)(t u:TS):TS:=λD σ H=>c σ H λb H1=>if b=true then t D σ H1 else u D σ H1
theorem z0T (hc:PT X c tc)(ha:PSs X a t)(hb:PSs X b u):PS X (.If c a b pos) (tIfS tc t u):=by
 intro pins s σ H D I h;refine wpAny_If (thn (hc _ s σ H _ I h) λd s1 ⟨H1,I1,q1⟩=> ?_);cases d with
 | true=>exact ha _ s1 σ H1 D I1 q1
 | false=>exact hb _ s1 σ H1 D I1 q1
end
abbrev TG:=V->St->Hp->(St->Hp->Prop)->Prop
abbrev TGs:=List V->St->Hp->(St->Hp->Prop)->Prop
def PG (X:Cx)(target:Expr)(t:TG):Prop:=
 ∀(pins:List (Addr×Obj)) (s:Shared) (σ:St) (H:Hp) (v:V) (u:Value) (Q:St->Hp->Prop),Inv X pins σ H s->Z3 v u->t v σ H Q->
  wpAny (model X.prog X.w) X.A (assign target X.env u) (λ_ s' =>∃σ' H',Inv X pins σ' H' s' /\Q σ' H') X.xe s
def PGs (X:Cx)(ts:List Expr)(t:TGs):Prop:=
 ∀(pins:List (Addr×Obj)) (s:Shared) (σ:St) (H:Hp) (vs:List V) (us:List Value) (Q:St->Hp->Prop),Inv X pins σ H s->zU vs us->t vs σ H Q->
  wpAny (model X.prog X.w) X.A (assignInOrder ((assignEach ts X.env).map (·.2)) us) (λ_ s' =>∃σ' H',Inv X pins σ' H' s' /\Q σ' H') X.xe s
section
def wb (i:Nat):TG:=λv σ H Q=>Q (σ.set i (some v)) H
theorem ZL (hN:X.N.Nodup)(hi:X.N[i]? =some x)(hx:Loc X.env.scope x)(hf:X.fn x=true\/X.env.scope.names.lookup x=some .local:=by first | exact .inl rfl | exact .inr rfl | assumption):PG X (.Name x pos) (wb i):=by
 intro pins s σ H v u Q I r h;exact wpAny_assign_Name (jT I hN hi hx r (λs' I' =>⟨_,H,I',h⟩) hf)
def z0U:TGs:=λvs σ H Q=>vs=[]/\Q σ H
def yj (t:TG)(u:TGs):TGs:=λvs σ H Q=>∃v r,vs=v :: r/\t v σ H λσ' H' =>u r σ' H' Q
theorem WU:PGs X [] z0U:=by
 intro pins s σ H vs us Q I r h;obtain⟨e,h⟩:=h;exact assignInOrder_nil ⟨σ,H,I,h⟩
theorem ZM {u:TGs}(h1:PG X e t)(h2:PGs X es u)
  (hs:(assignEach (e :: es) X.env).map (·.2)=assign e X.env :: (assignEach es X.env).map (·.2):=by rfl):PGs X (e :: es) (yj t u):=by
 intro pins s σ H vs us Q I r h;obtain⟨v,vr,e1,h⟩:=h;subst e1;cases r with
 | cons r rr=>
  rw[hs];refine assignInOrder_cons (thn (h1 _ s σ H _ _ _ I r h) λ_ s1 ⟨σ1,H1,I1,q1⟩=> ?_);exact h2 _ s1 σ1 H1 _ _ Q I1 rr q1
def kN (K:ai)(n:Nat)(t:TGs):TG:=λv σ H Q=>∃a xs,v= .ref a/\SqT K H a xs/\xs.length=n/\t xs σ H Q
theorem yk {t:TGs}(hc:X.calm=true)(h:PGs X es t)
  (hn:(assignEach es X.env).length=n:=by rfl) (hst:(assignEach es X.env).findIdx? (·.1)=none:=by rfl):PG X (.Tuple es k pos) (kN X.K n t):=by
 intro pins s σ H v u Q I r hw;obtain⟨a,xs,e1,hq,hl,hw⟩:=hw;subst e1;cases r;obtain⟨its,rv,ht,hz⟩:=I.tuple hq;refine assign_Tuple_tuple (I.ok.hd hc) ht (by simp[hn,← hl,rv.length]) hst λh' hx=> ?_
 have I1:Inv X _ σ H { s with heap:=h' }:=I.kept λb o e=>hx b o (ax (ao e)) e;exact h _ _ σ H xs _ Q I1 (by simpa using rv) hw
def tAsg (te:TE)(g:TG):TS:=λD σ H=>te σ H λx H1=>g x σ H1 D.nx
theorem kO (he:PE X e te)(hg:PG X tg g)(hs:swapsWithSole [tg] e pos.line X.env=pure false:=by rfl)(hw:swappedStores [tg] e X.env=pure none:=by rfl)
  (h1:(assignEach [tg] X.env).map (·.2)=[assign tg X.env]:=by rfl):PS X (.Assign [tg] e pos) (tAsg te g):=by
 intro pins s σ H D I h;refine wpAny_Assign_stores (thn (he _ s σ H _ I h) λv s1 ⟨x,H1,I1,r1,q1⟩=> ?_) hs hw;rw[h1];exact thn (hg _ s1 σ H1 x v _ I1 r1 q1) λ_ s2 q=>q
theorem uC (hN:X.N.Nodup)(hi:X.N[i]? =some x)(hx:Loc X.env.scope x)(he:PE X e te)(hs:swapsWith e (some (.Name x pos')) pos.line X.env=pure false:=by rfl)(hf:X.fn x=true\/X.env.scope.names.lookup x=some .local:=by first | exact .inl rfl | exact .inr rfl | assumption):
  PS X (.Assign [.Name x pos'] e pos) (tAsg te (wb i)):=by
 intro pins s σ H D I h;refine wpAny_Assign_Name (thn (he _ s σ H _ I h) λv s1 ⟨y,H1,I1,r1,q1⟩=> ?_) hs;exact jT I1 hN hi hx r1 (λs2 I2=>⟨_,H1,I2,q1⟩) hf
def tPar (i j:Nat)(ta:TA):TS:=λD σ H=>ta σ H λvs H1=>∃v w,vs=[v,w]/\D.nx ((σ.set i (some v)).set j (some w)) H1
theorem kP {kt k2 pt2}(hc:X.calm=true)(hN:X.N.Nodup)(hi:X.N[i]? =some x)(hj:X.N[j]? =some y)(hij:i ≠ j)
  (hx:X.env.scope.names.lookup x=some .local) (hy:X.env.scope.names.lookup y=some .local) (ha:PA X [a,b] ta)
  (hw:swappedStores [.Tuple [.Name x px,.Name y py] kt pt] (.Tuple [a,b] k2 pt2) X.env=pure (some [x,y]))
  (hs:swapsWithSole [.Tuple [.Name x px,.Name y py] kt pt] (.Tuple [a,b] k2 pt2) pos.line X.env=pure false:=by rfl):
  PS X (.Assign [.Tuple [.Name x px,.Name y py] kt pt] (.Tuple [a,b] k2 pt2) pos) (tPar i j ta):=by
 intro pins s σ H D I h;refine a7 (wpAny_standAt ?_);refine a7 (ag ?_);refine a7 (Tuple_ (thn (ha _ _ s σ H _ I h) λus s1 ⟨vs,H1,I1,r1,q1⟩=> ?_));obtain⟨v,w,e1,q1⟩:=q1;subst e1;obtain⟨u1,u2,rfl,rv,rw'⟩:∃u1 u2,us=[u1,u2]/\Z3 v u1/\Z3 w u2:=by
  cases r1 with
  | cons p q=>
   cases q with
   | cons p' q' =>
    cases q';exact⟨_,_,rfl,p,p'⟩
 refine aM ?_ (by show 2<=sizeLine;decide)
 have I2:Inv X _ σ H1 { s1 with heap:=s1.heap.push { cls:= .type "tuple",data:= .seq [u1,u2].toArray } }:=I1.kept λb o e=>ab _ e;rw[hw];refine a7 (ag ?_);refine a7 (cu (a7 (unpackItems_tuple (items:= #[u1,u2]) (I.ok.hd hc) (IsTup.new _ _) λh' hx' => ?_)));have I3:=I2.kept (t' :=s1.toks) λb o e=>hx' b o (ax (ao e)) e;refine a7 (assignInOrder_cons (wpAny_bindName (jT I3 hN hj (.inl hy) rw' (λs2 I4=> ?_) (.inr hy))));refine assignInOrder_cons (wpAny_bindName (jT I4 hN hi (.inl hx) rv (λs3 I5=>assignInOrder_nil (ag ?_)) (.inr hx)));rw[List.set_comm _ _ (bb hij)]at I5;exact⟨_,H1,I5,q1⟩
end
section
def kQ (c:TT)(tb:TS):TS:=λD σ H=>∃W:Nat->St->Hp->Prop,(∃m,W m σ H)/\∀m σ H,W m σ H->
 c σ H λb H1=>if b=true then ∃N:St->Hp->Prop,(∀σ' H',N σ' H' ->∃m',m' < m/\W m' σ' H')/\tb { D with nx:=N,ct:=N,bk:=D.nx } σ H1 else D.nx σ H1
theorem Qq (hp:PassesOwn (model X.prog X.w) X.A X.env X.xe)(hc:PT X c tc)(hb:PSs X body tb):PS X (.While c body [] pos) (kQ tc tb):=by
 intro pins s σ H D I h;obtain⟨W,⟨m0,w0⟩,turn⟩:=h;refine wpAny_While (codeAny_whileLoop (λn s' =>∃σ' H',Inv X _ σ' H' s' /\W n σ' H') ?_ m0 ⟨σ,H,I,w0⟩)
 rintro n s1 ⟨σ1,H1,I1,w1⟩
 refine cz hp (thn (hc _ s1 σ1 H1 _ I1 (turn n σ1 H1 w1)) λb s2 ⟨H2,I2,q2⟩=> ?_);cases b with
 | true=>
  obtain⟨N,hN,q2⟩:=q2;refine cz hp (thn (hb _ s2 σ1 H2 _ I2 q2) λf s3 q3=> ?_);cases f with
  | next=>
   obtain⟨σ3,H3,I3,n3⟩:=q3;obtain⟨m',hm,w3⟩:=hN σ3 H3 n3;exact⟨m',hm,σ3,H3,I3,w3⟩
  | cont=>
   obtain⟨σ3,H3,I3,n3⟩:=q3;obtain⟨m',hm,w3⟩:=hN σ3 H3 n3;exact⟨m',hm,σ3,H3,I3,w3⟩
  | brk=>exact q3
  | ret v=>exact q3
 | false=>
  exact wpAny_execs_nil ⟨σ1,H2,I2,q2⟩
end
structure It where
 go:Nat->Hp->Prop
 yld:Nat->Hp->V->Hp->Prop
 stop:Nat->Hp->Prop
def WP (X:Cx)(pins:List (Addr×Obj))(H:Hp)(b:Addr):Prop:=
 H b=none/\b ≠ X.env.locals/\b ∉ X.fs/\(b∈X.ex\/X.s₀.heap.objs.size<=b)/\(∀x c,X.env.cells.lookup x=some c->c ≠ b)/\∀p∈X.pn++pins,p.1 ≠ b
theorem Inv.fpOk (I:Inv X pins σ H s)(hb:s.heap.objs.size<=b)(hn:H' b=none):WP X pins H' b:=by
 refine⟨hn,bT (aL I.lt hb),I.nofs hb,.inr (aq I.sz hb),λx c e z=> ?_,λp hp z=> ?_⟩
 ·obtain⟨v,q⟩:=I.cell x c e;exact absurd (aL q.lt (by rw[z];exact hb)) (ba _)
 ·exact absurd (aL (ao (I.pin p hp).1) (by rw[z];exact hb)) (ba _)
structure yl (P:Program) (w:World) (K:ai) (tg:Expr) (J:It) (fp:List Addr) (it:Addr) (tn:Nat->Heap->Prop):Prop where
 mem:it∈fp
 obj:∀i h,tn i h->∀b∈fp,∃o,h.get? b=some o/\∀v,o.data ≠ .cell v
 keep:∀i h h',tn i h->(∀b∈fp,∀o,h.get? b=some o->h'.get? b=some o)->tn i h'
 item:∀(X:Cx),X.prog=P->X.w=w->X.K=K->X.calm=true->∀(i:Nat) (pins:List (Addr×Obj)) (s:Shared) (σ:St) (H:Hp) (E:Value->Shared->Prop),Inv X pins σ H s->(∀b∈fp,WP X pins H b)->tn i s.heap->J.go i H->
  wpAny (model P w) X.A (pyNext (.ref it)) (λr s1=>∃u,r=some u/\
   wpAny (model P w) X.A (letOwnedTupleGo tg (.ref it) u) (λ_ s2=>∃x H',Inv X pins σ H' s2/\Z3 x u/\J.yld i H x H' /\tn (i+1) s2.heap/\∀b∈fp,H' b=none) E s1) E s
 done:∀(X:Cx),X.prog=P->X.w=w->X.K=K->X.calm=true->∀(i:Nat) (pins:List (Addr×Obj)) (s:Shared) (σ:St) (H:Hp) (E:Value->Shared->Prop),Inv X pins σ H s->(∀b∈fp,WP X pins H b)->tn i s.heap->J.stop i H->
  wpAny (model P w) X.A (pyNext (.ref it)) (λr s1=>r=none/\Inv X pins σ H s1) E s
 self:∀(A:Around) (i:Nat) (s:Shared) (Q:Value->Shared->Prop) (E:Value->Shared->Prop),tn i s.heap->Q (.ref it) s->wpAny (model P w) A (pyIter (.ref it)) Q E s
abbrev TI:=St->Hp->(It->Hp->Prop)->Prop
def PIE (X:Cx)(pins:List (Addr×Obj))(σ:St)(tg:Expr)(R:It->Hp->Prop)(itv:Value)(s2:Shared):Prop:=
 ∃(it:Addr) (fp:List Addr) (tn:Nat->Heap->Prop) (J:It) (H' :Hp),itv= .ref it/\Inv X pins σ H' s2/\yl X.prog X.w X.K tg J fp it tn/\tn 0 s2.heap/\(∀b∈fp,WP X pins H' b)/\R J H'
def PI (X:Cx)(tg iter:Expr)(wi:TI):Prop:=
 ∀(pins:List (Addr×Obj)) (s:Shared) (σ:St) (H:Hp) (R:It->Hp->Prop),Inv X pins σ H s->wi σ H R->
  wpAny (model X.prog X.w) X.A (eval iter X.env) (λv s1=>wpAny (model X.prog X.w) X.A (pyIter v) (PIE X pins σ tg R) X.xe s1) X.xe s
theorem Ut {Q:Unit->Shared->Prop}(ho:s.heap.get? it=some o)(hc:o.cls= .type n)(hd:o.data= .fields vs)
  (hn:["enumerate","zip","dict_itemiterator","dict_reverseitemiterator","odict_iterator","itertools.zip_longest","itertools.pairwise"].contains n=false) (hQ:Q () s):wpAny M A (letOwnedTupleGo tg (.ref it) u) Q E s:=by
 cases tg <;> first
  | exact ag hQ
  | (cases u <;> first
    | exact ag hQ
    | (refine a7 (wpAny_load ho ?_);rw[hc,hd];show wpAny M A (if (["enumerate","zip","dict_itemiterator","dict_reverseitemiterator","odict_iterator","itertools.zip_longest","itertools.pairwise"].contains n && vs[0]? == some _)=true then _ else _) Q E s;rw[if_neg (by intro h;rw[hn]at h;cases h)];exact ag hQ))
def Itl (K:ai)(a:Addr):It:=
 ⟨λi H=>∃xs x,SqL K H a xs/\xs[i]? =some x,λi H x H' =>H' =H/\∀xs,SqL K H a xs->xs[i]? =some x,λi H=>∃xs,SqL K H a xs/\xs.length<=i⟩
def Itt (K:ai)(a:Addr):It:=
 ⟨λi H=>∃xs x,SqT K H a xs/\xs[i]? =some x,λi H x H' =>H' =H/\∀xs,SqT K H a xs->xs[i]? =some x,λi H=>∃xs,SqT K H a xs/\xs.length<=i⟩
noncomputable def Itr (lo:Int)(n:Nat):It:=⟨λi _=>i < n,λi H x H' =>H' =H/\x= .int (lo+i),λi _=>n<=i⟩
theorem ym {P:Program}{w:World}{K:ai}{tg:Expr}(a it:Addr):yl P w K tg (Itl K a) [it] it (λi h=>h.IsListIter it a i) where
 mem:=by simp
 obj:=λi h st b hb=>by
  have e:b=it:=by simpa using hb
  subst e;obtain⟨o,e,c,d⟩:=st;exact⟨o,e,λv z=>by rw[d]at z;cases z⟩
 keep:=λi h h' st k=>st.at λo e=>k it (by simp) o e
 item:=by
  intro X hP hw hK hc i pins s σ H E I hf st hg;subst hP hw hK;obtain⟨xs,x,hq,hx⟩:=hg;obtain⟨its,rv,p,hz⟩:=I.list hq;obtain⟨u,hu,ru⟩:=rv.get hx;obtain⟨f0,f1,f2,f3,f4,f5⟩:=hf it (by simp)
  refine wpAny_pyNext_list_item st p.isList (x:=u) (by simpa using hu) λh' st' sb=> ?_
  have I1:Inv X pins σ H { s with heap:=h' }:=I.turned (t' :=s.toks) (λb o hb e=>(sb.2 b hb).trans e) f0 f1 f3 f4 f5;obtain⟨o,e,c,d⟩:=id st';exact⟨u,rfl,Ut (s:={ s with heap:=h' }) e c d (by decide) ⟨x,H,I1,ru,⟨rfl,λys hy=>by rw[I.list_inj hy hq];exact hx⟩,st',λb hb=>(hf b hb).1⟩⟩
 done:=by
  intro X hP hw hK hc i pins s σ H E I hf st hg;subst hP hw hK;obtain⟨xs,hq,hx⟩:=hg;obtain⟨its,rv,p,hz⟩:=I.list hq;obtain⟨f0,f1,f2,f3,f4,f5⟩:=hf it (by simp)
  have hl:=rv.length;exact wpAny_pyNext_list_end (I.ok.hd hc) st p.isList (by simp;omega) λh' eb=>⟨rfl,I.turned (t' :=s.toks) (λb o hb e=>eb b o hb e) f0 f1 f3 f4 f5⟩
 self:=λ_ _ _ _ _ st h=>wpAny_pyIter_listiter st h
theorem Uu {P:Program}{w:World}{K:ai}{tg:Expr}(a it:Addr):yl P w K tg (Itt K a) [it] it (λi h=>h.IsTupleIter it a i) where
 mem:=by simp
 obj:=λi h st b hb=>by
  have e:b=it:=by simpa using hb
  subst e;obtain⟨o,e,c,d⟩:=st;exact⟨o,e,λv z=>by rw[d]at z;cases z⟩
 keep:=λi h h' st k=>st.at λo e=>k it (by simp) o e
 item:=by
  intro X hP hw hK hc i pins s σ H E I hf st hg;subst hP hw hK;obtain⟨xs,x,hq,hx⟩:=hg;obtain⟨its,rv,p,hz⟩:=I.tuple hq;obtain⟨u,hu,ru⟩:=rv.get hx;obtain⟨f0,f1,f2,f3,f4,f5⟩:=hf it (by simp)
  refine wpAny_pyNext_tuple_item st (show s.heap.IsTuple a its.toArray from p) (x:=u) (by simpa using hu) λh' st' sb=> ?_
  have I1:Inv X pins σ H { s with heap:=h' }:=I.turned (t' :=s.toks) (λb o hb e=>(sb.2 b hb).trans e) f0 f1 f3 f4 f5;obtain⟨o,e,c,d⟩:=id st';exact⟨u,rfl,Ut (s:={ s with heap:=h' }) e c d (by decide) ⟨x,H,I1,ru,⟨rfl,λys hy=>by rw[I.tuple_inj hy hq];exact hx⟩,st',λb hb=>(hf b hb).1⟩⟩
 done:=by
  intro X hP hw hK hc i pins s σ H E I hf st hg;subst hP hw hK;obtain⟨xs,hq,hx⟩:=hg;obtain⟨its,rv,p,hz⟩:=I.tuple hq;obtain⟨f0,f1,f2,f3,f4,f5⟩:=hf it (by simp)
  have hl:=rv.length;exact wpAny_pyNext_tuple_end (I.ok.hd hc) st (show s.heap.IsTuple a its.toArray from p) (by simp;omega) λh' eb=>⟨rfl,I.turned (t' :=s.toks) (λb o hb e=>eb b o hb e) f0 f1 f3 f4 f5⟩
 self:=λ_ _ _ _ _ st h=>wpAny_pyIter_tupleiter st h
theorem Uv {P:Program}{w:World}{K:ai}{tg:Expr}(it:Addr)(lo:Int)(n:Nat):yl P w K tg (Itr lo n) [it] it (λi h=>IsRangeIter h it (lo+(i:Nat)*1) ((n:Int) - (i:Nat)) 1) where
 mem:=by simp
 obj:=λi h st b hb=>by
  have e:b=it:=by simpa using hb
  subst e;exact⟨_,st,λv z=>by
   have z' :Data.fields _=Data.cell v:=z;cases z'⟩
 keep:=λi h h' st k=>k it (by simp) _ st
 item:=by
  intro X hP hw hK hc i pins s σ H E I hf st hg;subst hP hw hK;obtain⟨f0,f1,f2,f3,f4,f5⟩:=hf it (by simp)
  have W:=Walks.range (prog:=X.prog) (w:=X.w) (I.ok.hd hc) it lo 1 n;refine W.item i s _ _ hg st λv h' tk hv st' kk=> ?_;obtain⟨t,rfl⟩:=hv;have I1:Inv X pins σ H { s with heap:=h',toks:=tk }:=I.turned (λb o hb e=>kk b o (by simpa using hb) e) f0 f1 f3 f4 f5
  refine⟨_,rfl,Ut (s:={ s with heap:=h',toks:=tk }) (n:="range_iterator") st' rfl rfl (by decide) ⟨.int (lo+i),H,I1,⟨t, ?_⟩,⟨rfl,rfl⟩,st',λb hb=>(hf b hb).1⟩⟩
  rw[Int.mul_one]
 done:=by
  intro X hP hw hK hc i pins s σ H E I hf st hg;subst hP hw hK;obtain⟨f0,f1,f2,f3,f4,f5⟩:=hf it (by simp)
  exact wpAny_pyNext_range_end (I.ok.hd hc) st (by have:n<=i:=hg;omega) λh' eb=>⟨rfl,I.turned (t' :=s.toks) (λb o hb e=>eb b o hb e) f0 f1 f3 f4 f5⟩
 self:=λ_ _ _ _ _ st h=>wpAny_pyIter_rangeiter st h
end L2
namespace L2
open PySem PySem.Spec PyProof.Rows
section
theorem uD {pins:List (Addr×Obj)}{σ:St}{H:Hp}{s:Shared}{R:It->Hp->Prop}{E:Value->Shared->Prop}{lo hi:Int}{t u v:Tok}{tk:Nat}(I:Inv X pins σ H s)(h1: -(2 ^ 62)<=lo)(h2:lo < 2 ^ 62)(h3: -(2 ^ 62)<=hi)(h4:hi < 2 ^ 62)
  (q:R (Itr lo (hi - lo).toNat) H):wpAny (model X.prog X.w) X.A (pyIter (.ref s.heap.objs.size)) (PIE X pins σ tg R) E { s with heap:=s.heap.push { cls:= .type "range",data:= .fields #[.int lo t,.int hi u,.int 1 v] },toks:=tk }:=by
 refine wpAny_pyIter_range (IsRange.new ..) (small_one h1 h2 h3 h4) ?_;have I1:Inv X _ σ H { s with heap:=s.heap.push { cls:= .type "range",data:= .fields #[.int lo t,.int hi u,.int 1 v] },toks:=tk }:=I.kept λb o e=>ab _ e;refine⟨(s.heap.push _).objs.size,[(s.heap.push _).objs.size],_,_,H,rfl,
  I1.kept λb o e=>ab _ e,Uv _ lo _, ?_,λb hb=> ?_,q⟩
 ·have e1:lo+((0:Nat))*1=lo:=by simp
  have e2:(((hi - lo).toNat):Int) - ((0:Nat))=fj lo hi 1:=by rw[rangeSize_one];split <;> omega
  rw[e1,e2];exact af _ rfl
 ·have e:b=(s.heap.push { cls:= .type "range",data:= .fields #[.int lo t,.int hi u,.int 1 v] }).objs.size:=by simpa using hb
  subst e;exact I1.fpOk (am _) (I1.hok.fresh (am _))
def z0V (ta:TA):TI:=λσ H R=>ta σ H λvs H1=>∃j:Int,vs=[.int j]/\ -(2 ^ 62)<=j/\j < 2 ^ 62/\R (Itr 0 j.toNat) H1
def z0W (ta:TA):TI:=λσ H R=>ta σ H λvs H1=>∃i j:Int,vs=[.int i,.int j]/\(-(2 ^ 62)<=i/\i < 2 ^ 62/\ -(2 ^ 62)<=j/\j < 2 ^ 62)/\R (Itr i (j - i).toNat) H1
theorem yn {a:Expr}{ta:TA}{p pos:Pos}(hg:Gl X "range")(hm:X.mg "range"=none)(ha:PA X [a] ta)(hs:starEach [a] X.env=[(false,eval a X.env)]:=by rfl):PI X tg (.Call (.Name "range" p) [a] [] pos) (z0V ta):=by
 intro pins s σ H R I h;refine Call_ (ZC I hg hm boot_range (aV (thn (ha pos _ s σ H _ I h) λus s1 ⟨vs,H1,I1,r1,q1⟩=> ?_) hs rfl));obtain⟨j,e,q1,q2,q⟩:=q1;subst e;cases r1 with
 | cons r rr=>
  cases rr;obtain⟨t,rfl⟩:=r;exact call_range_1 (uD I1 (by omega) (by omega) q1 q2 (by simpa using q))
theorem yo (hg:Gl X "range")(hm:X.mg "range"=none)(ha:PA X [a,b] ta)(hs:starEach [a,b] X.env=[(false,eval a X.env),(false,eval b X.env)]:=by rfl)(hs2:starEach [b] X.env=[(false,eval b X.env)]:=by rfl):
  PI X tg (.Call (.Name "range" p) [a,b] [] pos) (z0W ta):=by
 intro pins s σ H R I h;refine Call_ (ZC I hg hm boot_range (aV (thn (ha pos _ s σ H _ I h) λus s1 ⟨vs,H1,I1,r1,q1⟩=> ?_) (by rw[hs,hs2]) (by rw[hs2];rfl)))
 obtain⟨i,j,e,⟨q1,q2,q3,q4⟩,q⟩:=q1;subst e;cases r1 with
 | cons r rr=>
  cases rr with
  | cons r' rr=>
   cases rr;obtain⟨t,rfl⟩:=r;obtain⟨t',rfl⟩:=r';exact call_range_2 (uD I1 q1 q2 q3 q4 q)
def tFor (wi:TI)(g:TG)(tb:TS):TS:=λD σ H=>wi σ H λJ H1=>∃W:Nat->Nat->St->Hp->Prop,(∃m,W 0 m σ H1)/\∀i m σ H,W i m σ H->
 (J.stop i H/\D.nx σ H)\/(J.go i H/\∃N:St->Hp->Prop,(∀σ' H',N σ' H' ->∃m',m' < m/\W (i+1) m' σ' H')/\∀x H',J.yld i H x H' ->g x σ H' λσ2 H2=>tb { D with nx:=N,ct:=N,bk:=D.nx } σ2 H2)
noncomputable def uE (fp:List Addr)(h:Heap):List (Addr×Obj):=fp.filterMap λb=>(h.get? b).map λo=>(b,o)
theorem j2 (hb:b∈fp)(e:h.get? b=some o):(b,o)∈uE fp h:=i9.mpr ⟨b,hb,by rw[e];rfl⟩
theorem yq {p:Addr×Obj}(hp:p∈uE fp h):p.1∈fp/\h.get? p.1=some p.2:=by
 obtain⟨b,hb,e⟩:=i9.mp hp;cases q:h.get? b with
 | none=>rw[q]at e;cases e
 | some o=>
  rw[q]at e;have e' :=aR e;subst e';exact⟨hb,q⟩
theorem Inv.pinned (I:Inv X pins σ H s)(hf:∀b∈fp,WP X pins H b)(ho:∀b∈fp,∃o,s.heap.get? b=some o/\∀v,o.data ≠ .cell v):Inv X (pins++uE fp s.heap) σ H s:=
 I.pins_of λp hp=>(cy.mp hp).elim (λz=>I.pin p (b9 _ z)) λz=>by
  obtain⟨hb,e⟩:=yq z;obtain⟨f0,f1,f2,_⟩:=hf p.1 hb;obtain⟨o,e',d⟩:=ho p.1 hb;rw[e]at e';cases e';exact⟨e,f0,f1,f2,d⟩
theorem Inv.unpinned (I:Inv X (pins++pl) σ H s):Inv X pins σ H s:=I.pins_of λp hp=>I.pin p (b9 _ (dS _ hp))
theorem kR (hp:PassesOwn (model X.prog X.w) X.A X.env X.xe)(hc:X.calm=true)(hi:PI X tg iter wi)(hg:PG X tg g)(hb:PSs X body tb)
  (hs:∀x,foldedSetIterable iter X.env x=pure x:=by intro _;rfl):PS X (.For tg iter body [] pos) (tFor wi g tb):=by
 intro pins s σ H D I h;refine wpAny_For (thn (hi _ s σ H _ I h) λv s1 h1=>thn h1 λitv s2 h2=> ?_) hs;obtain⟨it,fp,tn,J,H2,e,I2,T,st2,f2,W,⟨m0,w0⟩,turn⟩:=h2;subst e;have stat:∀{H' :Hp},(∀b∈fp,H' b=none)->∀b∈fp,WP X _ H' b:=λhn b hb=>⟨hn b hb,(f2 b hb).2⟩;refine codeAny_forLoop_any (λn s' =>∃i σ' H',Inv X _ σ' H' s' /\tn i s'.heap/\(∀b∈fp,H' b=none)/\W i n σ' H') ?_ m0 ⟨0,σ,H2,I2,st2,λb hb=>(f2 b hb).1,w0⟩
 rintro n s3 ⟨i,σ3,H3,I3,st3,fr3,w3⟩
 rcases turn i n σ3 H3 w3 with ⟨stop,qn⟩ | ⟨go,N,hN,step⟩
 ·refine cz hp (thn (T.done X rfl rfl rfl hc i _ s3 σ3 H3 _ I3 (stat fr3) st3 stop) λr s4 ⟨hr,I4⟩=> ?_);subst hr;exact wpAny_execs_nil ⟨σ3,H3,I4,qn⟩
 ·refine cz hp (thn (T.item X rfl rfl rfl hc i _ s3 σ3 H3 _ I3 (stat fr3) st3 go) λr s4 ⟨u,hr,h4⟩=> ?_);subst hr;refine cz hp (thn h4 λ_ s5 ⟨x,H5,I5,r5,y5,st5,fr5⟩=> ?_);have I5' :=I5.pinned (stat fr5) (T.obj _ _ st5);refine cz hp (thn (hg _ s5 σ3 H5 x u _ I5' r5 (step x H5 y5)) λ_ s6 ⟨σ6,H6,I6,q6⟩=> ?_);refine cz hp (thn (hb _ s6 σ6 H6 _ I6 q6) λf s7 q7=> ?_);have again:∀{σ7:St} {H7:Hp},Inv X (pins++uE fp _) σ7 H7 s7->N σ7 H7->∃m,m < n/\∃i σ' H',Inv X _ σ' H' s7/\tn i _/\(∀b∈fp,H' b=none)/\W i m σ' H' :=λ{σ7 H7} I7 n7=>by
   obtain⟨m',hm,w7⟩:=hN σ7 H7 n7;refine⟨m',hm,i+1,σ7,H7,I7.unpinned,T.keep _ _ _ st5 λb hb o e=>(I7.pin _ (b9 _ (b9 _ (j2 hb e)))).1,λb hb=> ?_,w7⟩;obtain⟨o,e,d⟩:=T.obj _ _ st5 b hb;exact(I7.pin _ (b9 _ (b9 _ (j2 hb e)))).2.1
  cases f with
  | next=>obtain⟨σ7,H7,I7,n7⟩:=q7;exact again I7 n7
  | cont=>obtain⟨σ7,H7,I7,n7⟩:=q7;exact again I7 n7
  | brk=>obtain⟨σ7,H7,I7,q7⟩:=q7;exact⟨σ7,H7,I7.unpinned,q7⟩
  | ret v=>obtain⟨x7,σ7,H7,I7,r7,q7⟩:=q7;exact⟨x7,σ7,H7,I7.unpinned,r7,q7⟩
end
end L2
namespace L2
open PySem PySem.Spec PyProof.Rows
abbrev R2:=V->V->Hp->VK->Prop
def OpR (X:Cx)(f:Value->Value->Sem Value)(r:R2):Prop:=
 ∀(pins:List (Addr×Obj)) (s:Shared) (σ:St) (H:Hp) (x y:V) (v u:Value) (Q:VK),Inv X pins σ H s->Z3 x v->Z3 y u->r x y H Q->
  wpAny (model X.prog X.w) X.A (f v u) (EP X pins σ Q) X.xe s
def UnR (X:Cx)(f:Value->Sem Value)(r:V->Hp->VK->Prop):Prop:=
 ∀(pins:List (Addr×Obj)) (s:Shared) (σ:St) (H:Hp) (x:V) (v:Value) (Q:VK),Inv X pins σ H s->Z3 x v->r x H Q->
  wpAny (model X.prog X.w) X.A (f v) (EP X pins σ Q) X.xe s
def Zb (X:Cx)(f:Value)(r:List V->Hp->VK->Prop):Prop:=
 ∀(pins:List (Addr×Obj)) (s:Shared) (σ:St) (H:Hp) (xs:List V) (us:List Value) (Q:VK),Inv X pins σ H s->zU xs us->r xs H Q->
  wpAny (model X.prog X.w) X.A (call f us) (EP X pins σ Q) X.xe s
def TruR (X:Cx)(r:V->Hp->(Bool->Hp->Prop)->Prop):Prop:=
 ∀(pins:List _) (s:Shared) (σ:St) (H:Hp) (x:V) (v:Value) (Q:Bool->Hp->Prop),Inv X pins σ H s->Z3 x v->r x H Q->
  wpAny (model X.prog X.w) X.A (truthy v) (TP X pins σ Q) X.xe s
def tOp (r:R2)(ta tb:TE):TE:=λσ H Q=>ta σ H λx H1=>tb σ H1 λy H2=>r x y H2 Q
def tUn (r:V->Hp->VK->Prop)(ta:TE):TE:=λσ H Q=>ta σ H λx H1=>r x H1 Q
def rI (C:Int->Int->Prop)(g:Int->Int->V):R2:=λx y H Q=>∃i j,x= .int i/\y= .int j/\C i j/\Q (g i j) H
def rI0 (g:Int->Int->V):R2:=λx y H Q=>∃i j,x= .int i/\y= .int j/\Q (g i j) H
def rU (g:Int->V):V->Hp->VK->Prop:=λx H Q=>∃i,x= .int i/\Q (g i) H
section
theorem z0X (ha:PE X a ta)(hb:PE X b tb){R:V->V->Hp->Prop}(I:Inv X pins σ H s)
  (h:ta σ H λx H1=>tb σ H1 λy H2=>R x y H2) {Q:Value->Shared->Prop} {f:Value->Value->Sem Value}
  (hf:∀v u s2 x y H2,Inv X pins σ H2 s2->Z3 x v->Z3 y u->R x y H2->wpAny (model X.prog X.w) X.A (f v u) Q X.xe s2):
  wpAny (model X.prog X.w) X.A (eval a X.env) (λv s₁=>wpAny (model X.prog X.w) X.A (eval b X.env) (λu s₂=>wpAny (model X.prog X.w) X.A (f v u) Q X.xe s₂) X.xe s₁) X.xe s:=by
 refine thn (ha _ s σ H _ I h) λv s1 ⟨x,H1,I1,r1,q1⟩=> ?_;refine thn (hb _ s1 σ H1 _ I1 q1) λu s2 ⟨y,H2,I2,r2,q2⟩=> ?_;exact hf v u s2 x y H2 I2 r1 r2 q2
theorem z0Y (ho:OpR X (binaryOp op) r)(ha:PE X a ta)(hb:PE X b tb):PE X (.BinOp a op b pos) (tOp r ta tb):=by
 intro pins s σ H Q I h;exact wpAny_BinOp (z0X ha hb I h λv u s2 x y H2 I2 rx ry q=>ho _ s2 σ H2 x y v u Q I2 rx ry q)
theorem z0Z {op:UnaryOp}{r:V->Hp->VK->Prop}(ho:UnR X (unaryOp op) r)(ha:PE X a ta):PE X (.UnaryOp op a pos) (tUn r ta):=by
 intro pins s σ H Q I h;exact UnaryOp_ (thn (ha _ s σ H _ I h) λv s1 ⟨x,H1,I1,r1,q1⟩=>ho _ s1 σ H1 x v Q I1 r1 q1)
theorem opI {f:Value->Value->Sem Value}{C:Int->Int->Prop}{g:Int->Int->Int}
  (rule:∀(i j:Int) (t u:Tok) (s:Shared) (Q:Value->Shared->Prop) (E:Value->Shared->Prop),C i j->Q (.int (g i j) s.toks) { s with toks:=s.toks+1 }->wpAny (model X.prog X.w) X.A (f (.int i t) (.int j u)) Q E s):
  OpR X f (rI C λi j=> .int (g i j)):=by
 intro pins s σ H x y v u Q I rx ry h;obtain⟨i,j,rfl,rfl,hc,q⟩:=h;obtain⟨t,rfl⟩:=rx;obtain⟨t',rfl⟩:=ry;exact rule i j t t' s _ _ hc ⟨.int _,H,I.tok _,⟨_,rfl⟩,q⟩
theorem opI0 {f:Value->Value->Sem Value}{g:Int->Int->Int}
  (rule:∀(i j:Int) (t u:Tok) (s:Shared) (Q:Value->Shared->Prop) (E:Value->Shared->Prop),Q (.int (g i j) s.toks) { s with toks:=s.toks+1 }->wpAny (model X.prog X.w) X.A (f (.int i t) (.int j u)) Q E s):
  OpR X f (rI0 λi j=> .int (g i j)):=by
 intro pins s σ H x y v u Q I rx ry h;obtain⟨i,j,rfl,rfl,q⟩:=h;obtain⟨t,rfl⟩:=rx;obtain⟨t',rfl⟩:=ry;exact rule i j t t' s _ _ ⟨.int _,H,I.tok _,⟨_,rfl⟩,q⟩
theorem z10 {f:Value->Value->Sem Value}{g:Int->Int->Bool}
  (rule:∀(i j:Int) (t u:Tok) (s:Shared) (Q:Value->Shared->Prop) (E:Value->Shared->Prop),Q (.bool (g i j)) s->wpAny (model X.prog X.w) X.A (f (.int i t) (.int j u)) Q E s):
  OpR X f (rI0 λi j=> .bl (g i j)):=by
 intro pins s σ H x y v u Q I rx ry h;obtain⟨i,j,rfl,rfl,q⟩:=h;obtain⟨t,rfl⟩:=rx;obtain⟨t',rfl⟩:=ry;exact rule i j t t' s _ _ ⟨.bl _,H,I,rfl,q⟩
noncomputable def CDiv (i j:Int):Prop:=0 < j/\j < 1073741824
noncomputable def WQ (i j:Int):Prop:=(-(2 ^ 64) < i/\i < 2 ^ 64)\/(-(2 ^ 64) < j/\j < 2 ^ 64)
theorem WQ.ok (h:WQ i j):IntMulOk i j:=by
 rcases h with ⟨h1,h2⟩ | ⟨h1,h2⟩
 ·exact .of_left (intBits_le_64 h1 h2)
 ·exact .of_right (intBits_le_64 h1 h2)
theorem kS:OpR X (binaryOp .Add) (rI0 λi j=> .int (i+j)):=opI0 λ_ _ _ _ _ _ _ q=>add_int q
theorem kT:OpR X (binaryOp .Sub) (rI0 λi j=> .int (i - j)):=opI0 λ_ _ _ _ _ _ _ q=>sub_int q
theorem kU:OpR X (binaryOp .Mult) (rI WQ λi j=> .int (i*j)):=opI λ_ _ _ _ _ _ _ hc q=>mul_int q hc.ok
theorem xf:OpR X (binaryOp .FloorDiv) (rI CDiv λi j=> .int (i / j)):=opI λi j _ _ _ _ _ hc q=>by
 have h1:=hc.1;have h2:=hc.2;exact floordiv_int (by omega) (by rw[eC i (by omega)];exact q) (.inl (PyProof.noPylong_small (by omega)))
theorem kW:OpR X (binaryOp .Mod) (rI (λ_ j=>0 < j) λi j=> .int (i % j)):=opI λi j _ _ _ _ _ hc q=>by
 exact mod_int' (by omega) (by rw[Int.fmod_eq_emod_of_nonneg i (by omega)];exact q)
theorem unI {f:Value->Sem Value}{g:Int->Int}
  (rule:∀(i:Int) (t:Tok) (s:Shared) (Q:Value->Shared->Prop) (E:Value->Shared->Prop),Q (.int (g i) s.toks) { s with toks:=s.toks+1 }->wpAny (model X.prog X.w) X.A (f (.int i t)) Q E s):
  UnR X f (rU λi=> .int (g i)):=by
 intro pins s σ H x v Q I rx h;obtain⟨i,rfl,q⟩:=h;obtain⟨t,rfl⟩:=rx;exact rule i t s _ _ ⟨.int _,H,I.tok _,⟨_,rfl⟩,q⟩
theorem kX:UnR X (unaryOp .USub) (rU λi=> .int (-i)):=unI λ_ _ _ _ _ q=>neg_int q
theorem yr:OpR X (binaryOp .Add) (λx y H Q=>∃i k,x= .int i/\y= .bl k/\Q (.int (i+b2i k)) H):=by
 intro pins s σ H x y v u Q I rx ry h;obtain⟨i,k,rfl,rfl,q⟩:=h;obtain⟨t,rfl⟩:=rx;cases ry;exact add_int_bool ⟨.int _,H,I.tok _,⟨_,rfl⟩,q⟩
end
section
theorem z11:OpR X (compareOp .Lt) (rI0 λi j=> .bl (decide (i < j))):=z10 λ_ _ _ _ _ _ _ q=>lt_int q
theorem z12:OpR X (compareOp .LtE) (rI0 λi j=> .bl (decide (i<=j))):=z10 λ_ _ _ _ _ _ _ q=>le_int q
theorem z13:OpR X (compareOp .Gt) (rI0 λi j=> .bl (decide (j < i))):=z10 λ_ _ _ _ _ _ _ q=>gt_int q
theorem jk (b:Expr)(h:op ≠ .In:=by decide)(h2:op ≠ .NotIn:=by decide):behindInMarks op b=false:=by
 have e1:(op == CmpOp.In)=false:=by cases op <;> first | rfl | exact absurd rfl h
 have e2:(op == CmpOp.NotIn)=false:=by cases op <;> first | rfl | exact absurd rfl h2
 cases b <;> simp[behindInMarks,e1,e2]
theorem xg (ho:OpR X (compareOp op) r)(ha:PE X a ta)(hb:PE X b tb)(hm:behindInMarks op b=false):PE X (.Compare a [op] [b] pos) (tOp r ta tb):=by
 intro pins s σ H Q I h;exact wpAny_Compare1 (z0X ha hb I h λv u s2 x y H2 I2 rx ry q=>ho _ s2 σ H2 x y v u Q I2 rx ry q) hm
def kY (t:TE):TT:=λσ H Q=>t σ H λx H' =>∃k,x= .bl k/\Q k H'
theorem xh (ho:OpR X (compareOp op) r)(ha:PE X a ta)(hb:PE X b tb)(hm:behindInMarks op b=false):PT X (.Compare a [op] [b] pos) (kY (tOp r ta tb)):=by
 intro pins s σ H Q I h;refine wpAny_isTrue_Compare1 (thn (ha _ s σ H _ I h) λv s1 ⟨x,H1,I1,r1,q1⟩=>thn (hb _ s1 σ H1 _ I1 q1) λu s2 ⟨y,H2,I2,r2,q2⟩=>
  thn (ho _ s2 σ H2 x y v u _ I2 r1 r2 q2) λc s3 ⟨z,H3,I3,r3,k,e,q3⟩=> ?_) hm
 subst e;cases r3;exact bi ⟨H3,I3,q3⟩
def V3 (r r' :R2)(ta tb tc:TE):TE:=λσ H Q=>ta σ H λx H1=>tb σ H1 λy H2=>r x y H2 λz H3=>∃k,z= .bl k/\
 (if k=true then tc σ H3 λw' H4=>r' y w' H4 Q else Q (.bl false) H3)
theorem Qr (ho:OpR X (compareOp op) r)(ho' :OpR X (compareOp op') r')(ha:PE X a ta)(hb:PE X b tb)(hc:PE X c tc)
  (hm:lastMarks [op,op'] [b,c]=false:=by with_unfolding_all rfl):PE X (.Compare a [op,op'] [b,c] pos) (V3 r r' ta tb tc):=by
 intro pins s σ H Q I h;refine Compare_chain (thn (ha _ s σ H _ I h) λv s1 ⟨x,H1,I1,r1,q1⟩=>chain_link (thn (hb _ s1 σ H1 _ I1 q1) λu s2 ⟨y,H2,I2,r2,q2⟩=>
  thn (ho _ s2 σ H2 x y v u _ I2 r1 r2 q2) λd s3 ⟨z,H3,I3,r3,k,e,q3⟩=> ?_)) hm
 subst e;cases r3;refine bi ?_;cases k with
 | false=>exact ite_ff ⟨.bl _,H3,I3,rfl,q3⟩
 | true=>exact ite_tt (chain_last (thn (hc _ s3 σ H3 _ I3 q3) λw' s4 ⟨z',H4,I4,r4,q4⟩=>ho' _ s4 σ H4 y z' u w' Q I4 r2 r4 q4))
theorem Qs (ho:OpR X (compareOp op) r)(ho' :OpR X (compareOp op') r')(ha:PE X a ta)(hb:PE X b tb)(hc:PE X c tc)
  (hm:lastMarks [op,op'] [b,c]=false:=by with_unfolding_all rfl):PT X (.Compare a [op,op'] [b,c] pos) (kY (V3 r r' ta tb tc)):=by
 intro pins s σ H Q I h;refine isTrue_chain (thn (ha _ s σ H _ I h) λv s1 ⟨x,H1,I1,r1,q1⟩=>test_link (thn (hb _ s1 σ H1 _ I1 q1) λu s2 ⟨y,H2,I2,r2,q2⟩=>
  thn (ho _ s2 σ H2 x y v u _ I2 r1 r2 q2) λd s3 ⟨z,H3,I3,r3,k,e,q3⟩=> ?_)) hm
 subst e;cases r3;refine bi ?_;cases k with
 | false=>
  obtain⟨k',e',q'⟩:=q3;cases e';exact ite_ff ⟨H3,I3,q'⟩
 | true=>
  refine ite_tt (test_last (thn (hc _ s3 σ H3 _ I3 q3) λw' s4 ⟨z',H4,I4,r4,q4⟩=>thn (ho' _ s4 σ H4 y z' u w' _ I4 r2 r4 q4) λd' s5 ⟨z2,H5,I5,r5,k2,e2,q5⟩=> ?_));subst e2;cases r5;exact bi ⟨H5,I5,q5⟩
def TruV (K:ai)(x:V)(H:Hp)(k:Bool):Prop:=
 match x with
 | .non=>k=false
 | .bl b=>k=b
 | .int i=>k=(i != 0)
 | .str y=>y.length<=sizeLine/\k=((y.length:Int) != 0)
 | .byt y=>y.size<=sizeLine/\k=((y.size:Int) != 0)
 | .ref p=>(∃xs,SqL K H p xs/\k= !xs.isEmpty)\/(∃xs,SqT K H p xs/\k= !xs.isEmpty)\/∃kvs,H p=some (.dK kvs)/\k= !kvs.isEmpty
 | _=>False
theorem Uw {κ:Type}{kvs:List (κ×V)}{vs:List (κ×Value)}(r:KV kvs vs):(!vs.isEmpty)= !kvs.isEmpty:=by
 cases r <;> rfl
theorem JL (r:zU xs its):(!its.toArray.isEmpty)= !xs.isEmpty:=by
 cases r <;> simp
theorem W1:(sizeLine:Nat) < 2 ^ 63:=by decide
theorem kZ:TruR X (λx H Q=>∃k,TruV X.K x H k/\Q k H):=by
 intro pins s σ H x v Q I rx h;obtain⟨k,e,q⟩:=h;have hs:=bH;cases x with
 | non=>
  cases rx;have e' :k=false:=e;subst e';exact truthy_none ⟨H,I,q⟩
 | bl b=>
  cases rx;have e' :k=b:=e;subst e';exact bi ⟨H,I,q⟩
 | int i=>
  obtain⟨t,rfl⟩:=rx;have e' :k=(i != 0):=e;subst e';exact PySem.P.truthy_int ⟨H,I,q⟩
 | str y=>
  obtain⟨t,rfl⟩:=rx;obtain⟨hy,e'⟩:y.length<=sizeLine/\k=((y.length:Int) != 0):=e;subst e';exact PySem.P.truthy_str (by omega) ⟨H,I.tok _,q⟩
 | byt y=>
  obtain⟨t,rfl⟩:=rx;obtain⟨hy,e'⟩:y.size<=sizeLine/\k=((y.size:Int) != 0):=e;subst e';exact PySem.W.truthy_bytes (by omega) ⟨H,I.tok _,q⟩
 | ref p=>
  cases rx;have e' :=e;rcases e' with ⟨xs,hx,e'⟩ | ⟨xs,hx,e'⟩ | ⟨kvs,hx,e'⟩
  ·subst e';obtain⟨its,r,pl,hz⟩:=I.list hx;have hlen:=r.length;exact wpAny_truthy_list pl.isList (by simp only[aA];omega) ⟨H,I.tok _,by rw[JL r];exact q⟩
  ·subst e';obtain⟨its,r,pl,hz⟩:=I.tuple hx;have hlen:=r.length;exact truthy_tuple pl (by simp only[aA];omega) ⟨H,I.tok _,by rw[JL r];exact q⟩
  ·subst e';obtain⟨hz,hS,vs,r,m⟩:kvs.length<=sizeLine/\(p == sysModules)=false/\∃vs,KV kvs vs/\s.heap.DictOf _ p vs:=I.hok p _ hx;have hlen:=Paired.length r;exact wpAny_truthy_dict hS m (by omega) ⟨H,I.tok _,by rw[Uw r];exact q⟩
 | _=>exact(e).elim
theorem Qt (ha:PE X a ta)(he:∀whole,isTrue a X.env whole=(do let v ← whole;standAt a.pos;holding [v] (truthy v))):
  PT X a (λσ H Q=>ta σ H λx H' =>∃k,TruV X.K x H' k/\Q k H'):=by
 intro pins s σ H Q I h;exact isTrue_plain (thn (ha _ s σ H _ I h) λv s1 ⟨x,H1,I1,r1,q1⟩=>kZ _ s1 σ H1 x v Q I1 r1 q1) (he _)
theorem Ux:OpR X (binaryOp .Add) (λx y H Q=>∃i j,x= .str i/\y= .str j/\i.length+j.length<=sizeLine/\Q (.str (i++j)) H):=by
 intro pins s σ H x y v u Q I rx ry h;obtain⟨i,j,rfl,rfl,hz,q⟩:=h;obtain⟨t,rfl⟩:=rx;obtain⟨t',rfl⟩:=ry;exact add_str (λt' tk=>⟨.str _,H,I.tok _,⟨_,rfl⟩,q⟩) hz
theorem Zp (r:zU [x] us):∃u,us=[u]/\Z3 x u:=by
 cases r with
 | cons r1 r2=>cases r2;exact⟨_,rfl,r1⟩
theorem Uy (r:zU [x,y] us):∃u w',us=[u,w']/\Z3 x u/\Z3 y w' :=by
 cases r with
 | cons r1 r2=>
  cases r2 with
  | cons r3 r4=>cases r4;exact⟨_,_,rfl,r1,r3⟩
theorem Qu:Zb X (.builtin "abs") (λxs H Q=>∃i,xs=[.int i]/\Q (.int (if i < 0 then -i else i)) H):=by
 intro pins s σ H xs us Q I r h;obtain⟨i,rfl,q⟩:=h;obtain⟨u,rfl,t,rfl⟩:=Zp r;exact call_abs_int λu tk=>⟨.int _,H,I.tok _,⟨_,rfl⟩,q⟩
theorem yt (hc:X.calm=true):Zb X (.builtin "max") (λxs H Q=>∃i j,xs=[.int i,.int j]/\Q (.int (if j > i then j else i)) H):=by
 intro pins s σ H xs us Q I r h;obtain⟨i,j,rfl,q⟩:=h;obtain⟨u,w',rfl,⟨t,rfl⟩,⟨t',rfl⟩⟩:=Uy r;refine max_two_ints (I.ok.hd hc) λh' tk k=>⟨_,H,I.kept k, ?_,q⟩
 by_cases hj:j > i
 ·rw[if_pos hj,if_pos hj];exact⟨_,rfl⟩
 ·rw[if_neg hj,if_neg hj];exact⟨_,rfl⟩
theorem yu (hc:X.calm=true):Zb X (.builtin "min") (λxs H Q=>∃i j,xs=[.int i,.int j]/\Q (.int (if j < i then j else i)) H):=by
 intro pins s σ H xs us Q I r h;obtain⟨i,j,rfl,q⟩:=h;obtain⟨u,w',rfl,⟨t,rfl⟩,⟨t',rfl⟩⟩:=Uy r;refine min_two_ints (I.ok.hd hc) λh' tk k=>⟨_,H,I.kept k, ?_,q⟩
 by_cases hj:j < i
 ·rw[if_pos hj,if_pos hj];exact⟨_,rfl⟩
 ·rw[if_neg hj,if_neg hj];exact⟨_,rfl⟩
theorem yv:Zb X (.type "int") (λxs H Q=>(∃i,xs=[.int i]/\Q (.int i) H)\/∃k,xs=[.bl k]/\Q (.int (if k then 1 else 0)) H):=by
 intro pins s σ H xs us Q I r h;rcases h with ⟨i,rfl,q⟩ | ⟨k,rfl,q⟩
 ·obtain⟨u,rfl,t,rfl⟩:=Zp r;exact call_int_int ⟨.int i,H,I,⟨_,rfl⟩,q⟩
 ·obtain⟨u,rfl,r1⟩:=Zp r;cases r1;exact call_int_bool ⟨.int _,H,I.tok _,⟨_,rfl⟩,q⟩
end
end L2
namespace L2
open PySem PySem.Spec PyProof.Rows
structure z14 (h:Heap) (x dx C:Addr) (mA:Str->Option Value):Prop where
 obj:h.get? x=some (fR C dx)
 ns:h.Ns1 dx mA
 ne:dx ≠ x
theorem yw {h:Heap}{dx:Addr}{mA:Str->Option Value}(n:h.Ns1 dx mA):∃od,h.get? dx=some od/\∀name,g_ name od=some (mA name):=by
 obtain⟨o,es,ep,ho,hd,hk,_,hm⟩:=n;refine⟨o,ho,λname=> ?_⟩;have e:=hm name;unfold nsFind findBy at e;rw[← Array.find?_toList]at e;unfold g_;rw[hd];dsimp only;split
 ·rename_i y q;rw[q]at e;exact congrArg _ e
 ·rename_i q;rw[q]at e;have a:es.toList.any (·.refKey)=false:=by
   rw[List.any_eq_false];intro y hy;obtain⟨z,t,hkey⟩:=hk y (Array.mem_toList_iff.mp hy);simp[DictEntry.refKey,hkey]
  have a' :¬ es.toList.any (·.refKey)=true:=by rw[a];exact aE
  rw[if_neg a'];exact congrArg _ e
theorem z14.look (I:z14 h x dx C mA):∃od,PySem.W.InstAt h x (fR C dx) C (some od)/\∀name,g_ name od=some (mA name):=
 let ⟨od,ho,hl⟩:=yw I.ns
 ⟨od,⟨I.obj,rfl,rfl,ho⟩,hl⟩
section
theorem xi (hok:HOk P w H h)(e:H a=some (.ins C dx fs)):∃mA,z14 h a dx C mA/\(∀f,z0M (fs.lookup f) (mA f))/\PySem.Within mA (fs.map (·.1))/\fs.length<=1000/\H dx=some (.own a):=by
 obtain⟨d,z,ne,ob,mA,n,r,q⟩:=(show zX P w H h a _ from hok a _ e);exact⟨mA,⟨ob,n,ne⟩,r,q,z,d⟩
end
structure Cls (K:ai) (C:Addr):Prop where
 pg:iP K C Str.empty=true
 hd:PySem.W.hasDictIn K C=true
 po:PySem.W.plainOver K C=true
 sa:PySem.W.findIn K (.ref C) "__setattr__"=some (some (.builtin "object.__setattr__"))
theorem Cls.get {K:ai}{C:Addr}(c:Cls K C)(f:Str):iP K C f=true:=c.pg
section
end
section
end
section
inductive Uz (K:ai) (H:Hp):V->Value->Prop where
 | non:Uz K H .non (.type "NoneType")
 | bl (x:Bool):Uz K H (.bl x) (.type "bool")
 | int (i:Int):Uz K H (.int i) (.type "int")
 | str (x:Str):Uz K H (.str x) (.type "str")
 | flt (x:UInt64):Uz K H (.flt x) (.type "float")
 | lst {a:Addr} {xs:List V} (e:H a=some (.lst xs)):Uz K H (.ref a) (.type "list")
 | frz {a:Addr} {o:Obj} {xs:List V} (e:H a=some (.frz o (.lst xs))):Uz K H (.ref a) (.type "list")
 | tup {a:Addr} {xs:List V} (e:H a=some (.tup xs)):Uz K H (.ref a) (.type "tuple")
 | dK {a:Addr} {kvs:List (Key×V)} (e:H a=some (.dK kvs)):Uz K H (.ref a) (.type "dict")
 | dT {a:Addr} {kvs:List (List Key×V)} (e:H a=some (.dT kvs)):Uz K H (.ref a) (.type "dict")
 | ins {a C dx:Addr} {fs:List (Str×V)} (e:H a=some (.ins C dx fs)) (cl:Cls K C) (ha:PySem.W.findIn K (.ref C) "__class__"=some (some (.builtin "object.__class__")))
   (hn:PySem.W.specialIn K (.builtin "object.__class__") "__get__"=some (some (.builtin "getset_descriptor.__get__"))) (htk:PySem.W.takesIn K (.builtin "object.__class__")=some true)
   (hm:PySem.W.mroIn K C (.type "object")=some true):Uz K H (.ref a) (.ref C)
theorem yx (I:Inv X pins σ H s)(rx:Z3 x u)(ty:Uz X.K H x t)(e:cJ X.K t c=some b)(h:∀tk,Q (.bool b) { s with toks:=tk }):
  wpAny (model X.prog X.w) A (call (.builtin "isinstance") [u,c]) Q E s:=by
 cases ty with
 | non=>cases (rx);exact bx PySem.W.kitx_none I.kIn True.intro e (λz=>nomatch z) h
 | bl y=>cases (rx);exact bx PySem.W.kitx_bool I.kIn True.intro e (λz=>nomatch z) h
 | int i=>obtain⟨t,q⟩:=(rx);cases q;exact bx PySem.W.kitx_int I.kIn True.intro e (λz=>nomatch z) h
 | str y=>obtain⟨t,q⟩:=(rx);cases q;exact bx PySem.W.kitx_str I.kIn True.intro e (λz=>nomatch z) h
 | flt y=>obtain⟨t,q⟩:=(rx);cases q;exact bx PySem.W.kitx_float I.kIn True.intro e (λz=>nomatch z) h
 | @lst a xs ea=>
  cases (rx);obtain⟨_,_,n,_,h1⟩:=(show zX _ X.w H _ a _ from I.hok a _ ea);exact bx iw I.kIn ⟨_,h1,rfl⟩ e (λz=>nomatch z) h
 | @frz a ob xs ea=>
  cases (rx);obtain⟨_,_,_,n,_,h1⟩:=(show zX _ X.w H _ a _ from I.hok a _ ea);exact bx iw I.kIn ⟨_,h1,rfl⟩ e (λz=>nomatch z) h
 | @tup a xs ea=>
  cases (rx);obtain⟨_,_,_,p,_⟩:=(show zX _ X.w H _ a _ from I.hok a _ ea);obtain⟨o,h1,h2,_⟩:=p;exact bx PySem.W.kitx_tuple I.kIn ⟨o,h1,h2⟩ e (λz=>nomatch z) h
 | @dK a kvs ea=>
  cases (rx);obtain⟨_,_,vs,_,p⟩:=(show zX _ X.w H _ a _ from I.hok a _ ea);obtain⟨o,es,ep,h1,h2,_⟩:=p;exact bx ix I.kIn ⟨o,h1,h2.1⟩ e (λz=>nomatch z) h
 | @dT a kvs ea=>
  cases (rx);obtain⟨_,_,xs,_,o,es,ep,h1,h2,_⟩:=(show zX _ X.w H _ a _ from I.hok a _ ea);exact bx ix I.kIn ⟨o,h1,h2.1⟩ e (λz=>nomatch z) h
 | @ins a C dx fs ea cl ha hn htk hm=>
  cases (rx);obtain⟨mA,O,_⟩:=xi I.hok ea;obtain⟨od,J,_⟩:=O.look;exact bx (PySem.W.kitx_own (cl.get _) cl.hd ha hn htk hm) I.kIn J e (λz=>nomatch z) h
end
end L2
namespace L2
open PySem PySem.Spec PyProof.Rows
structure jU (k:Nat) (A:Around):Prop where
 hd:A.handled=none
 dp:A.depth+3*k+5 < recursionLimit
 un:A.units+16*k+200 < cLine
 gd:A.guards=some []
theorem jU.mono (r:jU k A)(h:j<=k):jU j A:=⟨r.hd,by have:=r.dp;omega,by have:=r.un;omega,r.gd⟩
theorem jU.deeper (r:jU (k+1) A)(env:Env):jU k (A.deeper env):=
 ⟨r.hd,by have:=r.dp;show A.depth+1+3*k+5 < _;omega,by have:=r.un;show A.units+3+16*k+200 < _;omega,r.gd⟩
theorem jU.depth (r:jU k A):A.depth < recursionLimit:=by have:=r.dp;omega
theorem jU.units (r:jU k A):A.units+64 < cLine:=by have:=r.un;omega
def tNil:TA:=λ_ H Q=>Q [] H
def K0 (ta:TE)(tr:TA):TA:=λσ H Q=>ta σ H λx H1=>tr σ H1 λxs H2=>Q (x :: xs) H2
section
theorem zK:PA X [] tNil:=λ_ _ _ _ H Q I h=>eT ⟨[],H,I,.nil,h⟩
theorem zl (ha:PE X e te)(hr:PA X es t)(hs:starEach (e :: es) X.env=(false,eval e X.env) :: starEach es X.env:=by rfl):PA X (e :: es) (K0 te t):=by
 intro pos pins s σ H Q I h;rw[hs];refine eD (thn (ha _ s σ H _ I h) λu s1 ⟨x,H1,I1,r1,q1⟩=> ?_);exact thn (hr pos _ s1 σ H1 _ I1 q1) λus s2 ⟨xs,H2,I2,r2,q2⟩=>⟨x :: xs,H2,I2,.cons r1 r2,q2⟩
def tTup (t:TA):TE:=λσ H Q=>t σ H λxs H1=>xs.length<=sizeLine/\∀p,H1 p=none->Q (.ref p) (upd H1 p (.tup xs))
def tLst (t:TA):TE:=λσ H Q=>t σ H λxs H1=>xs.length<=sizeLine/\∀p,H1 p=none->Q (.ref p) (upd H1 p (.lst xs))
theorem K1 {x1}(h:PA X es t):PE X (.Tuple es x1 pos) (tTup t):=by
 intro pins s σ H Q I hq;refine wpAny_Tuple_spliced (thn (h pos _ s σ H _ I hq) λus s1 ⟨xs,H1,I1,r,z,q⟩=>⟨by rw[← r.length];exact z, ?_⟩)
 have hf:=I1.hok.fresh (am _);refine⟨.ref _,upd H1 _ _,I1.laid (λb u e=>ab _ e) (am _) ?_,rfl,q _ hf⟩;exact⟨z,us,r,⟨_,af _ rfl,rfl,_,rfl⟩,.inr ⟨_,af _ rfl,rfl⟩⟩
theorem V4 (h:PA X es t):PE X (.List es pos) (tLst t):=by
 intro pins s σ H Q I hq;refine wpAny_List_spliced (thn (h pos _ s σ H _ I hq) λus s1 ⟨xs,H1,I1,r,z,q⟩=>⟨by rw[← r.length];exact z, ?_⟩)
 have hf:=I1.hok.fresh (am _);refine⟨.ref _,upd H1 _ _,I1.laid (λb u e=>ab _ e) (am _) ?_,rfl,q _ hf⟩;exact⟨z,us,0,r,af _ rfl⟩
end
abbrev Sp:=List V->Hp->VK->XK->Prop
abbrev CXT:=List Env->Hp->Shared->XK->Value->Shared->Prop
structure GY (P:Program) (w:World) (K:ai) (mg:Str->Option Value) (base:Heap) (A:Around) (outer:List Env) (s:Shared) (H:Hp):Prop where
 frames:A.frames=some outer
 mod:Mod K mg base
 bs:∀b o,base.get? b=some o->s.heap.get? b=some o/\H b=none
 bsz:base.objs.size<=s.heap.objs.size
 funs:s.heap.FunFrames base outer
 frf:∀b∈frs outer,H b=none
 hok:HOk P w H s.heap
 bare:AllBare s.gens
def CE (outer:List Env)(P:Program)(w:World)(H:Hp)(s:Shared)(Q:VK)(u:Value)(s' :Shared):Prop:=
 ∃v H',s'.os=s.os/\AllBare s'.gens/\Un (frs outer) [] H H' s.heap s'.heap/\HOk P w H' s'.heap/\Z3 v u/\Q v H'
def CR (CX:CXT)(outer:List Env)(P:Program)(w:World)(H:Hp)(s:Shared)(Q:VK)(E:XK)(r:Result)(s' :Shared):Prop:=
 match r with
 | .ok (.ret u)=>CE outer P w H s Q u s'
 | .ok _=>False
 | .error e=>CX outer H s E e s'
structure W2 (P:Program) (w:World) (K:ai) (mg:Str->Option Value) (base:Heap) (CX:CXT) (k:Nat) (f:Addr) (fd:FuncData) (ps:List Str) (sp:Sp):Prop where
 len:∀vs H Q E,sp vs H Q E->vs.length=ps.length
 run:∀(A:Around) (outer:List Env) (s:Shared) (H:Hp) (args:Args) (us:List Value) (vs:List V) (Q:VK) (E:XK),jU k A->GY P w K mg base A outer s H->BindsTo s fd args (ps.zip us)->zU vs us->sp vs H Q E->
  codeAny (model P w) A (.call (.ref f) args) (CR CX outer P w H s Q E) s
section
theorem Inv.env0 (I:Inv X pins σ H s):GY X.prog X.w X.K X.mg X.base X.A X.stack s H:=
 ⟨I.ok.frames,I.ok.mod,I.bs,aq I.ok.bsz I.sz,I.stack,I.stkFree,I.hok,I.bare⟩
theorem Inv.after (I:Inv X pins σ H s)(h:CE X.stack X.prog X.w H s Q u s'):EP X pins σ Q u s' :=by
 obtain⟨v,H',os,bare,un,hok,r,q⟩:=h;obtain⟨hh,g,d,t,os'⟩:=s';obtain rfl:os' =s.os:=os;exact⟨v,H',I.call un hok bare (λb z=>absurd z (by simp)),r,q⟩
end
def z15 (sp:Sp)(dvs:List V)(E:XK)(t:TA):TE:=λσ H Q=>t σ H λvs H1=>sp (vs++dvs) H1 Q E
noncomputable def Binds (K:ai)(fd:FuncData)(ps:List Str)(ds:List Value):Prop:=
 ∀(s:Shared) (us:List Value),K.In s.heap->(us++ds).length=ps.length->BindsTo s fd ⟨us,[]⟩ (ps.zip (us++ds))
theorem Binds.all {K:ai}{fd:FuncData}{ps:List Str}(h:∀us:List Value,us.length=ps.length->bindArgs fd ⟨us,[]⟩=pure (ps.zip us)):Binds K fd ps []:=λs us _ hl=>by
 rw[bz]at hl ⊢;exact .of_eq (h us hl)
def JM (CX:CXT)(X:Cx)(E:XK):Prop:=∀(pins:List (Addr×Obj)) (σ:St) (H:Hp) (s:Shared) (e:Value) (s' :Shared),Inv X pins σ H s->CX X.stack H s E e s' ->X.xe e s'
section
theorem K2 (F:W2 X.prog X.w X.K X.mg X.base CX k f fd ps sp)(hr:jU k X.A)(hb:Binds X.K fd ps ds)(hd:zU dvs ds)(hx:JM CX X E)
  (I:Inv X pins σ H s) (r:zU vs us) (h:sp (vs++dvs) H Q E):wpAny (model X.prog X.w) X.A (call (.ref f) us) (EP X pins σ Q) X.xe s:=by
 have r2:=r.append hd;have hl:(us++ds).length=ps.length:=by rw[← r2.length];exact F.len _ _ _ _ h
 refine wpAny_call (bZ (F.run X.A _ s H _ _ _ Q E hr I.env0 (hb s us I.kIn hl) r2 h) λr s' hq=> ?_);cases r with
 | error e=>exact hx _ σ H s e s' I hq
 | ok fl=>
  cases fl with
  | ret u=>exact I.after hq
  | next=>exact cG hq
  | brk=>exact cG hq
  | cont=>exact cG hq
theorem yy (F:W2 X.prog X.w X.K X.mg X.base CX k f fd ps sp)(hr:jU k X.A)(hg:Gl X x)(hm:X.mg x=some (.ref f))(hk:cK X.K (.ref f)=true)(hb:Binds X.K fd ps ds)(hd:zU dvs ds)(hx:JM CX X E)
  (ha:PA X (e :: es) t) (hdb:(x == ("__debug__":Str))=false:=by decide) (he:starEach (e :: es) X.env=(false,eval e X.env) :: starEach es X.env:=by rfl) (hpl:(backTo pos (starEach es X.env)).any (·.1)=false:=by rfl):
  PE X (.Call (.Name x p) (e :: es) [] pos) (z15 sp dvs E t):=by
 intro pins s σ H Q I h;refine bO (yh I hg hm ?_ hdb);refine PySem.W.callWith_K I.ok.mod.kin hk (thn (ha pos _ s σ H _ I h) λus s1 ⟨vs,H1,I1,r,q⟩=>⟨I1.kIn, ?_⟩) he hpl;exact K2 F hr hb hd hx I1 r q
end
def PK (X:Cx)(kws:List Keyword)(t:TA):Prop:=
 ∀(pos:Pos) (pins:List (Addr×Obj)) (s:Shared) (σ:St) (H:Hp) (Q:List V->Hp->Prop),Inv X pins σ H s->t σ H Q->wpAny (model X.prog X.w) X.A (evalAll ((backToKw pos (keywordEach kws X.env)).map (·.2))) (AP X pins σ Q) X.xe s
section
variable {kws:List Keyword}{nm:Option Str}
theorem K3:PK X [] tNil:=λ_ _ _ _ H Q I h=>wpAny_evalAll_nil ⟨[],H,I,.nil,h⟩
theorem xj (ha:PE X e te)(hr:PK X kws t):PK X (⟨nm,e,kpos⟩ :: kws) (K0 te t):=by
 intro pos pins s σ H Q I h;refine wpAny_evalAll_cons (a7 (thn (ha _ s σ H _ I h) λu s1 ⟨x,H1,I1,r1,q1⟩=>a7 (wpAny_standAt (ag ?_))));exact thn (hr pos _ s1 σ H1 _ I1 q1) λus s2 ⟨xs,H2,I2,r2,q2⟩=>⟨x :: xs,H2,I2,.cons r1 r2,q2⟩
variable {g:List Value->List Value->List Value}{gV:List V->List V->List V}
end
structure J9 (N P:List Str) (sc:Scope):Prop where
 kind:sc.kind= .function
 co:sc.isCoroutine=false
 gen:sc.isGenerator=false
 nd:N.Nodup
 pre:N.take P.length=P
 par:∀x∈P,sc.names.lookup x=some .local\/sc.names.lookup x=some .cell
 nofree:∀y∈sc.names,y.2 ≠ .free
theorem W3 {kindOf:Str->Option NameKind}{x:Str}:∀{binds:List (Str×Value)} {m:Str->Option Value},(∀v,(x,v) ∉ binds)->bindL kindOf binds m x=m x
 | [],_,_=>rfl
 | (n,v) :: r,m,h=>by
  unfold bindL;rw[W3 λw hw=>h w (a8 _ hw)];split
  ·have:x ≠ n:=by rintro rfl;exact h v ac
   simp[this]
  ·rfl
theorem W4 {kindOf:Str->Option NameKind}{x:Str}:∀{binds:List (Str×Value)} {m:Str->Option Value},(∀v,(x,v) ∉ binds)->bindC kindOf binds m x=m x
 | [],_,_=>rfl
 | (n,v) :: r,m,h=>by
  unfold bindC;rw[W4 λw hw=>h w (a8 _ hw)];split
  ·rfl
  ·have:x ≠ n:=by rintro rfl;exact h v ac
   simp[this]
theorem W5 {kindOf:Str->Option NameKind}{x:Str}{v:Value}:∀{P:List Str} {vs:List Value} {i:Nat} {m:Str->Option Value},P.Nodup->P[i]? =some x->vs[i]? =some v->kindOf x=some .local->
  bindL kindOf (P.zip vs) m x=some v
 | [],_,_,_,_,h,_,_=>by simp at h
 | _ :: _,[],_,_,_,_,h,_=>by simp at h
 | p :: P,w :: vs,0,m,nd,h1,h2,hk=>by
  simp at h1 h2;subst h1;subst h2;show bindL _ ((p,w) :: P.zip vs) m p=_;unfold bindL;rw[W3 λv hv=>(dt.mp nd).1 (bA hv).1,if_pos hk];simp
 | p :: P,w :: vs,i+1,m,nd,h1,h2,hk=>by
  show bindL _ ((p,w) :: P.zip vs) m x=_;exact W5 (dt.mp nd).2 (by simpa using h1) (by simpa using h2) hk
theorem W6 {kindOf:Str->Option NameKind}{x:Str}{v:Value}:∀{P:List Str} {vs:List Value} {i:Nat} {m:Str->Option Value},P.Nodup->P[i]? =some x->vs[i]? =some v->kindOf x ≠ some .local->
  bindC kindOf (P.zip vs) m x=some v
 | [],_,_,_,_,h,_,_=>by simp at h
 | _ :: _,[],_,_,_,_,h,_=>by simp at h
 | p :: P,w :: vs,0,m,nd,h1,h2,hk=>by
  simp at h1 h2;subst h1;subst h2;show bindC _ ((p,w) :: P.zip vs) m p=_;unfold bindC;rw[W4 λv hv=>(dt.mp nd).1 (bA hv).1,if_neg hk];simp
 | p :: P,w :: vs,i+1,m,nd,h1,h2,hk=>by
  show bindC _ ((p,w) :: P.zip vs) m x=_;exact W6 (dt.mp nd).2 (by simpa using h1) (by simpa using h2) hk
def start (N:List Str)(vs:List V):St:=vs.map some++ae (N.length - vs.length) none
def Qv (CX:CXT)(P:Program)(w:World)(K:ai)(mg:Str->Option Value)(base:Heap)(N:List Str)(qual:Str)(scope:Scope)(f:Addr)(cd:Value)(A:Around)(outer:List Env)(s:Shared)(H:Hp)(E:XK):Cx where
 prog:=P
 w:=w
 K:=K
 mg:=mg
 base:=base
 A:=A.deeper (envOfC qual scope s.heap.objs.size f cd)
 N:=N
 s₀:=s
 H₀:=H
 env:=envOfC qual scope s.heap.objs.size f cd
 outer:=outer
 stack:=envOfC qual scope s.heap.objs.size f cd :: outer
 ex:=[]
 calm:=true
 fn:=λ_=>true
 pn:=[]
 xe:=λe s' =>wpAny (model P w) (A.deeper (envOfC qual scope s.heap.objs.size f cd)) (leaving (envOfC qual scope s.heap.objs.size f cd) e) (λ_ s'' =>CX outer H s E e s'') (λe' s'' =>CX outer H s E e' s'') s'
theorem uF {sc:Scope}{n:Nat}{x:Str}(h:sc.names.lookup x=some .cell):∃c,(cellsFrom n sc.names []).lookup x=some c:=by
 have q:=fH _ n [] (.inl h);exact Option.isSome_iff_exists.mp q
theorem yz {CX:CXT}{P:Program}{w:World}{K:ai}{mg:Str->Option Value}{base:Heap}{N ps:List Str}{qual:Str}{scope:Scope}{f:Addr}{cd:Value}{A:Around}{outer:List Env}{s s1:Shared}{H:Hp}{E:XK}{us:List Value}{vs:List V}
  (S:J9 N ps scope) (hd:A.handled=none) (e0:GY P w K mg base A outer s H) (hl:vs.length=ps.length) (r:zU vs us)
  (x:InCallC s s.heap.objs.size (bindL (envOfC qual scope s.heap.objs.size f cd).kindOf (ps.zip us) λ_=>none) (cellsFrom (s.heap.objs.size+1) scope.names []) (bindC (envOfC qual scope s.heap.objs.size f cd).kindOf (ps.zip us) λ_=>none) s1):
  Inv (Qv CX P w K mg base N qual scope f cd A outer s H E) [] (start N vs) H s1:=by
 have hpl:=by have:=congrArg iZ S.pre;rw[cL]at this;omega
 obtain⟨h1,tk,rfl,hk⟩:=x.done;have noA:∀b,b ∉ (Qv CX P w K mg base N qual scope f cd A outer s H E).ex:=λb z=>absurd (show b∈([]:List _) from z) (by simp)
 refine⟨⟨e0.mod,S.kind,rfl,rfl,am _,λy z c h1 h2=> ?_,λy hy=> ?_,λy c _ h=> ?_,λ_=>hd,Around.frames_deeper e0.frames,.inr ⟨rfl,rfl⟩,λb z=>absurd z (noA b),e0.bs,e0.bsz,λb _ _=>noA b,λb z=>absurd z (noA b),e0.funs,e0.frf⟩,
  rfl,e0.bare,Un.kept hk,⟨_,x.toInCall.ns,λi y v h1 h2 h3=> ?_⟩,λy c h=>⟨_,x.cell y c h⟩,e0.hok.fresh (am _),λy c h=> ?_,λp hp=>absurd (show p∈([]:List _) from hp) (by simp),e0.hok.kept hk, ?_⟩
 ·exact name_of_addr x.apart (ci h1) (ci h2)
 ·rcases hy with hy | hy
  ·exact uF hy
  ·exact absurd rfl (S.nofree _ (ci hy))
 ·exact e9 (x.above y c (ci h))
 ·have hi:i < vs.length:=by
   unfold start at h2
   by_cases hi:i < vs.length
   ·exact hi
   ·rw[aJ (by simpa using hi)]at h2
    rw[aU]at h2;split at h2 <;> cases h2
  have ha:vs[i]? =some v:=by
   unfold start at h2;rw[aT (by simpa using hi),ar]at h2
   cases e:vs[i]? with
   | none=>rw[e]at h2;cases h2
   | some a=>rw[e]at h2;cases h2;rfl
  obtain⟨u,hu,rv⟩:=r.get ha;have hp:ps[i]? =some y:=by
   rw[← S.pre,eY (by omega)];exact h1
  have ndP:ps.Nodup:=by rw[← S.pre];exact S.nd.sublist (List.take_sublist _ _)
  refine⟨u,rv, ?_⟩;rcases S.par y (aN hp) with k | k
  ·exact .inl ⟨k,W5 ndP hp hu k⟩
  ·obtain⟨c,e⟩:=uF k;refine .inr ⟨.inl k,c,e, ?_⟩;have q:=x.cell y c e;rw[W6 ndP hp hu (by show scope.names.lookup y ≠ _;rw[k];decide)]at q
   exact q
 ·exact e0.hok.fresh (e9 (x.above y c (ci h)))
 ·unfold start;show _=N.length;rw[az,aa,aF];omega
theorem z16 {CX:CXT}{P:Program}{w:World}{K:ai}{mg:Str->Option Value}{base:Heap}{k:Nat}{f:Addr}{name qual:Str}{params:Arguments}{body:List Stmt}{scope:Scope}{dV kV doc pm cdv ct oc:Value}{an od:Option Addr}
  {osl:Array (Option Value)} {N ps:List Str} {sp:Sp} (lk:K.lookup f=some ⟨oc,od,.func (cj name qual params body scope dV kV doc pm an cdv ct),osl⟩) (hcd:eG K cdv qual=true) (S:J9 N ps scope)
  (len:∀vs H Q E,sp vs H Q E->vs.length=ps.length)
  (hbody:∀(A:Around) (outer:List Env) (s:Shared) (H:Hp) (vs:List V) (Q:VK) (E:XK),jU k (A.deeper (envOfC qual scope s.heap.objs.size f cdv))->sp vs H Q E->
   ∃t,PSs (Qv CX P w K mg base N qual scope f cdv A outer s H E) body t/\t { nx:=λ_ H' =>Q .non H',rt:=Q } (start N vs) H):
  W2 P w K mg base CX (k+1) f (cj name qual params body scope dV kV doc pm an cdv ct) ps sp:=by
 refine⟨len,λA outer s H args us vs Q E hr e0 hb r hsp=> ?_⟩;have hl:=len _ _ _ _ hsp;have KX:=e0.mod.kin.keeps λb o e=>(e0.bs b o e).1;have lim:=e0.mod.nolimit.keeps λb o e=>(e0.bs b o e).1;have hkind:∀y∈ps.zip us,scope.names.lookup y.1=some _\/(scope.names.lookup y.1=some _/\((cellsFrom (s.heap.objs.size+1) _ []).lookup y.1).isSome=true):=λ⟨n,v⟩ hy=>by
  rcases S.par n (bA hy).1 with q | q
  ·exact .inl q
  ·exact .inr ⟨q,fH _ _ _ (.inl q)⟩
 refine codeAny_call_function hr.depth (KX _ _ lk) rfl S.co S.gen rfl (PySem.W.codeRec_of KX hcd) (hb _ _ _ _ ?_);refine wpAny_newFunctionEnv_cells S.kind hkind λenv he s1 x=> ?_;subst he;refine⟨lim.keeps x.toInCall.keep,codeAny_func ?_⟩;obtain⟨t,ht,hq⟩:=hbody A _ s H vs Q E (hr.deeper _) hsp;have I:Inv (Qv CX P w K mg _ N _ _ f cdv A _ s H E) [] _ H s1:=yz S hr.hd e0 hl r x;refine cS (ht [] s1 _ H _ I hq) (λfl s' hs=> ?_) λe s' hs=>hs;have fin:∀{σ' :St} {H' :Hp} {v:V} {u:Value},Inv (Qv CX P w K mg base N qual scope f cdv A outer s H E) [] σ' H' s' ->Z3 v u->Q v H' ->CE _ P w H s Q u s' :=
  λ{σ' H' v u} J rv q=>⟨v,H',J.os,J.bare,J.base,J.hok,rv,q⟩
 cases fl with
 | ret u=>
  obtain⟨v,σ',H',J,rv,q⟩:=hs;exact fin J rv q
 | next=>
  obtain⟨σ',H',J,q⟩:=hs;exact fin (v:=V.non) J rfl q
 | brk=>
  obtain⟨_,_,_,q⟩:=hs;exact cG q
 | cont=>
  obtain⟨_,_,_,q⟩:=hs;exact cG q
end L2
namespace L2
open PySem PySem.Spec PyProof.Rows
section
variable {X:Cx}{x:Str}{p pos:Pos}{e:Expr}{es:List Expr}{t:TA}{id T:String}{r:List V->Hp->VK->Prop}
def tCB (r:List V->Hp->VK->Prop)(t:TA):TE:=λσ H Q=>t σ H λvs H1=>r vs H1 Q
theorem Zv (hc:Zb X (.builtin id) r)(hg:Gl X x)(hm:X.mg x=none)(hv:bootBuiltins x=some (.builtin id))(ha:PA X (e :: es) t)(hn:x ≠ "__name__":=by decide)(hdb:(x == ("__debug__":Str))=false:=by decide)
  (he:starEach (e :: es) X.env=(false,eval e X.env) :: starEach es X.env:=by rfl) (hpl:(backTo pos (starEach es X.env)).any (·.1)=false:=by rfl):PE X (.Call (.Name x p) (e :: es) [] pos) (tCB r t):=by
 intro pins s σ H Q I h;refine bO (ZC I hg hm hv ?_ hn hdb);exact PyProof.Rows.callWith_builtin1 (thn (ha pos _ s σ H _ I h) λus s1 ⟨vs,H1,I1,r1,q1⟩=>hc _ s1 σ H1 vs us Q I1 r1 q1) he hpl
theorem ZD (hc:Zb X (.type T) r)(hg:Gl X x)(hm:X.mg x=none)(hv:bootBuiltins x=some (.type T))(ha:PA X (e :: es) t)(hn:x ≠ "__name__":=by decide)(hdb:(x == ("__debug__":Str))=false:=by decide)
  (he:starEach (e :: es) X.env=(false,eval e X.env) :: starEach es X.env:=by rfl) (hpl:(backTo pos (starEach es X.env)).any (·.1)=false:=by rfl):PE X (.Call (.Name x p) (e :: es) [] pos) (tCB r t):=by
 intro pins s σ H Q I h;refine bO (ZC I hg hm hv ?_ hn hdb);exact aV (thn (ha pos _ s σ H _ I h) λus s1 ⟨vs,H1,I1,r1,q1⟩=>hc _ s1 σ H1 vs us Q I1 r1 q1) he hpl
end
end L2
namespace HT
open PySem PyProof.Rows
section
open PySem.SeqAt
open PySem.AutoSeq1 (wpAny_loadPart')
open PySem.MeetsSeq PySem.MeetsSeq2 PySem.MeetsSeq3
end
section
theorem cat_tup (ht:IsTup s.heap t vs.toArray)(hb:IsTup s.heap b ws.toArray)(hv:vs ≠ [])
  (h1:ws=[]->Q (.ref t) s) (h2:ws ≠ []->Q (.ref s.heap.objs.size) { s with heap:=s.heap.push { cls:= .type "tuple",data:= .seq (vs++ws).toArray } })
  (hsz:vs.length+ws.length<=sizeLine):wpAny (model prog w) A (binaryOp .Add (.ref t) (.ref b)) Q E s:=by
 obtain⟨⟨cls,dd,data,sl⟩,ho,hc,n,hd⟩:=id ht;obtain⟨⟨cls2,dd2,data2,sl2⟩,ho2,hc2,n2,hd2⟩:=id hb;subst hc hd hc2 hd2;have e:vs.toArray++ws.toArray=(vs++ws).toArray:=by simp
 by_cases hw:ws=[]
 ·exact concat_meets ⟨_,ho,rfl⟩ ⟨_,ho2,rfl⟩ noFill_tuple_add seq_tuple_add dC dw (dq _ _)
   (tuple_addW1 t b _ _ n n2 dd dd2 sl sl2 (by simpa using hv) (by simp[hw])) ⟨ho,ho2,h1 hw⟩
 ·refine concat_meets ⟨_,ho,rfl⟩ ⟨_,ho2,rfl⟩ noFill_tuple_add seq_tuple_add dC dw (dq _ _)
   (tuple_addW2 t b _ _ n n2 dd dd2 sl sl2 (by simpa using hv) (by simpa using hw) (by exact hsz)) ⟨ho,ho2, ?_⟩
  rw[e];exact h2 hw
noncomputable def sIx (n d:Nat):Option Int->Nat
 | none=>d
 | some v=>if v < 0 then (v+(n:Int)).toNat else min v.toNat n
end
end HT
namespace L2
open PySem PySem.Spec PyProof.Rows
section
variable {X:Cx}{e:Expr}{te:TE}{lo hi:Option Expr}{tl th:TO}{pos p2:Pos}
def SlR (X:Cx)(r:V->Option Int->Option Int->Hp->VK->Prop):Prop:=
 ∀(pins:List (Addr×Obj)) (s:Shared) (σ:St) (H:Hp) (x:V) (v vl vu:Value) (lo hi:Option Int) (sl:Addr) (Q:VK),Inv X pins σ H s->Z3 x v->s.heap.IsSliceOf sl vl vu .none->IsPart vl lo->IsPart vu hi->r x lo hi H Q->
  ∃T id,typeLookup (.type T) "__getitem__"=pure (some (.builtin id))/\s.TypeIs v T/\wpAny (model X.prog X.w) X.A (getItem v (.ref sl)) (EP X pins σ Q) X.xe s
noncomputable def z17 (xs:List V)(lo hi:Option Int):List V:=(xs.drop (HT.sIx xs.length 0 lo)).take (HT.sIx xs.length xs.length hi - HT.sIx xs.length 0 lo)
theorem WV (xs:List V)(lo hi:Option Int):(z17 xs lo hi).length<=xs.length:=by
 unfold z17;rw[cL,List.length_drop];omega
def z18 (K:ai):R2:=λx y H Q=>∃a b xs ys,x= .ref a/\y= .ref b/\SqT K H a xs/\SqT K H b ys/\xs ≠ []/\xs.length+ys.length<=sizeLine/\
 (ys=[]->Q (.ref a) H)/\(ys ≠ []->∀p,H p=none->Q (.ref p) (upd H p (.tup (xs++ys))))
theorem zU.nil_iff (r:zU xs us):us=[]↔xs=[]:=by
 cases r with
 | nil=>simp
 | cons _ _=>simp
theorem xk:OpR X (binaryOp .Add) (z18 X.K):=by
 intro pins s σ H x y v u Q I rx ry h;obtain⟨a,b,xs,ys,rfl,rfl,ha,hb,hx,hz,q1,q2⟩:=h;cases rx;cases ry;obtain⟨its,r1,p1,_⟩:=I.tuple ha;obtain⟨its2,r2,p2,_⟩:=I.tuple hb;refine HT.cat_tup p1 p2 (λz=>hx (r1.nil_iff.mp z)) (λz=>⟨.ref a,H,I,rfl,q1 (r2.nil_iff.mp z)⟩) (λz=> ?_) (by rw[← r1.length,← r2.length];exact hz)
 refine⟨.ref _,_,I.laid (λb ob q=>ab _ q) (am _) ?_,rfl,q2 (λw=>z (r2.nil_iff.mpr w)) _ (I.hok.fresh (am _))⟩;exact⟨by rw[az];exact hz,_,r1.append r2,ITN.new _ _⟩
end
end L2
namespace L2
open PySem PySem.Spec PyProof.Rows
noncomputable def ixN (n:Nat)(i:Int):Option Nat:=if 0<=i then (if i < n then some i.toNat else none) else if -(n:Int)<=i then some (i+n).toNat else none
def atI {α:Type}(xs:List α)(i:Int):Option α:=(ixN xs.length i).bind λj=>xs[j]?
theorem xl (h:ixN n i=some j):seqIndex? i n=some j/\j < n/\ -(n:Int)<=i/\i < n:=by
 unfold ixN at h
 by_cases h0:0<=i
 ·rw[if_pos h0]at h
  by_cases h1:i < n
  ·rw[if_pos h1]at h;have e:=aR h;exact⟨by rw[seqIndex_of h0 h1,e],by omega,by omega,h1⟩
  ·rw[if_neg h1]at h;cases h
 ·rw[if_neg h0]at h
  by_cases h1: -(n)<=i
  ·rw[if_pos h1]at h;have e:=aR h;exact⟨by rw[seqIndex_neg (by omega) h1,e],by omega,h1,by omega⟩
  ·rw[if_neg h1]at h;cases h
theorem WW {α:Type}{xs:List α}{v:α}(h:atI xs i=some v):∃j,seqIndex? i xs.length=some j/\xs[j]? =some v/\j < xs.length/\ -(xs.length:Int)<=i/\i < xs.length:=by
 unfold atI at h;cases e:ixN _ i with
 | none=>rw[e]at h;cases h
 | some j=>
  rw[e]at h;obtain⟨h1,h2,h3,h4⟩:=xl e;exact⟨j,h1,h,h2,h3,h4⟩
theorem jd {α:Type}{xs:List α}{j:Nat}{v:α}(h:xs[j]? =some v):atI xs (j:Int)=some v:=by
 have hj:=(ak.mp h).1;have e:ixN xs.length (j)=some j:=by
  unfold ixN;rw[if_pos (by omega),if_pos (by omega)];simp
 unfold atI;rw[e];exact h
noncomputable def yA (b:Expr):Prop:=∀o i,subscripted b false o i=operate [o,i] (getItem o i)
def IxR (X:Cx)(r:R2):Prop:=
 ∀(value slice:Expr) (pins:List (Addr×Obj)) (s:Shared) (σ:St) (H:Hp) (x y:V) (v u:Value) (Q:VK),Inv X pins σ H s->Z3 x v->Z3 y u->r x y H Q->
  subscripted slice false v u=operate [v,u] (getItem v u)->wpAny (model X.prog X.w) X.A (subscriptTail value slice v u) (EP X pins σ Q) X.xe s
def MtR (X:Cx)(id:String)(r:V->List V->Hp->VK->Prop):Prop:=
 ∀(pins:List (Addr×Obj)) (s:Shared) (σ:St) (H:Hp) (x:V) (xs:List V) (v:Value) (us:List Value) (Q:VK),Inv X pins σ H s->Z3 x v->zU xs us->r x xs H Q->
  wpAny (model X.prog X.w) X.A (call (.builtin id) (v :: us)) (EP X pins σ Q) X.xe s
section
variable {X:Cx}{a b:Expr}{ta tb:TE}{pos:Pos}
theorem IxR.or (h:IxR X r)(h' :IxR X r'):IxR X (λx y H Q=>r x y H Q\/r' x y H Q):=by
 intro value slice pins s σ H x y v u Q I rx ry q hs;rcases q with q | q
 ·exact h _ _ _ s σ H x y v u Q I rx ry q hs
 ·exact h' _ _ _ s σ H x y v u Q I rx ry q hs
theorem K4 (hr:IxR X r)(ha:PE X a ta)(hb:PE X b tb)(hs:yA b):PE X (.Subscript a b pos) (tOp r ta tb):=by
 intro pins s σ H Q I h;exact Subscript_ (z0X ha hb I h λv u s2 x y H2 I2 rx ry q=>hr a b _ s2 σ H2 x y v u Q I2 rx ry q (hs _ _))
def rIxL (K:ai):R2:=λx y H Q=>∃p xs i v,x= .ref p/\y= .int i/\SqL K H p xs/\atI xs i=some v/\Q v H
def rIxT (K:ai):R2:=λx y H Q=>∃p xs i v,x= .ref p/\y= .int i/\SqT K H p xs/\atI xs i=some v/\Q v H
def rIxS:R2:=λx y H Q=>∃z i c,x= .str z/\y= .int i/\z.length<=sizeLine/\atI z.cps.toList i=some c/\Q (.str ⟨#[c]⟩) H
theorem xm:IxR X (rIxL X.K):=by
 intro value slice pins s σ H x y v u Q I rx ry h hs;obtain⟨p,xs,i,z,rfl,rfl,hq,he,q⟩:=h;cases rx;obtain⟨t,rfl⟩:=ry;obtain⟨its,r,pl,hz⟩:=I.list hq;obtain⟨j,h1,h2,h3,h4,h5⟩:=WW he;obtain⟨w,ew,rw'⟩:=r.get h2;have hl:=r.length;have hn:=W1;have fin:EP X _ σ Q w s:=⟨z,H,I,rw',q⟩
 by_cases h0:0<=i
 ·have hj:=by
   rw[seqIndex_of h0 h5]at h1;exact aR h1
  exact item_listR pl.isList h0 (by omega) (by rw[hj];simpa using ew) fin hs
 ·have hj:(i+(its.toArray.size)).toNat=j:=by
   rw[seqIndex_neg (by omega) h4]at h1
   rw[aA,← hl];exact aR h1
  exact subscriptTail_builtinR pl.isList.typeIs slot_list_getitem.lookup
   (wpAny_getItem_list_neg pl.isList (by omega) (by rw[aA] <;> omega) (by omega) (by rw[hj];simpa using ew) ⟨rfl,fin⟩) hs
theorem K5:IxR X (rIxT X.K):=by
 intro value slice pins s σ H x y v u Q I rx ry h hs;obtain⟨p,xs,i,z,rfl,rfl,hq,he,q⟩:=h;cases rx;obtain⟨t,rfl⟩:=ry;obtain⟨its,r,pl,hz⟩:=I.tuple hq;obtain⟨j,h1,h2,h3,h4,h5⟩:=WW he;obtain⟨w,ew,rw'⟩:=r.get h2;have hl:=r.length;have hn:=W1;have fin:EP X _ σ Q w s:=⟨z,H,I,rw',q⟩;exact subscriptTail_builtinR pl.typeIs slot_tuple_getitem.lookup
  (getItem_tuple pl (by omega) (by omega) (by rw[aA,← hl];exact h1) (by simpa using ew) ⟨rfl,fin⟩) hs
theorem K6:IxR X rIxS:=by
 intro value slice pins s σ H x y v u Q I rx ry h hs;obtain⟨z,i,c,rfl,rfl,hz,he,q⟩:=h;obtain⟨t,rfl⟩:=rx;obtain⟨t',rfl⟩:=ry;obtain⟨j,h1,h2,h3,h4,h5⟩:=WW he;have hl:z.cps.toList.length=z.length:=by simp[Str.length]
 rw[hl]at h1 h4 h5;have hn:=W1;exact tail_any (typeIs_str s z t) slot_str_getitem.lookup (getItem_str (by
  have e1:decide (i < -(2 ^ 63))=false:=decide_eq_false (by omega)
  have e2:decide (i ≥ 2 ^ 63)=false:=decide_eq_false (by omega)
  rw[e1,e2,Bool.or_false]) (by rw[h1];simpa using h2) ⟨.str _,H,I.tok _,⟨_,rfl⟩,q⟩) hs
def rIx (K:ai):R2:=λx y H Q=>rIxL K x y H Q\/rIxT K x y H Q\/rIxS x y H Q
theorem K7:IxR X (rIx X.K):=xm.or (K5.or K6)
theorem W7 (lo hi:Option Int)(n:Nat):(sliceBounds lo hi none n).1=((HT.sIx n 0 lo:Nat):Int)/\(sliceBounds lo hi none n).2.1=((HT.sIx n n hi:Nat):Int)/\(sliceBounds lo hi none n).2.2=1:=by
 refine⟨?_, ?_,rfl⟩
 ·cases lo with
  | none=>simp[sliceBounds,HT.sIx]
  | some i=>
   simp only[sliceBounds,HT.sIx,iQ,show (1) > 0 by decide,if_true]
   by_cases h:i < 0
   ·simp only[h,if_true] <;> omega
   ·simp only[h,if_false] <;> omega
 ·cases hi with
  | none=>simp[sliceBounds,HT.sIx]
  | some i=>
   simp only[sliceBounds,HT.sIx,iQ,show (1) > 0 by decide,if_true]
   by_cases h:i < 0
   ·simp only[h,if_true] <;> omega
   ·simp only[h,if_false] <;> omega
theorem wc (its:List Value)(lo hi:Option Int):slicePick its.toArray lo hi none=((its.drop (HT.sIx its.length 0 lo)).take (HT.sIx its.length its.length hi - HT.sIx its.length 0 lo)).toArray:=by
 obtain⟨h1,h2,h3⟩:=W7 lo hi _;unfold slicePick;rw[h1,h2,h3];simp only[sliceRange_one,pick_run,aA] <;> rfl
def rSlL (K:ai):V->Option Int->Option Int->Hp->VK->Prop:=λx lo hi H Q=>∃a xs,x= .ref a/\SqL K H a xs/\∀p,H p=none->Q (.ref p) (upd H p (.lst (z17 xs lo hi)))
theorem z19:SlR X (rSlL X.K):=by
 intro pins s σ H x v vl vu lo hi sl Q I rx hs pl pu h;obtain⟨a,xs,rfl,hx,q⟩:=h;cases rx;obtain⟨its,r,ht,hz⟩:=I.list hx;have hlen:=r.length;refine⟨"list",_,slot_list_getitem.lookup,ht.isList.typeIs, ?_⟩;refine wpAny_getItem_list_slice ht.isList hs pl pu .none (by simp) ?_ (by rw[aA] <;> omega)
 rw[wc,← hlen];refine⟨.ref _,_,I.laid (λb ob q=>ab _ q) (am _) ?_,rfl,q _ (I.hok.fresh (am _))⟩;exact⟨aq (WV xs lo hi) hz,_,0,(r.drop _).take _,af _ rfl⟩
theorem W8:Zb X (.builtin "len") (λxs H Q=>∃p ys,xs=[.ref p]/\(SqL X.K H p ys\/SqT X.K H p ys)/\Q (.int ys.length) H):=by
 intro pins s σ H xs us Q I r h;obtain⟨p,ys,rfl,hq,q⟩:=h;obtain⟨u,rfl,rx⟩:=Zp r;cases rx;have hn:=W1;rcases hq with hq | hq
 ·obtain⟨its,r',pl,hz⟩:=I.list hq;have hlen:=r'.length;exact Calls.call_len_list pl.isList (by simp only[aA] <;> omega) ⟨.int _,H,I.tok _,⟨s.toks+1,by rw[aA,hlen]⟩,q⟩
 ·obtain⟨its,r',pl,hz⟩:=I.tuple hq;have hlen:=r'.length;exact len_tuple pl (by simp only[aA] <;> omega) ⟨.int _,H,I.tok _,⟨s.toks+1,by rw[aA,hlen]⟩,q⟩
theorem W9:Zb X (.builtin "len") (λxs H Q=>∃z,xs=[.str z]/\z.length<=sizeLine/\Q (.int z.length) H):=by
 intro pins s σ H xs us Q I r h;obtain⟨z,rfl,hz,q⟩:=h;obtain⟨u,rfl,t,rfl⟩:=Zp r;have hn:=W1;exact len_str (by omega) ⟨.int _,H,I.tok _,⟨_,rfl⟩,q⟩
theorem Zb.or {r r' :List V->Hp->VK->Prop}(h:Zb X f r)(h' :Zb X f r'):Zb X f (λxs H Q=>r xs H Q\/r' xs H Q):=by
 intro pins s σ H xs us Q I rs q;rcases q with q | q
 ·exact h _ s σ H xs us Q I rs q
 ·exact h' _ s σ H xs us Q I rs q
theorem wd:Zb X (.type "tuple") (λxs H Q=>∃p ys,xs=[.ref p]/\((SqL X.K H p ys/\∀l,H l=none->Q (.ref l) (upd H l (.tup ys)))\/(SqT X.K H p ys/\Q (.ref p) H))):=by
 intro pins s σ H xs us Q I r h;obtain⟨p,ys,rfl,h⟩:=h;obtain⟨u,rfl,rx⟩:=Zp r;cases rx;rcases h with ⟨hq,q⟩ | ⟨hq,q⟩
 ·obtain⟨its,r',pl,hz⟩:=I.list hq;have hlen:=r'.length;refine call_tuple_list pl.isList (λh' kp=> ?_) (by simp only[aA] <;> omega)
  have I1:Inv X _ σ H { s with heap:=h' }:=I.kept kp;have I2:Inv X _ σ (upd H _ (.tup ys)) { s with heap:=h'.push _ }:=
   I1.laid (λb o e=>ab _ e) (am _) (show zX _ X.w _ _ _ _ from ⟨hz,its,r',ITN.new _ _⟩)
  exact⟨.ref _,_,I2,rfl,q _ (I1.hok.fresh (am _))⟩
 ·obtain⟨its,r',pl,hz⟩:=I.tuple hq;exact call_tuple_same pl ⟨.ref p,H,I,rfl,q⟩
def tyV (K:ai)(T:String)(x:V)(H:Hp):Prop:=match x with
 | .str _=>T="str"
 | .int _=>T="int"
 | .ref p=>(T="list"/\∃xs,SqL K H p xs)\/(T="tuple"/\∃o,K.lookup p=some o/\o.cls= .type "tuple"/\o.dict=none)\/
   (T="dict"/\((∃kvs,H p=some (.dK kvs))\/∃kvs,H p=some (.dT kvs)))\/(T="set"/\∃S n,H p=some (.set S n))
 | _=>False
theorem V5 (I:Inv X pins σ H s)(r:Z3 x v)(ty:tyV X.K T x H):
  s.TypeIs v T/\∀a,v= .ref a->∃ob,s.heap.get? a=some ob/\ob.dict=none:=by
 cases x with
 | str z=>
  obtain⟨t,rfl⟩:=r;cases (ty);exact⟨typeIs_str s z t,λ_ e=>nomatch e⟩
 | int i=>
  obtain⟨t,rfl⟩:=r;cases (ty);exact⟨dM s i t,λ_ e=>nomatch e⟩
 | ref p=>
  cases r;rcases ty with ⟨rfl,xs,hq⟩ | ⟨rfl,o,hk,hc,hd⟩ | ⟨rfl,hk⟩ | ⟨rfl,S,n,hk⟩
  ·obtain⟨its,_,pl,_⟩:=I.list hq;refine⟨pl.isList.typeIs,λa e=> ?_⟩;cases e;obtain⟨o,n,e,c,hd,_⟩:=pl;exact⟨o,e,hd⟩
  ·refine⟨⟨o,I.kIn p o hk,hc⟩,λa e=> ?_⟩;cases e;exact⟨o,I.kIn _ o hk,hd⟩
  ·have z:∃o,s.heap.get? p=some o/\o.ExactDict:=by
    rcases hk with ⟨kvs,hk⟩ | ⟨kvs,hk⟩
    ·obtain⟨_,_,_,_,o,_,_,e,ex,_⟩:=I.hok p _ hk;exact⟨o,e,ex⟩
    ·obtain⟨_,_,_,_,o,_,_,e,ex,_⟩:=I.hok p _ hk;exact⟨o,e,ex⟩
   obtain⟨o,e,ex⟩:=z;refine⟨⟨o,e,ex.1⟩,λa e2=> ?_⟩;cases e2;exact⟨o,e,ex.2.1⟩
  ·obtain⟨o,_,_,_,e,ex,_⟩:=I.hok p _ hk;refine⟨⟨o,e,ex.1⟩,λa e2=> ?_⟩;cases e2;exact⟨o,e,ex.2.1⟩
 | _=>exact cG ty
def tBM0 (K:ai)(T:String)(r:V->List V->Hp->VK->Prop)(to:TE):TE:=λσ H Q=>to σ H λx H1=>tyV K T x H1/\r x [] H1 Q
def tBM (K:ai)(T:String)(r:V->List V->Hp->VK->Prop)(to:TE)(t:TA):TE:=λσ H Q=>to σ H λx H1=>tyV K T x H1/\t σ H1 λxs H2=>r x xs H2 Q
variable {o e:Expr}{es:List Expr}{to:TE}{t:TA}{name:Str}{apos cpos:Pos}{T id:String}{r:V->List V->Hp->VK->Prop}
theorem K8 (pa:PlainAttrs T)(slot:Slot T name id)(hty:typeOf (.builtin id)=pure (.type "method_descriptor"))(hm:MtR X id r)(ho:PE X o to)
  (hbase:attributeBase o name X.env (eval o X.env)=eval o X.env:=by rfl) (hline:(apos.endLine == cpos.line)=true:=by rfl):PE X (.Call (.Attribute o name apos) [] [] cpos) (tBM0 X.K T r to):=by
 intro pins s σ H Q I h;refine wpAny_Call_method0_late hbase hline (thn (ho _ s σ H _ I h) λv s1 ⟨x,H1,I1,r1,ty,q1⟩=> ?_);obtain⟨h1,h2⟩:=V5 I1 r1 ty;exact⟨T,id,pa,slot,hty,h1,h2,fI rfl (PySem.evalArgs_none (hm _ s1 σ H1 x [] v [] Q I1 r1 .nil q1))⟩
theorem Qw (pa:PlainAttrs T)(slot:Slot T name id)(hty:typeOf (.builtin id)=pure (.type "method_descriptor"))(hm:MtR X id r)(ho:PE X o to)(ha:PA X (e :: es) t)
  (hbase:attributeBase o name X.env (eval o X.env)=eval o X.env:=by rfl)
  (hfew:((backTo cpos (starEach (e :: es) X.env)).all (λx=> !x.1) && (backToKw cpos (keywordEach [] X.env)).all (λx=>x.1.isSome)
   && decide ((e :: es).length+([]:List Keyword).length+(if ([]:List Keyword).isEmpty then 0 else 1) < 30))=true:=by rfl)
  (hline:(apos.endLine == cpos.line)=true:=by rfl) (hs:starEach (e :: es) X.env=(false,eval e X.env) :: starEach es X.env:=by rfl) (hplain:(backTo cpos (starEach es X.env)).any (·.1)=false:=by rfl):
  PE X (.Call (.Attribute o name apos) (e :: es) [] cpos) (tBM X.K T r to t):=by
 intro pins s σ H Q I h;refine wpAny_Call_method_late hbase hfew hline rfl (thn (ho _ s σ H _ I h) λv s1 ⟨x,H1,I1,r1,ty,q1⟩=> ?_);obtain⟨h1,h2⟩:=V5 I1 r1 ty;refine⟨T,id,pa,slot,hty,h1,h2, ?_⟩;have hA:=ha cpos _ s1 σ H1 _ I1 q1;rw[hs]at hA ⊢;refine fI (by show (false || (backTo _ _).any _)=false;rw[hplain] <;> rfl) (Calls.evalArgs_plain ?_)
 exact thn hA λus s2 ⟨vs,H2,I2,r2,q2⟩=>hm _ s2 σ H2 x vs v us Q I2 r1 r2 q2
end
end L2
namespace L2
open PySem PySem.Spec PyProof.Rows
def MtM (X:Cx)(id:String)(r:V->List V->Hp->VK->Prop):Prop:=
 ∀(pins:List (Addr×Obj)) (s:Shared) (σ:St) (H:Hp) (x:V) (xs:List V) (v:Value) (us:List Value) (Q:VK),Inv X pins σ H s->Z3 x v->zU xs us->r x xs H Q->
  wpAny (model X.prog X.w) X.A (call (.builtin id) (v :: us)) (EP X pins σ Q) X.xe s
theorem zU.one:∀{x:V} {us:List Value},zU [x] us->∃u,us=[u]/\Z3 x u
 | _,_,.cons r .nil=>⟨_,rfl,r⟩
theorem zU.rep (h:zU xs us):∀k:Nat,zU (ae k xs).flatten (ae k us).flatten
 | 0=> .nil
 | k+1=>by
  exact zU.append h (zU.rep h k)
theorem jl (its:List Value):∀(k:Nat) (acc:List Value),
  eH (λx1 x2=>x1++x2) acc.toArray (ae k its.toArray)=(acc++(ae k its).flatten).toArray
 | 0,acc=>by simp
 | k+1,acc=>by
  have e:acc.toArray++its.toArray=(acc++its).toArray:=by simp
  have e2:(acc++its)++(ae k its).flatten=acc++(ae (k+1) its).flatten:=by
   rw[bF,eU,bI]
  rw[← e2,← jl its k _,← e,bF,List.foldl_cons]
section
theorem Inv.lset {its its' :List Value}{n:Nat}{f:Array Value->Array Value}{t' :Nat}(I:Inv X pins σ H s)(hH:H l=some (.lst xs))
  (e:s.heap.get? l=some { cls:= .type "list",data:= .seq its.toArray n }) (hf:f its.toArray=its'.toArray) (hv:zU ys its') (hz:ys.length<=sizeLine):
  Inv X pins σ (upd H l (.lst ys)) { s with heap:=s.heap.update l (fJ f),toks:=t' }:=by
 have q:=PySem.IsL.update e f;rw[hf]at q;refine I.write (by rw[hH];exact trivial) (.inl rfl) (λb' u hb hu=>(aW _ _ (bb hb)).trans hu) ⟨_,q⟩ ?_
 exact⟨hz,its',_,hv,q⟩
theorem Inv.lnew (I:Inv X pins σ H s)(hv:zU ys its)(hz:ys.length<=sizeLine):
  Inv X pins σ (upd H s.heap.objs.size (.lst ys)) { s with heap:=s.heap.push { cls:= .type "list",data:= .seq its.toArray },toks:=t' }:=
 I.laid (λ_ _ q=>ab _ q) (am _) ⟨hz,its,0,hv,af _ rfl⟩
theorem Inv.fresh (I:Inv X pins σ H s):H s.heap.objs.size=none:=I.hok.fresh (am _)
theorem Inv.lstM (I:Inv X pins σ H s)(hH:H l=some (.lst xs)):xs.length<=sizeLine/\∃(its:List Value) (n:Nat),zU xs its/\xs.length=its.length/\s.heap.get? l=some { cls:= .type "list",data:= .seq its.toArray n }:=by
 obtain⟨z,its,n,r,e⟩:=I.hok l _ hH;exact⟨z,its,n,r,r.length,e⟩
theorem uG (h:n<=sizeLine):b_ n=false:=by
 exact decide_eq_false (by omega)
end
section
variable {X:Cx}
def xn:V->List V->Hp->VK->Prop:=λx vs H Q=>∃l xs y,x= .ref l/\vs=[y]/\H l=some (.lst xs)/\xs.length < sizeLine/\Q .non (upd H l (.lst (xs++[y])))
theorem Wa:MtM X "list.append" xn:=by
 intro pins s σ H x vs v us Q I rx rv h;obtain⟨l,xs,y,rfl,rfl,hH,hz,q⟩:=h;cases rx;obtain⟨u,rfl,ru⟩:=rv.one;obtain⟨z,its,n,r,hl,e⟩:=I.lstM hH;refine d9 F.slot_list_append ⟨_,e,rfl⟩ F.entry_list_append (F.args_list_append_2 _ _) (PySem.list_append l _ n u (by rw[aA];omega)) ⟨e, ?_⟩
 refine⟨.non,_,I.lset hH e (by simp) (r.append (.cons ru .nil)) ?_,rfl,q⟩
 rw[az,aG];omega
def xo:V->List V->Hp->VK->Prop:=λx vs H Q=>∃l b xs zs,x= .ref l/\vs=[.ref b]/\H l=some (.lst xs)/\H b=some (.lst zs)/\xs.length+zs.length<=sizeLine/\Q .non (upd H l (.lst (xs++zs)))
theorem yB:MtM X "list.extend" xo:=by
 intro pins s σ H x vs v us Q I rx rv h;obtain⟨l,b,xs,zs,rfl,rfl,hH,hB,hz,q⟩:=h;cases rx;obtain⟨u,rfl,ru⟩:=rv.one;cases ru;obtain⟨z,its,n,r,hl,e⟩:=I.lstM hH;obtain⟨z2,its2,n2,r2,hl2,e2⟩:=I.lstM hB;have hsz:its.toArray.size+its2.toArray.size<=sizeLine:=by rw[aA,aA];omega
 have hlong:¬ (!its.toArray.isEmpty && b_ (its.toArray.size+its2.toArray.size))=true:=by
  rw[uG hsz,Bool.and_false];exact aE
 refine d9 F.slot_list_extend ⟨_,e,rfl⟩ F.entry_list_extend (F.args_list_extend_2 _ _)
  (AutoSeq1.list_extend_list_list_0 l _ n b _ n2 hlong (by omega) (by omega)) ⟨e,e2, ?_⟩
 refine⟨.non,_,I.lset hH e (by simp) (r.append r2) ?_,rfl,q⟩
 rw[az];omega
def rCat:R2:=λx y H Q=>∃l b xs zs,x= .ref l/\y= .ref b/\H l=some (.lst xs)/\H b=some (.lst zs)/\xs.length+zs.length<=sizeLine/\∀p,H p=none->Q (.ref p) (upd H p (.lst (xs++zs)))
theorem K9:OpR X (binaryOp .Add) rCat:=by
 intro pins s σ H x y v u Q I rx ry h;obtain⟨l,b,xs,zs,rfl,rfl,hH,hB,hz,q⟩:=h;cases rx;cases ry;obtain⟨z,its,n,r,hl,e⟩:=I.lstM hH;obtain⟨z2,its2,n2,r2,hl2,e2⟩:=I.lstM hB;refine PySem.P.add_list e e2 ?_ (by rw[aA,aA];omega)
 have ea:its.toArray++its2.toArray=(its++its2).toArray:=by simp
 rw[ea];exact⟨.ref _,_,I.lnew (r.append r2) (by rw[az];omega),rfl,q _ I.fresh⟩
def rRep:R2:=λx y H Q=>∃l k xs,x= .ref l/\y= .int k/\H l=some (.lst xs)/\ -(2 ^ 63)<=k/\k < 2 ^ 63/\xs.length*k.toNat<=sizeLine/\
 ∀p,H p=none->Q (.ref p) (upd H p (.lst (ae k.toNat xs).flatten))
theorem jx {α:Type}(xs:List α)(k:Nat):(ae k xs).flatten.length=k*xs.length:=by
 induction k with
 | zero=>simp
 | succ k ih=>rw[bF,eU,az,ih,eh,fK]
theorem Ka:OpR X (binaryOp .Mult) rRep:=by
 intro pins s σ H x y v u Q I rx ry h;obtain⟨l,k,xs,rfl,rfl,hH,h1,h2,hz,q⟩:=h;cases rx;obtain⟨t,rfl⟩:=ry;obtain⟨z,its,n,r,hl,e⟩:=I.lstM hH;have hlen:its.toArray.size*k.toNat<=sizeLine:=by rw[aA,← hl];exact hz
 have hcap:¬ its.toArray.size*k.toNat > (2 ^ 63 - 1) / 8:=by
  have:(sizeLine)<=(2 ^ 63 - 1) / 8:=by decide
  omega
 have hfit:¬ (!Builtin.List.listFitsIndex k)=true:=by
  rw[fitsIndex_both h1 h2];exact aE
 have hlong:¬ b_ (its.toArray.size*k.toNat)=true:=by
  rw[uG hlen];exact aE
 have hnew:eH (λx1 x2=>x1++x2) #[] (ae (if its.toArray.isEmpty=true then 0 else k.toNat) its.toArray)=(ae k.toNat its).flatten.toArray:=by
  have f0:∀m,eH (λx1 x2=>x1++x2) #[] _=(ae m its).flatten.toArray:=λm=>by
   have:=jl its m [];exact this
  rw[f0];cases its with
  | nil=>simp
  | cons a r' =>rw[if_neg (by simp)]
 refine wpAny_binaryOp_repeat_ref (by decide) ⟨_,e,rfl⟩ (λs' =>dM s' k t) noFill_list_mul fS cU repeat_list fk.lookup
  (d9 cU (dM s k t) fq (eV _ _) (int___rmul___int_list k t l _ n)
   ⟨e,rfl,⟨_,e,rfl⟩,d9 F.slot_list_mul ⟨_,e,rfl⟩ F.entry_list_mul (F.args_list_mul_2 _ _) (AutoListH.list___mul___list_int_3 l _ n k t hfit hcap hlong) ⟨e, ?_⟩⟩)
 rw[hnew];exact⟨.ref _,_,I.lnew (r.rep _) (by rw[jx,c6];exact hz),rfl,q _ I.fresh⟩
end
section
end
section
end
end L2
namespace Att
open PySem PySem.W PySem.Calls PyProof.Rows
theorem Ja {P:Params}:∀(ns:List Int) (vs:List Value),WellAll P h vs (ns.map WData.int)->IntsAre vs ns:=by
 intro ns
 induction ns with
 | nil=>
  intro vs w;cases w;exact .nil
 | cons n ns ih=>
  intro vs w;cases w with
  | cons a b=>
   cases a;exact .cons _ _ (ih _ b)
theorem yC {l:OpenLaw}(hn:l.most=some n){P:Params}{args:List WData}
  (hpre:l.row.toRowW.claim.pre args=true) (hwl:WellAll P h vals args):
  ∃a vs ns,vals=[Value.ref a]/\args=[WData.list (ns.map WData.int)]/\h.get? a=some { cls:= .type "list",data:= .seq vs.toArray }/\IntsAre vs ns/\ns.length<=n:=by
 have hsh:=(pre_splitW hpre).1;have hc:=(pre_splitW hpre).2;obtain⟨d,r,rfl,h1,h2⟩:=hasAllW_cons hsh;obtain rfl:=hasAllW_nil h2;obtain⟨xs,rfl,h3⟩:=hasW_list h1;obtain⟨ns,rfl⟩:=items_int h3;have hlen:ns.length<=n:=by
  have h4:=by
   have h4:=(holds_andW hc).1;rw[hn]at h4;exact h4
  have h5:=condW_of h4 (w_not (w_lt w_lit (w_len_list (w_arg rfl))));rw[aa]at h5;refine Nat.le_of_not_lt λq=> ?_;have q' :(n) < ((ns.length):Int):=by omega
  first
   | (rw[decide_eq_true q']at h5;exact absurd h5 (by decide))
   | (simp at h5)
 cases hwl with
 | cons w1 w2=>
  cases w2;cases w1 with
  | list ho hall=>exact⟨_,_,ns,rfl,rfl,ho,Ja ns _ hall,hlen⟩
theorem yD (l:OpenLaw)(args:List WData):l.row.toRowW.claim.post args (.bool true) args=true:=
 postW_of
  (show WShape.has [] _ _=true by first | rfl | decide | simp[WShape.has,WShape.arms,WShape.armsAll])
  (show (WTm.eq _ _).value [] _=some _ from w_eq_bool (w_res rfl) w_lit) rfl
theorem attach_call {l:OpenLaw}{XP:(Str->Option Value)->Heap->Prop}{YP:World->Heap->Prop}{d:DefRec}
  (hn:l.most=some n) (hdf:d.params.defaults=[])
  (call:∀(w:World) (s₀ s₁:Shared) (mg mb:Str->Option Value) (fa:Addr) (o:Obj) (pm cd doc:Value) (a:Addr) (vs:List Value) (ns:List Int),
   Ground q loose [] XP w s₀ mg mb s₁.heap->YP w s₁.heap->
   s₁.heap.get? fa=some o->o.data= .func (docDef d.name d.params d.body d.scope pm cd doc)->s₁.heap.CodeRec cd d.name->mg d.name=some (.ref fa)->
   s₁.heap.get? a=some { cls:= .type "list",data:= .seq vs.toArray }->IntsAre vs ns->ns.length<=n->s₁.gens= #[]->
   codeAny (model l.prog w) callerA (.call (.ref fa) ⟨[.ref a],[]⟩) (λr s' =>r= .ok (.ret (.bool true))/\OldK s₁.heap s'.heap/\s'.os=s₁.os/\AllBare s'.gens) s₁):
  WalkO q loose XP YP l.row.toRowW d [] (λf vs=>lf f vs):=by
 intro w s₀ s₁ mg mb G Y fa o pm cd doc dV kV ho hd hcd hD hmg hg args vals as hpre hlay hrd hwl hlo;obtain rfl:dV= .none:=Dflts.none hD hdf;obtain rfl:kV= .none:=Dflts.noKw hD;obtain⟨a,vs,ns,rfl,rfl,hobj,hints,hlen⟩:=yC hn hpre hwl;refine enter_call (bZ (call w _ _ mg mb fa o pm cd doc a vs ns G Y ho (fd_plain hd) hcd hmg hobj hints hlen hg) λr s' hq=> ?_);obtain⟨rfl,h2,h3,h4⟩:=hq;exact⟨.inl ⟨.bool _,.bool _,[],rfl,λ_=>rfl,.bool _,yD l _,λ_=>⟨List.Pairwise.nil,λ_ hm=>(nomatch hm)⟩⟩,h2,h3,h4⟩
end Att
namespace L2
open PySem PySem.Spec PyProof.Rows
theorem Wb:∀{vs:List Value} {ns:List Int},IntsAre vs ns->zU (ns.map V.int) vs
 | _,_,.nil=> .nil
 | _,_,.cons n t h=> .cons ⟨t,rfl⟩ (Wb h)
def GZ (H:Hp):Prop:=∀b,H b=none\/∃o xs,H b=some (.frz o (.lst xs))
theorem Qx {P:Program}{w:World}{K:ai}{mg mb:Str->Option Value}{CX:CXT}{k:Nat}{fa a:Addr}{fd:FuncData}{x:Str}{sp:Sp}{s₁:Shared}{vs:List Value}{ns:List Int}
  (KX:K.In s₁.heap) (hns:s₁.heap.Ns mainGlobals mg) (hb:s₁.heap.Ns builtinsNs mb) (hbb:∀x:Str,x ≠ "__name__"->mb x=bootBuiltins x) (hlim:s₁.heap.NoLimit) (hg:s₁.gens= #[])
  (ha:s₁.heap.get? a=some { cls:= .type "list",data:= .seq vs.toArray }) (hi:IntsAre vs ns) (hl:ns.length<=sizeLine) (hr:jU k callerA)
  (F:∀base:Heap,K.In base->base.Ns mainGlobals mg->W2 P w K mg base CX k fa fd [x] sp) (hbind:∀(s:Shared) (u:Value),BindsTo s fd ⟨[u],[]⟩ [(x,u)])
  (hsp:∀H:Hp,GZ H->SqL K H a (ns.map V.int)->sp [.ref a] H (λv _=>v= .bl true) λ_ _ _=>False)
  (hCX:∀H e s',CX [] H s₁ (λ_ _ _=>False) e s' ->False):
  codeAny (model P w) callerA (.call (.ref fa) ⟨[.ref a],[]⟩) (λr s' =>r= .ok (.ret (.bool true))/\OldK s₁.heap s'.heap/\s'.os=s₁.os/\AllBare s'.gens) s₁:=by
 have rv:=Wb hi;have lenV:=hi.length;have core:∀H,GZ H->SqL K H a (ns.map V.int)->HOk P w H s₁.heap->(∀b,H b ≠ none->b=a)->(H a ≠ none->K.lookup a=none)->
   codeAny (model P w) callerA (.call (.ref fa) ⟨[.ref a],[]⟩) (λr s' =>r= .ok (.ret (.bool true))/\OldK s₁.heap s'.heap/\s'.os=s₁.os/\AllBare s'.gens) s₁:=by
  intro H hO hS hok hA hK;have base_of:∀{b:Addr} {o:Obj},s₁.heap.get? b=some o->H b=none->(km _ H).get? b=some o:=λe n=>Qo e n;have noA:∀{b:Addr} {o:Obj} {es:Array _} {ep:Nat},s₁.heap.get? b=some o->o.data= .dict es ep->H b=none:=λ{b o es ep} e d=>by
   cases q:H b with
   | none=>rfl
   | some u=>
    have e' :=hA b (by rw[q];simp)
    subst e';rw[ha]at e;cases e;have d' :=d;cases d'
  have nsK:∀{b:Addr} {m:Str->Option _},s₁.heap.Ns b m->(km _ H).Ns b m:=λ{b m} ⟨o,es,ep,e,d,r⟩=>⟨o,es,ep,base_of e (noA e d),d,r⟩;have hKb:=λb o e=>base_of (KX b o e) (by
   cases q:H b with
   | none=>rfl
   | some u=>
    have e' :=hA b (by rw[q];simp)
    subst e';rw[hK (by rw[q];simp)]at e;cases e)
  have hM:Mod K mg _:=⟨hKb,nsK hns,⟨mb,nsK hb,hbb⟩,let ⟨mc,h1,h2⟩:=hlim;⟨mc,nsK h1,h2⟩⟩;have e0:GY P w K mg _ callerA [] _ H:=⟨rfl,hM,λb o e=>x6 e,Nat.le_of_eq (yg _ _),trivial,λb hb=>absurd (show b∈([]:List _) from hb) (by simp),hok,.of_eq hg⟩
  refine bZ ((F _ hKb (nsK hns)).run _ [] _ H _ _ [.ref a] _ _ hr e0 (hbind _ _) (.cons rfl .nil) (hsp H hO hS)) λr s' h=> ?_;cases r with
  | error e=>exact(hCX H e s' h).elim
  | ok fl=>
   cases fl with
   | next=>exact cG h
   | brk=>exact cG h
   | cont=>exact cG h
   | ret u=>
    obtain⟨v,H',os,bare,un,hok',r',q⟩:=h;have q' :=q;subst q';obtain rfl:u=Value.bool _:=r';refine⟨rfl,OldK.of_keep λb o e=> ?_,os,bare⟩;cases q:H b with
    | none=>exact un.keep b o e q (by intro z;exact absurd (show b∈([]:List _) from z) (by simp)) (by simp)
    | some u=>
     rcases hO b with z | ⟨ob,xs,z⟩
     ·rw[q]at z;cases z
     ·have z2:=un.frzs b ob _ z;obtain⟨e1,_⟩:=hok b _ z;obtain⟨e2,_⟩:=hok' b _ z2;rw[e]at e1;cases e1;exact e2
 cases hk:K.lookup a with
 | some o=>
  have e:=KX a o hk;rw[ha]at e;cases e;refine core (λ_=>none) (λ_=> .inl rfl) (.inr ⟨_,vs.toArray,_,hk,rfl,rfl,rfl,by rw[aA,lenV];exact hl,by simpa using rv⟩) (λb u z=>by have z' :=z;cases z') (λb z=>absurd rfl z) λz=>absurd rfl z
 | none=>
  refine core (λb=>if b=a then some (.frz { cls:= .type "list",data:= .seq vs.toArray } _) else none) (λb=> ?_) (.inl (.inr ⟨{ cls:= .type _,data:= .seq _ },if_pos rfl⟩)) (λb u z=> ?_) (λb z=> ?_) λ_=>hk
  ·by_cases hb:b=a
   ·exact .inr ⟨_,_,if_pos hb⟩
   ·exact .inl (if_neg hb)
  ·by_cases hb:b=a
   ·have z' :=(if_pos hb).symm.trans z;cases z';subst hb;exact⟨ha,by rw[aa];exact hl,vs,_,rv,ha⟩
   ·have z' :=(if_neg hb).symm.trans z;cases z'
  ·by_cases hb:b=a
   ·exact hb
   ·exact absurd (if_neg hb) z
end L2
namespace L2
open PySem PySem.Spec PyProof.Rows
theorem walk_of {l:PySem.W.OpenLaw}{XP:(Str->Option Value)->Heap->Prop}{YP:World->Heap->Prop}{d:DefRec}{K:Params->ai}{CX:World->CXT}{sp:World->Sp}
  (hn:l.most=some n) (hn2:n<=sizeLine) (hdf:d.params.defaults=[]) (hr:jU k callerA)
  (hY:∀(w:World) (h:Heap),YP w h->(K w.params).In h)
  (F:∀(w:World) (mg:Str->Option Value) (fa:Addr) (h:Heap),(K w.params).In h->h.Ns mainGlobals mg->mg d.name=some (.ref fa)->
   ∃fd:FuncData,(∀(s:Shared) (u:Value),BindsTo s fd ⟨[u],[]⟩ [(x,u)])/\
    ∀base:Heap,(K w.params).In base->base.Ns mainGlobals mg->W2 l.prog w (K w.params) mg base (CX w) k fa fd [x] (sp w))
  (hsp:∀(w:World) (H:Hp) (a:Addr) (ns:List Int),ns.length<=n->GZ H->SqL (K w.params) H a (ns.map V.int)->sp w [.ref a] H (λv _=>v= .bl true) λ_ _ _=>False)
  (hCX:∀(w:World) (H:Hp) (s:Shared) (e:Value) (s' :Shared),CX w [] H s (λ_ _ _=>False) e s' ->False):
  PySem.W.WalkO q loose XP YP l.row.toRowW d [] (λf vs=>lf f vs):=by
 refine Att.attach_call hn hdf λw s₀ s₁ mg mb fa o pm cd doc a vs ns G Y ho hd hcd hmg hobj hints hlen hg=> ?_;have KX:=hY w _ Y;obtain⟨fd,hb,hF⟩:=F w mg fa _ KX G.T.g hmg;exact Qx KX G.T.g G.T.b G.T.builtins G.T.nolimit hg hobj hints (aq hlen hn2) hr hF hb (λH hO hS=>hsp w H a ns hlen hO hS) λH e s' =>hCX w H _ e s'
end L2
namespace L2
open PySem PySem.Spec PyProof.Rows
noncomputable def ZV (s:Stmt):Arguments:=match s with
 | .FunctionDef _ a _ _ _ _ _ _ _ _=>a
 | _=>{ posonlyargs:=[],args:=[],vararg:=none,kwonlyargs:=[],kw_defaults:=[],kwarg:=none,defaults:=[] }
noncomputable def Zj (s:Stmt):List Stmt:=match s with
 | .FunctionDef _ _ b _ _ _ _ _ _ _=>b
 | _=>[]
noncomputable def zD (s:Stmt):Scope:=match s with
 | .FunctionDef _ _ _ _ _ _ sc _ _ _=>sc
 | _=>{ kind:= .function,names:=[],isGenerator:=false,isCoroutine:=false }
abbrev CX0:CXT:=λ_ _ _ _ _ _=>False
structure Fun (K:ai) (x qual:Str) (st:Stmt) (f:Addr) (fd:FuncData):Prop where
 ex:∃(oc:Value) (od:Option Addr) (kV doc pm:Value) (an:Option Addr) (cdv ct:Value) (osl:Array (Option Value)),
  fd=cj x qual (ZV st) (Zj st) (zD st) .none kV doc pm an cdv ct/\K.lookup f=some ⟨oc,od,.func fd,osl⟩/\eG K cdv qual=true
 kp:cK K (.ref f)=true
section
variable {P:Program}{w:World}{K:ai}{mg:Str->Option Value}{base:Heap}
theorem Fun.ok {x qual:Str}{st:Stmt}{f:Addr}{fd:FuncData}{N ps:List Str}{k:Nat}{sp:Sp}(F:Fun K x qual st f fd)(S:J9 N ps (zD st))(len:∀vs H Q E,sp vs H Q E->vs.length=ps.length)
  (hbody:∀(cdv:Value) (A:Around) (outer:List Env) (s:Shared) (H:Hp) (vs:List V) (Q:VK) (E:XK),jU k (A.deeper (envOfC qual (zD st) s.heap.objs.size f cdv))->sp vs H Q E->
   ∃t,PSs (Qv CX0 P w K mg base N qual (zD st) f cdv A outer s H E).nox (Zj st) t/\t { nx:=λ_ H' =>Q .non H',rt:=Q } (start N vs) H):W2 P w K mg base CX0 (k+1) f fd ps sp:=by
 obtain⟨oc,od,kV,doc,pm,an,cdv,ct,osl,rfl,lk,hcd⟩:=F.ex;refine z16 lk hcd S len λA outer s H vs Q E hr hsp=> ?_;obtain⟨t,h,q⟩:=hbody cdv A _ s H vs Q E hr hsp;exact⟨t,h.nox,q⟩
theorem Fun.binds {x qual:Str}{st:Stmt}{f:Addr}{fd:FuncData}{ps:List Str}(F:Fun K x qual st f fd)
  (h:∀(kV doc pm:Value) (an:Option Addr) (cdv ct:Value) (us:List Value),us.length=ps.length->bindArgs (cj x qual (ZV st) (Zj st) (zD st) .none kV doc pm an cdv ct) ⟨us,[]⟩=pure (ps.zip us)):Binds K fd ps []:=by
 obtain⟨oc,od,kV,doc,pm,an,cdv,ct,osl,rfl,lk,hcd⟩:=F.ex;exact .all (h kV doc pm an cdv ct)
theorem Kb {x qual:Str}{st:Stmt}{f:Addr}{oc:Value}{od an:Option Addr}{osl:Array (Option Value)}{kV doc pm cdv ct:Value}(l:K.lookup f=some ⟨oc,od,.func (cj x qual (ZV st) (Zj st) (zD st) .none kV doc pm an cdv ct),osl⟩)
  (c:eG K cdv qual=true) (k:cK K (.ref f)=true):Fun K x qual st f (cj x qual (ZV st) (Zj st) (zD st) .none kV doc pm an cdv ct):=⟨⟨oc,od,kV,doc,pm,an,cdv,ct,osl,rfl,l,c⟩,k⟩
end
section
theorem pv (i:Nat)(hN:X.N[i]? =some x:=by rfl)(hv:Vis X.env.scope x:=by first | exact Or.inl rfl | exact Or.inr (Or.inl rfl) | exact Or.inr (Or.inr rfl))(hd:(x == ("__debug__":Str))=false:=by decide)
  (hcd:(x == ("__classdict__":Str))=false:=by decide):PE X (.Name x pos) (Qi i):=V0 hN hv hd hcd
end
def zp (H H' :Hp):Prop:=∀b o,H b=some o->H' b=some o
theorem zp.refl (H:Hp):zp H H:=λ_ _ h=>h
theorem zp.trans (a:zp H H1)(b:zp H1 H2):zp H H2:=λc o h=>b c o (a c o h)
theorem zp.free (e:zp H H')(h:H' l=Option.none):H l=Option.none:=by
 cases q:H l with
 | none=>rfl
 | some o=>
  rw[e l o q]at h;cases h
end L2
namespace L2
open PySem PySem.Spec PyProof.Rows PySem.W
structure Lies (P:Program) (w:World) (outer:List Env) (H:Hp) (s s' :Shared) (ea:Addr) (cls a0:Value) (B:Heap) (H' :Hp):Prop where
 os:s'.os=s.os
 bare:AllBare s'.gens
 fly:Heap.FlyingW B outer ea cls a0 s'.heap
 hok:HOk P w H' B
 un:Un (frs outer) [] H H' s.heap s'.heap
 inB:∀b o,s.heap.get? b=some o->b ∉ frs outer->(H b=none->B.get? b=some o)/\∃o',B.get? b=some o'
def CX1 (P:Program)(w:World):CXT:=λouter H s E e s' =>∃ea cls a0 B H',e= .ref ea/\Lies P w outer H s s' ea cls a0 B H' /\E cls none H'
end L2
namespace L2
open PySem PySem.Spec PyProof.Rows PySem.W
noncomputable def ExAt (cls:Value)(a:Addr)(h:Heap):Prop:=∃o,h.get? a=some o/\o.cls=cls
section
end
end L2
namespace L2
open PySem PySem.Spec PyProof.Rows PySem.W
section
end
end L2
namespace PySem
open PySem.W
section
end
end PySem
namespace L2
open PySem PySem.Spec PyProof.Rows PySem.W
section
def Kc (X:Cx)(E:XK):Prop:=∀(pins:List (Addr×Obj)) (σ:St) (H:Hp) (s:Shared) (e:Value) (s' :Shared) (C:Addr) (m:Str->Option Value) (E' :Value->Shared->Prop) (cenv:Env),Inv X pins σ H s->s.heap.Ns C m->H C=none->X.s₀.heap.objs.size<=C->C ∉ frs X.stack->cenv.frame=X.env.frame->CX1 X.prog X.w X.stack H s E e s' ->
 wpAny (model X.prog X.w) X.A (noteFrame e cenv) (λ_ s'' =>∃m,s''.heap.Ns C m/\∀h',bv C s''.heap h' ->∀env:Env,env.locals=C->wpAny (model X.prog X.w) X.A (passOn "comprehension.variables-let-go" e env:Sem Value) (λ_ _=>False) X.xe { s'' with heap:=h' }) E' s'
theorem JN (h:E=λ_ _ _=>False):Kc X E:=λpins σ H s e s' C m E' cenv I _ _ _ _ _ ⟨_,_,_,_,_,_,_,z⟩=>by subst h;exact z.elim
end
end L2
namespace L2
open PySem PySem.Spec PyProof.Rows
theorem PE.imp (h:PE X e t)(i:∀σ H Q,t' σ H Q->t σ H Q):PE X e t' :=λpins s σ H Q I q=>h _ s σ H Q I (i σ H Q q)
theorem PT.imp (h:PT X e t)(i:∀σ H Q,t' σ H Q->t σ H Q):PT X e t' :=λpins s σ H Q I q=>h _ s σ H Q I (i σ H Q q)
theorem PA.imp (h:PA X e t)(i:∀σ H Q,t' σ H Q->t σ H Q):PA X e t' :=λpos pins s σ H Q I q=>h pos _ s σ H Q I (i σ H Q q)
theorem PS.imp (h:PS X e t)(i:∀D σ H,t' D σ H->t D σ H):PS X e t' :=λpins s σ H D I q=>h _ s σ H D I (i D σ H q)
theorem PSs.imp (h:PSs X e t)(i:∀D σ H,t' D σ H->t D σ H):PSs X e t' :=λpins s σ H D I q=>h _ s σ H D I (i D σ H q)
end L2
namespace PV
open PySem
noncomputable def Wc:Expr->Bool
 | .Starred _ _=>false
 | _=>true
theorem zV (h:Wc e=true):starEach (e :: rest) env=(false,eval e env) :: starEach rest env:=by
 cases e <;> first | rfl | cases h
theorem st2 (h:Wc a=true)(h' :Wc b=true):starEach [a,b] env=[(false,eval a env),(false,eval b env)]:=by
 rw[zV h,zV h'];rfl
theorem st1 (h:Wc a=true):starEach [a] env=[(false,eval a env)]:=by
 rw[zV h];rfl
theorem j3 {pos:Pos}{env:Env}:∀{es:List Expr},es.all Wc=true->((backTo pos (starEach es env)).any λx=>x.fst)=false
 | [],_=>rfl
 | e :: es,h=>by
  rw[bR,ah]at h;rw[zV h.1];have:=j3 (pos:=pos) (env:=env) h.2;show (false || ((backTo pos _).any λx=>x.fst))=false
  rw[this];rfl
open PySem PySem.Spec PyProof.Rows L2
noncomputable abbrev Sg:=L2.St
inductive T where
 | non | bl (b:Bool) | int (i:Int) | str (x:Str) | tup (xs:List T) | lst (xs:List T) | fz (xs:List T)
inductive R (α:Type) where
 | ok (a:α) | ex (c:Nat) | bad
noncomputable def R.bind {α β:Type}(r:R α)(f:α->R β):R β:=match r with
 | .ok a=>f a
 | .ex c=> .ex c
 | .bad=> .bad
mutual
inductive Rep (H:Hp):V->T->Prop where
 | non:Rep H .non .non
 | bl (b:Bool):Rep H (.bl b) (.bl b)
 | int (i:Int):Rep H (.int i) (.int i)
 | str (x:Str):Rep H (.str x) (.str x)
 | tup {a:Addr} {xs:List V} {ts:List T}:H a=some (.tup xs)->zC H xs ts->Rep H (.ref a) (.tup ts)
 | lst {a:Addr} {xs:List V} {ts:List T}:H a=some (.lst xs)->zC H xs ts->Rep H (.ref a) (.lst ts)
 | fz {a:Addr} {o:Obj} {xs:List V} {ts:List T}:H a=some (.frz o (.lst xs))->zC H xs ts->Rep H (.ref a) (.fz ts)
inductive zC (H:Hp):List V->List T->Prop where
 | nil:zC H [] []
 | cons {v:V} {t:T} {vs:List V} {ts:List T}:Rep H v t->zC H vs ts->zC H (v :: vs) (t :: ts)
end
mutual
theorem Rep.mono {H H' :Hp}(s:zp H H'):∀{v:V} {t:T},Rep H v t->Rep H' v t
 | _,_,.non=> .non
 | _,_,.bl b=> .bl b
 | _,_,.int i=> .int i
 | _,_,.str x=> .str x
 | _,_,.tup h r=> .tup (s _ _ h) (zC.mono s r)
 | _,_,.lst h r=> .lst (s _ _ h) (zC.mono s r)
 | _,_,.fz h r=> .fz (s _ _ h) (zC.mono s r)
theorem zC.mono {H H' :Hp}(s:zp H H'):∀{v:List V} {t:List T},zC H v t->zC H' v t
 | _,_,.nil=> .nil
 | _,_,.cons h r=> .cons (Rep.mono s h) (zC.mono s r)
end
theorem zC.length {H:Hp}:∀{vs:List V} {ts:List T},zC H vs ts->vs.length=ts.length
 | _,_,.nil=>rfl
 | _,_,.cons _ r=>congrArg _ (zC.length r)
theorem zC.get {H:Hp}:∀{vs:List V} {ts:List T} {i:Nat} {t:T},zC H vs ts->ts[i]? =some t->∃v,vs[i]? =some v/\Rep H v t
 | _,_,_,_,.nil,e=>by simp at e
 | _,_,0,_,.cons r _,e=>by simp at e;subst e;exact⟨_,rfl,r⟩
 | _,_,i+1,t,.cons _ q,e=>by
  obtain⟨v,h1,h2⟩:=zC.get q (by simpa using e)
  exact⟨v,by simpa using h1,h2⟩
theorem zC.getV {H:Hp}:∀{vs:List V} {ts:List T} {i:Nat} {v:V},zC H vs ts->vs[i]? =some v->∃t,ts[i]? =some t/\Rep H v t
 | _,_,_,_,.nil,e=>by simp at e
 | _,_,0,_,.cons r _,e=>by simp at e;subst e;exact⟨_,rfl,r⟩
 | _,_,i+1,v,.cons _ q,e=>by
  obtain⟨t,h1,h2⟩:=zC.getV q (by simpa using e)
  exact⟨t,by simpa using h1,h2⟩
theorem zC.append {H:Hp}:∀{vs ws:List V} {ts us:List T},zC H vs ts->zC H ws us->zC H (vs++ws) (ts++us)
 | _,_,_,_,.nil,q=>q
 | _,_,_,_,.cons r t,q=> .cons r (zC.append t q)
theorem zC.rep {H:Hp}{vs:List V}{ts:List T}(h:zC H vs ts):∀n:Nat,zC H (ae n vs).flatten (ae n ts).flatten
 | 0=> .nil
 | n+1=>by
  exact h.append (zC.rep h n)
theorem zC.nil_iff (h:zC H vs ts):vs=[]↔ts=[]:=by
 cases h <;> simp
def zS (B H H' :Hp):Hp:=λb=>match H b with
 | none=>H' b
 | some _=>B b
theorem Z7 (h:H b=none):zS B H H' b=H' b:=by unfold zS;rw[h]
theorem Z4 (h:H b=some o):zS B H H' b=B b:=by unfold zS;rw[h]
theorem zS.ge (s:zp B H)(s' :zp H H'):zp B (zS B H H'):=λb o h=>by
 rw[Z4 (s b o h)];exact h
theorem zS.le (s:zp B H)(s' :zp H H'):zp (zS B H H') H' :=λb o h=>by
 cases q:H b with
 | none=>rw[Z7 q]at h;exact h
 | some u=>rw[Z4 q]at h;exact s' b o (s b o h)
theorem zS.self (B H:Hp)(s:zp B H):zS B H H=B:=by
 funext b
 cases q:H b with
 | none=>
  rw[Z7 q,q];cases z:B b with
  | none=>rfl
  | some o=>rw[s b o z]at q;cases q
 | some u=>rw[Z4 q]
theorem zS.trans (s1:zp H H1)(s2:zp H1 H2):zS (zS B H H1) H1 H2=zS B H H2:=by
 funext b
 cases q:H b with
 | none=>
  rw[Z7 q];cases z:H1 b with
  | none=>rw[Z7 z]
  | some o=>rw[Z4 z,Z7 q,z,s2 b o z]
 | some u=>rw[Z4 q,Z4 (s1 b u q),Z4 q]
inductive Fd where
 | tv (t:T) | tl (ts:List T)
noncomputable abbrev Ob:=Nat×List (Str×Fd)
noncomputable def atts:List Str:=["kind","remaining","done","undone","first","last","answered"]
def InC (vs:List (Str×V)):Prop:=∀f,f ∉ atts->vs.lookup f=none
inductive Sl where
 | un | vl (t:T) | ow (ts:List T) | xc (c:Nat) | ob (k n:Nat) | oc (k:Nat) (fs:List (Str×Fd)) | st (os:List Ob)
noncomputable def Sl.isS:Sl->Bool
 | .ob _ _=>true
 | .st _=>true
 | _=>false
noncomputable def Sl.isO:Sl->Bool
 | .ob _ _=>true
 | .oc _ _=>true
 | .st _=>true
 | _=>false
noncomputable abbrev En:=List Sl
structure Fx where
 B0:Hp
 H0:Hp
 E:XK
 cl:Nat->Value
 as:List Addr
def z00 (ρ:En)(σ:Sg)(l:Addr):Prop:=∀(j:Nat) (us:List T),ρ[j]? =some (Sl.ow us)->σ[j]? ≠ some (some (V.ref l))
def FdR (Y:Fx)(B:Hp)(ρ:En)(σ:Sg)(H:Hp)(o:Addr->Prop)(v:V):Fd->Prop
 | .tv t=>Rep B v t
 | .tl ts=>∃l xs,v= .ref l/\B l=none/\Y.H0 l=none/\H l=some (.lst xs)/\zC B xs ts/\z00 ρ σ l/\o l
def FsO (B H:Hp)(vs:List (Str×V))(fs:List (Str×Fd)):Prop:=∀(m:Nat) (f:Str) (d:Fd),fs[m]? =some (f,d)->∃v,vs[m]? =some (f,v)/\match d with
 | .tv t=>Rep B v t
 | .tl ts=>∃l xs,v= .ref l/\H l=some (.lst xs)/\zC B xs ts
theorem FsO.mono {B B' H H' :Hp}{vs:List (Str×V)}{fs:List (Str×Fd)}(h:FsO B H vs fs)(s:zp B B')(s' :zp H H'):FsO B' H' vs fs:=λm f d e=>by
 obtain⟨v,e1,r⟩:=h m f d e;refine⟨v,e1, ?_⟩;cases d with
 | tv t=>exact Rep.mono s r
 | tl ts=>obtain⟨l,xs,a,b,c⟩:=r;exact⟨l,xs,a,s' _ _ b,c.mono s⟩
structure StI (Y:Fx) (B:Hp) (ρ:En) (σ:Sg) (H:Hp) (as:List Addr) (O:Addr->Option (Nat×Nat)):Prop where
 pre:Y.as <+:as
 len:∀(i:Nat) (os:List Ob),ρ[i]? =some (Sl.st os)->as.length=os.length
 one:∀(i j:Nat) (os os' :List Ob),ρ[i]? =some (Sl.st os)->ρ[j]? =some (Sl.st os')->i=j
 ob:∀(i k n:Nat),ρ[i]? =some (Sl.ob k n)->∃a C dx vs,as[n]? =some a/\σ[i]? =some (some (V.ref a))/\Y.cl k= .ref C/\H a=some (.ins C dx vs)/\B a=none/\Y.H0 a=none/\InC vs
 oc:∀(i k:Nat) (fs:List (Str×Fd)),ρ[i]? =some (Sl.oc k fs)->∃a C dx vs,σ[i]? =some (some (V.ref a))/\Y.cl k= .ref C/\Y.H0 a=some (.ins C dx vs)/\InC vs/\FsO B Y.H0 vs fs
 st:∀(i:Nat) (os:List Ob),ρ[i]? =some (Sl.st os)->∀(n k:Nat) (fs:List (Str×Fd)),os[n]? =some (k,fs)->∃a C dx vs,as[n]? =some a/\Y.cl k= .ref C/\H a=some (.ins C dx vs)/\B a=none/\Y.H0 a=none/\O a=some (n,0)/\(vs.length=fs.length/\InC vs)/\
  ∀(m:Nat) (f:Str) (d:Fd),fs[m]? =some (f,d)->∃v,vs[m]? =some (f,v)/\FdR Y B ρ σ H (λl=>O l=some (n,m+1)) v d
structure SI (Y:Fx) (B:Hp) (ρ:En) (σ:Sg) (H:Hp):Prop where
 s0:zp Y.B0 Y.H0
 sH:zp Y.H0 H
 sB:zp B H
 old:∀b o,Y.H0 b=some o->B b=Y.B0 b
 len:ρ.length=σ.length
 vl:∀(i:Nat) (t:T),ρ[i]? =some (Sl.vl t)->∃v:V,σ[i]? =some (some v)/\Rep B v t
 ow:∀(i:Nat) (ts:List T),ρ[i]? =some (Sl.ow ts)->∃(a:Addr) (xs:List V),σ[i]? =some (some (V.ref a))/\B a=none/\Y.H0 a=none/\H a=some (.lst xs)/\zC B xs ts/\
  ∀(j:Nat) (us:List T),j ≠ i->ρ[j]? =some (Sl.ow us)->σ[j]? ≠ some (some (V.ref a))
 xc:∀(i:Nat) (c:Nat),ρ[i]? =some (Sl.xc c)->∃a:Addr,σ[i]? =some (some (V.ref a))/\B a=some (.ext (ExAt (Y.cl c) a))
 st:∃as O,StI Y B ρ σ H as O
theorem StI.on {Y Y' :Fx}{B B' :Hp}{ρ ρ' :En}{σ σ' :Sg}{H H' :Hp}{as:List Addr}{O:Addr->Option (Nat×Nat)}(x:StI Y B ρ σ H as O)(hO:∀(i:Nat) (s:Sl),s.isO=true->ρ'[i]? =some s->ρ[i]? =some s/\σ'[i]? =σ[i]?)(hB:zp B B')(hc:Y'.cl=Y.cl)(hA:Y'.as=Y.as)(h0:zp Y.H0 Y'.H0)
  (hH:∀b o,H b=some o->B b=none->Y.H0 b=none->((∃C dx vs,o= .ins C dx vs)\/z00 ρ σ b)->H' b=some o/\B' b=none/\Y'.H0 b=none/\(z00 ρ σ b->z00 ρ' σ' b)):StI Y' B' ρ' σ' H' as O where
 pre:=by rw[hA];exact x.pre
 len:=λi os h=>x.len i os (hO i _ rfl h).1
 one:=λi j os os' h1 h2=>x.one i j os os' (hO i _ rfl h1).1 (hO j _ rfl h2).1
 ob:=λi k n h=>by
  obtain⟨h1,h2⟩:=hO i _ rfl h;obtain⟨a,C,dx,vs,e1,e2,e3,e4,e5,e6⟩:=x.ob i k n h1;obtain⟨g1,g2,g3,_⟩:=hH a _ e4 e5 e6.1 (.inl ⟨_,_,_,rfl⟩);rw[h2,hc];exact⟨a,C,dx,vs,e1,e2,e3,g1,g2,g3,e6.2⟩
 oc:=λi k fs h=>by
  obtain⟨h1,h2⟩:=hO i _ rfl h;obtain⟨a,C,dx,vs,e1,e2,e3,e4,e5⟩:=x.oc i k fs h1;rw[h2,hc];exact⟨a,C,dx,vs,e1,e2,h0 _ _ e3,e4,e5.mono hB h0⟩
 st:=λi os h n k fs e=>by
  obtain⟨a,C,dx,vs,e1,e2,e3,e4,e5,e6,e7,e8⟩:=x.st i os (hO i _ rfl h).1 n k fs e;obtain⟨g1,g2,g3,_⟩:=hH a _ e3 e4 e5 (.inl ⟨_,_,_,rfl⟩);refine⟨a,C,dx,vs,e1,by rw[hc];exact e2,g1,g2,g3,e6,e7,λm f d z=> ?_⟩
  obtain⟨v,z1,z2⟩:=e8 m f d z;refine⟨v,z1, ?_⟩;cases d with
  | tv t=>exact Rep.mono hB z2
  | tl ts=>
   obtain⟨l,xs,p1,p2,p3,p4,p5,p6,p7⟩:=z2;obtain⟨g1,g2,g3,g4⟩:=hH l _ p4 p2 p3 (.inr p6);exact⟨l,xs,p1,g2,g3,g1,p5.mono hB,g4 p6,p7⟩
theorem StI.no (h:∀(i:Nat) (s:Sl),s.isO=true->ρ[i]? ≠ some s):∃as O,StI Y B ρ σ H as O:=⟨Y.as,λ_=>none,fr _,λi os e=>(h i _ rfl e).elim,λi j os os' e=>(h i _ rfl e).elim,λi k n e=>(h i _ rfl e).elim,λi k fs e=>(h i _ rfl e).elim,λi os e=>(h i _ rfl e).elim⟩
theorem SI.grow {Y:Fx}{B:Hp}{ρ:En}{σ:Sg}{H H' :Hp}(I:SI Y B ρ σ H)(s:zp H H'):SI Y (zS B H H') ρ σ H' where
 s0:=I.s0
 sH:=I.sH.trans s
 sB:=zS.le I.sB s
 old:=λb o h=>by rw[Z4 (I.sH b o h)];exact I.old b o h
 len:=I.len
 vl:=λi t h=>let ⟨v,e,r⟩:=I.vl i t h;⟨v,e,r.mono (zS.ge I.sB s)⟩
 ow:=λi ts h=>let ⟨a,xs,e,b,h0,hh,r,d⟩:=I.ow i ts h;⟨a,xs,e,by rw[Z4 hh];exact b,h0,s _ _ hh,r.mono (zS.ge I.sB s),d⟩
 xc:=λi c h=>let ⟨a,e,r⟩:=I.xc i c h;⟨a,e,zS.ge I.sB s a _ r⟩
 st:=let ⟨as,O,x⟩:=I.st;⟨as,O,x.on (λ_ _ _ h=>⟨h,rfl⟩) (zS.ge I.sB s) rfl rfl (zp.refl _) λb o h hb h0 _=>⟨s _ _ h,by rw[Z4 h];exact hb,h0,id⟩⟩
def XP (Y:Fx)(B:Hp)(c:Nat):Prop:=∀(d:Option Addr) (H' :Hp),zp Y.H0 H' ->zp B H' ->Y.E (Y.cl c) d H'
def Po {α β:Type}(Y:Fx)(rel:Hp->Hp->β->α->Prop)(B H:Hp)(r:R α)(Q:β->Hp->Prop):Prop:=match r with
 | .ok a=>∀b H',zp H H' ->rel (zS B H H') H' b a->Q b H'
 | .ex c=>XP Y B c
 | .bad=>False
abbrev rC:Hp->Hp->V->T->Prop:=λB _ v t=>Rep B v t
abbrev rB:Hp->Hp->V->T->Prop:=λ_ H v t=>Rep H v t
abbrev rCs:Hp->Hp->List V->List T->Prop:=λB _ v t=>zC B v t
abbrev rE {α:Type}:Hp->Hp->α->α->Prop:=λ_ _ a b=>a=b
def tS {α β:Type}(Y:Fx)(rel:Hp->Hp->β->α->Prop)(f:En->R α)(ρ:En):Sg->Hp->(β->Hp->Prop)->Prop:=λσ H Q=>∃B,SI Y B ρ σ H/\Po Y rel B H (f ρ) Q
structure Snd (X:Cx) (Y:Fx) (e:Expr) (f:En->R T):Prop where
 mk ::
 go:∀ρ,PE X e (tS Y rC f ρ)
instance {X:Cx}{Y:Fx}{e:Expr}{f:En->R T}:CoeFun (Snd X Y e f) λ_=>∀ρ,PE X e (tS Y rC f ρ):=⟨Snd.go⟩
structure j8 (X:Cx) (Y:Fx) (e:Expr) (f:En->R T):Prop where
 mk ::
 go:∀ρ,PE X e (tS Y rB f ρ)
instance {X:Cx}{Y:Fx}{e:Expr}{f:En->R T}:CoeFun (j8 X Y e f) λ_=>∀ρ,PE X e (tS Y rB f ρ):=⟨j8.go⟩
structure Wd (X:Cx) (Y:Fx) (e:Expr) (f:En->R Bool):Prop where
 mk ::
 go:∀ρ,PT X e (tS Y rE f ρ)
instance {X:Cx}{Y:Fx}{e:Expr}{f:En->R Bool}:CoeFun (Wd X Y e f) λ_=>∀ρ,PT X e (tS Y rE f ρ):=⟨Wd.go⟩
structure UA (X:Cx) (Y:Fx) (es:List Expr) (f:En->R (List T)):Prop where
 mk ::
 go:∀ρ,PA X es (tS Y rCs f ρ)
instance {X:Cx}{Y:Fx}{es:List Expr}{f:En->R (List T)}:CoeFun (UA X Y es f) λ_=>∀ρ,PA X es (tS Y rCs f ρ):=⟨UA.go⟩
theorem step {α α' β β' :Type}{rel:Hp->Hp->β->α->Prop}{rel' :Hp->Hp->β' ->α' ->Prop}{f:En->R α}{k:α->R α'}{Q:β' ->Hp->Prop}{K:β->Hp->Prop}
  (I:SI Y B ρ σ H) (h:Po Y rel' B H ((f ρ).bind k) Q)
  (n:∀a b H1,f ρ= .ok a->zp H H1->rel (zS B H H1) H1 b a->SI Y (zS B H H1) ρ σ H1->Po Y rel' (zS B H H1) H1 (k a) Q->K b H1):tS Y rel f ρ σ H K:=by
 refine⟨B,I, ?_⟩;cases e:f ρ with
 | bad=>rw[e]at h;exact h
 | ex c=>rw[e]at h;exact h
 | ok a=>
  rw[e]at h;intro b H1 s r;refine n a b H1 e s r (I.grow s) ?_;have h' :Po Y _ B H (k a) Q:=h;revert h';cases k a with
  | bad=>exact λh' =>h'
  | ex c=>exact λh' d H' s0 sB' =>h' d H' s0 ((zS.ge I.sB s).trans sB')
  | ok a' =>exact λh' b' H2 s2 r2=>h' b' H2 (s.trans s2) (by rw[← zS.trans s s2];exact r2)
theorem ZJ {α β:Type}{rel:Hp->Hp->β->α->Prop}{a:α}{b:β}{Q:β->Hp->Prop}(I:SI Y B ρ σ H)(h:Po Y rel B H (.ok a) Q)(r:rel B H b a):Q b H:=h b H (zp.refl H) (by rw[zS.self B H I.sB];exact r)
theorem Snd.b {X:Cx}{Y:Fx}{e:Expr}{f:En->R T}(h:Snd X Y e f):j8 X Y e f:= .mk λρ=>PE.imp (h ρ) λσ H Q ⟨B,I,q⟩=>⟨B,I,by
 revert q;cases f ρ with
 | bad=>exact λq=>q
 | ex c=>exact λq=>q
 | ok a=>exact λq b H' s r=>q b H' s (r.mono (zS.le I.sB s))⟩
section
def vE (i:Nat):En->R T:=λρ=>match ρ[i]? with
 | some (.vl t)=> .ok t
 | _=> .bad
def vB (i:Nat):En->R T:=λρ=>match ρ[i]? with
 | some (.vl t)=> .ok t
 | some (.ow ts)=> .ok (.lst ts)
 | _=> .bad
def cE (t:T):En->R T:=λ_=> .ok t
theorem z1a (i:Nat)(h:PE X (.Name x pos) (Qi i)):Snd X Y (.Name x pos) (vE i):= .mk λρ=>PE.imp h λσ H Q ⟨B,I,q⟩=>by
 unfold vE at q;split at q
 ·rename_i t e;obtain⟨v,e1,r⟩:=I.vl i t e;exact⟨v,e1,ZJ I q r⟩
 ·exact q.elim
theorem Ke (i:Nat){x:Str}(h:PE X (.Name x pos) (Qi i)):j8 X Y (.Name x pos) (vB i):= .mk λρ=>PE.imp h λσ H Q ⟨B,I,q⟩=>by
 unfold vB at q;split at q
 ·rename_i t e;obtain⟨v,e1,r⟩:=I.vl i t e;exact⟨v,e1,ZJ I q (r.mono I.sB)⟩
 ·rename_i ts e;obtain⟨a,xs,e1,_,_,hh,r,_⟩:=I.ow i ts e;exact⟨.ref a,e1,ZJ I q (.lst hh (r.mono I.sB))⟩
 ·exact q.elim
theorem z1b {i j}:Snd X Y (.Constant (.int i) j pos) (cE (.int i)):= .mk λρ=>PE.imp kF λσ H Q ⟨B,I,q⟩=>ZJ I q (.int i)
theorem s_bl {i j}:Snd X Y (.Constant (.bool i) j pos) (cE (.bl i)):= .mk λρ=>PE.imp z0N λσ H Q ⟨B,I,q⟩=>ZJ I q (.bl i)
theorem z1c {j}:Snd X Y (.Constant .none j pos) (cE .non):= .mk λρ=>PE.imp kG λσ H Q ⟨B,I,q⟩=>ZJ I q .non
theorem z1d {i j}:Snd X Y (.Constant (.str i) j pos) (cE (.str i)):= .mk λρ=>PE.imp V1 λσ H Q ⟨B,I,q⟩=>ZJ I q (.str i)
def zd:En->R (List T):=λ_=> .ok []
def z9 (f:En->R T)(g:En->R (List T)):En->R (List T):=λρ=>(f ρ).bind λt=>(g ρ).bind λts=> .ok (t :: ts)
theorem z1e:UA X Y [] zd:= .mk λρ=>PA.imp zK λσ H Q ⟨B,I,q⟩=>ZJ I q .nil
theorem Kf {es:List Expr}{g:En->R (List T)}(h:Snd X Y a fa)(hs:UA X Y es g)(hq:starEach (a :: es) X.env=(false,eval a X.env) :: starEach es X.env:=by exact zV rfl):UA X Y (a :: es) (z9 fa g):= .mk λρ=>
 PA.imp (zl (h ρ) (hs ρ) hq) λσ H Q ⟨B,I,q⟩=>step I q λt v H1 _ s1 r1 I1 q1=>step I1 q1 λts vs H2 _ s2 r2 I2 q2=>ZJ I2 q2 (.cons (r1.mono (zS.ge I1.sB s2)) r2)
theorem zp.new (h:H p=none)(o:HO):zp H (upd H p o):=λb u q=>by rw[zm (zv q h)];exact q
theorem jy (h:H p=none)(o:HO):zS B H (upd H p o) p=some o:=by rw[Z7 h,zr]
noncomputable def bnd:Nat:=16777216
theorem Zq (h:n<=bnd):n<=sizeLine:=by exact h
def zG (g:En->R (List T)):En->R T:=λρ=>(g ρ).bind λts=>if ts.length<=bnd then .ok (.tup ts) else .bad
def jm (g:En->R (List T)):En->R T:=λρ=>(g ρ).bind λts=>if ts.length<=bnd then .ok (.lst ts) else .bad
theorem xp {ρ:En}{σ:Sg}{B H:Hp}{xs:List V}{ts:List T}(I:SI Y B ρ σ H)(r:zC B xs ts){p:Addr}(h:H p=none):Rep (zS B H (upd H p (.tup xs))) (.ref p) (.tup ts):=
 .tup (jy h _) (r.mono (zS.ge I.sB (zp.new h _)))
theorem xq {ρ:En}{σ:Sg}{B H:Hp}{xs:List V}{ts:List T}(I:SI Y B ρ σ H)(r:zC B xs ts){p:Addr}(h:H p=none):Rep (zS B H (upd H p (.lst xs))) (.ref p) (.lst ts):=
 .lst (jy h _) (r.mono (zS.ge I.sB (zp.new h _)))
theorem z1f {es:List Expr}{g:En->R (List T)}{x1}(h:UA X Y es g):Snd X Y (.Tuple es x1 pos) (zG g):= .mk λρ=>PE.imp (K1 (h ρ)) λσ H Q ⟨B,I,q⟩=>
 step I q λts vs H1 _ s1 r1 I1 q1=>by
  split at q1
  ·rename_i hb;refine⟨by rw[r1.length];exact Zq hb,λp hp=>q1 _ _ (zp.new hp _) (xp I1 r1 hp)⟩
  ·exact q1.elim
theorem z1g {es:List Expr}{g:En->R (List T)}(h:UA X Y es g):Snd X Y (.List es pos) (jm g):= .mk λρ=>PE.imp (V4 (h ρ)) λσ H Q ⟨B,I,q⟩=>
 step I q λts vs H1 _ s1 r1 I1 q1=>by
  split at q1
  ·rename_i hb;refine⟨by rw[r1.length];exact Zq hb,λp hp=>q1 _ _ (zp.new hp _) (xq I1 r1 hp)⟩
  ·exact q1.elim
end
end PV
namespace PV
open PySem PySem.Spec PyProof.Rows L2
noncomputable def eqL (f:T->T->Option Bool):List T->List T->Option Bool
 | [],[]=>some true
 | [],_ :: _=>some false
 | _ :: _,[]=>some false
 | x :: xs,y :: ys=>match f x y with
  | none=>none
  | some b=>match eqL f xs ys with
   | none=>none
   | some c=>some (b && c)
noncomputable def b2 (b:Bool):Int:=if b then 1 else 0
def eqF:Nat->T->T->Option Bool
 | _,.non,.non=>some true
 | _,.bl a,.bl b=>some (a == b)
 | _,.bl a,.int j=>some (b2 a == j)
 | _,.int i,.bl b=>some (i == b2 b)
 | _,.int i,.int j=>some (i == j)
 | _,.str x,.str y=>some (x == y)
 | n+1,.tup xs,.tup ys=>eqL (eqF n) xs ys
 | n+1,.lst xs,.lst ys=>eqL (eqF n) xs ys
 | n+1,.fz xs,.lst ys=>eqL (eqF n) xs ys
 | n+1,.lst xs,.fz ys=>eqL (eqF n) xs ys
 | n+1,.fz xs,.fz ys=>eqL (eqF n) xs ys
 | 0,.tup _,.tup _=>none
 | 0,.lst _,.lst _=>none
 | 0,.fz _,.lst _=>none
 | 0,.lst _,.fz _=>none
 | 0,.fz _,.fz _=>none
 | _,.non,_=>some false
 | _,.bl _,_=>some false
 | _,.int _,_=>some false
 | _,.str _,_=>some false
 | _,.tup _,_=>some false
 | _,.lst _,_=>some false
 | _,.fz _,_=>some false
mutual
theorem Rep.fn {H:Hp}:∀{v:V} {t t' :T},Rep H v t->Rep H v t' ->t=t'
 | _,_,_,.non,.non=>rfl
 | _,_,_,.bl _,.bl _=>rfl
 | _,_,_,.int _,.int _=>rfl
 | _,_,_,.str _,.str _=>rfl
 | _,_,_,.tup h r,.tup h' r' =>by
  rw[h]at h';cases h';rw[zC.fn r r']
 | _,_,_,.tup h r,.lst h' r' =>by rw[h]at h';cases h'
 | _,_,_,.tup h r,.fz h' r' =>by rw[h]at h';cases h'
 | _,_,_,.lst h r,.tup h' r' =>by rw[h]at h';cases h'
 | _,_,_,.lst h r,.lst h' r' =>by
  rw[h]at h';cases h';rw[zC.fn r r']
 | _,_,_,.lst h r,.fz h' r' =>by rw[h]at h';cases h'
 | _,_,_,.fz h r,.tup h' r' =>by rw[h]at h';cases h'
 | _,_,_,.fz h r,.lst h' r' =>by rw[h]at h';cases h'
 | _,_,_,.fz h r,.fz h' r' =>by
  rw[h]at h';cases h';rw[zC.fn r r']
theorem zC.fn {H:Hp}:∀{v:List V} {t t' :List T},zC H v t->zC H v t' ->t=t'
 | _,_,_,.nil,.nil=>rfl
 | _,_,_,.cons h r,.cons h' r' =>by rw[Rep.fn h h',zC.fn r r']
end
theorem Zf {f:T->T->Option Bool}(hf:∀x b,f x x=some b->b=true):∀(xs:List T) (b:Bool),eqL f xs xs=some b->b=true
 | [],b,h=>by
  have h' :=h;cases h';rfl
 | x :: xs,b,h=>by
  unfold eqL at h;cases e:f x x with
  | none=>rw[e]at h;cases h
  | some c=>
   rw[e]at h;cases e' :eqL f xs xs with
   | none=>rw[e']at h;cases h
   | some d=>
    rw[e']at h;cases h;rw[hf x c e,Zf hf xs d e'];rfl
theorem Z0:∀(n:Nat) (t:T) (b:Bool),eqF n t t=some b->b=true
 | n,.non,b,h=>by unfold eqF at h;cases h;rfl
 | n,.bl x,b,h=>by unfold eqF at h;cases h;simp
 | n,.int x,b,h=>by unfold eqF at h;cases h;simp
 | n,.str x,b,h=>by unfold eqF at h;cases h;simp
 | 0,.tup x,b,h=>by cases h
 | 0,.lst x,b,h=>by cases h
 | 0,.fz x,b,h=>by cases h
 | n+1,.tup x,b,h=>by exact Zf (Z0 n) x b h
 | n+1,.lst x,b,h=>by exact Zf (Z0 n) x b h
 | n+1,.fz x,b,h=>by exact Zf (Z0 n) x b h
theorem yE {f:T->T->Option Bool}:∀{xs ys:List T} {b:Bool},eqL f xs ys=some b->
  ∃e:Nat->Bool,(∀j x y,xs[j]? =some x->ys[j]? =some y->f x y=some (e j))/\((bc (min xs.length ys.length)).all e && xs.length == ys.length)=b
 | [],[],b,h=>by
  have h' :=h;cases h';exact⟨λ_=>true,λj x y h=>by simp at h,by simp⟩
 | [],y :: ys,b,h=>by
  have h' :=h;cases h';exact⟨λ_=>true,λj x y h=>by simp at h,by simp⟩
 | x :: xs,[],b,h=>by
  have h' :=h;cases h';exact⟨λ_=>true,λj x y h h' =>by simp at h',by simp⟩
 | x :: xs,y :: ys,b,h=>by
  unfold eqL at h;cases e:f x y with
  | none=>rw[e]at h;cases h
  | some c=>
   rw[e]at h;cases e' :eqL f xs ys with
   | none=>rw[e']at h;cases h
   | some d=>
    rw[e']at h;cases h;obtain⟨g,h1,h2⟩:=yE e';refine⟨λj=>match j with | 0=>c | j+1=>g j,λj u v hu hv=> ?_, ?_⟩
    ·cases j with
     | zero=>simp at hu hv;subst hu hv;exact e
     | succ j=>exact h1 j u v (by simpa using hu) (by simpa using hv)
    ·have z:min (x :: xs).length (y :: ys).length=min xs.length ys.length+1:=by simp only[aw];omega
     rw[z,dD,bR,iy];have z2:((x :: xs).length == (y :: ys).length)=(xs.length == ys.length):=by simp
     rw[z2,← h2,Bool.and_assoc];rfl
section
theorem Zy (I:L2.Inv X pins σ H s)(h:H a=some (.tup xs))(r:zC H xs ts):∃its:List Value,zU xs its/\s.heap.IsTuple a its.toArray/\ts.length=its.length/\xs.length<=sizeLine:=by
 obtain⟨its,rv,p,z⟩:=I.tuple (SqT.of h);exact⟨its,rv,p,by rw[← r.length];exact rv.length,z⟩
theorem zI (I:L2.Inv X pins σ H s)(h:Rd H a (.lst xs))(r:zC H xs ts):∃its:List Value,zU xs its/\s.heap.IsList a its.toArray/\ts.length=its.length/\xs.length<=sizeLine:=by
 obtain⟨its,rv,p,z⟩:=I.list (.inl h);exact⟨its,rv,p.isList,by rw[← r.length];exact rv.length,z⟩
end
noncomputable abbrev EqN (A:Around)(s:Shared)(u u' :Value)(b:Bool):Prop:=d8 A s u u' b/\fL A s u u' b/\dE A s u u' (!b)
section
theorem yF {f:T->T->Option Bool}{e:Nat->Bool}(r:zC H xs ts)(r' :zC H ys us)(v:zU xs its)(v' :zU ys its')
  (he:∀(j:Nat) (x y:T),ts[j]? =some x->us[j]? =some y->f x y=some (e j))
  (ih:∀(x y:T) (b:Bool) (p q:V) (u w:Value),f x y=some b->Rep H p x->Rep H q y->Z3 p u->Z3 q w->EqN A s u w b) (j:Nat) (h1:j < its.toArray.size) (h2:j < its'.toArray.size):
  d8 A s its.toArray[j] its'.toArray[j] (e j):=by
 have l1:=v.length;have l2:=v'.length;have k1:j < xs.length:=by simp at h1;omega
 have k2:j < ys.length:=by simp at h2;omega
 obtain⟨t,et,rt⟩:=r.getV (a9 k1);obtain⟨t',et',rt'⟩:=r'.getV (a9 k2);obtain⟨u,eu,ru⟩:=v.get (a9 k1);obtain⟨u',eu',ru'⟩:=v'.get (a9 k2);have q1:=by
  have:its[j]? =some its.toArray[j]:=by simp at h1 ⊢
  rw[eu]at this;exact(aR this).symm
 have q2:=by
  have:its'[j]? =some its'.toArray[j]:=by simp at h2 ⊢
  rw[eu']at this;exact(aR this).symm
 rw[q1,q2];exact(ih t t' _ _ _ u u' (he j t t' et et') rt rt' ru ru').1
theorem xr {A:Around}{a c:Addr}{xs ys:List V}{ts us:List T}{b:Bool}{f:T->T->Option Bool}(I:L2.Inv X pins σ H s)(hu:A.units < cLine)(ha:H a=some (.tup xs))(hc:H c=some (.tup ys))(r:zC H xs ts)(r' :zC H ys us)
  (hb:eqL f ts us=some b) (hr:∀x b,f x x=some b->b=true)
  (ih:∀(x y:T) (b:Bool) (p q:V) (u w:Value),f x y=some b->Rep H p x->Rep H q y->Z3 p u->Z3 q w->EqN A.in1 s u w b):EqN A s (.ref a) (.ref c) b:=by
 obtain⟨its,v,p,l,_⟩:=Zy I ha r;obtain⟨its',v',p',l',_⟩:=Zy I hc r';obtain⟨e,he,hb'⟩:=yE hb;have hp:=yF r r' v v' he ih;have z:((bc (min its.toArray.size its'.toArray.size)).all e && its.toArray.size == its'.toArray.size)=b:=by
  rw[← hb'];simp[l,l']
 have R:=fL.tuples p p' hu hp;have N:=dE.tuples p p' hu hp;rw[z]at R;have N' :dE A s (.ref a) (.ref c) (!b):=by
  rw[← z];exact N
 refine⟨?_,R,N'⟩
 by_cases hac:a=c
 ·subst hac;rw[ha]at hc;cases hc;have:=r.fn r';subst this;rw[Zf hr ts b hb];exact l0 _
 ·exact ia hac R
theorem we {A:Around}{a c:Addr}{xs ys:List V}{ts us:List T}{b:Bool}{f:T->T->Option Bool}(I:L2.Inv X pins σ H s)(hu:A.units < cLine)(ha:Rd H a (.lst xs))(hc:Rd H c (.lst ys))(r:zC H xs ts)(r' :zC H ys us)
  (hb:eqL f ts us=some b) (hr:∀x b,f x x=some b->b=true)
  (ih:∀(x y:T) (b:Bool) (p q:V) (u w:Value),f x y=some b->Rep H p x->Rep H q y->Z3 p u->Z3 q w->EqN A.in1 s u w b):EqN A s (.ref a) (.ref c) b:=by
 obtain⟨its,v,p,l,_⟩:=zI I ha r;obtain⟨its',v',p',l',_⟩:=zI I hc r';obtain⟨e,he,hb'⟩:=yE hb;have hp:=yF r r' v v' he ih;have RN:fL A s (.ref a) (.ref c) b/\dE A s (.ref a) (.ref c) (!b):=by
  by_cases hl:its.toArray.size=its'.toArray.size
  ·have z:(bc its.toArray.size).all e=b:=by
    rw[← hb'];have:ts.length=us.length:=by simp at hl;omega
    rw[this];have k:its.toArray.size=us.length:=by simp;omega
    rw[k];simp
   have R:=fL.lists p p' hl hu hp;have N:=dE.lists p p' hl hu hp;rw[z]at R;refine⟨R, ?_⟩;rw[← z];exact N
  ·have hl' :(its.toArray.size != its'.toArray.size)=true:=by simpa using hl
   have z:b=false:=by
    rw[← hb'];have:¬ ts.length=us.length:=by simp at hl;omega
    simp[this]
   subst z;exact⟨fL.lists_lengths p p' hl' hu,dE.lists_lengths p p' hl' hu⟩
 refine⟨?_,RN.1,RN.2⟩
 by_cases hac:a=c
 ·subst hac;have hxy:xs=ys:=by
   rcases ha with ha | ⟨o,ha⟩ <;> rcases hc with hc | ⟨o',hc⟩ <;> (rw[ha]at hc;cases hc) <;> rfl
  subst hxy;have:=r.fn r';subst this;rw[Zf hr ts b hb];exact l0 _
 ·exact ia hac RN.1
end
section
variable {X:Cx}{pins:List (Addr×Obj)}{σ:Sg}{H:Hp}{s:Shared}
theorem Jb {A:Around}:A.in1.units=A.units+1:=rfl
set_option maxHeartbeats 2000000 in
theorem yG (I:L2.Inv X pins σ H s):∀(A:Around),A.units < cLine->∀(x y:T) (b:Bool) (p q:V) (u w:Value),eqF 0 x y=some b->Rep H p x->Rep H q y->Z3 p u->Z3 q w->EqN A s u w b:=by
 intro A hu x y b p q u w h rp rq ru rw';have hu' :=hu;cases rp with
 | non=>
  obtain rfl:u=Value.none:=ru;cases rq with
  | non=>obtain rfl:w=Value.none:=rw';unfold eqF at h;cases h;exact⟨.same _,.none_none,.none_none⟩
  | bl c=>obtain rfl:w=Value.bool c:=rw';unfold eqF at h;cases h;exact⟨.none_bool _,.none_bool _,.none_bool _⟩
  | int c=>obtain⟨t,rfl⟩:=rw';unfold eqF at h;cases h;exact⟨.none_int _ _,.none_int _ _,.none_int _ _⟩
  | str c=>obtain⟨t,rfl⟩:=rw';unfold eqF at h;cases h;exact⟨.none_str _ _,.none_str _ _,.none_str _ _⟩
  | tup h1 r1=>obtain rfl:w=Value.ref _:=rw';unfold eqF at h;cases h;obtain⟨i,_,p,_⟩:=Zy I h1 r1;exact⟨.none_tuple p hu',.none_tuple p hu',.none_tuple p hu'⟩
  | lst h1 r1=>obtain rfl:w=Value.ref _:=rw';unfold eqF at h;cases h;obtain⟨i,_,p,_⟩:=zI I (.inl h1) r1;exact⟨.none_list p hu',.none_list p hu',.none_list p hu'⟩
  | fz h1 r1=>obtain rfl:w=Value.ref _:=rw';unfold eqF at h;cases h;obtain⟨i,_,p,_⟩:=zI I (.inr ⟨_,h1⟩) r1;exact⟨.none_list p hu',.none_list p hu',.none_list p hu'⟩
 | bl d=>
  obtain rfl:u=Value.bool d:=ru;cases rq with
  | non=>obtain rfl:w=Value.none:=rw';unfold eqF at h;cases h;exact⟨.bool_none _,.bool_none _,.bool_none _⟩
  | bl c=>obtain rfl:w=Value.bool c:=rw';unfold eqF at h;cases h;exact⟨.bool_bool _ _,.bool_bool _ _,.bool_bool _ _⟩
  | int c=>obtain⟨t,rfl⟩:=rw';unfold eqF at h;cases h;exact⟨.bool_int _ _ _,.bool_int _ _ _,.bool_int _ _ _⟩
  | str c=>obtain⟨t,rfl⟩:=rw';unfold eqF at h;cases h;exact⟨.bool_str _ _ _,.bool_str _ _ _,.bool_str _ _ _⟩
  | tup h1 r1=>obtain rfl:w=Value.ref _:=rw';unfold eqF at h;cases h;obtain⟨i,_,p,_⟩:=Zy I h1 r1;exact⟨.bool_tuple _ p hu',.bool_tuple _ p hu',.bool_tuple _ p hu'⟩
  | lst h1 r1=>obtain rfl:w=Value.ref _:=rw';unfold eqF at h;cases h;obtain⟨i,_,p,_⟩:=zI I (.inl h1) r1;exact⟨.bool_list _ p hu',.bool_list _ p hu',.bool_list _ p hu'⟩
  | fz h1 r1=>obtain rfl:w=Value.ref _:=rw';unfold eqF at h;cases h;obtain⟨i,_,p,_⟩:=zI I (.inr ⟨_,h1⟩) r1;exact⟨.bool_list _ p hu',.bool_list _ p hu',.bool_list _ p hu'⟩
 | int d=>
  obtain⟨t0,rfl⟩:=ru;cases rq with
  | non=>obtain rfl:w=Value.none:=rw';unfold eqF at h;cases h;exact⟨.int_none _ _,.int_none _ _,.int_none _ _⟩
  | bl c=>obtain rfl:w=Value.bool c:=rw';unfold eqF at h;cases h;exact⟨.int_bool _ _ _,.int_bool _ _ _,.int_bool _ _ _⟩
  | int c=>obtain⟨t,rfl⟩:=rw';unfold eqF at h;cases h;exact⟨.int_int _ _ _ _,.int_int _ _ _ _,.int_int _ _ _ _⟩
  | str c=>obtain⟨t,rfl⟩:=rw';unfold eqF at h;cases h;exact⟨.int_str _ _ _ _,.int_str _ _ _ _,.int_str _ _ _ _⟩
  | tup h1 r1=>obtain rfl:w=Value.ref _:=rw';unfold eqF at h;cases h;obtain⟨i,_,p,_⟩:=Zy I h1 r1;exact⟨.int_tuple _ _ p hu',.int_tuple _ _ p hu',.int_tuple _ _ p hu'⟩
  | lst h1 r1=>obtain rfl:w=Value.ref _:=rw';unfold eqF at h;cases h;obtain⟨i,_,p,_⟩:=zI I (.inl h1) r1;exact⟨.int_list _ _ p hu',.int_list _ _ p hu',.int_list _ _ p hu'⟩
  | fz h1 r1=>obtain rfl:w=Value.ref _:=rw';unfold eqF at h;cases h;obtain⟨i,_,p,_⟩:=zI I (.inr ⟨_,h1⟩) r1;exact⟨.int_list _ _ p hu',.int_list _ _ p hu',.int_list _ _ p hu'⟩
 | str d=>
  obtain⟨t0,rfl⟩:=ru;cases rq with
  | non=>obtain rfl:w=Value.none:=rw';unfold eqF at h;cases h;exact⟨.str_none _ _,.str_none _ _,.str_none _ _⟩
  | bl c=>obtain rfl:w=Value.bool c:=rw';unfold eqF at h;cases h;exact⟨.str_bool _ _ _,.str_bool _ _ _,.str_bool _ _ _⟩
  | int c=>obtain⟨t,rfl⟩:=rw';unfold eqF at h;cases h;exact⟨.str_int _ _ _ _,.str_int _ _ _ _,.str_int _ _ _ _⟩
  | str c=>obtain⟨t,rfl⟩:=rw';unfold eqF at h;cases h;exact⟨.str_str _ _ _ _,.str_str _ _ _ _,.str_str _ _ _ _⟩
  | tup h1 r1=>obtain rfl:w=Value.ref _:=rw';unfold eqF at h;cases h;obtain⟨i,_,p,_⟩:=Zy I h1 r1;exact⟨.str_tuple _ _ p hu',.str_tuple _ _ p hu',.str_tuple _ _ p hu'⟩
  | lst h1 r1=>obtain rfl:w=Value.ref _:=rw';unfold eqF at h;cases h;obtain⟨i,_,p,_⟩:=zI I (.inl h1) r1;exact⟨.str_list _ _ p hu',.str_list _ _ p hu',.str_list _ _ p hu'⟩
  | fz h1 r1=>obtain rfl:w=Value.ref _:=rw';unfold eqF at h;cases h;obtain⟨i,_,p,_⟩:=zI I (.inr ⟨_,h1⟩) r1;exact⟨.str_list _ _ p hu',.str_list _ _ p hu',.str_list _ _ p hu'⟩
 | tup h0 r0=>
  obtain rfl:u=Value.ref _:=ru;obtain⟨i0,_,p0,_⟩:=Zy I h0 r0;cases rq with
  | non=>obtain rfl:w=Value.none:=rw';unfold eqF at h;cases h;exact⟨.tuple_none p0 hu',.tuple_none p0 hu',.tuple_none p0 hu'⟩
  | bl c=>obtain rfl:w=Value.bool c:=rw';unfold eqF at h;cases h;exact⟨.tuple_bool _ p0 hu',.tuple_bool _ p0 hu',.tuple_bool _ p0 hu'⟩
  | int c=>obtain⟨t,rfl⟩:=rw';unfold eqF at h;cases h;exact⟨.tuple_int _ _ p0 hu',.tuple_int _ _ p0 hu',.tuple_int _ _ p0 hu'⟩
  | str c=>obtain⟨t,rfl⟩:=rw';unfold eqF at h;cases h;exact⟨.tuple_str _ _ p0 hu',.tuple_str _ _ p0 hu',.tuple_str _ _ p0 hu'⟩
  | tup h1 r1=>unfold eqF at h;cases h
  | lst h1 r1=>obtain rfl:w=Value.ref _:=rw';unfold eqF at h;cases h;obtain⟨i,_,p,_⟩:=zI I (.inl h1) r1;exact⟨.tuple_list p0 p hu',.tuple_list p0 p hu',.tuple_list p0 p hu'⟩
  | fz h1 r1=>obtain rfl:w=Value.ref _:=rw';unfold eqF at h;cases h;obtain⟨i,_,p,_⟩:=zI I (.inr ⟨_,h1⟩) r1;exact⟨.tuple_list p0 p hu',.tuple_list p0 p hu',.tuple_list p0 p hu'⟩
 | lst h0 r0=>
  obtain rfl:u=Value.ref _:=ru;obtain⟨i0,_,p0,_⟩:=zI I (.inl h0) r0;cases rq with
  | non=>obtain rfl:w=Value.none:=rw';unfold eqF at h;cases h;exact⟨.list_none p0 hu',.list_none p0 hu',.list_none p0 hu'⟩
  | bl c=>obtain rfl:w=Value.bool c:=rw';unfold eqF at h;cases h;exact⟨.list_bool _ p0 hu',.list_bool _ p0 hu',.list_bool _ p0 hu'⟩
  | int c=>obtain⟨t,rfl⟩:=rw';unfold eqF at h;cases h;exact⟨.list_int _ _ p0 hu',.list_int _ _ p0 hu',.list_int _ _ p0 hu'⟩
  | str c=>obtain⟨t,rfl⟩:=rw';unfold eqF at h;cases h;exact⟨.list_str _ _ p0 hu',.list_str _ _ p0 hu',.list_str _ _ p0 hu'⟩
  | tup h1 r1=>obtain rfl:w=Value.ref _:=rw';unfold eqF at h;cases h;obtain⟨i,_,p,_⟩:=Zy I h1 r1;exact⟨.list_tuple p0 p hu',.list_tuple p0 p hu',.list_tuple p0 p hu'⟩
  | lst h1 r1=>unfold eqF at h;cases h
  | fz h1 r1=>unfold eqF at h;cases h
 | fz h0 r0=>
  obtain rfl:u=Value.ref _:=ru;obtain⟨i0,_,p0,_⟩:=zI I (.inr ⟨_,h0⟩) r0;cases rq with
  | non=>obtain rfl:w=Value.none:=rw';unfold eqF at h;cases h;exact⟨.list_none p0 hu',.list_none p0 hu',.list_none p0 hu'⟩
  | bl c=>obtain rfl:w=Value.bool c:=rw';unfold eqF at h;cases h;exact⟨.list_bool _ p0 hu',.list_bool _ p0 hu',.list_bool _ p0 hu'⟩
  | int c=>obtain⟨t,rfl⟩:=rw';unfold eqF at h;cases h;exact⟨.list_int _ _ p0 hu',.list_int _ _ p0 hu',.list_int _ _ p0 hu'⟩
  | str c=>obtain⟨t,rfl⟩:=rw';unfold eqF at h;cases h;exact⟨.list_str _ _ p0 hu',.list_str _ _ p0 hu',.list_str _ _ p0 hu'⟩
  | tup h1 r1=>obtain rfl:w=Value.ref _:=rw';unfold eqF at h;cases h;obtain⟨i,_,p,_⟩:=Zy I h1 r1;exact⟨.list_tuple p0 p hu',.list_tuple p0 p hu',.list_tuple p0 p hu'⟩
  | lst h1 r1=>unfold eqF at h;cases h
  | fz h1 r1=>unfold eqF at h;cases h
set_option maxHeartbeats 2000000 in
theorem Qy (I:L2.Inv X pins σ H s):∀(n:Nat) (A:Around),A.units+n < cLine->∀(x y:T) (b:Bool) (p q:V) (u w:Value),eqF n x y=some b->Rep H p x->Rep H q y->Z3 p u->Z3 q w->EqN A s u w b:=by
 intro n
 induction n with
 | zero=>exact λA hu x y b p q u w h=>yG I A (by omega) x y b p q u w h
 | succ n ih=>
  intro A hu x y b p q u w h rp rq ru rw';have low:=λh=>yG I A (by omega) x y b p q u w h rp rq ru rw'
  have hu' :A.units < cLine:=by omega
  have ih' :=ih A.in1 (by rw[Jb];omega)
  cases rp with
  | tup h0 r0=>
   cases rq with
   | tup h1 r1=>
    obtain rfl:u=Value.ref _:=ru;obtain rfl:w=Value.ref _:=rw';exact xr I hu' h0 h1 r0 r1 h (Z0 n) ih'
   | _=>exact low (by exact h)
  | lst h0 r0=>
   cases rq with
   | lst h1 r1=>
    obtain rfl:u=Value.ref _:=ru;obtain rfl:w=Value.ref _:=rw';exact we I hu' (.inl h0) (.inl h1) r0 r1 h (Z0 n) ih'
   | fz h1 r1=>
    obtain rfl:u=Value.ref _:=ru;obtain rfl:w=Value.ref _:=rw';exact we I hu' (.inl h0) (.inr ⟨_,h1⟩) r0 r1 h (Z0 n) ih'
   | _=>exact low (by exact h)
  | fz h0 r0=>
   cases rq with
   | lst h1 r1=>
    obtain rfl:u=Value.ref _:=ru;obtain rfl:w=Value.ref _:=rw';exact we I hu' (.inr ⟨_,h0⟩) (.inl h1) r0 r1 h (Z0 n) ih'
   | fz h1 r1=>
    obtain rfl:u=Value.ref _:=ru;obtain rfl:w=Value.ref _:=rw';exact we I hu' (.inr ⟨_,h0⟩) (.inr ⟨_,h1⟩) r0 r1 h (Z0 n) ih'
   | _=>exact low (by exact h)
  | _=>exact low (by cases rq <;> (exact h))
end
section
def rG (Y:Fx)(g:T->T->R T):R2:=λx y H Q=>∃B t t',zp B H/\Rep B x t/\Rep B y t' /\Po Y rC B H (g t t') Q
def zb (g:T->T->R T)(fa fb:En->R T):En->R T:=λρ=>(fa ρ).bind λx=>(fb ρ).bind λy=>g x y
theorem We (ho:OpR X (binaryOp op) (rG Y g))(ha:Snd X Y a fa)(hb:Snd X Y b fb):Snd X Y (.BinOp a op b pos) (zb g fa fb):= .mk λρ=>
 PE.imp (z0Y ho (ha ρ) (hb ρ)) λσ H Q ⟨B,I,q⟩=>step I q λt v H1 _ s1 r1 I1 q1=>step I1 q1 λt' v' H2 _ s2 r2 I2 q2=>
  ⟨_,t,t',I2.sB,r1.mono (zS.ge I1.sB s2),r2,q2⟩
theorem po0 (sB:zp B H)(q:Po Y rC B H g Q)(e:g= .ok t)(r:Rep B v t):Q v H:=by
 subst e;exact q v H (zp.refl H) (by rw[zS.self B H sB];exact r)
theorem Kg (sB:zp B H)(q:Po Y rC B H g Q)(e:g= .ok (.tup ts))(r:zC B xs ts)(h:H p=none):Q (.ref p) (upd H p (.tup xs)):=by
 subst e;exact q _ _ (zp.new h _) (.tup (jy h _) (r.mono (zS.ge sB (zp.new h _))))
theorem po1l (sB:zp B H)(q:Po Y rC B H g Q)(e:g= .ok (.lst ts))(r:zC B xs ts)(h:H p=none):Q (.ref p) (upd H p (.lst xs)):=by
 subst e;exact q _ _ (zp.new h _) (.lst (jy h _) (r.mono (zS.ge sB (zp.new h _))))
def zq:T->T->R T
 | .int i,.int j=> .ok (.int (i+j))
 | .bl x,.int j=> .ok (.int (b2 x+j))
 | .int i,.bl y=> .ok (.int (i+b2 y))
 | .str x,.str y=>if x.length+y.length<=bnd then .ok (.str (x++y)) else .bad
 | .tup xs,.tup ys=>if xs.length+ys.length<=bnd then .ok (.tup (xs++ys)) else .bad
 | .lst xs,.lst ys=>if xs.length+ys.length<=bnd then .ok (.lst (xs++ys)) else .bad
 | _,_=> .bad
theorem Qz {prog:Program}{w:World}{A:Around}{E:Value->Shared->Prop}{s:Shared}{t b:Addr}{vs ws:List Value}{Q:Value->Shared->Prop}(ht:IsTup s.heap t vs.toArray)(hb:IsTup s.heap b ws.toArray)(hv:vs=[])
  (h1:Q (.ref b) s):wpAny (model prog w) A (binaryOp .Add (.ref t) (.ref b)) Q E s:=by
 obtain⟨⟨cls,dd,data,sl⟩,ho,hc,n,hd⟩:=id ht;obtain⟨⟨cls2,dd2,data2,sl2⟩,ho2,hc2,n2,hd2⟩:=id hb;subst hc hd hc2 hd2;exact concat_meets ⟨_,ho,rfl⟩ ⟨_,ho2,rfl⟩ noFill_tuple_add seq_tuple_add dC dw (dq _ _)
   (tuple_addW0 t b _ _ n n2 dd dd2 sl sl2 (by simp[hv])) ⟨ho,ho2,h1⟩
theorem xt:OpR X (binaryOp .Add) (rG Y zq):=by
 intro pins s σ H x y v u Q I rx ry h;obtain⟨B,t,t',sB,r,r',q⟩:=h;cases r with
 | int i=>
  cases r' with
  | int j=>exact kS pins s σ H _ _ v u Q I rx ry ⟨i,j,rfl,rfl,po0 sB q rfl (.int _)⟩
  | bl y=>exact yr pins s σ H _ _ v u Q I rx ry ⟨i,y,rfl,rfl,po0 sB q rfl (.int _)⟩
  | _=>exact q.elim
 | bl x=>
  cases r' with
  | int j=>
   obtain rfl:v=Value.bool x:=rx;obtain⟨tk,rfl⟩:=ry;exact IntBool.add_bool_int (⟨.int _,H,I.tok _,⟨_,rfl⟩,po0 sB q rfl (.int _)⟩)
  | _=>exact q.elim
 | str x=>
  cases r' with
  | str y=>
   by_cases hb:x.length+y.length<=bnd
   ·exact Ux pins s σ H _ _ v u Q I rx ry ⟨x,y,rfl,rfl,Zq hb,po0 sB q (if_pos hb) (.str _)⟩
   ·rw[show zq (.str x) (.str y)= .bad from if_neg hb]at q;exact q.elim
  | _=>exact q.elim
 | @tup a xs ts h1 r1=>
  cases r' with
  | @tup a' ys us h2 r2=>
   by_cases hb:ts.length+us.length<=bnd
   ·have eg:zq (.tup ts) (.tup us)= .ok _:=if_pos hb;have hz:xs.length+ys.length<=sizeLine:=by rw[r1.length,r2.length];exact Zq hb
    by_cases hx:xs=[]
    ·obtain rfl:v=Value.ref a:=rx;obtain rfl:u=Value.ref a' :=ry;obtain⟨its,rv,p,_⟩:=I.tuple (SqT.of (sB _ _ h1));obtain⟨its',rv',p',_⟩:=I.tuple (SqT.of (sB _ _ h2));have et:=r1.nil_iff.mp hx;refine Qz p p' (rv.nil_iff.mpr hx) ⟨.ref a',H,I,rfl,po0 sB q eg ?_⟩;rw[et];exact .tup h2 r2
    ·refine xk _ s σ H _ _ v u Q I rx ry ⟨a,a',xs,ys,rfl,rfl,SqT.of (sB _ _ h1),SqT.of (sB _ _ h2),hx,hz,λhy=> ?_,λhy p hp=> ?_⟩
     ·refine po0 sB q eg ?_;rw[r2.nil_iff.mp hy,bz];exact .tup h1 r1
     ·exact Kg sB q eg (r1.append r2) hp
   ·rw[show zq (.tup ts) (.tup us)= .bad from if_neg hb]at q;exact q.elim
  | _=>exact q.elim
 | @lst a xs ts h1 r1=>
  cases r' with
  | @lst a' ys us h2 r2=>
   by_cases hb:ts.length+us.length<=bnd
   ·have eg:zq (.lst ts) (.lst us)= .ok _:=if_pos hb;have hz:xs.length+ys.length<=sizeLine:=by rw[r1.length,r2.length];exact Zq hb
    exact K9 _ s σ H _ _ v u Q I rx ry ⟨a,a',xs,ys,rfl,rfl,sB _ _ h1,sB _ _ h2,hz,λp hp=>po1l sB q eg (r1.append r2) hp⟩
   ·rw[show zq (.lst ts) (.lst us)= .bad from if_neg hb]at q;exact q.elim
  | _=>exact q.elim
 | _=>cases r' <;> exact q.elim
theorem z1h (ha:Snd X Y a fa)(hb:Snd X Y b fb):Snd X Y (.BinOp a .Add b pos) (zb zq fa fb):=We xt ha hb
noncomputable def Wf:T->T->R T
 | .int i,.int j=> .ok (.int (i - j))
 | _,_=> .bad
noncomputable def Jc:T->T->R T
 | .int i,.int j=>if 0 < j then .ok (.int (i % j)) else .bad
 | _,_=> .bad
noncomputable def wf:T->T->R T
 | .int i,.int j=>if 0 < j/\j < 1073741824 then .ok (.int (i / j)) else .bad
 | _,_=> .bad
instance (i j:Int):Decidable (WQ i j):=by unfold WQ;infer_instance
def zN:T->T->R T
 | .int i,.int j=>if WQ i j then .ok (.int (i*j)) else .bad
 | .lst xs,.int k=>if 0<=k/\k < 1000000/\xs.length*k.toNat<=bnd then .ok (.lst (ae k.toNat xs).flatten) else .bad
 | .tup xs,.int k=>if 2<=k/\k < 1000000/\xs ≠ []/\xs.length*k.toNat<=bnd then .ok (.tup (ae k.toNat xs).flatten) else .bad
 | _,_=> .bad
theorem xu:OpR X (binaryOp .Sub) (rG Y Wf):=by
 intro pins s σ H x y v u Q I rx ry h;obtain⟨B,t,t',sB,r,r',q⟩:=h;cases r with
 | int i=>
  cases r' with
  | int j=>exact kT _ s σ H _ _ v u Q I rx ry ⟨i,j,rfl,rfl,po0 sB q rfl (.int _)⟩
  | _=>exact q.elim
 | _=>cases r' <;> exact q.elim
theorem xv:OpR X (binaryOp .Mod) (rG Y Jc):=by
 intro pins s σ H x y v u Q I rx ry h;obtain⟨B,t,t',sB,r,r',q⟩:=h;cases r with
 | int i=>
  cases r' with
  | int j=>
   by_cases hj:0 < j
   ·exact kW _ s σ H _ _ v u Q I rx ry ⟨i,j,rfl,rfl,hj,po0 sB q (if_pos hj) (.int _)⟩
   ·rw[show Jc (.int i) (.int j)= .bad from if_neg hj]at q;exact q.elim
  | _=>exact q.elim
 | _=>cases r' <;> exact q.elim
theorem QA:OpR X (binaryOp .FloorDiv) (rG Y wf):=by
 intro pins s σ H x y v u Q I rx ry h;obtain⟨B,t,t',sB,r,r',q⟩:=h;cases r with
 | int i=>
  cases r' with
  | int j=>
   by_cases hj:0 < j/\j < 1073741824
   ·exact xf _ s σ H _ _ v u Q I rx ry ⟨i,j,rfl,rfl,hj,po0 sB q (if_pos hj) (.int _)⟩
   ·rw[show wf (.int i) (.int j)= .bad from if_neg hj]at q;exact q.elim
  | _=>exact q.elim
 | _=>cases r' <;> exact q.elim
theorem UB (l:Addr)(items:Array Value)(n:Nat)(dd:Option Addr)(sl:Array (Option Value))(x:Int)(u:Tok)(h1:2<=x)(h2:x < 1000000)(hne:items.isEmpty=false)(hsz:items.size*x.toNat<=sizeLine):
  Meets (Builtin.«tuple.__mul__» ⟨[.ref l,.int x u],[]⟩) (λ_ R s=>s.heap.get? l=some { cls:= .type "tuple",dict:=dd,data:= .seq items n,slots:=sl }/\
   R (.ok (.ret (Value.ref s.heap.objs.size))) { s with heap:=s.heap.push { cls:=Value.type "tuple",data:=Data.seq (eH (λx1 x2=>x1++x2) #[] (ae x.toNat items)) },toks:=s.toks }):=
 .of_wp λprog w A R s h=>by
  obtain⟨hl,h⟩:=h;have e0:(items.size:Int)*x=((items.size*x.toNat:Nat):Int):=by
   have:x=((x.toNat:Nat):Int):=by omega
   rw[ce,← this]
  have sl1:(sizeLine:Nat)=16777216:=bH;have c1:¬ (decide (x < -(2 ^ 63)) || decide (x ≥ 2 ^ 63))=true:=by simp;omega
  have c2:¬ (items.isEmpty || x == 1)=true:=by simp[hne];omega
  have c3:¬ (decide (x<=0) || items.isEmpty)=true:=by simp[hne];omega
  have c4:¬ ((items.size:Int)*x > (2 ^ 63 - 1) / 8):=by rw[e0];omega
  have c5:¬ eI ((items.size:Int)*x)=true:=by
   unfold eI;rw[e0];intro z;have:=of_decide_eq_true z;omega
  unfold Builtin.«tuple.__mul__»
  wp_walk using wpAny_loadPart' hl
  rw[if_neg c1]
  wp_walk using wpAny_loadPart' hl
  rw[if_neg c2]
  try dsimp only
  rw[if_neg c3]
  try dsimp only
  rw[if_neg c4]
  try dsimp only
  rw[if_neg c5]
  try dsimp only
  have hsz' :sizeOk (.seq (eH (λx1 x2=>x1++x2) #[] (ae x.toNat items))):=by
   show (eH (λx1 x2=>x1++x2) #[] _).size<=sizeLine;have:=jl items.toList x.toNat [];have q:=by
    simpa using this
   rw[q,aA,jx,c6];exact hsz
  exact a7 (aM (ag ⟨_,rfl,h⟩) hsz')
theorem jH:seqRepeat? (.type "tuple")=pure (some (.builtin "tuple.__mul__")):=by
 unfold seqRepeat?;rw[iR (name:="__mul__") dN.lookup (by decide+kernel),iR (name:="__rmul__") iz.lookup (by decide+kernel)]
 rfl
theorem ZS:fillsNumberSlot (.type "tuple") "mul"=pure false:=
 PySem.fillsNumberSlot_seq dN.lookup (by decide+kernel) iz.lookup (by decide+kernel)
theorem j9 (a:Int)(t:Tok)(l:Addr)(items:Array Value)(n:Nat)(dd:Option Addr)(sl:Array (Option Value)):
  Meets (Builtin.«int.__rmul__» ⟨[.int a t,.ref l],[]⟩) (λ_ R s=>s.heap.get? l=some { cls:= .type "tuple",dict:=dd,data:= .seq items n,slots:=sl }/\R (.ok (.ret Value.notImplemented)) s):=
 .of_wp λprog w A R s h=>by obtain⟨hl,h⟩:=h;wp_walk;exact⟨_,rfl,h⟩
theorem xw {t:Tok}(p:IsTup s.heap l its.toArray)(hne:its ≠ [])(h1:2<=k)(h2:k < 1000000)
  (hsz:its.length*k.toNat<=sizeLine) (q:Q (.ref s.heap.objs.size) { s with heap:=s.heap.push { cls:= .type "tuple",data:= .seq (ae k.toNat its).flatten.toArray } }):
  wpAny (model prog w) A (binaryOp .Mult (.ref l) (.int k t)) Q E s:=by
 obtain⟨⟨cls,dd,data,sl⟩,ho,hc,n,hd⟩:=id p;subst hc hd;refine wpAny_binaryOp_repeat_ref (by decide) ⟨_,ho,rfl⟩ (λs' =>dM s' k t) ZS fS cU jH fk.lookup
  (d9 cU (dM s k t) fq (eV _ _) (j9 k t l _ n dd sl)
   ⟨ho,rfl,⟨_,ho,rfl⟩,d9 dN ⟨_,ho,rfl⟩ iA (ib _ _) (UB l _ n dd sl k t h1 h2 (by simpa using hne) (by simpa using hsz)) ⟨ho, ?_⟩⟩)
 have:=jl its k.toNat [];rw[this];exact q
theorem yH:OpR X (binaryOp .Mult) (rG Y zN):=by
 intro pins s σ H x y v u Q I rx ry h;obtain⟨B,t,t',sB,r,r',q⟩:=h;cases r with
 | int i=>
  cases r' with
  | int j=>
   by_cases hj:WQ i j
   ·exact kU _ s σ H _ _ v u Q I rx ry ⟨i,j,rfl,rfl,hj,po0 sB q (if_pos hj) (.int _)⟩
   ·rw[show zN (.int i) (.int j)= .bad from if_neg hj]at q;exact q.elim
  | _=>exact q.elim
 | @lst l xs ts h1 r1=>
  cases r' with
  | int k=>
   by_cases hk:0<=k/\k < 1000000/\ts.length*k.toNat<=bnd
   ·have eg:zN (.lst ts) (.int k)= .ok _:=if_pos hk;exact Ka _ s σ H _ _ v u Q I rx ry ⟨l,k,xs,rfl,rfl,sB _ _ h1,by omega,by omega,by rw[r1.length];exact Zq hk.2.2,λp hp=>po1l sB q eg (r1.rep _) hp⟩
   ·rw[show zN (.lst ts) (.int k)= .bad from if_neg hk]at q;exact q.elim
  | _=>exact q.elim
 | @tup l xs ts h1 r1=>
  cases r' with
  | int k=>
   by_cases hk:2<=k/\k < 1000000/\ts ≠ []/\ts.length*k.toNat<=bnd
   ·have eg:zN (.tup ts) (.int k)= .ok _:=if_pos hk;obtain rfl:v=Value.ref l:=rx;obtain⟨tk,rfl⟩:=ry;obtain⟨its,rv,p,_⟩:=I.tuple (SqT.of (sB _ _ h1));have ln:=r1.length.symm.trans rv.length;have hne:its ≠ []:=λz=>hk.2.2.1 (by rw[z]at ln;exact cM.mp ln)
    refine xw p hne hk.1 hk.2.1 (by rw[← ln];exact Zq hk.2.2.2) ⟨.ref _,upd H _ (.tup (ae k.toNat xs).flatten),I.laid (λb u e=>ab _ e) (am _) ?_,rfl, ?_⟩
    ·exact⟨by rw[jx,r1.length,c6];exact Zq hk.2.2.2,(ae _ its).flatten,rv.rep _,⟨_,af _ rfl,rfl,_,rfl⟩,.inr ⟨_,af _ rfl,rfl⟩⟩
    ·exact Kg sB q eg (r1.rep _) (I.hok.fresh (am _))
   ·rw[show zN (.tup ts) (.int k)= .bad from if_neg hk]at q;exact q.elim
  | _=>exact q.elim
 | _=>cases r' <;> exact q.elim
theorem z1i (ha:Snd X Y a fa)(hb:Snd X Y b fb):Snd X Y (.BinOp a .Sub b pos) (zb Wf fa fb):=We xu ha hb
theorem z1j (ha:Snd X Y a fa)(hb:Snd X Y b fb):Snd X Y (.BinOp a .Mod b pos) (zb Jc fa fb):=We xv ha hb
theorem Kh (ha:Snd X Y a fa)(hb:Snd X Y b fb):Snd X Y (.BinOp a .FloorDiv b pos) (zb wf fa fb):=We QA ha hb
theorem z1k (ha:Snd X Y a fa)(hb:Snd X Y b fb):Snd X Y (.BinOp a .Mult b pos) (zb zN fa fb):=We yH ha hb
def y7 (fa:En->R T):En->R T:=λρ=>(fa ρ).bind λx=>match x with
 | .int i=> .ok (.int (-i))
 | _=> .bad
theorem z1l (ha:Snd X Y a fa):Snd X Y (.UnaryOp .USub a pos) (y7 fa):= .mk λρ=>PE.imp (z0Z kX (ha ρ)) λσ H Q ⟨B,I,q⟩=>step I q λt v H1 _ s1 r1 I1 q1=>by
 cases r1 with
 | int i=>exact⟨i,rfl,po0 I1.sB q1 rfl (.int _)⟩
 | _=>exact q1.elim
def JO (g:T->T->R Bool):R2:=λx y H Q=>∃t t' b,Rep H x t/\Rep H y t' /\g t t' = .ok b/\Q (.bl b) H
def JI (g:T->T->R Bool)(fa fb:En->R T):En->R T:=λρ=>(fa ρ).bind λx=>(fb ρ).bind λy=>(g x y).bind λb=> .ok (.bl b)
def zk (g:T->T->R Bool)(fa fb:En->R T):En->R Bool:=λρ=>(fa ρ).bind λx=>(fb ρ).bind λy=>g x y
noncomputable def Nx (g:T->T->R Bool):Prop:=∀t t' c,g t t' ≠ .ex c
theorem QB (nx:Nx g)(ho:OpR X (compareOp op) (JO g))(ha:j8 X Y a fa)(hb:j8 X Y b fb)(hm:behindInMarks op b=false):Snd X Y (.Compare a [op] [b] pos) (JI g fa fb):= .mk λρ=>
 PE.imp (xg ho (ha ρ) (hb ρ) hm) λσ H Q ⟨B,I,q⟩=>step I q λt v H1 _ s1 r1 I1 q1=>step I1 q1 λt' v' H2 _ s2 r2 I2 q2=>by
  cases e:g t t' with
  | bad=>rw[e]at q2;exact q2.elim
  | ex c=>exact absurd e (nx _ _ _)
  | ok b=>rw[e]at q2;exact⟨t,t',b,r1.mono s2,r2,e,ZJ I2 q2 (.bl b)⟩
theorem Wg (nx:Nx g)(ho:OpR X (compareOp op) (JO g))(ha:j8 X Y a fa)(hb:j8 X Y b fb)(hm:behindInMarks op b=false):Wd X Y (.Compare a [op] [b] pos) (zk g fa fb):= .mk λρ=>
 PT.imp (xh ho (ha ρ) (hb ρ) hm) λσ H Q ⟨B,I,q⟩=>step I q λt v H1 _ s1 r1 I1 q1=>step I1 q1 λt' v' H2 _ s2 r2 I2 q2=>by
  cases e:g t t' with
  | bad=>rw[e]at q2;exact q2.elim
  | ex c=>exact absurd e (nx _ _ _)
  | ok b=>rw[e]at q2;exact⟨t,t',b,r1.mono s2,r2,e,b,rfl,ZJ I2 q2 rfl⟩
def eqC (t t' :T):R Bool:=match eqF 30 t t' with
 | some b=> .ok b
 | none=> .bad
def neC (t t' :T):R Bool:=match eqF 30 t t' with
 | some b=> .ok (!b)
 | none=> .bad
theorem Ki:Nx eqC:=λt t' c h=>by unfold eqC at h;split at h <;> cases h
theorem z1m:Nx neC:=λt t' c h=>by unfold neC at h;split at h <;> cases h
theorem V6 (hu:X.A.units+64 < cLine):OpR X (compareOp .Eq) (JO eqC):=by
 intro pins s σ H x y v u Q I rx ry h;obtain⟨t,t',b,r,r',e,q⟩:=h;unfold eqC at e;split at e
 ·rename_i k ek;have e' :=by injection e
  subst e';exact(Qy I 30 X.A (by omega) t t' k x y v u ek r r' rx ry).2.1 _ _ _ _ ⟨.bl k,H,I,rfl,q⟩
 ·cases e
theorem Kj (hu:X.A.units+64 < cLine):OpR X (compareOp .NotEq) (JO neC):=by
 intro pins s σ H x y v u Q I rx ry h;obtain⟨t,t',b,r,r',e,q⟩:=h;unfold neC at e;split at e
 ·rename_i k ek;cases e;exact(Qy I 30 X.A (by omega) t t' k x y v u ek r r' rx ry).2.2 _ _ _ _ ⟨.bl _,H,I,rfl,q⟩
 ·cases e
noncomputable def ltC:T->T->R Bool
 | .int i,.int j=> .ok (decide (i < j))
 | _,_=> .bad
noncomputable def leC:T->T->R Bool
 | .int i,.int j=> .ok (decide (i<=j))
 | .str x,.str y=> .ok (!decide (y.cps.toList < x.cps.toList))
 | _,_=> .bad
noncomputable def gtC:T->T->R Bool
 | .int i,.int j=> .ok (decide (j < i))
 | _,_=> .bad
theorem Kk:Nx ltC:=λt t' c h=>by unfold ltC at h;split at h <;> cases h
theorem wg:Nx leC:=λt t' c h=>by unfold leC at h;split at h <;> cases h
theorem z1n:Nx gtC:=λt t' c h=>by unfold gtC at h;split at h <;> cases h
theorem V7:OpR X (compareOp .Lt) (JO ltC):=by
 intro pins s σ H x y v u Q I rx ry h;obtain⟨t,t',b,r,r',e,q⟩:=h;unfold ltC at e;split at e
 ·rename_i i j;cases e;cases r;cases r';exact z11 _ s σ H _ _ v u Q I rx ry ⟨i,j,rfl,rfl,q⟩
 ·cases e
theorem Kl:OpR X (compareOp .Gt) (JO gtC):=by
 intro pins s σ H x y v u Q I rx ry h;obtain⟨t,t',b,r,r',e,q⟩:=h;unfold gtC at e;split at e
 ·rename_i i j;cases e;cases r;cases r';exact z13 _ s σ H _ _ v u Q I rx ry ⟨i,j,rfl,rfl,q⟩
 ·cases e
theorem jn:OpR X (compareOp .LtE) (JO leC):=by
 intro pins s σ H x y v u Q I rx ry h;obtain⟨t,t',b,r,r',e,q⟩:=h;unfold leC at e;split at e
 ·rename_i i j;cases e;cases r;cases r';exact z12 _ s σ H _ _ v u Q I rx ry ⟨i,j,rfl,rfl,q⟩
 ·cases e;cases r;cases r';obtain⟨t1,rfl⟩:=rx;obtain⟨t2,rfl⟩:=ry;exact PySem.P.le_str ⟨.bl _,H,I,rfl,q⟩
 ·cases e
end
section
variable {X:Cx}{Y:Fx}{a b c d:Expr}{fa fb fc fd:En->R T}{pos:Pos}
noncomputable def wX (f:T->Option Bool):List T->Option Bool
 | []=>some false
 | t :: r=>match f t with
  | none=>none
  | some b=>match wX f r with
   | none=>none
   | some c=>some (b || c)
def inC (t t' :T):R Bool:=match t' with
 | .tup ys=>match wX (λy=>eqF 30 y t) ys with | some b=> .ok b | none=> .bad
 | .lst ys=>match wX (λy=>eqF 30 y t) ys with | some b=> .ok b | none=> .bad
 | _=> .bad
def QC (t t' :T):R Bool:=(inC t t').bind λb=> .ok (!b)
theorem QD:Nx inC:=λt t' c h=>by
 unfold inC at h;split at h
 ·split at h <;> cases h
 ·split at h <;> cases h
 ·cases h
theorem Km:Nx QC:=λt t' c h=>by
 unfold QC at h;cases e:inC t t' with
 | bad=>rw[e]at h;cases h
 | ex k=>exact absurd e (QD _ _ _)
 | ok k=>rw[e]at h;cases h
open Classical in
theorem yI (f:T->Option Bool):∃e:Value->Bool,∀(v:V) (t:T) (u:Value) (b:Bool),Z3 v u->Rep H v t->f t=some b->e u=b:=by
 refine⟨λu=>decide (∃v t,Z3 v u/\Rep H v t/\f t=some true),λv t u b rv r e=> ?_⟩;cases b with
 | true=>exact decide_eq_true ⟨v,t,rv,r,e⟩
 | false=>
  refine decide_eq_false ?_
  rintro⟨v',t',rv',r',e'⟩
  have:=rv.inj rv';subst this;have:=r.fn r';subst this;rw[e]at e';cases e'
theorem yJ {H:Hp}{f:T->Option Bool}{e:Value->Bool}(he:∀(v:V) (t:T) (u:Value) (b:Bool),Z3 v u->Rep H v t->f t=some b->e u=b):∀{xs:List V} {ts:List T} {its:List Value} {b:Bool},
  zU xs its->zC H xs ts->wX f ts=some b->its.any e=b/\∀u∈its,∃v t k,Z3 v u/\Rep H v t/\f t=some k
 | _,_,_,b,.nil,.nil,h=>by
  have h' :=h;cases h';exact⟨rfl,λu hu=>by simp at hu⟩
 | _,_,_,b,.cons rv vs,.cons r rs,h=>by
  rename_i v u vals us t ts;unfold wX at h;cases q:f t with
  | none=>rw[q]at h;cases h
  | some k=>
   rw[q]at h;cases q' :wX f ts with
   | none=>rw[q']at h;cases h
   | some k' =>
    rw[q']at h;cases h;obtain⟨h1,h2⟩:=yJ he vs rs q';refine⟨by rw[i8,h1,he v t u k rv r q],λw hw=> ?_⟩
    rcases aj.mp hw with rfl | hw
    ·exact⟨v,t,k,rv,r,q⟩
    ·exact h2 w hw
theorem yK (hu:X.A.units+64 < cLine)(neg:Bool):OpR X (compareOp (if neg then .NotIn else .In)) (JO (if neg then QC else inC)):=by
 intro pins s σ H x y v u Q I rx ry h;obtain⟨t,t',b,r,r',e,q⟩:=h;have hs:∃k,inC t t' = .ok k/\b=(if neg then !k else k):=by
  cases neg with
  | false=>exact⟨b,e,rfl⟩
  | true=>
   have e' :QC t t' = .ok b:=e;unfold QC at e';cases z:inC t t' with
   | bad=>rw[z]at e';cases e'
   | ex k=>exact absurd z (QD _ _ _)
   | ok k=>rw[z]at e';cases e';exact⟨k,rfl,rfl⟩
 obtain⟨k,ek,rfl⟩:=hs;unfold inC at ek;obtain⟨f,hf⟩:=yI λy=>eqF 30 y t;have eqa:∀w,(∃v t' k,Z3 v w/\Rep H v t' /\eqF 30 t' t=some k)->d8 X.A.in1 s w v (f w):=λw ⟨v',t',k,rv,rr,ee⟩=>by
  rw[hf v' t' w k rv rr ee];exact(Qy I 30 _ (by rw[Jb];omega) t' t k v' x w v ee rr r rv rx).1
 split at ek
 ·split at ek
  ·rename_i k' hk;cases ek;cases r' with
   | @tup l xs _ h1 r1=>
    obtain rfl:u=Value.ref l:=ry;obtain⟨its,rv,p,_⟩:=Zy I h1 r1;obtain⟨h2,h3⟩:=yJ hf rv r1 hk;have h4:its.toArray.any f=k:=by simpa using h2
    cases neg with
    | false=>exact SeqAt.in_tupleAt f p (λw hw=>eqa w (h3 w (by simpa using hw))) (by rw[h4];exact⟨.bl k,H,I,rfl,q⟩)
    | true=>exact SeqAt.notIn_tupleAt f p (λw hw=>eqa w (h3 w (by simpa using hw))) (by rw[h4];exact⟨.bl _,H,I,rfl,q⟩)
  ·cases ek
 ·split at ek
  ·rename_i k' hk;cases ek;cases r' with
   | @lst l xs _ h1 r1=>
    obtain rfl:u=Value.ref l:=ry;obtain⟨its,rv,p,_⟩:=zI I (.inl h1) r1;obtain⟨h2,h3⟩:=yJ hf rv r1 hk;have h4:its.toArray.any f=k:=by simpa using h2
    cases neg with
    | false=>exact SeqAt.in_listAt f p (λw hw=>eqa w (h3 w (by simpa using hw))) (by rw[h4];exact⟨.bl k,H,I,rfl,q⟩)
    | true=>exact SeqAt.notIn_listAt f p (λw hw=>eqa w (h3 w (by simpa using hw))) (by rw[h4];exact⟨.bl _,H,I,rfl,q⟩)
  ·cases ek
 ·cases ek
theorem V8 (hu:X.A.units+64 < cLine):OpR X (compareOp .In) (JO inC):=yK hu false
theorem xx (hu:X.A.units+64 < cLine):OpR X (compareOp .NotIn) (JO QC):=yK hu true
noncomputable def QE (t t' :T):R Bool:=match t' with
 | .non=>match t with | .non=> .ok true | _=> .ok false
 | .bl k=>match t with | .bl j=> .ok (j == k) | _=> .ok false
 | _=> .bad
def wj (t t' :T):R Bool:=(QE t t').bind λb=> .ok (!b)
theorem xy:Nx QE:=λt t' c h=>by
 unfold QE at h;split at h
 ·split at h <;> cases h
 ·split at h <;> cases h
 ·cases h
theorem V9:Nx wj:=λt t' c h=>by
 unfold wj at h;cases e:QE t t' with
 | bad=>rw[e]at h;cases h
 | ex k=>exact absurd e (xy _ _ _)
 | ok k=>rw[e]at h;cases h
theorem yL (neg:Bool):OpR X (compareOp (if neg then .IsNot else .Is)) (JO (if neg then wj else QE)):=by
 intro pins s σ H x y v u Q I rx ry h;obtain⟨t,t',b,r,r',e,q⟩:=h;have hs:∃k,QE t t' = .ok k/\b=(if neg then !k else k):=by
  cases neg with
  | false=>exact⟨b,e,rfl⟩
  | true=>
   have e' :wj t t' = .ok b:=e;unfold wj at e';cases z:QE t t' with
   | bad=>rw[z]at e';cases e'
   | ex k=>exact absurd z (xy _ _ _)
   | ok k=>rw[z]at e';cases e';exact⟨k,rfl,rfl⟩
 obtain⟨k,ek,rfl⟩:=hs;have go:plainIs v u=true/\(v == u)=k:=by
  cases r' with
  | non=>
   obtain rfl:u=Value.none:=ry;cases r with
   | non=>obtain rfl:v=Value.none:=rx;cases ek;exact⟨rfl,rfl⟩
   | bl j=>obtain rfl:v=Value.bool j:=rx;cases ek;exact⟨rfl,rfl⟩
   | int j=>obtain⟨t,rfl⟩:=rx;cases ek;exact⟨rfl,rfl⟩
   | str j=>obtain⟨t,rfl⟩:=rx;cases ek;exact⟨rfl,rfl⟩
   | tup _ _=>obtain rfl:v=Value.ref _:=rx;cases ek;exact⟨rfl,rfl⟩
   | lst _ _=>obtain rfl:v=Value.ref _:=rx;cases ek;exact⟨rfl,rfl⟩
   | fz _ _=>obtain rfl:v=Value.ref _:=rx;cases ek;exact⟨rfl,rfl⟩
  | bl k' =>
   obtain rfl:u=Value.bool k' :=ry;cases r with
   | non=>obtain rfl:v=Value.none:=rx;cases ek;exact⟨rfl,rfl⟩
   | bl j=>obtain rfl:v=Value.bool j:=rx;cases ek;exact⟨rfl,by cases j <;> cases k' <;> rfl⟩
   | int j=>obtain⟨t,rfl⟩:=rx;cases ek;exact⟨rfl,rfl⟩
   | str j=>obtain⟨t,rfl⟩:=rx;cases ek;exact⟨rfl,rfl⟩
   | tup _ _=>obtain rfl:v=Value.ref _:=rx;cases ek;exact⟨rfl,rfl⟩
   | lst _ _=>obtain rfl:v=Value.ref _:=rx;cases ek;exact⟨rfl,rfl⟩
   | fz _ _=>obtain rfl:v=Value.ref _:=rx;cases ek;exact⟨rfl,rfl⟩
  | _=>cases ek
 cases neg with
 | false=>exact wpAny_is_plain go.1 (by rw[go.2];exact⟨.bl k,H,I,rfl,q⟩)
 | true=>exact wpAny_isNot_plain go.1 (by rw[go.2];exact⟨.bl _,H,I,rfl,q⟩)
theorem Kn:OpR X (compareOp .Is) (JO QE):=yL false
theorem yM:OpR X (compareOp .IsNot) (JO wj):=yL true
def chE (g g' :T->T->R Bool)(fa fb fc:En->R T):En->R T:=λρ=>(fa ρ).bind λx=>(fb ρ).bind λy=>(g x y).bind λk=>if k=true then (fc ρ).bind λz=>(g' y z).bind λk' => .ok (.bl k') else .ok (.bl false)
def chT (g g' :T->T->R Bool)(fa fb fc:En->R T):En->R Bool:=λρ=>(fa ρ).bind λx=>(fb ρ).bind λy=>(g x y).bind λk=>if k=true then (fc ρ).bind λz=>g' y z else .ok false
theorem xz (nx:Nx g)(nx' :Nx g')(ho:OpR X (compareOp op) (JO g))(ho' :OpR X (compareOp op') (JO g'))(ha:j8 X Y a fa)(hb:j8 X Y b fb)(hc:j8 X Y c fc)
  (hm:lastMarks [op,op'] [b,c]=false:=by with_unfolding_all rfl):Snd X Y (.Compare a [op,op'] [b,c] pos) (chE g g' fa fb fc):= .mk λρ=>
 PE.imp (Qr ho ho' (ha ρ) (hb ρ) (hc ρ) hm) λσ H Q ⟨B,I,q⟩=>step I q λt v H1 _ s1 r1 I1 q1=>step I1 q1 λt' v' H2 _ s2 r2 I2 q2=>by
  cases e:g t t' with
  | bad=>rw[e]at q2;exact q2.elim
  | ex c=>exact absurd e (nx _ _ _)
  | ok k=>
   rw[e]at q2;refine⟨t,t',k,r1.mono s2,r2,e,k,rfl, ?_⟩;cases k with
   | false=>exact ZJ I2 q2 (.bl _)
   | true=>
    refine step I2 q2 λt3 v3 H3 _ s3 r3 I3 q3=> ?_
    ·cases e:g' t' t3 with
     | bad=>rw[e]at q3;exact q3.elim
     | ex c=>exact absurd e (nx' _ _ _)
     | ok k=>rw[e]at q3;exact⟨t',t3,k,r2.mono s3,r3,e,ZJ I3 q3 (.bl k)⟩
theorem yN (nx:Nx g)(nx' :Nx g')(ho:OpR X (compareOp op) (JO g))(ho' :OpR X (compareOp op') (JO g'))(ha:j8 X Y a fa)(hb:j8 X Y b fb)(hc:j8 X Y c fc)
  (hm:lastMarks [op,op'] [b,c]=false:=by with_unfolding_all rfl):Wd X Y (.Compare a [op,op'] [b,c] pos) (chT g g' fa fb fc):= .mk λρ=>
 PT.imp (Qs ho ho' (ha ρ) (hb ρ) (hc ρ) hm) λσ H Q ⟨B,I,q⟩=>step I q λt v H1 _ s1 r1 I1 q1=>step I1 q1 λt' v' H2 _ s2 r2 I2 q2=>by
  cases e:g t t' with
  | bad=>rw[e]at q2;exact q2.elim
  | ex c=>exact absurd e (nx _ _ _)
  | ok k=>
   rw[e]at q2;refine⟨t,t',k,r1.mono s2,r2,e,k,rfl, ?_⟩;cases k with
   | false=>exact⟨false,rfl,ZJ I2 q2 rfl⟩
   | true=>
    refine step I2 q2 λt3 v3 H3 _ s3 r3 I3 q3=> ?_
    ·cases e:g' t' t3 with
     | bad=>rw[e]at q3;exact q3.elim
     | ex c=>exact absurd e (nx' _ _ _)
     | ok k=>rw[e]at q3;exact⟨t',t3,k,r2.mono s3,r3,e,k,rfl,ZJ I3 q3 rfl⟩
def xA (r r' r'' :R2)(ta tb tc td:TE):TE:=λσ H Q=>ta σ H λx H1=>tb σ H1 λy H2=>r x y H2 λz H3=>∃k,z= .bl k/\
 (if k=true then tc σ H3 λw' H4=>r' y w' H4 λz' H5=>∃k',z' = .bl k' /\(if k' =true then td σ H5 λw2 H6=>r'' w' w2 H6 Q else Q (.bl false) H5) else Q (.bl false) H3)
theorem yO (ho:OpR X (compareOp op) r)(ho' :OpR X (compareOp op') r')(ho'' :OpR X (compareOp op'') r'')(ha:PE X a ta)(hb:PE X b tb)(hc:PE X c tc)(hd:PE X d td)
  (hm:lastMarks [op,op',op''] [b,c,d]=false:=by with_unfolding_all rfl):PE X (.Compare a [op,op',op''] [b,c,d] pos) (xA r r' r'' ta tb tc td):=by
 intro pins s σ H Q I h;refine Compare_chain (thn (ha _ s σ H _ I h) λv s1 ⟨x,H1,I1,r1,q1⟩=>chain_link (thn (hb _ s1 σ H1 _ I1 q1) λu s2 ⟨y,H2,I2,r2,q2⟩=>
  thn (ho _ s2 σ H2 x y v u _ I2 r1 r2 q2) λd' s3 ⟨z,H3,I3,r3,k,e,q3⟩=> ?_)) hm
 subst e;cases r3;refine bi ?_;cases k with
 | false=>exact ite_ff ⟨.bl _,H3,I3,rfl,q3⟩
 | true=>
  refine ite_tt (chain_link (thn (hc _ s3 σ H3 _ I3 q3) λw' s4 ⟨z',H4,I4,r4,q4⟩=>thn (ho' _ s4 σ H4 y z' u w' _ I4 r2 r4 q4) λd2 s5 ⟨z5,H5,I5,r5,k5,e5,q5⟩=> ?_));subst e5;cases r5;refine bi ?_;cases k5 with
  | false=>exact ite_ff ⟨.bl _,H5,I5,rfl,q5⟩
  | true=>exact ite_tt (chain_last (thn (hd _ s5 σ H5 _ I5 q5) λw6 s6 ⟨z6,H6,I6,r6,q6⟩=>ho'' _ s6 σ H6 z' z6 w' w6 Q I6 r4 r6 q6))
def ch3E (g g' g'' :T->T->R Bool)(fa fb fc fd:En->R T):En->R T:=λρ=>(fa ρ).bind λx=>(fb ρ).bind λy=>(g x y).bind λk=>if k=true then (fc ρ).bind λz=>(g' y z).bind λk' =>
 if k' =true then (fd ρ).bind λw=>(g'' z w).bind λk'' => .ok (.bl k'') else .ok (.bl false) else .ok (.bl false)
theorem QF (nx:Nx g)(nx' :Nx g')(nx'' :Nx g'')(ho:OpR X (compareOp op) (JO g))(ho' :OpR X (compareOp op') (JO g'))(ho'' :OpR X (compareOp op'') (JO g''))
  (ha:j8 X Y a fa) (hb:j8 X Y b fb) (hc:j8 X Y c fc) (hd:j8 X Y d fd)
  (hm:lastMarks [op,op',op''] [b,c,d]=false:=by with_unfolding_all rfl):Snd X Y (.Compare a [op,op',op''] [b,c,d] pos) (ch3E g g' g'' fa fb fc fd):= .mk λρ=>
 PE.imp (yO ho ho' ho'' (ha ρ) (hb ρ) (hc ρ) (hd ρ) hm) λσ H Q ⟨B,I,q⟩=>step I q λt v H1 _ s1 r1 I1 q1=>step I1 q1 λt' v' H2 _ s2 r2 I2 q2=>by
  cases e:g t t' with
  | bad=>rw[e]at q2;exact q2.elim
  | ex c=>exact absurd e (nx _ _ _)
  | ok k=>
   rw[e]at q2;refine⟨t,t',k,r1.mono s2,r2,e,k,rfl, ?_⟩;cases k with
   | false=>exact ZJ I2 q2 (.bl _)
   | true=>
    refine step I2 q2 λt3 v3 H3 _ s3 r3 I3 q3=> ?_
    ·cases e:g' t' t3 with
     | bad=>rw[e]at q3;exact q3.elim
     | ex c=>exact absurd e (nx' _ _ _)
     | ok k=>
      rw[e]at q3;refine⟨t',t3,k,r2.mono s3,r3,e,k,rfl, ?_⟩;cases k with
      | false=>exact ZJ I3 q3 (.bl _)
      | true=>
       refine step I3 q3 λt4 v4 H4 _ s4 r4 I4 q4=> ?_
       ·cases e:g'' t3 t4 with
        | bad=>rw[e]at q4;exact q4.elim
        | ex c=>exact absurd e (nx'' _ _ _)
        | ok k=>rw[e]at q4;exact⟨t3,t4,k,r3.mono s4,r4,e,ZJ I4 q4 (.bl k)⟩
variable {rest:List Expr}{ga gb:En->R Bool}
def Jd (fa fb:En->R T):En->R T:=λρ=>(fa ρ).bind λx=>match x with
 | .bl true=>fb ρ
 | .bl false=> .ok (.bl false)
 | _=> .bad
def notE (fa:En->R T):En->R T:=λρ=>(fa ρ).bind λx=>match x with
 | .bl k=> .ok (.bl (!k))
 | _=> .bad
theorem z1o {op}(h:Snd X Y a fa):Snd X Y (.BoolOp op [a] pos) fa:= .mk λρ=>kK (h ρ)
theorem z1p (ha:Snd X Y a fa)(hb:Snd X Y (.BoolOp .And (b :: rest) pos) fb):Snd X Y (.BoolOp .And (a :: b :: rest) pos) (Jd fa fb):= .mk λρ=>
 PE.imp (kL (ha ρ) (hb ρ)) λσ H Q ⟨B,I,q⟩=>step I q λt v H1 _ s1 r1 I1 q1=>by
  cases r1 with
  | bl k=>
   refine⟨k,rfl, ?_⟩;cases k with
   | true=>exact⟨_,I1,q1⟩
   | false=>exact ZJ I1 q1 (.bl _)
  | _=>exact q1.elim
theorem z1q (ha:Snd X Y a fa):Snd X Y (.UnaryOp .Not a pos) (notE fa):= .mk λρ=>
 PE.imp (kM (ha ρ)) λσ H Q ⟨B,I,q⟩=>step I q λt v H1 _ s1 r1 I1 q1=>by
  cases r1 with
  | bl k=>exact⟨k,rfl,ZJ I1 q1 (.bl _)⟩
  | _=>exact q1.elim
structure y8 (X:Cx) (Y:Fx) (e:Expr) (f:En->R Bool):Prop where
 mk ::
 go:∀ρ,PW X e (tS Y rE f ρ)
instance {X:Cx}{Y:Fx}{e:Expr}{f:En->R Bool}:CoeFun (y8 X Y e f) λ_=>∀ρ,PW X e (tS Y rE f ρ):=⟨y8.go⟩
theorem y8.t (h:y8 X Y e f):Wd X Y e f:= .mk λρ=>(h ρ).pt
theorem PW.imp (h:PW X e t)(i:∀σ H Q,t' σ H Q->t σ H Q):PW X e t' :=λwh pins s σ H Q I q=>h wh _ s σ H Q I (i σ H Q q)
def z01 (fa fb:En->R Bool):En->R Bool:=λρ=>(fa ρ).bind λx=>if x=true then fb ρ else .ok false
def orT (fa fb:En->R Bool):En->R Bool:=λρ=>(fa ρ).bind λx=>if x=true then .ok true else fb ρ
def uH (fa:En->R Bool):En->R Bool:=λρ=>(fa ρ).bind λx=> .ok (!x)
theorem Ko (h:Wd X Y a ga):y8 X Y (.BoolOp .And [a] pos) ga:= .mk λρ=>xa (h ρ)
theorem z1r (h:Wd X Y a ga):y8 X Y (.BoolOp .Or [a] pos) ga:= .mk λρ=>kH (h ρ)
theorem z1s (ha:Wd X Y a ga)(hb:y8 X Y (.BoolOp .And (b :: rest) pos) gb):y8 X Y (.BoolOp .And (a :: b :: rest) pos) (z01 ga gb):= .mk λρ=>
 PW.imp (kI (ha ρ) (hb ρ)) λσ H Q ⟨B,I,q⟩=>step I q λt v H1 _ s1 r1 I1 q1=>by
  have r1' :=r1;subst r1';cases v with
  | true=>exact⟨_,I1,q1⟩
  | false=>exact ZJ I1 q1 rfl
theorem w_or (ha:Wd X Y a ga)(hb:y8 X Y (.BoolOp .Or (b :: rest) pos) gb):y8 X Y (.BoolOp .Or (a :: b :: rest) pos) (orT ga gb):= .mk λρ=>
 PW.imp (z0O (ha ρ) (hb ρ)) λσ H Q ⟨B,I,q⟩=>step I q λt v H1 _ s1 r1 I1 q1=>by
  have r1' :=r1;subst r1';cases v with
  | false=>exact⟨_,I1,q1⟩
  | true=>exact ZJ I1 q1 rfl
theorem z1t (ha:Wd X Y a ga):Wd X Y (.UnaryOp .Not a pos) (uH ga):= .mk λρ=>
 PT.imp (kJ (ha ρ)) λσ H Q ⟨B,I,q⟩=>step I q λt v H1 _ s1 r1 I1 q1=>by
  have r1' :=r1;subst r1';exact ZJ I1 q1 rfl
noncomputable def tru:T->R Bool
 | .bl k=> .ok k
 | .non=> .ok false
 | .int i=> .ok (i != 0)
 | .tup xs=> .ok (!xs.isEmpty)
 | .lst xs=> .ok (!xs.isEmpty)
 | _=> .bad
def WX (fa:En->R T):En->R Bool:=λρ=>(fa ρ).bind tru
theorem isE (r:zC H xs ts):(!xs.isEmpty)= !ts.isEmpty:=by cases r <;> rfl
theorem z1u (ha:j8 X Y a fa)(he:∀whole,isTrue a X.env whole=(do let v ← whole;standAt a.pos;holding [v] (truthy v)):=by intro _;rfl):Wd X Y a (WX fa):= .mk λρ=>
 PT.imp (Qt (ha ρ) he) λσ H Q ⟨B,I,q⟩=>step I q λt v H1 _ s1 r1 I1 q1=>by
  cases r1 with
  | bl k=>exact⟨k,rfl,ZJ I1 q1 rfl⟩
  | non=>exact⟨false,rfl,ZJ I1 q1 rfl⟩
  | int i=>exact⟨_,rfl,ZJ I1 q1 rfl⟩
  | tup h r=>exact⟨_,.inr (.inl ⟨_,SqT.of h,rfl⟩),ZJ I1 q1 (isE r)⟩
  | lst h r=>exact⟨_,.inl ⟨_,SqL.of h,rfl⟩,ZJ I1 q1 (isE r)⟩
  | _=>exact q1.elim
def ifE (g:En->R Bool)(fa fb:En->R T):En->R T:=λρ=>(g ρ).bind λk=>if k=true then fa ρ else fb ρ
theorem s_if (hc:Wd X Y c ga)(ha:Snd X Y a fa)(hb:Snd X Y b fb):Snd X Y (.IfExp c a b pos) (ifE ga fa fb):= .mk λρ=>
 PE.imp (Qp (hc ρ) (ha ρ) (hb ρ)) λσ H Q ⟨B,I,q⟩=>step I q λt v H1 _ s1 r1 I1 q1=>by
  have r1' :=r1;subst r1';cases v with
  | true=>exact⟨_,I1,q1⟩
  | false=>exact⟨_,I1,q1⟩
end
end PV
namespace PV
open PySem PySem.Spec PyProof.Rows L2
section
variable {X:Cx}{Y:Fx}{a b c d:Expr}{fa fb fc fd:En->R T}{pos p:Pos}
def ap1 (g:T->R T)(fa:En->R T):En->R T:=λρ=>(fa ρ).bind g
noncomputable abbrev St1 (X:Cx)(a:Expr):Prop:=starEach [a] X.env=[(false,eval a X.env)]
theorem uI {id:String}{x:Str}{r:List V->Hp->VK->Prop}{g:T->R T}(hc:Zb X (.builtin id) r)(hr:∀v t B H Q,Rep H v t->zp B H->Po Y rC B H (g t) Q->r [v] H Q)
  (gl:Gl X x) (mg:X.mg x=none) (bt:bootBuiltins x=some (.builtin id)) (ha:j8 X Y a fa) (hs:St1 X a:=by exact st1 rfl) (hn:x ≠ "__name__":=by decide) (hd:(x == ("__debug__":Str))=false:=by decide):Snd X Y (.Call (.Name x p) [a] [] pos) (ap1 g fa):= .mk λρ=>
 PE.imp (Zv hc gl mg bt (zl (ha ρ) zK hs) hn hd hs rfl) λσ H Q ⟨B,I,q⟩=>step I q λt v H1 _ s1 r1 I1 q1=>hr v t _ H1 Q r1 I1.sB q1
theorem Va {id:String}{x:Str}{r:List V->Hp->VK->Prop}{g:T->R T}(hc:Zb X (.type id) r)(hr:∀v t B H Q,Rep B v t->zp B H->Po Y rC B H (g t) Q->r [v] H Q)
  (gl:Gl X x) (mg:X.mg x=none) (bt:bootBuiltins x=some (.type id)) (ha:Snd X Y a fa) (hs:St1 X a:=by exact st1 rfl) (hn:x ≠ "__name__":=by decide) (hd:(x == ("__debug__":Str))=false:=by decide):Snd X Y (.Call (.Name x p) [a] [] pos) (ap1 g fa):= .mk λρ=>
 PE.imp (ZD hc gl mg bt (zl (ha ρ) zK hs) hn hd hs rfl) λσ H Q ⟨B,I,q⟩=>step I q λt v H1 _ s1 r1 I1 q1=>hr v t _ H1 Q r1 I1.sB q1
def Zo:T->R T
 | .tup xs=> .ok (.int xs.length)
 | .lst xs=> .ok (.int xs.length)
 | .fz xs=> .ok (.int xs.length)
 | .str x=>if x.length<=bnd then .ok (.int x.length) else .bad
 | _=> .bad
theorem z1v (v:V)(t:T)(B H:Hp)(Q:VK)(r:Rep H v t)(sB:zp B H)(q:Po Y rC B H (Zo t) Q):
  (∃p ys,[v]=[V.ref p]/\(SqL X.K H p ys\/SqT X.K H p ys)/\Q (V.int ys.length) H)\/(∃z,[v]=[V.str z]/\z.length<=sizeLine/\Q (V.int z.length) H):=by
 cases r with
 | tup h r=>exact .inl ⟨_,_,rfl,.inr (SqT.of h),po0 sB q rfl (by rw[r.length];exact .int _)⟩
 | lst h r=>exact .inl ⟨_,_,rfl,.inl (SqL.of h),po0 sB q rfl (by rw[r.length];exact .int _)⟩
 | fz h r=>exact .inl ⟨_,_,rfl,.inl (.inl (.inr ⟨_,h⟩)),po0 sB q rfl (by rw[r.length];exact .int _)⟩
 | str x=>
  by_cases hb:x.length<=bnd
  ·exact .inr ⟨x,rfl,Zq hb,po0 sB q (if_pos hb) (.int _)⟩
  ·rw[show Zo (.str x)= .bad from if_neg hb]at q;exact q.elim
 | _=>exact q.elim
theorem z1w (gl:Gl X "len")(mg:X.mg "len"=none)(ha:j8 X Y a fa)(hs:St1 X a:=by exact st1 rfl):Snd X Y (.Call (.Name "len" p) [a] [] pos) (ap1 Zo fa):=
 uI (W8.or W9) z1v gl mg PySem.boot_len ha hs
noncomputable def yP:T->R T
 | .tup xs=> .ok (.tup xs)
 | .lst xs=> .ok (.tup xs)
 | _=> .bad
theorem z1x (v:V)(t:T)(B H:Hp)(Q:VK)(r:Rep B v t)(sB:zp B H)(q:Po Y rC B H (yP t) Q):
  ∃p ys,[v]=[V.ref p]/\((SqL X.K H p ys/\∀l,H l=none->Q (.ref l) (upd H l (.tup ys)))\/(SqT X.K H p ys/\Q (.ref p) H)):=by
 cases r with
 | tup h r=>exact⟨_,_,rfl,.inr ⟨SqT.of (sB _ _ h),po0 sB q rfl (.tup h r)⟩⟩
 | lst h r=>exact⟨_,_,rfl,.inl ⟨SqL.of (sB _ _ h),λl hl=>Kg sB q rfl r hl⟩⟩
 | _=>exact q.elim
theorem xB (gl:Gl X "tuple")(mg:X.mg "tuple"=none)(ha:Snd X Y a fa)(hs:St1 X a:=by exact st1 rfl):Snd X Y (.Call (.Name "tuple" p) [a] [] pos) (ap1 yP fa):=
 Va wd z1x gl mg (PyProof.Rows.Boot.«tuple») ha hs
noncomputable def tyN:T->String
 | .non=>"NoneType"
 | .bl _=>"bool"
 | .int _=>"int"
 | .str _=>"str"
 | .tup _=>"tuple"
 | .lst _=>"list"
 | .fz _=>"list"
def isT (n:String)(t:T):Bool:=tyN t == n || (n == "int" && tyN t == "bool")
theorem z1y (K:ai)(r:Rep H v t):Uz K H v (.type (tyN t)):=by
 cases r with
 | non=>exact .non
 | bl b=>exact .bl b
 | int b=>exact .int b
 | str b=>exact .str b
 | tup h _=>exact .tup h
 | lst h _=>exact .lst h
 | fz h _=>exact .frz h
theorem QG:Zb X (.builtin "isinstance") (λxs H Q=>∃v n t,xs=[v,.ty n]/\Rep H v t/\cJ X.K (.type (tyN t)) (.type n)=some (isT n t)/\Q (.bl (isT n t)) H):=by
 intro pins s σ H xs us Q I rv h;obtain⟨v,n,t,rfl,r,hk,q⟩:=h;obtain⟨u,w,rfl,ru,rw'⟩:=Uy rv;obtain rfl:w=Value.type n:=rw';exact yx I ru (z1y X.K r) hk λtk=>⟨.bl _,H,I.tok tk,rfl,q⟩
def UC (n:String)(t:T):R T:= .ok (.bl (isT n t))
theorem xC (K:ai)(t:T):cJ K (.type (tyN t)) (.type "int")=some (isT "int" t):=by cases t <;> rfl
theorem QH (K:ai)(t:T):cJ K (.type (tyN t)) (.type "bool")=some (isT "bool" t):=by cases t <;> rfl
theorem xD (K:ai)(t:T):cJ K (.type (tyN t)) (.type "str")=some (isT "str" t):=by cases t <;> rfl
theorem yQ (K:ai)(t:T):cJ K (.type (tyN t)) (.type "tuple")=some (isT "tuple" t):=by cases t <;> rfl
theorem QI (hk:∀t,cJ X.K (.type (tyN t)) (.type n)=some (isT n t))(gl:Gl X "isinstance")(mg:X.mg "isinstance"=none)(gl' :Gl X (bM n))(mg' :X.mg (bM n)=none)(bt:bootBuiltins (bM n)=some (.type n))(ha:j8 X Y a fa)
  (hs:starEach [a,.Name (bM n) p'] X.env=[(false,eval a X.env),(false,eval (.Name (bM n) p') X.env)]:=by exact st2 rfl rfl) (hs2:starEach [.Name (bM n) p'] X.env=[(false,eval (.Name (bM n) p') X.env)]:=by exact st1 rfl)
  (hn:bM n ≠ "__name__":=by decide) (hd:(bM n == ("__debug__":Str))=false:=by decide) (hz:((backTo pos (starEach [.Name (bM n) p'] X.env)).any λx=>x.fst)=false:=by exact j3 rfl):
  Snd X Y (.Call (.Name "isinstance" p) [a,.Name (bM n) p'] [] pos) (ap1 (UC n) fa):= .mk λρ=>
 PE.imp (Zv QG gl mg PyProof.Rows.Boot.«isinstance» (zl (ha ρ) (zl (x9 (v:= .ty n) gl' mg' bt rfl hn hd) zK hs2) (by rw[hs,hs2])) (by decide) (by decide) (by rw[hs,hs2]) hz) λσ H Q ⟨B,I,q⟩=>
  step I q λt v H1 _ s1 r1 I1 q1=>⟨v,n,t,rfl,r1,hk t,po0 I1.sB q1 rfl (.bl _)⟩
def atT (xs:List T)(i:Int):R T:=match atI xs i with
 | some t=> .ok t
 | none=> .bad
def ixT:T->T->R T
 | .tup xs,.int i=>atT xs i
 | .lst xs,.int i=>atT xs i
 | .fz xs,.int i=>atT xs i
 | .str z,.int i=>if z.length<=bnd then match atI z.cps.toList i with | some c=> .ok (.str ⟨#[c]⟩) | none=> .bad else .bad
 | _,_=> .bad
theorem yR (r:zC H xs ts)(h:atI ts i=some t):∃v,atI xs i=some v/\Rep H v t:=by
 unfold atI at h ⊢;rw[r.length];cases e:ixN _ i with
 | none=>rw[e]at h;cases h
 | some j=>
  rw[e]at h;obtain⟨v,h1,h2⟩:=r.get (h);exact⟨v,h1,h2⟩
theorem s_ix (ha:Snd X Y a fa)(hb:Snd X Y b fb)(hs:yA b:=by exact λ_ _=>rfl):Snd X Y (.Subscript a b pos) (zb ixT fa fb):= .mk λρ=>
 PE.imp (K4 K7 (ha ρ) (hb ρ) hs) λσ H Q ⟨B,I,q⟩=>step I q λt v H1 _ s1 r1 I1 q1=>step I1 q1 λt' v' H2 _ s2 r2 I2 q2=>by
  have r1:=r1.mono (zS.ge I1.sB s2);cases r2 with
  | int i=>
   cases r1 with
   | @tup _ xs ts h r=>
    have q2:Po Y rC _ H2 (atT ts i) Q:=q2;unfold atT at q2;split at q2
    ·rename_i t' e;obtain⟨w,e1,e2⟩:=yR r e;exact .inr (.inl ⟨_,xs,i,w,rfl,rfl,SqT.of (I2.sB _ _ h),e1,po0 I2.sB q2 rfl e2⟩)
    ·exact q2.elim
   | @lst _ xs ts h r=>
    have q2:Po Y rC _ H2 (atT ts i) Q:=q2;unfold atT at q2;split at q2
    ·rename_i t' e;obtain⟨w,e1,e2⟩:=yR r e;exact .inl ⟨_,xs,i,w,rfl,rfl,SqL.of (I2.sB _ _ h),e1,po0 I2.sB q2 rfl e2⟩
    ·exact q2.elim
   | @fz _ _ xs ts h r=>
    have q2:Po Y rC _ H2 (atT ts i) Q:=q2;unfold atT at q2;split at q2
    ·rename_i t' e;obtain⟨w,e1,e2⟩:=yR r e;exact .inl ⟨_,xs,i,w,rfl,rfl,.inl (.inr ⟨_,I2.sB _ _ h⟩),e1,po0 I2.sB q2 rfl e2⟩
    ·exact q2.elim
   | str z=>
    have q2:Po Y rC _ H2 (if z.length<=bnd then match atI z.cps.toList i with | some c=> .ok _ | none=> .bad else .bad) Q:=q2
    split at q2
    ·rename_i hb;split at q2
     ·rename_i c e;exact .inr (.inr ⟨z,i,c,rfl,rfl,Zq hb,e,po0 I2.sB q2 rfl (.str _)⟩)
     ·exact q2.elim
    ·exact q2.elim
   | _=>exact q2.elim
  | _=>cases r1 <;> exact q2.elim
noncomputable def jQ (t t' :T):R T:=match t,t' with
 | .int i,.int j=> .ok (.int (if j < i then j else i))
 | _,_=> .bad
theorem Kp (hc:X.calm=true)(gl:Gl X "min")(mg:X.mg "min"=none)(ha:Snd X Y a fa)(hb:Snd X Y b fb)
  (hs:starEach [a,b] X.env=[(false,eval a X.env),(false,eval b X.env)]:=by exact st2 rfl rfl) (hs2:starEach [b] X.env=[(false,eval b X.env)]:=by exact st1 rfl):
  Snd X Y (.Call (.Name "min" p) [a,b] [] pos) (zb jQ fa fb):= .mk λρ=>
 PE.imp (Zv (yu hc) gl mg PyProof.Rows.Boot.«min» (zl (ha ρ) (zl (hb ρ) zK hs2) (by rw[hs,hs2])) (by decide) (by decide) (by rw[hs,hs2]) (by rw[hs2];rfl)) λσ H Q ⟨B,I,q⟩=>
  step I q λt v H1 _ s1 r1 I1 q1=>step I1 q1 λt' v' H2 _ s2 r2 I2 q2=>by
   cases r1 with
   | int i=>
    cases r2 with
    | int j=>exact⟨i,j,rfl,po0 I2.sB q2 rfl (.int _)⟩
    | _=>exact q2.elim
   | _=>cases r2 <;> exact q2.elim
noncomputable def WR:List T->Option Bool
 | []=>some true
 | .bl k :: r=>match WR r with | some j=>some (k && j) | none=>none
 | _ :: _=>none
def xE:T->R T
 | .lst ts=>match WR ts with | some k=> .ok (.bl k) | none=> .bad
 | _=> .bad
theorem yS:∀{H:Hp} {xs:List V} {ts:List T} {its:List Value} {k:Bool},zC H xs ts->zU xs its->WR ts=some k->∃tr:Nat->Bool,(∀i v,its[i]? =some v->v=Value.bool (tr i))/\(bc its.length).all tr=k
 | _,_,_,_,k,.nil,.nil,h=>by
  have h' :=h;cases h';exact⟨λ_=>true,λi v e=>by simp at e,rfl⟩
 | H,_,_,_,k,.cons r rs,.cons (b:=u) rv vs,h=>by
  cases r with
  | bl b=>
   unfold WR at h;split at h
   ·rename_i j e;cases h;obtain⟨tr,h1,h2⟩:=yS rs vs e;obtain rfl:u=Value.bool b:=rv;refine⟨λi=>match i with | 0=>b | i+1=>tr i,λi v e=> ?_, ?_⟩
    ·cases i with
     | zero=>simp at e;exact e.symm
     | succ i=>exact h1 i v (by simpa using e)
    ·rw[aw,dD,bR,iy,← h2];rfl
   ·cases h
  | _=>cases h
theorem yT (hh:X.A.handled=none):Zb X (.builtin "all") (λvs H Q=>∃l xs ts k,vs=[.ref l]/\H l=some (.lst xs)/\zC H xs ts/\WR ts=some k/\Q (.bl k) H):=by
 intro pins s σ H vs us Q I rv h;obtain⟨l,xs,ts,k,rfl,hl,r,hk,q⟩:=h;obtain⟨u,rfl,ru⟩:=Zp rv;obtain rfl:u=Value.ref l:=ru;obtain⟨its,rv,p,_⟩:=zI I (.inl hl) r;obtain⟨tr,h1,h2⟩:=yS r rv hk;refine call_all_walk (wpAny_pyIter_list p ?_);have hlt:=I.hok.lt hl;have old:∀b o,s.heap.get? b=some o->(s.heap.push { cls:= .type "list_iterator",data:= .fields #[.ref l,.int 0 0] }).get? b=some o:=λb o e=>ab _ e;refine⟨s.heap.objs.size,_,_,_,_,_,tr,rfl,ic (A:=X.A.in1) hh _ l (ax hlt) its.toArray, ?_, ?_,λh' tk hk' => ?_⟩
 ·refine⟨?_,p.at λo e=>old _ o e⟩;exact⟨_,af _ rfl,rfl,rfl⟩
 ·intro i v s' Q' E' hi hq;rw[h1 i v (by simpa using hi)]
  exact bi hq
 ·rw[aA,h2];refine⟨.bl k,H,I.kept (λb o e=>hk' b o ?_ (old b o e)),rfl,q⟩;simp;exact ax (ao e)
theorem z1z (hh:X.A.handled=none)(gl:Gl X "all")(mg:X.mg "all"=none)(ha:j8 X Y a fa)(hs:St1 X a:=by exact st1 rfl):Snd X Y (.Call (.Name "all" p) [a] [] pos) (ap1 xE fa):=
 uI (yT hh) (λv t B H Q r sB q=>by
  cases r with
  | @lst l xs ts h r=>
   have q:Po Y rC B H (match WR ts with | some k=> .ok _ | none=> .bad) Q:=q
   split at q
   ·rename_i k e;exact⟨l,xs,ts,k,rfl,h,r,e,po0 sB q rfl (.bl k)⟩
   ·exact q.elim
  | _=>exact q.elim) gl mg PyProof.Rows.Boot.«all» ha hs
end
inductive RS where
 | nx (ρ:En) | rt (t:T) | bk (ρ:En) | ct (ρ:En) | ex (c:Nat) | bad | rf (ts:List T)
noncomputable def R.s {α:Type}(r:R α)(k:α->RS):RS:=match r with
 | .ok a=>k a
 | .ex c=> .ex c
 | .bad=> .bad
def PoS (Y:Fx)(B:Hp)(r:RS)(D:vZ):Prop:=match r with
 | .nx ρ' =>∀σ' H' B',zp B B' ->SI Y B' ρ' σ' H' ->D.nx σ' H'
 | .rt t=>∀v H',zp Y.H0 H' ->Rep (zS Y.B0 Y.H0 H') v t->D.rt v H'
 | .bk ρ' =>∀σ' H' B',zp B B' ->SI Y B' ρ' σ' H' ->D.bk σ' H'
 | .ct ρ' =>∀σ' H' B',zp B B' ->SI Y B' ρ' σ' H' ->D.ct σ' H'
 | .ex c=>XP Y B c
 | .bad=>False
 | .rf ts=>∀a xs H' B',zp Y.H0 H' ->Y.H0 a=none->H' a=some (.lst xs)->zC B' xs ts->B' a=none->zp B' (zS Y.B0 Y.H0 H')->D.rt (.ref a) H'
theorem PoS.up {r:RS}{D:vZ}(s:zp B B')(h:PoS Y B r D):PoS Y B' r D:=by
 cases r with
 | nx ρ=>exact λσ' H' B2 s2 I=>h σ' H' B2 (s.trans s2) I
 | bk ρ=>exact λσ' H' B2 s2 I=>h σ' H' B2 (s.trans s2) I
 | ct ρ=>exact λσ' H' B2 s2 I=>h σ' H' B2 (s.trans s2) I
 | rt t=>exact h
 | rf t=>exact h
 | ex c=>exact λd H' s0 sB=>h d H' s0 (s.trans sB)
 | bad=>exact h
def tSS (Y:Fx)(f:En->RS)(ρ:En):TS:=λD σ H=>∃B,SI Y B ρ σ H/\PoS Y B (f ρ) D
structure wk (X:Cx) (Y:Fx) (e:Stmt) (f:En->RS):Prop where
 mk ::
 go:∀ρ,PS X e (tSS Y f ρ)
instance {X:Cx}{Y:Fx}{e:Stmt}{f:En->RS}:CoeFun (wk X Y e f) λ_=>∀ρ,PS X e (tSS Y f ρ):=⟨wk.go⟩
structure WY (X:Cx) (Y:Fx) (e:List Stmt) (f:En->RS):Prop where
 mk ::
 go:∀ρ,PSs X e (tSS Y f ρ)
instance {X:Cx}{Y:Fx}{e:List Stmt}{f:En->RS}:CoeFun (WY X Y e f) λ_=>∀ρ,PSs X e (tSS Y f ρ):=⟨WY.go⟩
theorem jR {α β:Type}{rel:Hp->Hp->β->α->Prop}{f:En->R α}{k:α->RS}{D:vZ}{K:β->Hp->Prop}
  (I:SI Y B ρ σ H) (h:PoS Y B ((f ρ).s k) D)
  (n:∀a b H1,f ρ= .ok a->zp H H1->rel (zS B H H1) H1 b a->SI Y (zS B H H1) ρ σ H1->PoS Y (zS B H H1) (k a) D->K b H1):tS Y rel f ρ σ H K:=by
 refine⟨B,I, ?_⟩;cases e:f ρ with
 | bad=>rw[e]at h;exact h
 | ex c=>rw[e]at h;exact h
 | ok a=>
  rw[e]at h;exact λb H1 s r=>n a b H1 e s r (I.grow s) (PoS.up (zS.ge I.sB s) h)
theorem zw {α:Type}{xs:List α}{x y:α}(h:(xs.set i x)[j]? =some y):(j=i/\y=x)\/(j ≠ i/\xs[j]? =some y):=by
 by_cases e:j=i
 ·subst e
  by_cases hl:j < xs.length
  ·rw[bj hl]at h;exact .inl ⟨rfl,(aR h).symm⟩
  ·rw[aH (by rw[cf];omega)]at h;cases h
 ·rw[aD (bb e)]at h;exact .inr ⟨e,h⟩
theorem uJ {α:Type}{xs:List α}{x y:α}(h:(xs.set i x)[i]? =some y):i < xs.length:=by
 by_cases hl:i < xs.length
 ·exact hl
 ·rw[aH (by rw[cf];omega)]at h;cases h
theorem StI.set {O:Addr->Option (Nat×Nat)}(x:StI Y B ρ σ H as O)(i:Nat)(s:Sl)(v:Option V)(h1:s.isO=false)(h3:∀ts,s ≠ .ow ts):StI Y B (ρ.set i s) (σ.set i v) H as O:=
 x.on (λj y hy h=>by
  rcases zw h with ⟨_,e⟩ | ⟨hj,h'⟩
  ·rw[e,h1]at hy;cases hy
  ·exact⟨h',aD (bb hj)⟩) (zp.refl _) rfl rfl (zp.refl _) λb o hb b0 h0 _=>⟨hb,b0,h0,λok j us h=>by
  rcases zw h with ⟨_,e⟩ | ⟨hj,h'⟩
  ·exact absurd e.symm (h3 us)
  ·rw[aD (bb hj)];exact ok j us h'⟩
theorem SI.setV (I:SI Y B ρ σ H)(i:Nat)(r:Rep B v t):SI Y B (ρ.set i (.vl t)) (σ.set i (some v)) H where
 s0:=I.s0
 sH:=I.sH
 sB:=I.sB
 old:=I.old
 len:=by rw[cf,cf];exact I.len
 vl:=λj u h=>by
  rcases zw h with ⟨rfl,e⟩ | ⟨hj,h'⟩
  ·cases e;exact⟨v,bj (by rw[← I.len];exact uJ h),r⟩
  ·obtain⟨w,e,rr⟩:=I.vl j u h';exact⟨w,by rw[aD (bb hj)];exact e,rr⟩
 ow:=λj us h=>by
  rcases zw h with ⟨rfl,e⟩ | ⟨hj,h'⟩
  ·cases e
  ·obtain⟨a,xs,e,b0,h0,hh,rr,d⟩:=I.ow j us h';refine⟨a,xs,by rw[aD (bb hj)];exact e,b0,h0,hh,rr,λk ws hk hw=> ?_⟩
   rcases zw hw with ⟨rfl,e'⟩ | ⟨hk',hw'⟩
   ·cases e'
   ·rw[aD (bb hk')];exact d k ws hk hw'
 xc:=λj c h=>by
  rcases zw h with ⟨rfl,e⟩ | ⟨hj,h'⟩
  ·cases e
  ·obtain⟨a,e,r⟩:=I.xc j c h';exact⟨a,by rw[aD (bb hj)];exact e,r⟩
 st:=let ⟨as,O,x⟩:=I.st;⟨as,O,x.set i _ _ rfl (λ_=>Sl.noConfusion)⟩
theorem SI.newO (I:SI Y B ρ σ H)(i:Nat)(hp:H p=none)(r:zC B xs ts):SI Y B (ρ.set i (.ow ts)) (σ.set i (some (.ref p))) (upd H p (.lst xs)) where
 s0:=I.s0
 sH:=I.sH.trans (zp.new hp _)
 sB:=I.sB.trans (zp.new hp _)
 old:=I.old
 len:=by rw[cf,cf];exact I.len
 vl:=λj u h=>by
  rcases zw h with ⟨rfl,e⟩ | ⟨hj,h'⟩
  ·cases e
  ·obtain⟨w,e,rr⟩:=I.vl j u h';exact⟨w,by rw[aD (bb hj)];exact e,rr⟩
 ow:=λj us h=>by
  have op:∀k ws a,ρ[k]? =some (Sl.ow ws)->σ[k]? =some (some (V.ref a))->a ≠ p:=λk ws a h1 h2=>by
   obtain⟨a',xs',e,_,_,hh,_⟩:=I.ow k ws h1;rw[e]at h2;cases h2;exact zv hh hp
  rcases zw h with ⟨rfl,e⟩ | ⟨hj,h'⟩
  ·cases e;refine⟨p,xs,bj (by rw[← I.len];exact uJ h),I.sB.free hp,I.sH.free hp,zr,r,λk ws hk hw=> ?_⟩
   rcases zw hw with ⟨rfl,e'⟩ | ⟨hk',hw'⟩
   ·exact absurd rfl hk
   ·rw[aD (bb hk')];exact λz=>op k ws p hw' z rfl
  ·obtain⟨a,xs',e,b0,h0,hh,rr,d⟩:=I.ow j us h';refine⟨a,xs',by rw[aD (bb hj)];exact e,b0,h0,by rw[zm (op j us a h' e)];exact hh,rr,λk ws hk hw=> ?_⟩
   rcases zw hw with ⟨rfl,e'⟩ | ⟨hk',hw'⟩
   ·rw[bj (by rw[← I.len];exact uJ hw)]
    intro z;exact op j us a h' e (by injection z with z;injection z with z;injection z with z;exact z.symm)
   ·rw[aD (bb hk')];exact d k ws hk hw'
 xc:=λj c h=>by
  rcases zw h with ⟨rfl,e⟩ | ⟨hj,h'⟩
  ·cases e
  ·obtain⟨a,e,r⟩:=I.xc j c h';exact⟨a,by rw[aD (bb hj)];exact e,r⟩
 st:=by
  obtain⟨as,O,x⟩:=I.st;refine⟨as,O,x.on (λj y hy h=> ?_) (zp.refl _) rfl rfl (zp.refl _) λb o hb b0 h0 _=> ?_⟩
  ·rcases zw h with ⟨_,e⟩ | ⟨hj,h'⟩
   ·subst e;cases hy
   ·exact⟨h',aD (bb hj)⟩
  ·have hne:b ≠ p:=zv hb hp;refine⟨by rw[zm hne];exact hb,b0,h0,λok j us h=> ?_⟩
   rcases zw h with ⟨rfl,e⟩ | ⟨hj,h'⟩
   ·rw[bj (by rw[← I.len];exact uJ h)]
    intro z;injection z with z;injection z with z;injection z with z;exact hne z.symm
   ·rw[aD (bb hj)];exact ok j us h'
theorem SI.chg (I:SI Y B ρ σ H)(i:Nat)(hi:ρ[i]? =some (.ow ts))(he:σ[i]? =some (some (.ref p)))(r:zC B ys us):SI Y B (ρ.set i (.ow us)) σ (upd H p (.lst ys)):=by
 obtain⟨p',xs,e,b0,h0,hh,rr,d⟩:=I.ow i ts hi;rw[he]at e;cases e;have nb:∀b o,B b=some o->b ≠ p:=λb o h z=>by subst z;rw[b0]at h;cases h
 have n0:∀b o,Y.H0 b=some o->b ≠ p:=λb o h z=>by subst z;rw[h0]at h;cases h
 refine⟨I.s0,λb o h=>by rw[zm (n0 b o h)];exact I.sH b o h,λb o h=>by rw[zm (nb b o h)];exact I.sB b o h,I.old,by rw[cf];exact I.len,λj u h=> ?_,λj ws h=> ?_,λj c h=> ?_, ?_⟩
 rotate_right
 ·obtain⟨as,O,x⟩:=I.st;refine⟨as,O,x.on (λj y hy h=> ?_) (zp.refl _) rfl rfl (zp.refl _) λb o hb b0' h0' cs=> ?_⟩
  ·rcases zw h with ⟨_,e⟩ | ⟨hj,h'⟩
   ·subst e;cases hy
   ·exact⟨h',rfl⟩
  ·have hne:b ≠ p:=λz=>by
    subst z;rcases cs with ⟨C,dx,vs,ez⟩ | ok
    ·rw[hh]at hb;cases hb;cases ez
    ·exact ok i ts hi he
   refine⟨by rw[zm hne];exact hb,b0',h0',λok j us h=> ?_⟩
   rcases zw h with ⟨rfl,e⟩ | ⟨hj,h'⟩
   ·rw[he];intro z;injection z with z;injection z with z;injection z with z;exact hne z.symm
   ·exact ok j us h'
 rotate_right
 ·rcases zw h with ⟨rfl,z⟩ | ⟨hj,h'⟩
  ·cases z
  ·exact I.xc j c h'
 ·rcases zw h with ⟨rfl,z⟩ | ⟨hj,h'⟩
  ·cases z
  ·exact I.vl j u h'
 ·rcases zw h with ⟨rfl,z⟩ | ⟨hj,h'⟩
  ·cases z;refine⟨p,ys,he,b0,h0,zr,r,λk vs hk hw=> ?_⟩;rcases zw hw with ⟨rfl,e'⟩ | ⟨hk',hw'⟩
   ·exact absurd rfl hk
   ·exact d k vs hk hw'
  ·obtain⟨a,xs',e,c0,g0,gg,ss,d'⟩:=I.ow j ws h';have hne:a ≠ p:=λz=>by subst z;exact d j ws hj h' e
   refine⟨a,xs',e,c0,g0,by rw[zm hne];exact gg,ss,λk vs hk hw=> ?_⟩
   rcases zw hw with ⟨rfl,e'⟩ | ⟨hk',hw'⟩
   ·rw[he];intro z;injection z with z;injection z with z;injection z with z;exact hne z.symm
   ·exact d' k vs hk hw'
noncomputable def frz1:Sl->Sl
 | .ow ts=> .vl (.lst ts)
 | .ob _ _=> .un
 | .st _=> .un
 | x=>x
def frz (ρ:En):En:=ρ.map frz1
theorem SI.up (I:SI Y B ρ σ H):zp B (zS B Y.H0 H):=λb o h=>by
 cases q:Y.H0 b with
 | none=>rw[Z7 q];exact I.sB b o h
 | some u=>rw[Z4 q];exact h
theorem SI.frz (I:SI Y B ρ σ H):SI Y (zS B Y.H0 H) (PV.frz ρ) σ H:=by
 have up:zp B (zS B _ H):=λb o h=>by
  cases q:Y.H0 b with
  | none=>rw[Z7 q];exact I.sB b o h
  | some u=>rw[Z4 q];exact h
 refine⟨I.s0,I.sH,λb o h=> ?_,λb o h=>by rw[Z4 h];exact I.old b o h,by unfold PV.frz;rw[aa];exact I.len,λj t h=> ?_,λj ts h=> ?_,λj c h=> ?_, ?_⟩
 rotate_right
 ·have no:∀(j:Nat) (y:Sl),y.isS=true->(PV.frz ρ)[j]? ≠ some y:=λj y hy h=>by
   unfold PV.frz at h;rw[ar]at h;cases e:ρ[j]? with
   | none=>rw[e]at h;cases h
   | some x=>rw[e]at h;cases x <;> (cases h;cases hy)
  obtain⟨as,O,x⟩:=I.st;refine⟨Y.as,λ_=>none,fr _,λi os e=>(no i _ rfl e).elim,λi j os os' e=>(no i _ rfl e).elim,λi k n e=>(no i _ rfl e).elim,λi k fs h=> ?_,λi os e=>(no i _ rfl e).elim⟩;have h' :ρ[i]? =some (Sl.oc k fs):=by
   unfold PV.frz at h;rw[ar]at h;cases e:ρ[i]? with
   | none=>rw[e]at h;cases h
   | some x=>rw[e]at h;cases x <;> (cases h;try rfl)
  obtain⟨a,C,dx,vs,e1,e2,e3,e4,e5⟩:=x.oc i k fs h';exact⟨a,C,dx,vs,e1,e2,e3,e4,e5.mono up (zp.refl _)⟩
 rotate_right
 ·unfold PV.frz at h;rw[ar]at h;cases e:ρ[j]? with
  | none=>rw[e]at h;cases h
  | some x=>
   rw[e]at h;cases x with
   | xc d=>
    cases h;obtain⟨a,e1,r⟩:=I.xc j _ e;exact⟨a,e1,up a _ r⟩
   | un=>cases h
   | vl _=>cases h
   | ow _=>cases h
   | ob _ _=>cases h
   | oc _ _=>cases h
   | st _=>cases h
 ·cases q:Y.H0 b with
  | none=>rw[Z7 q]at h;exact h
  | some u=>rw[Z4 q]at h;exact I.sB b o h
 ·unfold PV.frz at h;rw[ar]at h;cases e:ρ[j]? with
  | none=>rw[e]at h;cases h
  | some x=>
   rw[e]at h;cases x with
   | un=>cases h
   | vl u=>
    cases h;obtain⟨v,e1,r⟩:=I.vl j _ e;exact⟨v,e1,r.mono up⟩
   | ow us=>
    cases h;obtain⟨a,xs,e1,b0,h0,hh,rr,_⟩:=I.ow j us e;exact⟨.ref a,e1,.lst (by rw[Z7 h0];exact hh) (rr.mono up)⟩
   | xc _=>cases h
   | ob _ _=>cases h
   | oc _ _=>cases h
   | st _=>cases h
 ·unfold PV.frz at h;rw[ar]at h;cases e:ρ[j]? with
  | none=>rw[e]at h;cases h
  | some x=>
   rw[e]at h;cases x with
   | un=>cases h
   | vl u=>cases h
   | ow us=>cases h
   | xc _=>cases h
   | ob _ _=>cases h
   | oc _ _=>cases h
   | st _=>cases h
theorem Vb {Y:Fx}{B H H' :Hp}(s0:zp Y.H0 H)(old:∀b o,Y.H0 b=some o->B b=Y.B0 b)(s:zp H H')(sB:zp B H):zp (zS B H H') (zS Y.B0 Y.H0 H'):=λb o h=>by
 cases q:H b with
 | none=>
  rw[Z7 q]at h;rw[Z7 (s0.free q)];exact h
 | some u=>
  rw[Z4 q]at h;cases z:Y.H0 b with
  | none=>rw[Z7 z];exact s b o (sB b o h)
  | some w=>rw[Z4 z,← old b w z];exact h
section
variable {X:Cx}{Y:Fx}{a b c d:Expr}{fa fb fc fd:En->R T}{pos p:Pos}{st:Stmt}{sts sts' :List Stmt}{f g:En->RS}
def nxS:En->RS:=λρ=> .nx ρ
def zh (f g:En->RS):En->RS:=λρ=>match f ρ with
 | .nx ρ' =>g ρ'
 | r=>r
theorem z1A:WY X Y [] nxS:= .mk λρ=>PSs.imp xb λD σ H ⟨B,I,q⟩=>q σ H B (zp.refl B) I
theorem z1B (h:wk X Y st f):WY X Y [st] f:= .mk λρ=>yi (h ρ)
theorem Kq (h1:wk X Y st f)(h2:WY X Y sts g):WY X Y (st :: sts) (zh f g):= .mk λρ=>by
 refine PSs.imp (uB (u:=λD σ H=>∃ρ',tSS Y g ρ' D σ H) (h1 ρ) ?_) ?_
 ·intro pins s σ H D I ⟨ρ',q⟩;exact h2 ρ' _ s σ H D I q
 ·intro D σ H ⟨B,I,q⟩;refine⟨B,I, ?_⟩;unfold zh at q;cases e:f ρ with
  | nx ρ' =>
   rw[e]at q;intro σ' H' B' s' I';exact⟨ρ',B',I',PoS.up s' q⟩
  | rt t=>rw[e]at q;exact q
  | rf t=>rw[e]at q;exact q
  | bk ρ' =>rw[e]at q;exact q
  | ct ρ' =>rw[e]at q;exact q
  | ex c=>rw[e]at q;exact q
  | bad=>rw[e]at q;exact q
def zA (i:Nat)(fa:En->R T):En->RS:=λρ=>(fa ρ).s λt=> .nx (ρ.set i (.vl t))
theorem Kr (hN:X.N.Nodup)(hi:X.N[i]? =some x)(hx:L2.Loc X.env.scope x)(ha:Snd X Y a fa)(hs:swapsWith a (some (.Name x p')) pos.line X.env=pure false:=by rfl)
  (hf:X.fn x=true\/X.env.scope.names.lookup x=some .local:=by first | exact .inl rfl | exact .inr rfl | assumption):wk X Y (.Assign [.Name x p'] a pos) (zA i fa):= .mk λρ=>
 PS.imp (uC hN hi hx (ha ρ) hs hf) λD σ H ⟨B,I,q⟩=>jR I q λt v H1 _ s1 r1 I1 q1=>q1 _ _ _ (zp.refl _) (I1.setV i r1)
def y9 (i:Nat)(ga:En->R (List T)):En->RS:=λρ=>(ga ρ).s λts=>if ts.length<=bnd then .nx (ρ.set i (.ow ts)) else .bad
theorem Ks (hN:X.N.Nodup)(hi:X.N[i]? =some x)(hx:L2.Loc X.env.scope x)(ha:UA X Y es ga)(hs:swapsWith (.List es p) (some (.Name x p')) pos.line X.env=pure false:=by rfl)
  (hf:X.fn x=true\/X.env.scope.names.lookup x=some .local:=by first | exact .inl rfl | exact .inr rfl | assumption):wk X Y (.Assign [.Name x p'] (.List es p) pos) (y9 i ga):= .mk λρ=>
 PS.imp (uC hN hi hx (V4 (ha ρ)) hs hf) λD σ H ⟨B,I,q⟩=>jR I q λts vs H1 _ s1 r1 I1 q1=>by
  split at q1
  ·rename_i hb;exact⟨by rw[r1.length];exact Zq hb,λp hp=>q1 _ _ _ (zp.refl _) (I1.newO i hp r1)⟩
  ·exact q1.elim
def zi (fa:En->R T):En->RS:=λρ=>(fa (frz ρ)).s λt=> .rt t
theorem z1C (ha:Snd X Y a fa):wk X Y (.Return (some a) pos) (zi fa):= .mk λρ=>
 PS.imp (V2 (ha _)) λD σ H ⟨B,I,q⟩=>by
  refine⟨_,I.frz, ?_⟩;unfold zi at q;cases e:fa _ with
  | bad=>rw[e]at q;exact q
  | ex c=>
   rw[e]at q;exact λd H' s0 sG=>q d H' s0 (I.up.trans sG)
  | ok t=>
   rw[e]at q;intro v H' s r;have J:=I.frz;exact q v H' (I.sH.trans s) (r.mono (Vb J.sH J.old s J.sB))
def ifS (g:En->R Bool)(f1 f2:En->RS):En->RS:=λρ=>(g ρ).s λk=>if k=true then f1 ρ else f2 ρ
theorem z1D (hc:Wd X Y c ga)(h1:WY X Y sts f)(h2:WY X Y sts' g):wk X Y (.If c sts sts' pos) (ifS ga f g):= .mk λρ=>
 PS.imp (z0T (hc ρ) (h1 ρ) (h2 ρ)) λD σ H ⟨B,I,q⟩=>jR I q λt v H1 _ s1 r1 I1 q1=>by
  have r1' :=r1;subst r1';cases v with
  | true=>exact⟨_,I1,q1⟩
  | false=>exact⟨_,I1,q1⟩
def ZW (fa:En->R T):En->RS:=λρ=>(fa ρ).s λ_=> .nx ρ
theorem Kt (ha:Snd X Y a fa)(hs:swapsWith a none pos.line X.env=pure false:=by rfl):wk X Y (.Expr a pos) (ZW fa):= .mk λρ=>
 PS.imp (WT (ha ρ) hs) λD σ H ⟨B,I,q⟩=>jR I q λt v H1 _ s1 r1 I1 q1=>q1 _ _ _ (zp.refl _) I1
def QJ (i:Nat)(fa:En->R T):En->RS:=λρ=>match ρ[i]? with
 | some (.ow ts)=>(fa ρ).s λt=>if ts.length < bnd then .nx (ρ.set i (.ow (ts++[t]))) else .bad
 | _=> .bad
def ya (i:Nat)(fa:En->R T):En->RS:=λρ=>match ρ[i]? with
 | some (.ow ts)=>(fa ρ).s λt=>match t with
  | .lst us=>if ts.length+us.length<=bnd then .nx (ρ.set i (.ow (ts++us))) else .bad
  | _=> .bad
 | _=> .bad
theorem Ku (h:n < bnd):n < sizeLine:=by exact h
theorem z1E (hv:PE X (.Name x px) (Qi i))(ha:Snd X Y a fa)(hb:attributeBase (.Name x px) "append" X.env (eval (.Name x px) X.env)=eval (.Name x px) X.env:=by rfl)(hs:St1 X a:=by exact st1 rfl)
  (hz:(pa.endLine == p.line)=true:=by rfl) (hw:swapsWith (.Call (.Attribute (.Name x px) "append" pa) [a] [] p) none pos.line X.env=pure false:=by rfl):wk X Y (.Expr (.Call (.Attribute (.Name x px) "append" pa) [a] [] p) pos) (QJ i fa):= .mk λρ=>by
 have e1:(((((backTo p (starEach [a] X.env)).all λx=> !x.fst) && (backToKw p (keywordEach [] X.env)).all λx=>x.fst.isSome) && decide (([a].length+([]:List Keyword).length+if ([]:List Keyword).isEmpty=true then 0 else 1) < 30))=true):=by rw[hs];rfl
 refine PS.imp (WT (Qw dy PySem.F.slot_list_append PySem.F.type_list_append Wa hv (zl (ha ρ) zK hs) hb e1 hz hs rfl) hw) λD σ H ⟨B,I,q⟩=> ?_;unfold QJ at q;split at q
 ·rename_i ts e;obtain⟨l,xs,e1,b0,h0,hh,rr,d⟩:=I.ow i ts e;refine⟨.ref l,e1,.inl ⟨rfl,_,SqL.of hh⟩, ?_⟩;refine jR I q λt v H1 _ s1 r1 I1 q1=> ?_;split at q1
  ·rename_i hb;refine⟨l,xs,v,rfl,rfl,s1 _ _ hh,by rw[rr.length];exact Ku hb, ?_⟩
   exact q1 _ _ _ (zp.refl _) (I1.chg i e e1 ((rr.mono (zS.ge I.sB s1)).append (.cons r1 .nil)))
  ·exact q1.elim
 ·exact q.elim
theorem z1F (hv:PE X (.Name x px) (Qi i))(ha:Snd X Y a fa)(hb:attributeBase (.Name x px) "extend" X.env (eval (.Name x px) X.env)=eval (.Name x px) X.env:=by rfl)(hs:St1 X a:=by exact st1 rfl)
  (hz:(pa.endLine == p.line)=true:=by rfl) (hw:swapsWith (.Call (.Attribute (.Name x px) "extend" pa) [a] [] p) none pos.line X.env=pure false:=by rfl):wk X Y (.Expr (.Call (.Attribute (.Name x px) "extend" pa) [a] [] p) pos) (ya i fa):= .mk λρ=>by
 have e1:(((((backTo p (starEach [a] X.env)).all λx=> !x.fst) && (backToKw p (keywordEach [] X.env)).all λx=>x.fst.isSome) && decide (([a].length+([]:List Keyword).length+if ([]:List Keyword).isEmpty=true then 0 else 1) < 30))=true):=by rw[hs];rfl
 refine PS.imp (WT (Qw dy PySem.F.slot_list_extend PySem.F.type_list_extend yB hv (zl (ha ρ) zK hs) hb e1 hz hs rfl) hw) λD σ H ⟨B,I,q⟩=> ?_;unfold ya at q;split at q
 ·rename_i ts e;obtain⟨l,xs,e1,b0,h0,hh,rr,d⟩:=I.ow i ts e;refine⟨.ref l,e1,.inl ⟨rfl,_,SqL.of hh⟩, ?_⟩;refine jR I q λt v H1 _ s1 r1 I1 q1=> ?_;cases r1 with
  | @lst b zs us hb r=>
   have q1:PoS Y _ (if ts.length+us.length<=bnd then .nx _ else .bad) D:=q1
   split at q1
   ·rename_i hl;refine⟨l,b,xs,zs,rfl,rfl,s1 _ _ hh,I1.sB _ _ hb,by rw[rr.length,r.length];exact Zq hl, ?_⟩
    exact q1 _ _ _ (zp.refl _) (I1.chg i e e1 ((rr.mono (zS.ge I.sB s1)).append r))
   ·exact q1.elim
  | _=>exact q1.elim
 ·exact q.elim
end
def spP (cl:Nat->Value)(n:Nat)(g:List T->R T):Sp:=λvs H Q E=>∃B ts,ts.length=n/\zp B H/\zC B vs ts/\Po ⟨B,H,E,cl,[]⟩ rC B H (g ts) Q
theorem spP.len (vs:List V)(H:Hp)(Q:VK)(E:XK)(h:spP cl n g vs H Q E):vs.length=n:=by
 obtain⟨B,ts,hl,_,r,_⟩:=h;rw[r.length,hl]
def za (n:Nat)(g:List T->R T)(ga:En->R (List T)):En->R T:=λρ=>(ga ρ).bind λts=>if ts.length=n then g ts else .bad
section
theorem Kv (F:W2 X.prog X.w X.K X.mg X.base CX k f fd ps (spP Y.cl n g))(hr:jU k X.A)(gl:Gl X x)(mg:X.mg x=some (.ref f))
  (kp:cK X.K (.ref f)=true) (bd:L2.Binds X.K fd ps []) (hx:JM CX X Y.E) (ha:UA X Y (a :: es) ga) (hd:(x == ("__debug__":Str))=false:=by decide)
  (hs:starEach (a :: es) X.env=(false,eval a X.env) :: starEach es X.env:=by exact zV rfl) (hz:((backTo pos (starEach es X.env)).any λx=>x.fst)=false:=by exact j3 rfl):Snd X Y (.Call (.Name x p) (a :: es) [] pos) (za n g ga):= .mk λρ=>
 PE.imp (yy F hr gl mg kp bd .nil hx (ha ρ) hd hs hz) λσ H Q ⟨B,I,q⟩=>step I q λts vs H1 _ s1 r1 I1 q1=>by
  split at q1
  ·rename_i hn;rw[bz];refine⟨_,ts,hn,I1.sB,r1, ?_⟩;revert q1;cases g ts with
   | bad=>exact λq1=>q1
   | ex c=>exact λq1 d H' s sB=>q1 d H' (I1.sH.trans s) sB
   | ok t=>exact λq1=>q1
  ·exact q1.elim
end
noncomputable def zf:RS->R T
 | .rt t=> .ok t
 | .rf ts=> .ok (.lst ts)
 | .nx _=> .ok .non
 | .ex c=> .ex c
 | _=> .bad
def en0 (n:Nat)(ts:List T):En:=ts.map Sl.vl++ae (n - ts.length) Sl.un
theorem zC.vl {H:Hp}:∀{vs:List V} {ts:List T} {i:Nat} {t:T} {n m:Nat},zC H vs ts->(ts.map Sl.vl++ae n Sl.un)[i]? =some (Sl.vl t)->∃v:V,(vs.map some++ae m none)[i]? =some (some v)/\Rep H v t
 | _,_,i,t,n,m,.nil,h=>by
  simp only[c7,cV]at h;rw[aU]at h;split at h
  ·cases h
  ·cases h
 | _,_,0,t,n,m,.cons r _,h=>by
  simp at h;subst h;exact⟨_,rfl,r⟩
 | _,_,i+1,t,n,m,.cons _ q,h=>by
  obtain⟨v,h1,h2⟩:=zC.vl q (by simpa using h)
  exact⟨v,by simpa using h1,h2⟩
theorem Vc {n:Nat}:∀{ts:List T} {i:Nat} {us:List T},(ts.map Sl.vl++ae n Sl.un)[i]? =some (Sl.ow us)->False
 | [],i,us,h=>by
  simp only[c7,cV]at h;rw[aU]at h;split at h
  ·cases h
  ·cases h
 | t :: ts,0,us,h=>by simp at h
 | t :: ts,i+1,us,h=>Vc (by simpa using h)
theorem Vd {n:Nat}:∀{ts:List T} {i:Nat} {c:Nat},(ts.map Sl.vl++ae n Sl.un)[i]? =some (Sl.xc c)->False
 | [],i,us,h=>by
  simp only[c7,cV]at h;rw[aU]at h;split at h
  ·cases h
  ·cases h
 | t :: ts,0,us,h=>by simp at h
 | t :: ts,i+1,us,h=>Vd (by simpa using h)
theorem yU {n:Nat}{x:Sl}(h1:∀t,x ≠ .vl t)(h2:x ≠ .un):∀{ts:List T} {i:Nat},(ts.map Sl.vl++ae n Sl.un)[i]? =some x->False
 | [],i,h=>by
  simp only[c7,cV]at h;rw[aU]at h;split at h
  ·exact h2 (aR h).symm
  ·cases h
 | t :: ts,0,h=>h1 t (aR (by simpa using h)).symm
 | t :: ts,i+1,h=>yU h1 h2 (by simpa using h)
theorem SI.start {Y:Fx}{N:List Str}{vs:List V}{ts:List T}(s:zp Y.B0 Y.H0)(r:zC Y.B0 vs ts):SI Y Y.B0 (en0 N.length ts) (L2.start N vs) Y.H0 where
 s0:=s
 sH:=zp.refl _
 sB:=s
 old:=λ_ _ _=>rfl
 len:=by unfold en0 L2.start;simp[r.length]
 vl:=λi t h=>r.vl h
 ow:=λi ts h=>(Vc h).elim
 xc:=λi c h=>(Vd h).elim
 st:=StI.no λi s hs h=>yU (λt z=>by rw[z]at hs;cases hs) (λz=>by rw[z]at hs;cases hs) h
section
variable {P:Program}{w:World}{K:ai}{mg:Str->Option Value}{base:Heap}
theorem Kw {cl:Nat->Value}{x qual:Str}{st:Stmt}{f:Addr}{fd:FuncData}{N ps:List Str}{k n:Nat}{fb:En->RS}{g:List T->R T}(F:Fun K x qual st f fd)(S:J9 N ps (zD st))(hn:n=ps.length)
  (hb:∀(cdv:Value) (A:Around) (outer:List Env) (s:Shared) (H:Hp) (E:XK) (Y:Fx),Y.cl=cl->jU k (A.deeper (envOfC qual (zD st) s.heap.objs.size f cdv))->
   WY (Qv CX0 P w K mg base N qual (zD st) f cdv A outer s H E).nox Y (Zj st) fb)
  (hg:∀ts,ts.length=n->g ts=zf (fb (en0 N.length ts))):W2 P w K mg base CX0 (k+1) f fd ps (spP cl n g):=by
 subst hn;refine F.ok S spP.len λcdv A outer s H vs Q E hr ⟨B,ts,hl,sB,r,q⟩=> ?_;refine⟨_,hb cdv A _ s H E ⟨B,H,E,cl,[]⟩ rfl hr _,B,SI.start sB r, ?_⟩;rw[hg ts hl]at q;revert q;cases fb _ with
 | rt t=>exact λq v H' s r=>q v H' s r
 | rf t=>exact λq a xs H' B' s0 n e r _ l=>q _ H' s0 (.lst (by rw[Z7 n];exact e) (r.mono l))
 | nx ρ=>exact λq σ' H' B' _ I=>q _ H' I.sH .non
 | ex c=>exact λq=>q
 | bk ρ=>exact λq=>q.elim
 | ct ρ=>exact λq=>q.elim
 | bad=>exact λq=>q
end
abbrev rI:Hp->Hp->It->List T->Prop:=λB1 _ J ts=>∀B2 H2,zp B1 B2->zp B2 H2->(∀i,i < ts.length->J.go i H2)/\(∀(i:Nat) t x H3,ts[i]? =some t->J.yld i H2 x H3->zp H2 H3/\Rep (zS B2 H2 H3) x t)/\(∀i,ts.length<=i->J.stop i H2)
structure uK (X:Cx) (Y:Fx) (tg iter:Expr) (f:En->R (List T)):Prop where
 mk ::
 go:∀ρ,PI X tg iter (tS Y rI f ρ)
instance {X:Cx}{Y:Fx}{tg iter:Expr}{f:En->R (List T)}:CoeFun (uK X Y tg iter f) λ_=>∀ρ,PI X tg iter (tS Y rI f ρ):=⟨uK.go⟩
section
theorem PI.imp (h:PI X tg e t)(i:∀σ H Q,t' σ H Q->t σ H Q):PI X tg e t' :=λpins s σ H Q I q=>h _ s σ H Q I (i σ H Q q)
theorem Kx {K:ai}{B1 H1:Hp}{a:Addr}{xs:List V}{ts:List T}(h:B1 a=some (.tup xs))(r:zC B1 xs ts):rI B1 H1 (Itt K a) ts:=λB2 H2 s1 s2=>by
 have h2:=s2 _ _ (s1 _ _ h);refine⟨λi hi=> ?_,λi t x H3 e y=> ?_,λi hi=>⟨xs,SqT.of h2,by rw[r.length];exact hi⟩⟩
 ·obtain⟨v,e,_⟩:=r.get (a9 hi);exact⟨xs,v,SqT.of h2,e⟩
 ·obtain⟨rfl,y⟩:=y;obtain⟨v,e1,r1⟩:=r.get e;have:=y xs (SqT.of h2);rw[e1]at this;cases this;refine⟨zp.refl _, ?_⟩;rw[zS.self B2 _ s2];exact r1.mono s1
theorem Ky {K:ai}{B1 H1:Hp}{a:Addr}{xs:List V}{ts:List T}(h:B1 a=some (.lst xs))(r:zC B1 xs ts):rI B1 H1 (Itl K a) ts:=λB2 H2 s1 s2=>by
 have h2:=s2 _ _ (s1 _ _ h);refine⟨λi hi=> ?_,λi t x H3 e y=> ?_,λi hi=>⟨xs,SqL.of h2,by rw[r.length];exact hi⟩⟩
 ·obtain⟨v,e,_⟩:=r.get (a9 hi);exact⟨xs,v,SqL.of h2,e⟩
 ·obtain⟨rfl,y⟩:=y;obtain⟨v,e1,r1⟩:=r.get e;have:=y xs (SqL.of h2);rw[e1]at this;cases this;refine⟨zp.refl _, ?_⟩;rw[zS.self B2 _ s2];exact r1.mono s1
noncomputable def rng (lo:Int)(n:Nat):List T:=(bc n).map λ(i:Nat)=>T.int (lo+(i:Int))
theorem Ve {B1 H1:Hp}{lo:Int}{n:Nat}:rI B1 H1 (Itr lo n) (rng lo n):=λB2 H2 s1 s2=>by
 have hl:(rng lo n).length=n:=by unfold rng;simp
 refine⟨λi hi=>by rw[hl]at hi;exact hi,λi t x H3 e y=> ?_,λi hi=>by rw[hl]at hi;exact hi⟩
 obtain⟨rfl,rfl⟩:=y;refine⟨zp.refl _, ?_⟩;unfold rng at e;rw[ar]at e
 by_cases hi:i < n
 ·rw[dj hi]at e;cases e;exact .int _
 ·rw[aH (by simp;omega)]at e;cases e
def jo (fa:En->R T):En->R (List T):=λρ=>(fa ρ).bind λt=>match t with
 | .int j=>if -1000000 < j/\j < 1000000 then .ok (rng 0 j.toNat) else .bad
 | _=> .bad
def jS (fa fb:En->R T):En->R (List T):=λρ=>(fa ρ).bind λt=>(fb ρ).bind λt' =>match t,t' with
 | .int i,.int j=>if -1000000 < i/\i < 1000000/\ -1000000 < j/\j < 1000000 then .ok (rng i (j - i).toNat) else .bad
 | _,_=> .bad
theorem Kz (gl:Gl X "range")(mg:X.mg "range"=none)(ha:Snd X Y a fa)(hs:St1 X a:=by exact st1 rfl):uK X Y tg (.Call (.Name "range" p) [a] [] pos) (jo fa):= .mk λρ=>PI.imp (yn gl mg (zl (ha ρ) zK hs) hs) λσ H R ⟨B,I,q⟩=>step I q λt v H1 _ s1 r1 I1 q1=>by
 cases r1 with
 | int j=>
  have q1:Po Y rI _ H1 (if -1000000 < j/\j < 1000000 then .ok _ else .bad) R:=q1
  split at q1
  ·exact⟨j,rfl,by omega,by omega,ZJ I1 q1 Ve⟩
  ·exact q1.elim
 | _=>exact q1.elim
theorem KA (gl:Gl X "range")(mg:X.mg "range"=none)(ha:Snd X Y a fa)(hb:Snd X Y b fb)(hs:starEach [a,b] X.env=[(false,eval a X.env),(false,eval b X.env)]:=by exact st2 rfl rfl)(hs2:St1 X b:=by exact st1 rfl):uK X Y tg (.Call (.Name "range" p) [a,b] [] pos) (jS fa fb):= .mk λρ=>
 PI.imp (yo gl mg (zl (ha ρ) (zl (hb ρ) zK hs2) (by rw[hs,hs2])) hs hs2) λσ H R ⟨B,I,q⟩=>step I q λt v H1 _ s1 r1 I1 q1=>step I1 q1 λt' v' H2 _ s2 r2 I2 q2=>by
  cases r1 with
  | int i=>
   cases r2 with
   | int j=>
    have q2:Po Y rI _ H2 (if -1000000 < i/\i < 1000000/\ -1000000 < j/\j < 1000000 then .ok _ else .bad) R:=q2
    split at q2
    ·exact⟨i,j,rfl,⟨by omega,by omega,by omega,by omega⟩,ZJ I2 q2 Ve⟩
    ·exact q2.elim
   | _=>exact q2.elim
  | _=>cases r2 <;> exact q2.elim
def kn (X:Cx)(Y:Fx)(tg:Expr)(g:T->En->R En):Prop:=∃t:TG,PG X tg t/\∀B ρ σ H v x Q,SI Y B ρ σ H->Rep B v x->(match g x ρ with | .ok ρ' =>∀σ',SI Y B ρ' σ' H->Q σ' H | _=>False)->t v σ H Q
def zE (i:Nat):T->En->R En:=λt ρ=> .ok (ρ.set i (.vl t))
theorem Vf (hN:X.N.Nodup)(hi:X.N[i]? =some x)(hx:L2.Loc X.env.scope x)(hf:X.fn x=true\/X.env.scope.names.lookup x=some .local:=by first | exact .inl rfl | exact .inr rfl | assumption):kn X Y (.Name x pos) (zE i):=
 ⟨wb i,ZL hN hi hx hf,λB ρ σ H v x Q I r q=>q _ (I.setV i r)⟩
def zM (i j:Nat):T->En->R En:=λt ρ=>match t with
 | .tup [x,y]=> .ok ((ρ.set i (.vl x)).set j (.vl y))
 | _=> .bad
theorem KC (hc:X.calm=true)(hN:X.N.Nodup)(hi:X.N[i]? =some x)(hj:X.N[j]? =some y)(hx:L2.Loc X.env.scope x)(hy:L2.Loc X.env.scope y)
  (hf:X.fn x=true\/X.env.scope.names.lookup x=some .local:=by first | exact .inl rfl | exact .inr rfl | assumption) (hf' :X.fn y=true\/X.env.scope.names.lookup y=some .local:=by first | exact .inl rfl | exact .inr rfl | assumption):
  kn X Y (.Tuple [.Name x pos,.Name y p'] k p2) (zM i j):=by
 refine⟨kN X.K 2 _,yk hc (ZM (ZL hN hi hx hf) (ZM (ZL hN hj hy hf') WU)),λB ρ σ H v t Q I r q=> ?_⟩;cases r with
 | @tup l xs ts h r=>
  cases r with
  | nil=>exact q.elim
  | cons r1 rr=>
   cases rr with
   | nil=>exact q.elim
   | cons r2 rr=>
    cases rr with
    | cons _ _=>exact q.elim
    | nil=>
     exact⟨l,_,rfl,SqT.of (I.sB _ _ h),rfl,_,_,rfl,_,_,rfl,rfl,q _ ((I.setV i r1).setV j r2)⟩
 | _=>exact q.elim
def Za (g:T->En->R En)(fb:En->RS):List T->En->RS
 | [],ρ=> .nx ρ
 | t :: ts,ρ=>match g t ρ with
  | .ok ρ1=>match fb ρ1 with
   | .nx ρ2=>Za g fb ts ρ2
   | .ct ρ2=>Za g fb ts ρ2
   | .bk ρ2=> .nx ρ2
   | r=>r
  | .ex c=> .bad
  | .bad=> .bad
def ZN (fi:En->R (List T))(g:T->En->R En)(fb:En->RS):En->RS:=λρ=>(fi ρ).s λts=>Za g fb ts ρ
theorem z1G {g:T->En->R En}(hp:PassesOwn (model X.prog X.w) X.A X.env X.xe)(hc:X.calm=true)(hi:uK X Y tg iter fi)(hg:kn X Y tg g)(hb:WY X Y sts fb)
  (hs:∀x,foldedSetIterable iter X.env x=pure x:=by intro _;rfl):wk X Y (.For tg iter sts [] pos) (ZN fi g fb):= .mk λρ=>by
 obtain⟨tG,hG,hG'⟩:=hg;refine PS.imp (kR (tb:=λD σ H=>∃ρ',tSS Y fb ρ' D σ H) hp hc (hi ρ) hG (λpins s σ H D I ⟨ρ',q⟩=>hb ρ' _ s σ H D I q) hs) λD σ H ⟨B,I,q⟩=> ?_;refine jR I q λts J H1 _ s1 r1 I1 q1=> ?_;refine⟨λi m σ' H' =>m=ts.length - i/\i<=ts.length/\∃ρ' B',SI Y B' ρ' σ' H' /\zp _ B' /\PoS Y B' (Za g fb (ts.drop i) ρ') D,⟨ts.length,by simp,b6 _,ρ,_,I1,zp.refl _,q1⟩, ?_⟩
 rintro i m σ' H' ⟨rfl,hi,ρ',B',I',sB',q'⟩
 obtain⟨hgo,hyld,hstop⟩:=r1 B' H' sB' I'.sB
 by_cases hlt:i < ts.length
 ·refine .inr ⟨hgo i hlt,λσ2 H2=>∃ρ2 B2,SI Y B2 ρ2 σ2 H2/\zp _ B2/\PoS Y B2 _ D,λσ2 H2 ⟨ρ2,B2,I2,s2,q2⟩=>⟨ts.length - (i+1),by omega,rfl,hlt,ρ2,B2,I2,s2,q2⟩,λx H2 y=> ?_⟩
  obtain⟨s2,r2⟩:=hyld i _ x H2 (a9 hlt) y;rw[eR hlt]at q';unfold Za at q';refine hG' _ ρ' σ' H2 x _ _ (I'.grow s2) r2 ?_;cases eg:g _ ρ' with
  | bad=>rw[eg]at q';exact q'
  | ex c=>rw[eg]at q';exact q'
  | ok ρ1=>
   rw[eg]at q';intro σ1 J1;refine⟨ρ1,_,J1, ?_⟩;have q2:=PoS.up (zS.ge I'.sB s2) q';dsimp only at q2;have s3:=sB'.trans (zS.ge I'.sB s2);revert q2;cases fb ρ1 with
   | nx ρ2=>exact λq2 σ3 H3 B3 s4 I3=>⟨ρ2,B3,I3,s3.trans s4,PoS.up s4 q2⟩
   | ct ρ2=>exact λq2 σ3 H3 B3 s4 I3=>⟨ρ2,B3,I3,s3.trans s4,PoS.up s4 q2⟩
   | bk ρ2=>exact λq2=>q2
   | rt t=>exact λq2=>q2
   | rf t=>exact λq2=>q2
   | ex c=>exact λq2=>q2
   | bad=>exact λq2=>q2
 ·have e:i=ts.length:=by omega
  subst e;rw[iS]at q';exact .inl ⟨hstop _ (am _),q' σ' H' B' (zp.refl _) I'⟩
def Zh (g:En->R Bool)(fb:En->RS):Nat->En->RS
 | 0,_=> .bad
 | n+1,ρ=>(g ρ).s λk=>if k=true then match fb ρ with
   | .nx ρ2=>Zh g fb n ρ2
   | .ct ρ2=>Zh g fb n ρ2
   | .bk ρ2=> .nx ρ2
   | r=>r
  else .nx ρ
theorem yV (hp:PassesOwn (model X.prog X.w) X.A X.env X.xe)(hc:Wd X Y c ga)(hb:WY X Y sts fb):wk X Y (.While c sts [] pos) (Zh ga fb n):= .mk λρ=>by
 refine PS.imp (Qq (tc:=λσ H Q=>∃ρ',tS Y rE ga ρ' σ H Q) (tb:=λD σ H=>∃ρ',tSS Y fb ρ' D σ H) hp (λpins s σ H D I ⟨ρ',q⟩=>hc ρ' _ s σ H D I q) (λpins s σ H D I ⟨ρ',q⟩=>hb ρ' _ s σ H D I q)) λD σ H ⟨B,I,q⟩=> ?_;refine⟨λm σ' H' =>∃ρ' B',SI Y B' ρ' σ' H' /\PoS Y B' (Zh ga fb m ρ') D,⟨n,ρ,B,I,q⟩, ?_⟩
 rintro m σ' H' ⟨ρ',B',I',q'⟩
 cases m with
 | zero=>exact q'.elim
 | succ m=>
  unfold Zh at q';refine⟨ρ',jR I' q' λt v H1 _ s1 r1 I1 q1=> ?_⟩;have r1' :=r1;subst r1';cases v with
  | false=>exact q1 _ _ _ (zp.refl _) I1
  | true=>
   refine⟨λσ2 H2=>∃ρ2 B2,SI Y B2 ρ2 σ2 H2/\PoS Y B2 _ D,λσ2 H2 h=>⟨m,cN m,h⟩,ρ',_,I1, ?_⟩;revert q1;cases fb ρ' with
   | nx ρ2=>exact λq2 σ3 H3 B3 s4 I3=>⟨ρ2,B3,I3,PoS.up s4 q2⟩
   | ct ρ2=>exact λq2 σ3 H3 B3 s4 I3=>⟨ρ2,B3,I3,PoS.up s4 q2⟩
   | bk ρ2=>exact λq2=>q2
   | rt t=>exact λq2=>q2
   | rf t=>exact λq2=>q2
   | ex c=>exact λq2=>q2
   | bad=>exact λq2=>q2
end
theorem Je:∀(ns:List (Str×NameKind)) (acc:List (Str×Addr)),(∀x∈ns,x.2=NameKind.free->∃c,env.cells.lookup x.1=some c)->(∀x c,acc.lookup x=some c->env.cells.lookup x=some c)->
  ∃cl,(forIn ns acc (λ(x:Str×NameKind) (r:List (Str×Addr))=>if (x.2 == NameKind.free)=true then (do let c ← cellOf env x.1;pure (ForInStep.yield ((x.1,c) :: r))) else pure (ForInStep.yield r)):Sem _)=pure cl/\
   (∀x c,cl.lookup x=some c->env.cells.lookup x=some c)/\(∀x c,acc.lookup x=some c->∃c',cl.lookup x=some c')/\(∀x∈ns,x.2=NameKind.free->∃c,cl.lookup x.1=some c)
 | [],acc,_,h=>⟨acc,rfl,h,λx c e=>⟨c,e⟩,λx hx=>by simp at hx⟩
 | (n,k) :: ns,acc,hf,h=>by
  by_cases hk:k=NameKind.free
  ·obtain⟨c,hc⟩:=hf _ ac hk;have h' :∀x d,((n,c) :: acc).lookup x=some d->env.cells.lookup x=some d:=λx d e=>by
    by_cases hx:x=n
    ·subst hx;have e' :=by simpa[aP] using e
     cases e';exact hc
    ·have e' :=by
      rw[aP,(beq_eq_false_iff_ne.mpr hx)]at e;exact e
     exact h x d e'
   obtain⟨cl,e,h1,h2,h3⟩:=Je ns _ (λx hx=>hf x (a8 _ hx)) h';refine⟨cl, ?_,h1,λx d ed=> ?_,λx hx hxf=> ?_⟩
   ·rw[l5];subst hk;have q:cellOf env n=pure c:=by unfold cellOf;rw[hc]
    simp only[beq_self_eq_true,if_true,q];exact e
   ·by_cases hx:x=n
    ·subst hx;exact h2 x c (by simp[aP])
    ·exact h2 x d (by rw[aP,(beq_eq_false_iff_ne.mpr hx)];exact ed)
   ·rcases aj.mp hx with rfl | hx
    ·exact h2 n c (by simp[aP])
    ·exact h3 x hx hxf
  ·obtain⟨cl,e,h1,h2,h3⟩:=Je ns acc (λx hx=>hf x (a8 _ hx)) h;refine⟨cl, ?_,h1,h2,λx hx hxf=> ?_⟩
   ·rw[l5];have q:(k == NameKind.free)=false:=by simpa using hk
    simp only[q,aB,if_false];exact e
   ·rcases aj.mp hx with rfl | hx
    ·exact absurd hxf hk
    ·exact h3 x hx hxf
theorem xF (hf:∀x∈scope.names,x.2=NameKind.free->∃c,env.cells.lookup x.1=some c):
  ∃cl,closureFor scope env=pure cl/\(∀x c,cl.lookup x=some c->env.cells.lookup x=some c)/\(∀x∈scope.names,x.2=NameKind.free->∃c,cl.lookup x.1=some c):=by
 obtain⟨cl,e,h1,_,h3⟩:=Je _ [] hf (λx c e=>by simp at e)
 refine⟨cl, ?_,h1,h3⟩;unfold closureFor;exact(by simpa using e)
def cxC (X:Cx)(scope:Scope)(N' :List Str)(cl:List (Str×Addr))(C:Addr)(s3:Shared)(H3:Hp)(fp:List Addr)(pins:List (Addr×Obj)):Cx:=
 { X with N:=N',s₀:=s3,H₀:=H3,env:=compEnvC scope cl C X.env,outer:=X.stack,stack:=X.stack,ex:=fp,fn:=λ_=>false,pn:=X.pn++pins,xe:=λ_ _=>False }
structure CSc (X:Cx) (scope:Scope):Prop where
 kind:scope.kind= .function
 nocell:∀x∈scope.names,x.2 ≠ .cell
 loc:∀x∈scope.names,x.2= .local->scope.names.lookup x.1=some .local
 fre:∀x∈scope.names,x.2= .free->X.env.kindOf x.1=some .cell\/X.env.kindOf x.1=some .free
theorem jp (h:(relabel scope env).names.lookup x=some k)(hk:k= .cell\/k= .free)(hn:∀x∈scope.names,x.2 ≠ NameKind.cell):∃y∈scope.names,y.1=x/\y.2= .free:=by
 have go:∀ns:List (Str×NameKind),(∀x∈ns,x.2 ≠ NameKind.cell)->(ns.map λ(n,k)=>if (k == NameKind.free && env.scope.kind == .function && env.kindOf n == some .cell) then (n,NameKind.cell) else (n,k)).lookup x=some k->∃y∈ns,y.1=x/\y.2= .free:=by
  intro ns
  induction ns with
  | nil=>intro _ h;simp at h
  | cons y ns ih=>
   intro hn h;obtain⟨n,k'⟩:=y
   by_cases hx:x=n
   ·subst hx;refine⟨(x,k'),ac,rfl, ?_⟩;rw[ay]at h
    by_cases hc:(k' == NameKind.free && env.scope.kind == .function && env.kindOf x == some .cell)=true
    ·rw[ah,ah]at hc;exact eq_of_beq hc.1.1
    ·simp only[if_neg hc,aP,beq_self_eq_true]at h;cases h;rcases hk with rfl | rfl
     ·exact absurd rfl (hn _ ac)
     ·rfl
   ·obtain⟨z,hz,h1,h2⟩:=ih (λz hz=>hn z (a8 _ hz)) (by
     rw[ay]at h
     by_cases hc:(k' == NameKind.free && env.scope.kind == .function && env.kindOf n == some .cell)=true
     ·simp only[if_pos hc,aP,(beq_eq_false_iff_ne.mpr hx)]at h;exact h
     ·simp only[if_neg hc,aP,(beq_eq_false_iff_ne.mpr hx)]at h;exact h)
    exact⟨z,a8 _ hz,h1,h2⟩
 exact go _ hn h
section
theorem yW (I:L2.Inv X pins σ H s)(S:CSc X scope)(hc:X.calm=true)
  (hcl:∀x c,cl.lookup x=some c->X.env.cells.lookup x=some c) (hcf:∀x∈scope.names,x.2=NameKind.free->∃c,cl.lookup x.1=some c)
  (hfp:∀b∈fp,WP X pins H b) (hfo:∀b∈fp,∃o,s.heap.get? b=some o)
  (hns:h'.Ns s.heap.objs.size (λ_=>none)) (hk:∀b o,s.heap.get? b=some o->h'.get? b=some o)
  (hl:σ'.length=N'.length) (hσ:∀(i:Nat) (x:Str) (v:V),N'[i]? =some x->σ'[i]? =some (some v)->∃j:Nat,X.N[j]? =some x/\σ[j]? =some (some v)/\Vis X.env.scope x/\(scope.names.lookup x=some .free)/\(X.env.kindOf x=some .cell\/X.env.kindOf x=some .free)):
  L2.Inv (cxC X scope N' cl s.heap.objs.size s H fp pins) [] σ' H { s with heap:=h',toks:=tk }:=by
 have stk:=I.stkSub;have hlt:=λb hb=>let ⟨o,e⟩:=hfo b hb;ao e;have fresh:=I.hok.fresh (am _);refine⟨⟨I.ok.mod,S.kind,I.ok.glob,I.ok.blt,am _,λx y c h1 h2=>I.ok.inj x y c (hcl _ _ h1) (hcl _ _ h2),λx hx=> ?_,λx c h _=>(aE h).elim,λ_=>I.ok.hd hc,I.ok.frames,.inl rfl,λb hb=> ?_,I.bs,
   aq I.ok.bsz I.sz,λb o e hb=> ?_,λb hb hb' => ?_,I.stack,I.stkFree⟩,rfl,I.bare,Un.kept hk,⟨_,hns,λi x v h1 h2 h3=> ?_⟩,λx c e=> ?_,fresh,λx c e=>I.freeC x c (hcl _ _ e),λp hp=> ?_,I.hok.kept hk,hl⟩
 ·have hx' :=hx;obtain⟨y,hy,rfl,hyf⟩:∃y∈scope.names,y.1=x/\y.2= .free:=by
   rcases hx' with h | h
   ·exact jp h (.inl rfl) S.nocell
   ·exact jp h (.inr rfl) S.nocell
  exact hcf y hy hyf
 ·refine⟨ax (hlt b hb),λx c e=>(hfp b hb).2.2.2.2.1 x c (hcl _ _ e)⟩
 ·rcases(hfp b hb).2.2.2.1 with h | h
  ·exact I.ok.noex b o e h
  ·exact absurd (aL (ao e) (aq I.ok.bsz h)) (ba _)
 ·have q:=hfp b hb;rcases aj.mp (stk b hb') with z | z
  ·exact q.2.1 z
  ·exact q.2.2.1 z
 ·obtain⟨j,e1,e2,e3,e4,e5⟩:=hσ i x v h1 h2;obtain⟨m,hn,hloc⟩:=I.loc;obtain⟨u,ru,lk⟩:=hloc j x v e1 e2 e3;refine⟨u,ru,.inr ⟨?_, ?_⟩⟩
  ·rcases h3 with h | h | h
   ·exfalso;have:∀ns:List _,ns.lookup x=some .free->(ns.map λ(n,k)=>if (k == NameKind.free && X.env.scope.kind == .function && X.env.kindOf n == some .cell) then (n,NameKind.cell) else (n,k)).lookup x ≠ some .local:=by
     intro ns
     induction ns with
     | nil=>intro z;simp at z
     | cons y ns ih=>
      obtain⟨n,k⟩:=y;intro z w;rw[ay]at w
      by_cases hx:x=n
      ·subst hx;have hkf:=by simpa[aP] using z
       by_cases hcn:(k == NameKind.free && X.env.scope.kind == .function && X.env.kindOf x == some .cell)=true
       ·simp only[if_pos hcn,aP,beq_self_eq_true]at w;cases w
       ·simp only[if_neg hcn,aP,beq_self_eq_true]at w;rw[hkf]at w;cases w
      ·have z' :=by rw[aP,(beq_eq_false_iff_ne.mpr hx)]at z;exact z
       refine ih z' ?_
       by_cases hcn:(k == NameKind.free && X.env.scope.kind == .function && X.env.kindOf n == some .cell)=true
       ·simp only[if_pos hcn,aP,(beq_eq_false_iff_ne.mpr hx)]at w;exact w
       ·simp only[if_neg hcn,aP,(beq_eq_false_iff_ne.mpr hx)]at w;exact w
    exact this _ e4 h
   ·exact .inl h
   ·exact .inr h
  ·rcases lk with ⟨hk',_⟩ | ⟨_,c,hc',hcell⟩
   ·rcases e5 with z | z <;> (rw[z]at hk';cases hk')
   ·obtain⟨c',hc2⟩:=hcf _ (ci e4) rfl;have:=hcl x c' hc2;rw[hc']at this;cases this;obtain⟨o,eo,ed⟩:=hcell;exact⟨c,hc2,o,hk _ _ eo,ed⟩
 ·obtain⟨v,o,eo,ed⟩:=I.cell x c (hcl _ _ e);exact⟨v,o,hk _ _ eo,ed⟩
 ·have hp' :=by
   have:=hp;rwa[bz]at this
  obtain⟨e,n,ne,nf,dc⟩:=I.pin p hp';refine⟨hk _ _ e,n,ax (ao e),λhb=> ?_,dc⟩;rcases aj.mp (stk _ hb) with z | z
  ·exact ne z
  ·exact nf z
end
def PIf (X:Cx)(ifs:List Expr)(t:TT):Prop:=
 ∀(pins:List (Addr×Obj)) (s:Shared) (σ:Sg) (H:Hp) (Q:Bool->Hp->Prop),L2.Inv X pins σ H s->t σ H Q->
  wpAny (model X.prog X.w) X.A (forIn ifs true λc r=>if r=true then do let ok ← isTrue c X.env (eval c X.env);pure (ForInStep.yield ok) else pure (ForInStep.yield r)) (TP X pins σ Q) X.xe s
theorem xG:PIf X [] (λ_ H Q=>Q true H):=λ_ _ σ H _ I h=>wpAny_tests_nil ⟨H,I,h⟩
theorem xH (h:PT X c t):PIf X [c] t:=λpins s σ H Q I q=>wpAny_tests_one (h _ s σ H Q I q)
noncomputable abbrev XE (X:Cx)(xe:Value->Shared->Prop):Cx:={ X with xe:=xe }
theorem uL (I:L2.Inv X pins σ H s):L2.Inv (XE X xe) pins σ H s:=
 ⟨⟨I.ok.mod,I.ok.kind,I.ok.glob,I.ok.blt,I.ok.above,I.ok.inj,I.ok.has,I.ok.cab,I.ok.hd,I.ok.frames,I.ok.stk,I.ok.exf,I.ok.bs,I.ok.bsz,I.ok.noex,I.ok.exfs,I.ok.funs,I.ok.frf⟩,I.os,I.bare,I.base,I.loc,I.cell,I.free,I.freeC,I.pin,I.hok,I.len⟩
theorem yX (I:L2.Inv (XE X xe) pins σ H s):L2.Inv X pins σ H s:=(uL I:L2.Inv _ _ σ H s)
theorem z1H (hx:X.xe=λ_ _=>False)(h:PG X e t):PG (XE X xe) e t:=λpins s σ H v u Q I r q=>cS (h _ s σ H v u Q (yX I) r q) (λ_ s' ⟨σ',H',I',q'⟩=>⟨σ',H',uL I',q'⟩) λe s' z=>by rw[hx]at z;exact z.elim
theorem KD (hx:X.xe=λ_ _=>False)(h:PIf X e t):PIf (XE X xe) e t:=λpins s σ H Q I q=>cS (h _ s σ H Q (yX I) q) (λ_ s' ⟨H',I',q'⟩=>⟨H',uL I',q'⟩) λe s' z=>by rw[hx]at z;exact z.elim
theorem uM {α:Type}{m:Sem α}{Q:α->Shared->Prop}(hE:∀e s',E' e s' ->E e s')(h:wpAny M A m Q E' s):wpAny M A m Q E s:=cS h (λ_ _ q=>q) hE
def QK (J:It)(D:Addr)(g:TG)(tt:TT)(te:TE)(fin:Sg->Hp->Prop)(W:Nat->Nat->List V->Sg->Hp->Prop):Prop:=
 ∀i m ys σ H,W i m ys σ H->H D=some (.lst ys)/\((J.stop i H/\fin σ H)\/(J.go i H/\∀x H2,J.yld i H x H2->g x σ H2 λσ3 H3=>tt σ3 H3 λk H4=>
  if k=true then te σ3 H4 λv H5=>H5 D=some (.lst ys)/\ys.length < sizeLine/\∃m',m' < m/\W (i+1) m' (ys++[v]) σ3 (upd H5 D (.lst (ys++[v]))) else ∃m',m' < m/\W (i+1) m' ys σ3 H4))
theorem yY {X:Cx}{R:Result->Shared->Prop}(hx:∀e s',X.xe e s' ->notedBy (model X.prog X.w) X.A X.env (λe s' =>R (.error e) s') e s')(hc:X.calm=true){tg iter elt:Expr}{ifs:List Expr}{scope:Scope}{pos:Pos}{J:It}{fp:List Addr}{it:Addr}{tn:Nat->Heap->Prop}(TJ:yl X.prog X.w X.K tg J fp it tn)
  {g:TG} {tt:TT} {te:TE} (hg:PG X tg g) (ht:PIf X ifs tt) (he:PE X elt te) {D:Addr} {fin:Sg->Hp->Prop} (W:Nat->Nat->List V->Sg->Hp->Prop) (turn:QK J D g tt te fin W)
  (hR:∀s σ H,L2.Inv X [] σ H s->fin σ H->R (.ok .next) s) {m0:Nat} {σ0:Sg} {H0:Hp} {s0:Shared} (w0:W 0 m0 [] σ0 H0) (I0:L2.Inv X [] σ0 H0 s0) (t0:tn 0 s0.heap) (f0:∀b∈fp,WP X [] H0 b):
  codeAny (model X.prog X.w) X.A (.compLoop (.ListComp elt [⟨tg,iter,ifs,0⟩] scope pos) 0 (.ref it) (.ref D) X.env) R s0:=by
 have stat:∀{H' :Hp},(∀b∈fp,H' b=none)->∀b∈fp,WP X [] H' b:=λhn b hb=>⟨hn b hb,(f0 b hb).2⟩;refine codeAny_loop rfl (λn s' =>∃i ys σ' H',L2.Inv X [] σ' H' s' /\tn i s'.heap/\(∀b∈fp,H' b=none)/\W i n ys σ' H') (λn s3 h3=> ?_) m0 ⟨0,[],σ0,H0,I0,t0,λb hb=>(f0 b hb).1,w0⟩;obtain⟨i,ys,σ3,H3,I3,st3,fr3,w3⟩:=h3;show wpAny _ X.A ((compTurn _ 0 _ _ _).onRaise (λx=>do noteFrame x _;theTreesLotGoes x)) _ _ s3
 refine wpAny_noted ?_;obtain⟨hD,h⟩:=turn i n ys σ3 H3 w3;rcases h with ⟨stop,qn⟩ | ⟨go,next⟩
 ·refine a7 (wpAny_standAt (a7 (thn (TJ.done X rfl rfl rfl hc i [] s3 σ3 H3 _ I3 (stat fr3) st3 stop) λr s4 ⟨hr,I4⟩=> ?_)));subst hr;exact ag (hR s4 σ3 H3 I4 qn)
 ·refine a7 (wpAny_standAt (a7 (thn (TJ.item X rfl rfl rfl hc i [] s3 σ3 H3 _ I3 (stat fr3) st3 go) λr s4 ⟨u,hr,h4⟩=> ?_)));subst hr;refine a7 (thn h4 λ_ s5 ⟨x,H5,I5,r5,y5,st5,fr5⟩=> ?_);have I5' :=I5.pinned (stat fr5) (TJ.obj _ _ st5);refine a7 (uM hx (thn (hg _ s5 σ3 H5 x u _ I5' r5 (next x H5 y5)) λ_ s6 ⟨σ6,H6,I6,q6⟩=> ?_));have again:∀{σ7:Sg} {H7:Hp} {s7:Shared} {ys' :List V},L2.Inv X _ σ7 H7 s7->(∃m',m' < n/\W (i+1) m' ys' σ7 H7)->∃m,m < n/\∃i ys σ' H',L2.Inv X [] σ' H' s7/\tn i _/\(∀b∈fp,H' b=none)/\W i m ys σ' H' :=λ{σ7 H7 s7 ys'} I7 ⟨m',hm,w7⟩=>by
   refine⟨m',hm,i+1,ys',σ7,H7,I7.unpinned,TJ.keep _ _ _ st5 λb hb o e=>(I7.pin _ (b9 _ (b9 _ (j2 hb e)))).1,λb hb=> ?_,w7⟩;obtain⟨o,e,d⟩:=TJ.obj _ _ st5 b hb;exact(I7.pin _ (b9 _ (b9 _ (j2 hb e)))).2.1
  refine a7 (uM hx (thn (ht _ s6 σ6 H6 _ I6 q6) λk s7 ⟨H7,I7,q7⟩=> ?_));cases k with
  | false=>exact ag ⟨rfl,again I7 q7⟩
  | true=>
   refine a7 (a7 (uM hx (thn (he _ s7 σ6 H7 _ I7 q7) λv s8 ⟨y,H8,I8,r8,hD8,hlen,q8⟩=> ?_)));refine a7 (uM hx (thn (Wa _ s8 σ6 H8 (.ref D) [y] _ [v] (λ_ H9=>∃m',m' < n/\W _ m' _ σ6 H9) I8 rfl (.cons r8 .nil) ⟨D,ys,y,rfl,rfl,hD8,hlen,q8⟩) λw s9 ⟨_,H9,I9,_,q9⟩=> ?_));exact ag (ag ⟨rfl,again I9 q9⟩)
def yb (k:Nat)(js:List Nat)(σ:Sg):Sg:=ae k none++js.map λj=>(σ[j]?).getD none
section
abbrev Vg (X:Cx)(scope:Scope)(N' :List Str)(P:Cx->Prop):Prop:=∀cl C s3 H3 fp pins,P (cxC X scope N' cl C s3 H3 fp pins)
abbrev KF (X:Cx)(scope:Scope)(N' :List Str)(E:XK)(P:Cx->Prop):Prop:=∀cl C s3 H3 fp pins xe,JM (CX1 X.prog X.w) (XE (cxC X scope N' cl C s3 H3 fp pins) xe) E->P (XE (cxC X scope N' cl C s3 H3 fp pins) xe)
structure z1I (X:Cx) (scope:Scope) (N' :List Str) (k:Nat) (js:List Nat):Prop where
 len:N'.length=k+js.length
 cap:∀(i j:Nat),js[i]? =some j->∃x,N'[k+i]? =some x/\X.N[j]? =some x/\Vis X.env.scope x/\scope.names.lookup x=some .free/\(X.env.kindOf x=some .cell\/X.env.kindOf x=some .free)
theorem uN (hp:Kc X E){js:List Nat}{use:Option (Value->Sem Unit)}(S:CSc X scope)(CP:z1I X scope N' k js)(hc:X.calm=true)
  (hi:PI X tg iter wi) (hg:Vg X scope N' λXC=>PG XC tg g) (ht:Vg X scope N' λXC=>PIf XC ifs tt) (he:KF X scope N' E λXC=>PE XC elt te) {pins:List (Addr×Obj)} {σ:Sg} {H:Hp} {s:Shared} {Q:Value->Shared->Prop} {F:Addr->Hp->Prop} (I:L2.Inv X pins σ H s)
  (h:wi σ H λJ H1=>∀D,H1 D=none->∃W,(∃m,W 0 m [] (yb k js σ) (upd H1 D (.lst [])))/\QK J D g tt te (λ_ H' =>F D H') W)
  (hQ:∀D C H' s',L2.Inv X pins σ H' s' ->F D H' ->H' C=none->(X.s₀.heap.objs.size<=C)->C ≠ X.env.locals->(∀x c,X.env.cells.lookup x=some c->c ≠ C)->(∀p∈X.pn++pins,p.1 ≠ C)->(∃m,s'.heap.Ns C m)->compPost (model X.prog X.w) X.A X.xe use Q (.ref D) C (.ok .next) s')
  (hs:∀x,foldedSetIterable iter X.env x=pure x:=by intro _;rfl):
  wpAny (model X.prog X.w) X.A (comprehension (.ListComp elt [⟨tg,iter,ifs,0⟩] scope pos) scope X.env pos' (newList []) false (eval iter X.env) use) Q X.xe s:=by
 obtain⟨cl,ecl,hcl,hcf⟩:=xF (scope:=scope) (env:=X.env) λx hx hf=>I.ok.has x.1 (S.fre x hx hf);refine wpAny_comprehension_free rfl hs ecl S.kind S.loc ?_;refine thn (hi pins s σ H _ I h) λv s1 h1=>thn h1 λitv s2 h2=> ?_;obtain⟨it,fp,tn,J,H2,e,I2,TJ,st2,f2,q2⟩:=h2;subst e;refine aM ?_;have hD:=I2.hok.fresh (am _);have I3:L2.Inv X pins σ (upd H2 s2.heap.objs.size (.lst [])) { s2 with heap:=s2.heap.push { cls:= .type "list",data:= .seq _ } }:=
  I2.laid (t' :=s2.toks) (λb u e=>ab _ e) (am _) ⟨b6 _,[],_,.nil,af _ rfl⟩
 obtain⟨W,⟨m0,w0⟩,turn⟩:=q2 s2.heap.objs.size hD;have f3:∀b∈fp,WP X pins (upd H2 s2.heap.objs.size (.lst [])) b:=λb hb=>by
  obtain⟨o,eo,_⟩:=TJ.obj _ _ st2 b hb;exact⟨by rw[zm (ax (ao eo))];exact(f2 b hb).1,(f2 b hb).2⟩
 have o3:∀b∈fp,∃o,(s2.heap.push { cls:= .type "list",data:= .seq ([]:List Value).toArray }).get? b=some o:=λb hb=>by
  obtain⟨o,eo,_⟩:=TJ.obj _ _ st2 b hb;exact⟨o,ab _ eo⟩
 refine wpAny_newFunctionEnv S.nocell (by intro y hy;simp at hy) (λh4 hns4 hsb4=> ?_) S.kind
 generalize hG:s2.heap.push _=G3 at I3 o3 hns4 hsb4 ⊢;have s3e:∃s3:Shared,s3={ s2 with heap:=G3 }:=⟨_,rfl⟩;obtain⟨s3,es3⟩:=s3e;have hh3:s3.heap=s2.heap.push { cls:= .type "list",data:= .seq ([]:List Value).toArray }:=by rw[es3,hG]
 have hg3:G3=s3.heap:=by rw[es3]
 rw[← es3]at I3;rw[hg3]at hns4 hsb4 o3;have k4:=λb o e=>hsb4.extBut b o (ax (ao e)) (ab _ e);have IC:=yW (N' :=N') (cl:=cl) (fp:=fp) (σ' :=yb k js σ) (tk:=s3.toks+([]:List (Str×Value)).length) I3 S hc hcl hcf f3 o3 hns4 k4 (by unfold yb;simp[CP.len]) (λi x v h1 h2=>by
  unfold yb at h2
  by_cases hik:i < k
  ·rw[aT (by simpa using hik),aU,if_pos hik]at h2
   cases h2
  ·have hk' :k<=i:=by omega
   rw[aJ (by simpa using hk'),aF,ar]at h2
   cases ej:js[i - k]? with
   | none=>rw[ej]at h2;cases h2
   | some j=>
    rw[ej]at h2;obtain⟨y,e1,e2,e3,e4,e5⟩:=CP.cap (i - k) j ej;have:k+(i - k)=i:=by omega
    rw[this,h1]at e1;cases e1;refine⟨j,e2, ?_,e3,e4,e5⟩;have h2' :some ((σ[j]?).getD none)=some (some v):=h2;cases ez:σ[j]? with
    | none=>rw[ez]at h2';cases h2'
    | some z=>rw[ez]at h2';exact congrArg some (aR h2'))
 have TC:yl _ _ _ tg J fp it tn:=TJ;have t4:tn 0 h4:=TJ.keep _ _ _ st2 λb hb o e=>k4 b o (by rw[hh3];exact ab _ e)
 have fC:∀b∈fp,WP (cxC X scope N' cl s3.heap.objs.size s3 (upd H2 s2.heap.objs.size (.lst [])) fp pins) [] _ b:=λb hb=>by
  obtain⟨q0,q1,q2,q3,q4,q5⟩:=f3 b hb;obtain⟨o,eo⟩:=o3 b hb;refine⟨q0,ax (ao eo),λhb' => ?_,.inl hb,λx c e=>q4 x c (hcl _ _ e),λp hp=> ?_⟩
  ·rcases aj.mp (I3.stkSub b hb') with z | z
   ·exact q1 z
   ·exact q2 z
  ·exact q5 p (by
    have:=hp;rwa[bz]at this)
 have fin:∀(s5:Shared) (σ5:Sg) (H5:Hp),L2.Inv (cxC X scope N' cl s3.heap.objs.size s3 (upd H2 s2.heap.objs.size (.lst [])) fp pins) [] σ5 H5 s5->F s2.heap.objs.size H5->compPost (model X.prog X.w) X.A X.xe use Q _ s3.heap.objs.size (.ok .next) s5:=λs5 σ5 H5 I5 q5=>by
  have J5:=I3.call' (ch:=fp) I5.os I5.base I5.hok I5.bare λb hb=>by
   obtain⟨q0,q1,q2,q3,q4,q5⟩:=f3 b hb;exact⟨q3,q1,q4,q5⟩
  refine hQ _ _ H5 s5 J5 q5 I5.free I3.sz (bT I3.lt) (λx c e z=> ?_) (λp hp z=> ?_) (let ⟨m,hm,_⟩:=I5.loc;⟨m,hm⟩)
  ·obtain⟨v',o,eo,_⟩:=I3.cell x c e;exact absurd (ao eo) (by rw[z];exact ba _)
  ·exact absurd (ao (I3.pin p hp).1) (by rw[z];exact ba _)
 have pass:JM (CX1 X.prog X.w) (XE (cxC X scope N' cl s3.heap.objs.size s3 (upd H2 s2.heap.objs.size (.lst [])) fp pins) (notedBy (model X.prog X.w) X.A (compEnvC scope cl s3.heap.objs.size X.env) λe s' =>compPost (model X.prog X.w) X.A X.xe use Q (.ref s2.heap.objs.size) s3.heap.objs.size (.error e) s')) E:=by
  intro pins1 σ1 H1 s1 e s' I1 c1;have J1:=I3.call' I1.os I1.base I1.hok I1.bare λb hb=>by
   obtain⟨q0,q1,q2,q3,q4,q5⟩:=f3 b hb;exact⟨q3,q1,q4,q5⟩
  obtain⟨m1,hm1,_⟩:=I1.loc;refine thn (hp pins σ H1 s1 e s' _ m1 _ _ J1 hm1 I1.free I3.sz (λz=> ?_) rfl c1) λ_ s'' q=> ?_
  ·obtain⟨_,o,eo,_⟩:=I3.stack.mem z;exact absurd (ao eo) (ba _)
  ·cases use <;> exact q
 have loop:=yY (X:=XE (cxC X scope N' cl _ s3 _ fp _) (notedBy _ X.A _ λe s' =>compPost _ X.A _ use Q _ _ _ s')) (iter:=iter) (scope:=scope) (pos:=pos) (λ_ _ z=>z) hc TC (z1H rfl (hg _ _ _ _ _ _)) (KD rfl (ht _ _ _ _ _ _)) (he _ _ _ _ _ _ _ pass) W turn (λs5 σ5 H5 I5=>fin s5 σ5 H5 (yX I5)) w0 (uL IC) t4 fC;rw[es3]at loop;exact codeAny_compStart_list loop (TJ.self _ _ _ _ _ t4 loop)
end
def zu (g:T->En->R En)(ft:En->R Bool)(fe:En->R T):List T->En->R (List T)
 | [],_=> .ok []
 | t :: ts,ρ=>(g t ρ).bind λρ1=>(ft ρ1).bind λk=>if k=true then (fe ρ1).bind λv=>(zu g ft fe ts ρ1).bind λvs=> .ok (v :: vs) else zu g ft fe ts ρ1
noncomputable def WZ:Option Sl->Sl
 | some (.vl t)=> .vl t
 | some (.ob k _)=> .oc k []
 | some (.oc k fs)=> .oc k fs
 | _=> .un
def wY (k:Nat)(js:List Nat)(ρ:En):En:=ae k .un++js.map λj=>WZ ρ[j]?
noncomputable def quiet {α:Type}:R α->R α
 | .ok a=> .ok a
 | _=> .bad
def zF (g:T->En->R En)(ft:En->R Bool)(fe:En->R T)(k:Nat)(js:List Nat)(ρ:En)(ts:List T):R (List T):=if ts.length<=bnd then quiet (zu g ft fe ts (wY k js ρ)) else .bad
def zL (fi:En->R (List T))(g:T->En->R En)(ft:En->R Bool)(fe:En->R T)(k:Nat)(js:List Nat):En->R T:=λρ=>(fi ρ).bind λts=>(zF g ft fe k js ρ ts).bind λvs=> .ok (.lst vs)
def GOk (tG:TG)(g:T->En->R En):Prop:=∀Y B ρ σ H v x Q,SI Y B ρ σ H->Rep B v x->(match g x ρ with | .ok ρ' =>∀σ',SI Y B ρ' σ' H->Q σ' H | _=>False)->tG v σ H Q
theorem QL (i:Nat):GOk (wb i) (zE i):=λY B ρ σ H v x Q I r q=>q _ (I.setV i r)
theorem QM (K:ai)(i j:Nat):GOk (kN K 2 (yj (wb i) (yj (wb j) z0U))) (zM i j):=λY B ρ σ H v t Q I r q=>by
 cases r with
 | @tup l xs ts h r=>
  cases r with
  | nil=>exact q.elim
  | cons r1 rr=>
   cases rr with
   | nil=>exact q.elim
   | cons r2 rr=>
    cases rr with
    | cons _ _=>exact q.elim
    | nil=>exact⟨l,_,rfl,SqT.of (I.sB _ _ h),rfl,_,_,rfl,_,_,rfl,rfl,q _ ((I.setV i r1).setV j r2)⟩
 | _=>exact q.elim
theorem SI.blockS (I:SI Y B ρ σ H)(k:Nat)(js:List Nat)(E:XK)(s:zp H H'):SI ⟨B,H,E,Y.cl,[]⟩ B (wY k js ρ) (yb k js σ) H' where
 s0:=I.sB
 sH:=s
 sB:=I.sB.trans s
 old:=λ_ _ _=>rfl
 len:=by unfold wY yb;simp
 vl:=λi t h=>by
  unfold wY at h;unfold yb
  by_cases hik:i < k
  ·rw[aT (by simpa using hik),aU,if_pos hik]at h;cases h
  ·have hk' :k<=i:=by omega
   rw[aJ (by simpa using hk'),aF,ar]at h ⊢
   cases ej:js[i - k]? with
   | none=>rw[ej]at h;cases h
   | some j=>
    rw[ej]at h;have h' :WZ ρ[j]? = .vl t:=aR h;unfold WZ at h';split at h'
    ·rename_i u e;cases h';obtain⟨v,e1,r⟩:=I.vl j _ e;exact⟨v,by show some ((σ[j]?).getD none)=_;rw[e1];rfl,r⟩
    all_goals cases h'
 ow:=λi ts h=>by
  exfalso;unfold wY at h
  by_cases hik:i < k
  ·rw[aT (by simpa using hik),aU,if_pos hik]at h;cases h
  ·have hk' :k<=i:=by omega
   rw[aJ (by simpa using hk'),aF,ar]at h
   cases ej:js[i - k]? with
   | none=>rw[ej]at h;cases h
   | some j=>
    rw[ej]at h;have h' :WZ ρ[j]? = .ow ts:=aR h;unfold WZ at h';split at h' <;> cases h'
 xc:=λi c h=>by
  exfalso;unfold wY at h
  by_cases hik:i < k
  ·rw[aT (by simpa using hik),aU,if_pos hik]at h;cases h
  ·have hk' :k<=i:=by omega
   rw[aJ (by simpa using hk'),aF,ar]at h
   cases ej:js[i - k]? with
   | none=>rw[ej]at h;cases h
   | some j=>
    rw[ej]at h;have h' :WZ ρ[j]? = .xc c:=aR h;unfold WZ at h';split at h' <;> cases h'
 st:=by
  have get:∀(i:Nat) (x:Sl),x.isO=true->(wY k js ρ)[i]? =some x->∃j,js[i - k]? =some j/\k<=i/\WZ ρ[j]? =x:=λi x hx h=>by
   unfold wY at h
   by_cases hik:i < k
   ·rw[aT (by simpa using hik),aU,if_pos hik]at h
    cases h;cases hx
   ·have hk' :k<=i:=by omega
    rw[aJ (by simpa using hk'),aF,ar]at h
    cases ej:js[i - k]? with
    | none=>rw[ej]at h;cases h
    | some j=>
     rw[ej]at h;exact⟨j,rfl,hk',aR h⟩
  refine⟨[],λ_=>none,fr _,λi os h=> ?_,λi _ os _ h=> ?_,λi k' n h=> ?_,λi k' fs h=> ?_,λi os h=> ?_⟩
  ·obtain⟨j,_,_,e⟩:=get i _ rfl h;unfold WZ at e;split at e <;> cases e
  ·obtain⟨j,_,_,e⟩:=get i _ rfl h;unfold WZ at e;split at e <;> cases e
  ·obtain⟨j,_,_,e⟩:=get i _ rfl h;unfold WZ at e;split at e <;> cases e
  ·obtain⟨j,ej,hk',e⟩:=get i _ rfl h;have sg:(yb k js σ)[i]? =some ((σ[j]?).getD none):=by
    unfold yb;rw[aJ (by simpa using hk'),aF,ar,ej];rfl
   obtain⟨as,O,x⟩:=I.st;unfold WZ at e;split at e
   ·cases e
   ·rename_i k2 n2 e2;cases e;obtain⟨a,C,dx,vs,_,e3,e4,e5,_,_,e6⟩:=x.ob j _ _ e2;exact⟨a,C,dx,vs,by rw[sg,e3];rfl,e4,e5,e6,λm f d z=>by cases z⟩
   ·rename_i k2 fs2 e2;cases e;obtain⟨a,C,dx,vs,e3,e4,e5,e6,e7⟩:=x.oc j _ _ e2;exact⟨a,C,dx,vs,by rw[sg,e3];rfl,e4,I.sH _ _ e5,e6,e7.mono (zp.refl _) I.sH⟩
   ·cases e
  ·obtain⟨j,_,_,e⟩:=get i _ rfl h;unfold WZ at e;split at e <;> cases e
theorem SI.block {Y:Fx}{B:Hp}{ρ:En}{σ:Sg}{H H3:Hp}{D:Addr}(I:SI Y B ρ σ H)(k:Nat)(js:List Nat)(E:XK)(hD:H D=none)(o:HO):SI ⟨B,H,E,Y.cl,[]⟩ B (wY k js ρ) (yb k js σ) (upd H D o):=I.blockS k js E (zp.new hD _)
theorem SI.acc {Y:Fx}{B:Hp}{ρ:En}{σ:Sg}{H:Hp}{D:Addr}(I:SI Y B ρ σ H)(hb:B D=none)(h0:Y.H0 D=none)(ho:∀(i:Nat) (ts:List T),ρ[i]? =some (Sl.ow ts)->σ[i]? ≠ some (some (V.ref D)))(hso:∀(i:Nat) (x:Sl),ρ[i]? =some x->Sl.isS x=true->False)(o:HO):SI Y B ρ σ (upd H D o) where
 s0:=I.s0
 sH:=λb u h=>by
  rw[zm (λz=>by subst z;rw[h0]at h;cases h)];exact I.sH b u h
 sB:=λb u h=>by
  rw[zm (λz=>by subst z;rw[hb]at h;cases h)];exact I.sB b u h
 old:=I.old
 len:=I.len
 vl:=I.vl
 ow:=λi ts h=>by
  obtain⟨a,xs,e,b0,h0',hh,r,d⟩:=I.ow i ts h;refine⟨a,xs,e,b0,h0', ?_,r,d⟩;rw[zm (λz=>ho i ts h (by rw[e,z]))];exact hh
 xc:=I.xc
 st:=let ⟨as,O,x⟩:=I.st;⟨as,O,x.pre,λi os h=>hso i _ h rfl |>.elim,λi j os os' h=>hso i _ h rfl |>.elim,λi k n h=>hso i _ h rfl |>.elim,x.oc,λi os h=>hso i _ h rfl |>.elim⟩
def ko (ρ:En):Prop:=∀(i:Nat) (x:Sl),ρ[i]? =some x->(∀ts,x ≠ Sl.ow ts)/\(x.isS=true->False)
theorem QN (k:Nat)(js:List Nat)(ρ:En):ko (wY k js ρ):=λi x h=>by
 unfold wY at h
 by_cases hik:i < k
 ·rw[aT (by simpa using hik),aU,if_pos hik]at h
  cases h;exact⟨λ_=>Sl.noConfusion,aE⟩
 ·have hk' :=by omega
  rw[aJ (by simpa using hk'),aF,ar]at h
  cases ej:js[i - k]? with
  | none=>rw[ej]at h;cases h
  | some j=>
   rw[ej]at h;have h' :WZ _=x:=aR h;unfold WZ at h';split at h' <;> (subst h';exact⟨λ_=>Sl.noConfusion,aE⟩)
theorem wl {ρ:En}{i:Nat}{t:T}(h:ko ρ):ko (ρ.set i (.vl t)):=λj x e=>by
 rcases zw e with ⟨_,z⟩ | ⟨_,z⟩
 ·subst z;exact⟨λ_=>Sl.noConfusion,aE⟩
 ·exact h j x z
def GNo (g:T->En->R En):Prop:=(∀t ρ ρ',ko ρ->g t ρ= .ok ρ' ->ko ρ')/\∀t ρ c,g t ρ ≠ .ex c
theorem QO (i:Nat):GNo (zE i):=⟨λt ρ ρ' h e=>by
 cases e;exact wl h,λt ρ c e=>by cases e⟩
theorem QP (i j:Nat):GNo (zM i j):=⟨λt ρ ρ' h e=>(by
 unfold zM at e;split at e
 ·cases e;exact wl (wl h)
 ·cases e),λt ρ c e=>by unfold zM at e;split at e <;> cases e⟩
section
variable {X:Cx}{Y:Fx}{tg iter elt:Expr}{ifs:List Expr}{scope:Scope}{pos pos' :Pos}{N' :List Str}{k:Nat}{js:List Nat}{fi:En->R (List T)}{tG:TG}{g:T->En->R En}{ft:En->R Bool}{fe:En->R T}
structure wm (X:Cx) (Y:Fx) (ifs:List Expr) (f:En->R Bool):Prop where
 mk ::
 go:∀ρ,PIf X ifs (tS Y rE f ρ)
instance {X:Cx}{Y:Fx}{ifs:List Expr}{f:En->R Bool}:CoeFun (wm X Y ifs f) λ_=>∀ρ,PIf X ifs (tS Y rE f ρ):=⟨wm.go⟩
theorem PIf.imp {X:Cx}{e:List Expr}{t t' :TT}(h:PIf X e t)(i:∀σ H Q,t' σ H Q->t σ H Q):PIf X e t' :=λpins s σ H Q I q=>h _ s σ H Q I (i σ H Q q)
def zW:En->R Bool:=λ_=> .ok true
theorem KG {X:Cx}:wm X Y [] zW:= .mk λρ=>PIf.imp xG λσ H Q ⟨B,I,q⟩=>ZJ I q rfl
theorem KH {X:Cx}{c:Expr}(h:Wd X Y c ft):wm X Y [c] ft:= .mk λρ=>xH (h ρ)
noncomputable def CEnd (r:R (List T))(P:List T->Prop)(Z:Nat->Prop):Prop:=match r with
 | .ok vs=>P vs
 | .ex c=>Z c
 | .bad=>False
theorem UD {B1 H1:Hp}{σ:Sg}{ρ:En}{J:It}{ts:List T}{r:R (List T)}{D:Addr}{E0:XK}(hG:GOk tG g)(hN:GNo g)(I:SI Y B1 ρ σ H1)(rI' :rI B1 H1 J ts)(hl:ts.length<=bnd)(ev:zu g ft fe ts (wY k js ρ)=r)(hD:H1 D=none){F:Hp->Prop}
  (hF:CEnd r (λvs=>∀H' xs B',zp H1 H' ->H' D=some (.lst xs)->zC B' xs vs->zp B' (zS B1 H1 H')->B' D=none->zp B1 B' ->F H') λc=>∀d H',zp H1 H' ->zp B1 H' ->E0 (Y.cl c) d H'):
  ∃W,(∃m,W 0 m [] (yb k js σ) (upd H1 D (.lst [])))/\QK J D tG (λσ H Q=>∃Y' ρ',Y'.cl=Y.cl/\tS Y' rE ft ρ' σ H Q) (λσ H Q=>∃Y' ρ',Y'.cl=Y.cl/\Y'.E=E0/\tS Y' rC fe ρ' σ H Q) (λ_ H' =>F H') W:=by
 refine⟨λi m ys σ' H' =>m=ts.length - i/\i<=ts.length/\ys.length<=i/\H' D=some (.lst ys)/\∃ρ' B' us,SI ⟨B1,H1,E0,Y.cl,[]⟩ B' ρ' σ' H' /\ko ρ' /\zp B1 B' /\B' D=none/\zC B' ys us/\((zu g ft fe (ts.drop i) ρ').bind λws=> .ok (us++ws))=r,
  ⟨ts.length,by simp,b6 _,b6 _,zr,_,B1,[],I.block (H3:=H1) k js _ hD _,QN k js ρ,zp.refl _,I.sB.free hD,.nil,by rw[List.drop_zero,ev];cases r <;> rfl⟩, ?_⟩
 rintro i m ys σ' H' ⟨rfl,hi,hyl,hDl,ρ',B',us,I',no',s1',bD,r',ew⟩
 refine⟨hDl, ?_⟩;obtain⟨hgo,hyld,hstop⟩:=rI' B' H' s1' I'.sB;have tD:∀H2,zp H' H2->zS B' H' H2 D=none:=λH2 s=>by rw[Z4 hDl];exact bD
 by_cases hlt:i < ts.length
 ·refine .inr ⟨hgo i hlt,λx H2 y=> ?_⟩;obtain⟨s2,r2⟩:=hyld i _ x H2 (a9 hlt) y;rw[eR hlt]at ew;unfold zu at ew;have I2:=I'.grow s2;refine hG _ _ ρ' σ' H2 x _ _ I2 r2 ?_;cases eg:g ts[i] ρ' with
  | bad=>rw[eg]at ew;subst ew;exact hF
  | ex c=>exact(hN.2 _ _ _ eg).elim
  | ok ρ1=>
   rw[eg]at ew;have no1:=hN.1 _ _ _ no' eg;intro σ1 J1;refine⟨⟨B1,H1,E0,Y.cl,[]⟩,ρ1,rfl,_,J1, ?_⟩;have ew1:((ft ρ1).bind (λk=>if k=true then (fe ρ1).bind λv=>(zu g ft fe (ts.drop (i+1)) ρ1).bind λvs=> .ok (v :: vs) else zu g ft fe (ts.drop _) ρ1)).bind (λws=> .ok _)=r:=ew
   cases ef:ft ρ1 with
   | bad=>rw[ef]at ew1;subst ew1;exact hF
   | ex c=>
    rw[ef]at ew1;subst ew1;exact λd H' a b=>hF d H' a ((s1'.trans (zS.ge I'.sB s2)).trans b)
   | ok kk=>
    rw[ef]at ew1;intro b H3 s3 eb;have eb' :=eb;subst eb';have ew2:=ew1;have J2:=J1.grow s3;have hD3:H3 D=some _:=s3 _ _ (s2 _ _ hDl);have bD3:zS (zS B' H' H2) H2 H3 D=none:=by rw[Z4 (s2 _ _ hDl)];exact tD H2 s2
    have sB3:=(zS.ge I'.sB s2).trans (zS.ge I2.sB s3);cases b with
    | false=>exact⟨ts.length - (i+1),by omega,rfl,hlt,by omega,hD3,ρ1,_,us,J2,no1,s1'.trans sB3,bD3,r'.mono sB3,ew2⟩
    | true=>
     refine⟨⟨B1,H1,E0,Y.cl,[]⟩,ρ1,rfl,rfl,_,J2, ?_⟩;have ew3:=ew2;cases ee:fe ρ1 with
     | bad=>rw[ee]at ew3;subst ew3;exact hF
     | ex c=>
      rw[ee]at ew3;subst ew3;exact λd H' a b=>hF d H' a ((s1'.trans sB3).trans b)
     | ok v=>
      rw[ee]at ew3;have ew4:=ew3;have ew5:(zu g ft fe (ts.drop (i+1)) ρ1).bind (λws=> .ok ((us++[v])++ws))=r:=by
       rw[← ew4];cases zu g ft fe _ ρ1 with
       | ok ws=>show R.ok _=R.ok _;rw[bI];rfl
       | _=>rfl
      intro w H4 s4 rw4;have hD4:=s4 _ _ hD3;have J3:=J2.grow s4;have bD4:zS (zS (zS B' H' H2) H2 H3) H3 H4 D=none:=by rw[Z4 hD3];exact bD3
      have sB4:=sB3.trans (zS.ge J2.sB s4);refine⟨hD4,aL (bm hyl hlt) (Zq hl),ts.length - (i+1),by omega,rfl,hlt,by rw[az,aG];omega,zr,ρ1,_,us++[v], ?_,no1,s1'.trans sB4,bD4,(r'.mono sB4).append (.cons rw4 .nil),ew5⟩
      exact J3.acc bD4 hD (λj ts' e=>((no1 j _ e).1 ts' rfl).elim) (λj x e=>(no1 j x e).2) _
 ·have e:i=ts.length:=by omega
  subst e;refine .inl ⟨hstop _ (am _), ?_⟩;rw[iS]at ew;have ew' :R.ok _=r:=ew;rw[bz]at ew';subst ew';refine hF H' ys B' I'.sH hDl r' (λb o h=> ?_) bD s1';cases q:H1 b with
  | none=>rw[Z7 q];exact I'.sB b o h
  | some u=>
   rw[Z4 q];have z:B' b=B1 b:=I'.old b u q;rw[← z];exact h
theorem Wh {J:It}(hG:GOk tG g)(hN:GNo g)(I:SI Y B1 ρ σ H1)(rI' :rI B1 H1 J ts)(hl:ts.length<=bnd)(ev:zu g ft fe ts (wY k js ρ)= .ok vs)(hD:H1 D=none){F:Hp->Prop}
  (hF:∀H' xs B',zp H1 H' ->H' D=some (.lst xs)->zC B' xs vs->zp B' (zS B1 H1 H')->B' D=none->zp B1 B' ->F H'):
  ∃W,(∃m,W 0 m [] (yb k js σ) (upd H1 D (.lst [])))/\QK J D tG (λσ H Q=>∃Y' ρ',Y'.cl=Y.cl/\tS Y' rE ft ρ' σ H Q) (λσ H Q=>∃Y' ρ',Y'.cl=Y.cl/\(Y'.E=λ_ _ _=>False)/\tS Y' rC fe ρ' σ H Q) (λ_ H' =>F H') W:=UD hG hN I rI' hl ev hD hF
structure Wi (X:Cx) (Y:Fx) (tg iter elt:Expr) (ifs:List Expr) (scope:Scope) (N' :List Str) (k:Nat) (js:List Nat) (fi:En->R (List T)) (tG:TG) (g:T->En->R En) (ft:En->R Bool) (fe:En->R T):Prop where
 sc:CSc X scope
 cp:z1I X scope N' k js
 cm:X.calm=true
 it:uK X Y tg iter fi
 gt:Vg X scope N' λXC=>PG XC tg tG
 gk:GOk tG g
 gn:GNo g
 tt:∀Y',Y'.cl=Y.cl->Vg X scope N' λXC=>wm XC Y' ifs ft
 el:∀Y',Y'.cl=Y.cl->KF X scope N' Y'.E λXC=>Snd XC Y' elt fe
 hs:∀x,foldedSetIterable iter X.env x=pure x
theorem Vh (C:Wi X Y tg iter elt ifs scope N' k js fi tG g ft fe):Snd X Y (.ListComp elt [⟨tg,iter,ifs,0⟩] scope pos) (zL fi g ft fe k js):= .mk λρ=>by
 intro pins s σ H Q I ⟨B,J,q⟩;refine uN (JN rfl) (F:=λD H' =>Q (.ref D) H') (te:=λσ H Q=>∃Y' ρ',Y'.cl=Y.cl/\(Y'.E=λ_ _ _=>False)/\tS Y' rC fe ρ' σ H Q) (tt:=λσ H Q=>∃Y' ρ',Y'.cl=Y.cl/\tS Y' rE ft ρ' σ H Q) C.sc C.cp C.cm (C.it ρ) C.gt
  (λcl Cx' s3 H3 fp pins pins' s σ H Q I ⟨Y',ρ',ey,q⟩=>C.tt Y' ey cl Cx' s3 H3 fp _ ρ' _ s σ H Q I q) (λcl Cx' s3 H3 fp pins xe hp pins' s σ H Q I ⟨Y',ρ',ey,eE,q⟩=>C.el Y' ey cl Cx' s3 H3 fp _ xe (eE ▸ hp) ρ' _ s σ H Q I q) I ?_ ?_ C.hs
 ·refine step J q λts it' H1 _ s1 r1 J1 q1=> ?_;intro D hD;unfold zF at q1;split at q1
  ·rename_i hl;cases ev:zu g ft fe ts _ with
   | bad=>rw[ev]at q1;exact q1.elim
   | ex c=>rw[ev]at q1;exact q1.elim
   | ok vs=>
    rw[ev]at q1;refine Wh C.gk C.gn J1 r1 hl ev hD λH' xs B' s' e' r' l' b' sb' => ?_;refine(show Po Y rC _ H1 _ Q from q1) _ H' s' ?_;exact .lst (by rw[Z7 hD];exact e') (r'.mono l')
  ·exact q1.elim
 ·intro D Cc H' s' I' q' hC h0 hL hcell hpin hns;obtain⟨m,hm⟩:=hns;refine⟨m,hm,λh' hsb=>⟨.ref D,H', ?_,rfl,q'⟩⟩;exact I'.turned (λb o hb e=>hsb.extBut b o hb e) hC (bb hL).symm (.inr h0) hcell hpin
end
section
variable {js:List Nat}{g:T->En->R En}
theorem Vi (C:Wi X Y tg iter elt ifs scope N' k js fi tG g ft fe)(hN:X.N.Nodup)(hi:X.N[i]? =some x)(hx:L2.Loc X.env.scope x)
  (hsw:swapsWith (.ListComp elt [⟨tg,iter,ifs,0⟩] scope pc) (some (.Name x p')) pos.line X.env=pure true) (hf:X.fn x=true\/X.env.scope.names.lookup x=some .local:=by first | exact .inl rfl | exact .inr rfl | assumption):
  wk X Y (.Assign [.Name x p'] (.ListComp elt [⟨tg,iter,ifs,0⟩] scope pc) pos) (zA i (zL fi g ft fe k js)):= .mk λρ=>by
 intro pins s σ H D I ⟨B,J,q⟩;rw[exec_Assign_Name_used _ _ _ _ hsw];refine a7 (wpAny_standAt (a7 ?_));refine a7 (thn (uN (JN rfl) (F:=λD' H' =>D.nx (σ.set i (some (.ref D'))) H') (te:=λσ H Q=>∃Y' ρ',Y'.cl=Y.cl/\(Y'.E=λ_ _ _=>False)/\tS Y' rC fe ρ' σ H Q) (tt:=λσ H Q=>∃Y' ρ',Y'.cl=Y.cl/\tS Y' rE ft ρ' σ H Q) C.sc C.cp C.cm (C.it ρ) C.gt
  (λcl Cx' s3 H3 fp pins pins' s σ H Q I ⟨Y',ρ',ey,q⟩=>C.tt Y' ey cl Cx' s3 H3 fp _ ρ' _ s σ H Q I q) (λcl Cx' s3 H3 fp pins xe hp pins' s σ H Q I ⟨Y',ρ',ey,eE,q⟩=>C.el Y' ey cl Cx' s3 H3 fp _ xe (eE ▸ hp) ρ' _ s σ H Q I q) I ?_ ?_ C.hs) λ_ s' hq=>ag (ag hq))
 ·have q' :PoS Y B (((fi ρ).s λts=>(zF g ft fe k js ρ ts).s λvs=> .nx (ρ.set i (.vl (.lst vs))))) D:=by
   unfold zA zL at q;revert q;cases fi ρ with
   | bad=>exact λq=>q
   | ex c=>exact λq=>q
   | ok ts=>
    intro q;have q2:PoS Y B (((zF g ft fe k js ρ ts).bind λvs=>R.ok _).s λt=>RS.nx _) D:=q;show PoS Y B ((zF g ft fe k js ρ ts).s λvs=>RS.nx _) D;revert q2;cases zF g ft fe k js ρ ts with
    | bad=>exact λq=>q
    | ex c=>exact λq=>q
    | ok vs=>exact λq=>q
  refine jR J q' λts it' H1 _ s1 r1 J1 q1=> ?_;intro D' hD;unfold zF at q1;split at q1
  ·rename_i hl;cases ev:zu g ft fe ts _ with
   | bad=>rw[ev]at q1;exact q1.elim
   | ex c=>rw[ev]at q1;exact q1.elim
   | ok vs=>
    rw[ev]at q1;refine Wh C.gk C.gn J1 r1 hl ev hD λH' xs B' s' e' r' l' b' sb' => ?_;have rr:Rep _ _ _:= .lst (by rw[Z7 hD];exact e') (r'.mono l')
    exact q1 _ _ _ (zS.ge J1.sB s') ((J1.grow s').setV i rr)
  ·exact q1.elim
 ·intro D' Cc H' s' I' q' hC h0 hL hcell hpin hns;obtain⟨m,hm⟩:=hns;refine wpAny_assign_Name (W0 (v:= .ref D') I' hN hi hx rfl (λs'' I'' ⟨a,hsb,ha⟩=> ?_) hf);have hne:Cc ≠ a:=by
   rcases ha with rfl | ha
   ·exact hL
   ·exact(hcell x a ha).symm
  refine⟨m,hm.sameBut hsb hne,λh' hsb' =>⟨_,H', ?_,q'⟩⟩;exact I''.turned (λb o hb e=>hsb'.extBut b o hb e) hC hL (.inr h0) hcell hpin
end
noncomputable def Itc (x:Str):It:=⟨λi _=>i < x.cps.size,λi H v H' =>H' =H/\∃c,x.cps[i]? =some c/\v= .str ⟨#[c]⟩,λi _=>x.cps.size<=i⟩
theorem JP {P:Program}{w:World}{K:ai}{tg:Expr}{x:Str}{t:Tok}{ty:String}(it:Addr)(hty:ty="str_ascii_iterator"\/ty="str_iterator"):yl P w K tg (Itc x) [it] it (λi h=>h.IsStrIter it ty x t i):=by
 have W:∀A:Around,A.handled=none->Walks P w A it [it] [it] x.cps.size (SignAt x) (λi h=>h.IsStrIter it ty x t i):=λA hA=>by
  rcases hty with rfl | rfl
  ·exact Walks.strAscii hA it x t
  ·exact Walks.strWide hA it x t
 have hn:["enumerate","zip","dict_itemiterator","dict_reverseitemiterator","odict_iterator","itertools.zip_longest","itertools.pairwise"].contains ty=false:=by rcases hty with rfl | rfl <;> decide
 refine⟨by simp,λi h st b hb=> ?_,λi h h' st k=> ?_, ?_, ?_,λA i s Q E st h=> ?_⟩
 ·have e:b=it:=by simpa using hb
  subst e;obtain⟨o,e,c,d⟩:=st;exact⟨o,e,λv z=>by rw[d]at z;cases z⟩
 ·obtain⟨o,e,r⟩:=st;exact⟨o,k it (by simp) o e,r⟩
 ·intro X hP hw hK hc i pins s σ H E I hf st hg;obtain⟨f0,f1,f2,f3,f4,f5⟩:=hf it (by simp)
  refine(W X.A (I.ok.hd hc)).item i s _ _ hg st λv h' tk hv st' kk=> ?_;obtain⟨c,u,hc',rfl⟩:=hv;have I1:L2.Inv X _ σ H { s with heap:=h',toks:=tk }:=I.turned (λb o hb e=>kk b o (by simpa using hb) e) f0 f1 f3 f4 f5
  obtain⟨o,e,cl,d⟩:=id st';exact⟨_,rfl,Ut e cl d hn ⟨.str _,H,I1,⟨u,rfl⟩,⟨rfl,c,hc',rfl⟩,st',λb hb=>(hf b hb).1⟩⟩
 ·intro X hP hw hK hc i pins s σ H E I hf st hg;obtain⟨f0,f1,f2,f3,f4,f5⟩:=hf it (by simp)
  have hx:=bE hg;rcases hty with rfl | rfl
  ·exact wpAny_pyNext_ascii_end (I.ok.hd hc) st hx λh' eb=>⟨rfl,I.turned (λb o hb e=>eb b o hb e) f0 f1 f3 f4 f5⟩
  ·exact wpAny_pyNext_wide_end (I.ok.hd hc) st hx λh' eb=>⟨rfl,I.turned (λb o hb e=>eb b o hb e) f0 f1 f3 f4 f5⟩
 ·rcases hty with rfl | rfl
  ·exact wpAny_pyIter_striter_ascii st h
  ·exact wpAny_pyIter_striter_wide st h
noncomputable def Jf (x:Str):List T:=x.cps.toList.map λc=>T.str ⟨#[c]⟩
theorem QR:rI B1 H1 (Itc x) (Jf x):=λB2 H2 s1 s2=>by
 have hl:(Jf x).length=x.cps.size:=by unfold Jf;simp
 refine⟨λi hi=>by rw[hl]at hi;exact hi,λi t v H3 e y=> ?_,λi hi=>by rw[hl]at hi;exact hi⟩
 obtain⟨rfl,c,hc,rfl⟩:=y;refine⟨zp.refl _, ?_⟩;unfold Jf at e;rw[ar]at e;have hc' :x.cps.toList[i]? =some c:=by simpa using hc
 rw[hc']at e;cases e;exact .str _
section
theorem KI {l:Expr}{tl:TE}(hl:PE X l tl):PI X tg l (λσ H R=>tl σ H λx H1=>(∃a,x= .ref a/\(((∃xs,SqL X.K H1 a xs)/\R (Itl X.K a) H1)\/((∃xs,SqT X.K H1 a xs)/\R (Itt X.K a) H1)))\/(∃z,x= .str z/\R (Itc z) H1)):=by
 intro pins s σ H R I h;refine thn (hl _ s σ H _ I h) λv s1 ⟨x,H1,I1,r1,q1⟩=> ?_;have ok:∀b∈[s1.heap.objs.size],WP X _ H1 b:=λb hb=>by
  have e:=by simpa using hb
  subst e;exact I1.fpOk (am _) (I1.hok.fresh (am _))
 rcases q1 with ⟨a,e,q⟩ | ⟨z,e,q⟩
 ·subst e;obtain rfl:v=Value.ref a:=r1;rcases q with ⟨⟨xs,hq⟩,q⟩ | ⟨⟨xs,hq⟩,q⟩
  ·obtain⟨its,rv,p,hz⟩:=I1.list hq;exact wpAny_pyIter_list p.isList ⟨s1.heap.objs.size,[s1.heap.objs.size],_,_,H1,rfl,I1.kept λb o e=>ab _ e,ym a _,⟨_,af _ rfl,rfl,rfl⟩,ok,q⟩
  ·obtain⟨its,rv,p,hz⟩:=I1.tuple hq;exact wpAny_pyIter_tuple (show s1.heap.IsTuple a _ from p) ⟨s1.heap.objs.size,[s1.heap.objs.size],_,_,H1,rfl,I1.kept λb o e=>ab _ e,Uu a _,⟨_,af _ rfl,rfl,rfl⟩,ok,q⟩
 ·subst e;obtain⟨t,rfl⟩:=r1;cases ha:z.cps.all _
  ·exact wpAny_pyIter_wide ha ⟨s1.heap.objs.size,[s1.heap.objs.size],_,_,H1,rfl,I1.kept λb o e=>ab _ e,JP _ (.inr rfl),⟨_,af _ rfl,rfl,rfl⟩,ok,q⟩
  ·exact wpAny_pyIter_ascii ha ⟨s1.heap.objs.size,[s1.heap.objs.size],_,_,H1,rfl,I1.kept λb o e=>ab _ e,JP _ (.inl rfl),⟨_,af _ rfl,rfl,rfl⟩,ok,q⟩
def Jg:T->R (List T)
 | .lst xs=> .ok xs
 | .tup xs=> .ok xs
 | .str x=> .ok (Jf x)
 | _=> .bad
def Zm (fa:En->R T):En->R (List T):=λρ=>(fa ρ).bind Jg
theorem z1J (ha:Snd X Y a fa):uK X Y tg a (Zm fa):= .mk λρ=>PI.imp (KI (ha ρ)) λσ H R ⟨B,I,q⟩=>step I q λt v H1 _ s1 r1 I1 q1=>by
 cases r1 with
 | @tup l xs ts h r=>
  exact .inl ⟨l,rfl,.inr ⟨⟨xs,SqT.of (I1.sB _ _ h)⟩,ZJ I1 (show Po Y rI _ H1 _ R from q1) (Kx h r)⟩⟩
 | @lst l xs ts h r=>
  exact .inl ⟨l,rfl,.inl ⟨⟨xs,SqL.of (I1.sB _ _ h)⟩,ZJ I1 (show Po Y rI _ H1 _ R from q1) (Ky h r)⟩⟩
 | str z=>exact .inr ⟨z,rfl,ZJ I1 (show Po Y rI _ H1 _ R from q1) QR⟩
 | _=>exact q1.elim
end
theorem Inv.laidT {X:Cx}{pins:List (Addr×Obj)}{σ:Sg}{H:Hp}{s:Shared}{h' :Heap}{tk:Nat}{ch:List Addr}{a:Addr}{xs:List V}(I:L2.Inv X pins σ H s)(hf:∀b∈ch,WP X pins H b)(k:∀b o,b ∉ ch->s.heap.get? b=some o->h'.get? b=some o)
  (th:∀b o,b∈ch->s.heap.get? b=some o->∃o',h'.get? b=some o') (ha:s.heap.objs.size<=a) (new:zX X.prog X.w (upd H a (.tup xs)) h' a (.tup xs)):L2.Inv X pins σ (upd H a (.tup xs)) { s with heap:=h',toks:=tk }:=by
 have hn:=I.hok.fresh ha;have nch:∀b u,H b=some u->b ∉ ch:=λb u e hb=>by rw[(hf b hb).1]at e;cases e
 refine I.call' rfl ⟨λb o e n _ hc=>k b o hc e,λb o e n _ hc=>⟨o.slots,k b o hc e⟩,λb o e n _=>by rw[zm (ax (aL (ao e) ha))];exact n,λb o e hc=>⟨o,k b o hc e⟩,
  λb ys e=>by rw[zm (zv e hn)];exact e,λb o u e=>by rw[zm (zv e hn)];exact e,λb ps q e=>by rw[zm (zv e hn)];exact e⟩ (λb u e=> ?_) I.bare λb hb=> ?_
 ·by_cases hb:b=a
  ·subst hb;rw[zr]at e;cases e;exact new
  ·rw[zm hb]at e;refine(I.hok b u e).stay (λc v hc q=> ?_) (λc q=>by rw[zm (zv q hn)];exact q) (λc ys q=>by rw[zm (zv q hn)];exact q) λc o u q=>by rw[zm (zv q hn)];exact q
   rcases hc with rfl | hc
   ·exact k c v (nch c u e) q
   ·exact k c v (nch c _ hc) q
 ·obtain⟨f0,f1,f2,f3,f4,f5⟩:=hf b hb;exact⟨f3,f1,f4,f5⟩
def Ite (K:ai)(l:Addr):It:=
 ⟨λi H=>∃xs x,SqL K H l xs/\xs[i]? =some x,λi H v H' =>∃p x,H p=none/\v= .ref p/\(∀xs,SqL K H l xs->xs[i]? =some x)/\H' =upd H p (.tup [.int i,x]),λi H=>∃xs,SqL K H l xs/\xs.length<=i⟩
theorem yZ {P:Program}{w:World}{K:ai}{elts:List Expr}{kk:Nat}{pt:Pos}(e it l:Addr)(hei:e ≠ it)(hle:l ≠ e)(hli:l ≠ it):
  yl P w K (.Tuple elts kk pt) (Ite K l) [e,it] e (λi h=>(∃old,IsEnum h e it i old)/\h.IsListIter it l i) where
 mem:=by simp
 obj:=λi h st b hb=>by
  obtain⟨⟨old,he⟩,o,e1,c,d⟩:=st;rcases aj.mp hb with rfl | hb
  ·exact⟨_,he,λv z=>nomatch z⟩
  ·have z:b=it:=by simpa using hb
   subst z;exact⟨o,e1,λv z=>by rw[d]at z;cases z⟩
 keep:=λi h h' st k=>by
  obtain⟨⟨old,he⟩,hit⟩:=st;exact⟨⟨old,k e (by simp) _ he⟩,hit.at λo x=>k it (by simp) o x⟩
 item:=by
  intro X hP hw hK hc i pins s σ H E I hf st hg;subst hP hw hK;obtain⟨xs,x,hq,hx⟩:=hg;obtain⟨its,rv,p,hz⟩:=I.list hq;obtain⟨u,hu,ru⟩:=rv.get hx;obtain⟨⟨old,he⟩,hit⟩:=st;have hi:i < its.toArray.size:=by
   have:=(ak.mp hu).1;simpa using this
  refine(iT (prog:=X.prog) (w:=X.w) (I.ok.hd hc) e it l hei hle hli its.toArray).item i s _ _ hi ⟨⟨old,he⟩,hit,p.isList⟩ λT vals h' tk hP hT hTup hM hk=> ?_;obtain⟨t,y,hy,rfl⟩:=hP;have hyu:y=u:=by
   have:its[i]? =some y:=by simpa using hy
   rw[hu]at this;exact(aR this).symm
  subst hyu;refine⟨.ref T,rfl, ?_⟩;refine(iT (prog:=X.prog) (w:=X.w) (I.ok.hd hc) e it l hei hle hli its.toArray).go elts kk pt i T _ _ _ hM λh2 hst2 hk2=> ?_;have hTn:H T=none:=I.hok.fresh hT;have hTne:∀b∈[e,it],b ≠ T:=λb hb z=>by
   obtain⟨_,_,_,h3,h4⟩:=hM;rcases aj.mp hb with rfl | hb
   ·exact h3 z.symm
   ·have:b=it:=by simpa using hb
    subst this;exact h4 z.symm
  have Jq:IsTup h2 T #[.int i t,y]:=by
   obtain⟨o,eo,r⟩:=hTup;exact⟨o,hk2 T o (λhb=>hTne T hb rfl) eo,r⟩
  refine⟨.ref T,upd H T (.tup [.int i,x]),Inv.laidT (s:=s) (h' :=h2) (ch:=[e,it]) (tk:=tk) I hf (λb o hb e=>hk2 b o hb (hk b o hb e)) (λb o hb _=> ?_) hT ⟨by rw[bH];show 2<=16777216;decide,[.int i t,y],.cons ⟨t,rfl⟩ (.cons ru .nil),Jq,.inl ⟨_,_,rfl⟩⟩,rfl,⟨T,x,hTn,rfl,λys hy=>by rw[I.list_inj hy hq];exact hx,rfl⟩,⟨hst2.1,hst2.2.1⟩,λb hb=> ?_⟩
  ·obtain⟨⟨old2,he2⟩,⟨o2,eo2,_⟩,_⟩:=hst2;rcases aj.mp hb with rfl | hb
   ·exact⟨_,he2⟩
   ·have:b=it:=by simpa using hb
    subst this;exact⟨o2,eo2⟩
  ·rw[zm (hTne b hb)];exact(hf b hb).1
 done:=by
  intro X hP hw hK hc i pins s σ H E I hf st hg;subst hP hw hK;obtain⟨xs,hq,hx⟩:=hg;obtain⟨its,rv,p,hz⟩:=I.list hq;obtain⟨⟨old,he⟩,hit⟩:=st;have hl:=rv.length;refine wpAny_pyNext_enum_end (I.ok.hd hc) he hit p.isList (bE (by simp;omega)) λh' hk=>⟨rfl, ?_⟩
  obtain⟨f0,f1,f2,f3,f4,f5⟩:=hf it (by simp)
  exact I.turned (t' :=s.toks) (λb o hb e=>hk b o hb e) f0 f1 f3 f4 f5
 self:=λ_ _ _ _ _ st h=>let ⟨⟨_,he⟩,_⟩:=st;wpAny_pyIter_enum he h
noncomputable def wn (xs:List T):List T:=(xs.zipIdx).map λp=>T.tup [.int (p.2:Nat),p.1]
theorem Y0 {xs:List T}{i:Nat}{t:T}(h:(wn xs)[i]? =some t):∃x,xs[i]? =some x/\t= .tup [.int (i:Nat),x]:=by
 unfold wn at h;rw[ar,List.getElem?_zipIdx]at h;cases e:xs[i]? with
 | none=>rw[e]at h;cases h
 | some x=>rw[e]at h;cases h;exact⟨x,rfl,by simp⟩
theorem Wj (xs:List T):(wn xs).length=xs.length:=by unfold wn;simp
theorem xI {K:ai}{B1 H1:Hp}{a:Addr}{xs:List V}{ts:List T}(h:B1 a=some (.lst xs))(r:zC B1 xs ts):rI B1 H1 (Ite K a) (wn ts):=λB2 H2 s1 s2=>by
 have h2:=s2 _ _ (s1 _ _ h);rw[Wj];refine⟨λi hi=> ?_,λi t x H3 e y=> ?_,λi hi=>⟨xs,SqL.of h2,by rw[r.length];exact hi⟩⟩
 ·obtain⟨v,e,_⟩:=r.get (a9 hi);exact⟨xs,v,SqL.of h2,e⟩
 ·obtain⟨p,v,hp,rfl,y,rfl⟩:=y;obtain⟨t',et,rfl⟩:=Y0 e;obtain⟨v',e1,r1⟩:=r.get et;have:=y xs (SqL.of h2);rw[e1]at this;cases this;refine⟨zp.new hp _,.tup (jy hp _) (.cons (.int _) (.cons ?_ .nil))⟩;exact(r1.mono s1).mono (zS.ge s2 (zp.new hp _))
section
variable {X:Cx}{Y:Fx}{a:Expr}{fa:En->R T}{pos p pt:Pos}{elts:List Expr}{kk:Nat}
theorem xJ {ta:TA}(hg:Gl X "enumerate")(hm:X.mg "enumerate"=none)(ha:PA X [a] ta)(hs:St1 X a:=by exact st1 rfl):
  PI X (.Tuple elts kk pt) (.Call (.Name "enumerate" p) [a] [] pos) (λσ H R=>ta σ H λvs H1=>∃l xs,vs=[.ref l]/\H1 l=some (.lst xs)/\R (Ite X.K l) H1):=by
 intro pins s σ H R I h;refine Call_ (ZC I hg hm PyProof.Rows.Boot.«enumerate» (aV (thn (ha pos _ s σ H _ I h) λus s1 ⟨vs,H1,I1,r1,q1⟩=> ?_) hs rfl));obtain⟨l,xs,e,hl,q⟩:=q1;subst e;obtain⟨u,rfl,ru⟩:=Zp r1;obtain rfl:u=Value.ref l:=ru;obtain⟨_,its,n,rv,eo⟩:=(show zX _ X.w H1 _ l _ from I1.hok l _ hl);have hlt:=ao eo;refine call_enumerate_1 eo λh' he hit hsz hk=>wpAny_pyIter_enum he ?_;have f:∀b∈[s1.heap.objs.size+1,s1.heap.objs.size],WP X _ H1 b:=λb hb=>by
  rcases aj.mp hb with rfl | hb
  ·exact I1.fpOk (dz _) (I1.hok.fresh (dz _))
  ·have z:=by simpa using hb
   subst z;exact I1.fpOk (am _) (I1.hok.fresh (am _))
 exact⟨s1.heap.objs.size+1,[s1.heap.objs.size+1,s1.heap.objs.size],_,_,H1,rfl,I1.kept hk,yZ _ _ l (Nat.succ_ne_self _) (ax (bJ hlt)) (ax hlt),⟨⟨_,he⟩,hit⟩,f,q⟩
def xK (fa:En->R T):En->R (List T):=λρ=>(fa ρ).bind λt=>match t with
 | .lst xs=> .ok (wn xs)
 | _=> .bad
theorem KJ (hg:Gl X "enumerate")(hm:X.mg "enumerate"=none)(ha:Snd X Y a fa)(hs:St1 X a:=by exact st1 rfl):uK X Y (.Tuple elts kk pt) (.Call (.Name "enumerate" p) [a] [] pos) (xK fa):= .mk λρ=>
 PI.imp (xJ hg hm (zl (ha ρ) zK hs) hs) λσ H R ⟨B,I,q⟩=>step I q λt v H1 _ s1 r1 I1 q1=>by
  cases r1 with
  | @lst l xs ts h r=>exact⟨l,xs,rfl,I1.sB _ _ h,ZJ I1 (show Po Y rI _ H1 _ R from q1) (xI h r)⟩
  | _=>exact q1.elim
noncomputable def wo:List T->Option (List Str)
 | []=>some []
 | .str x :: r=>match wo r with | some ys=>some (x :: ys) | none=>none
 | _ :: _=>none
def KK (sep:Str):T->R T
 | .lst ts=>match wo ts with
  | some ys=>if (ys.map (·.length)).sum+ys.length*sep.length<=16777216 then .ok (.str (Txt.join sep ys)) else .bad
  | none=> .bad
 | _=> .bad
theorem jV {H:Hp}:∀{xs:List V} {ts:List T} {its:List Value} {ys:List Str},zC H xs ts->zU xs its->wo ts=some ys->StrsAre its ys
 | _,_,_,ys,.nil,.nil,h=>by
  have h' :=h;cases h';exact .nil
 | _,_,_,ys,.cons r rs,.cons rv vs,h=>by
  cases r with
  | str x=>
   unfold wo at h;split at h
   ·rename_i zs e;cases h;obtain⟨tk,rfl⟩:=rv;exact .cons x tk (jV rs vs e)
   ·cases h
  | _=>cases h
theorem xL:MtR X "str.join" (λx xs H Q=>∃z l zs ts ys,x= .str z/\xs=[.ref l]/\H l=some (.lst zs)/\zC H zs ts/\wo ts=some ys/\(ys.map (·.length)).sum+ys.length*z.length<=16777216/\Q (.str (Txt.join z ys)) H):=by
 intro pins s σ H x xs v us Q I rx rv h;obtain⟨z,l,zs,ts,ys,rfl,rfl,hl,r,e,hb,q⟩:=h;obtain⟨t,rfl⟩:=rx;obtain⟨u,rfl,ru⟩:=Zp rv;obtain rfl:u=Value.ref l:=ru;obtain⟨its,rv,p,_⟩:=zI I (.inl hl) r;exact join_list p (by simpa using jV r rv e) hb λt' k=>⟨.str _,H,I.tok k,⟨t',rfl⟩,q⟩
theorem KL (ha:j8 X Y a fa)(hb:attributeBase (.Constant (.str z) kc pz) "join" X.env (eval (.Constant (.str z) kc pz) X.env)=eval (.Constant (.str z) kc pz) X.env:=by rfl)(hs:St1 X a:=by exact st1 rfl)
  (hz:(pa.endLine == p.line)=true:=by rfl):Snd X Y (.Call (.Attribute (.Constant (.str z) kc pz) "join" pa) [a] [] p) (ap1 (KK z) fa):= .mk λρ=>by
 have e1:(((((backTo p (starEach [a] X.env)).all λx=> !x.fst) && (backToKw p (keywordEach [] X.env)).all λx=>x.fst.isSome) && decide (([a].length+([]:List Keyword).length+if ([]:List Keyword).isEmpty=true then 0 else 1) < 30))=true):=by rw[hs];rfl
 refine PE.imp (Qw PySem.F.plainAttrs_str PySem.F.slot_str_join PySem.F.type_str_join xL V1 (zl (ha ρ) zK hs) hb e1 hz hs rfl) λσ H Q ⟨B,I,q⟩=> ?_;refine⟨rfl,step I q λt v H1 _ s1 r1 I1 q1=> ?_⟩;cases r1 with
 | @lst l xs ts h r=>
  have q1:Po Y rC _ H1 (match wo ts with | some ys=>if (ys.map _).sum+ys.length*z.length<=16777216 then .ok _ else .bad | none=> .bad) Q:=q1
  split at q1
  ·rename_i ys e;split at q1
   ·rename_i hl;exact⟨z,l,xs,ts,ys,rfl,rfl,h,r,e,hl,po0 I1.sB q1 rfl (.str _)⟩
   ·exact q1.elim
  ·exact q1.elim
 | _=>exact q1.elim
end
noncomputable def dd:List Str->List Str->List Str
 | acc,[]=>acc
 | acc,x :: r=>dd (if x∈acc then acc else acc++[x]) r
section
variable {prog:Program}{w:World}{A:Around}{R:Result->Shared->Prop}{I:Addr}{fp wr:List Addr}{n:Nat}{P:Nat->Value->Prop}{St:Nat->Heap->Prop}
theorem j4 {h h' :Heap}{S:Addr}{f g:Str->Bool}{m k:Nat}(x:h.SetOf (strKind prog w) S f m)(e:∀o,h.get? S=some o->h'.get? S=some o)(ef:f=g)(em:m=k):h'.SetOf (strKind prog w) S g k:=by
 subst ef em;obtain⟨o,es,ep,t,ho,r⟩:=x;exact⟨o,es,ep,t,e o ho,r⟩
theorem QS (W:Walks prog w A.in1 I fp wr n P St)(S:Addr)(hSf:S ∉ fp)(val:Nat->Str)(hval:∀i v,P i v->∃t,v=Value.str (val i) t)(hb:n+1 < scanBound):
  ∀(k i:Nat) (acc:List Str) (s:Shared),n - i=k->i<=n->acc.length<=i->St i s.heap->s.heap.SetOf (strKind prog w) S (λx=>decide (x∈acc)) acc.length->
   (∀h' tk,(∀b o,b ∉ S :: wr->s.heap.get? b=some o->h'.get? b=some o)->h'.SetOf (strKind prog w) S (λx=>decide (x∈dd acc ((eW i k).map val))) (dd acc ((eW i k).map val)).length->
    R (.ok (.ret .none)) { s with heap:=h',toks:=tk })->codeAny (model prog w) A (.builtin "set.update.loop" ⟨[.ref S,.ref I],[]⟩) R s:=by
 intro k
 induction k with
 | zero=>
  intro i acc s hk hi hal hst hS hR;obtain rfl:i=n:=by omega
  refine aS cO ?_;refine a7 (W.done s _ _ hst λh' tk hk' =>ag ?_);exact hR h' tk (λb o hb e=>hk' b o (λz=>hb (a8 _ z)) e) (j4 hS (λo e=>hk' S o (λz=>hSf (W.sub _ z)) e) rfl rfl)
 | succ k ih=>
  intro i acc s hk hi hal hst hS hR;refine aS cO ?_;refine a7 (W.item i s _ _ (by omega) hst λv h1 tk1 hP hst1 hk1=> ?_)
  obtain⟨t,rfl⟩:=hval i v hP;have hS1:=j4 hS (λo e=>hk1 S o (λz=>hSf (W.sub _ z)) e) rfl rfl;refine a7 (m:=holding _ _) (bB ?_);unfold setAdd;have isk:(strKind prog w).is (val i) (.str (val i) t)=true:=strKind_is _ _ _ _;refine bB (a7 ((strKind _ w).pyHash isk ?_));refine wpAny_setAddHashed_of isk rfl hS1 (by omega) λh2 hsb hS2=> ?_
  have e2:(if decide (val i∈acc)=true then acc.length else acc.length+1)=(if val i∈acc then acc else acc++[val i]).length:=by
   by_cases hm:val i∈acc
   ·simp[hm]
   ·simp[hm]
  have e1:(λx=>decide (x∈acc) || decide (x=val i))=(λx=>decide (x∈(if val i∈acc then acc else acc++[val i]))):=by
   funext x
   by_cases hm:val i∈acc
   ·simp only[if_pos hm]
    by_cases hx:x=val i
    ·subst hx;simp[hm]
    ·simp[hx]
   ·simp[hm,Bool.decide_or]
  have hS3:=j4 hS2 (λo e=>e) e1 e2;refine ag ⟨aZ fu _,ih _ _ _ (by omega) (by omega) ?_ (W.frame _ h1 _ hst1 λb hb o e=> ?_) hS3 λh3 tk3 hk3 hS4=> ?_⟩
  ·split
   ·omega
   ·rw[az,aG];omega
  ·exact(hsb.2 b (λz=>hSf (z ▸ hb))).trans e
  ·refine hR h3 tk3 (λb o hb e=>hk3 b o hb ?_) hS4;exact(hsb.2 b (λz=>hb (z ▸ ac))).trans (hk1 b o (λz=>hb (a8 _ z)) e)
end
section
set_option maxRecDepth 100000 in
set_option maxHeartbeats 3200000 in
theorem Y1 {l:Addr}{its:List Value}{ys:List Str}{Q:Value->Shared->Prop}(hh:A.handled=none)(hl:s.heap.IsList l its.toArray)(hi:StrsAre its ys)(hb:its.length+1 < scanBound)
  (h:∀(h' :Heap) (tk:Nat),h'.SetOf (strKind prog w) s.heap.objs.size (λx=>decide (x∈dd [] ys)) (dd [] ys).length->(∀b o,b < s.heap.objs.size->s.heap.get? b=some o->h'.get? b=some o)->
   Q (.ref s.heap.objs.size) { s with heap:=h',toks:=tk }):wpAny (model prog w) A (call (.type "set") [.ref l]) Q E s:=by
 have getv:∀{its:List Value} {ys:List Str},StrsAre its ys->its.length=ys.length/\∀(i:Nat) (v:Value),its[i]? =some v->∃t,v=Value.str (ys.getD i ⟨#[]⟩) t:=λ{its ys} hi=>by
  induction hi with
  | nil=>exact⟨rfl,λi v e=>by simp at e⟩
  | cons y t _ ih=>
   refine⟨by simp[ih.1],λi v e=> ?_⟩
   cases i with
   | zero=>exact⟨t,by simpa using e.symm⟩
   | succ i=>exact ih.2 i v (by simpa using e)
 obtain⟨hlen,hget⟩:=getv hi;have hys:(eW 0 its.length).map (λi=>ys.getD i ⟨#[]⟩)=ys:=by
  rw[hlen];refine cB λi=> ?_;rw[ar]
  by_cases hi' :i < ys.length
  ·rw[h7 hi',a9 hi'];simp[a9 hi']
  ·rw[aH (by simp;omega),aH (by omega)]
   rfl
 obtain⟨c,tl,hmro⟩:=bn.mro;have hmade:=bn.made;have hsub:=bn.sub;have h1:=bn.notType;have h2:=bn.canCreate;have hct:=iU (.ref l);refine wpAny_call (codeAny_of_tree (show wpAny _ _ (callAny (.type "set") _) _ _ _ from ?_));refine ag ⟨ie _ (by decide+kernel),aS iB ?_⟩
 rw[ig (weight_type_call_type "set" [.ref l] []) rfl]
 repeat any_goals (first | assumption | wp_step)
 refine bZ (code_set_new_1 (.ref l) (E:=E) (Q₁:=λobj s₁=>∃led:Bool,obj= .ref s.heap.objs.size/\s₁={ s with heap:=s.heap.push { cls:= .type "set",dict:=none,data:= .set #[] 0 (.fresh 0 0 led) } }) λled=>⟨led,rfl,rfl⟩) λr s₁ hr=> ?_;cases r with
 | error e=>exact hr
 | ok fl=>
  cases fl with
  | ret obj=>
   obtain⟨led,rfl,rfl⟩:=hr;generalize hG:s.heap.push { cls:= .type "set",dict:=none,data:= .set #[] 0 (.fresh 0 0 led) }=G;have hS:G.get? s.heap.objs.size=some { cls:= .type "set",dict:=none,data:= .set #[] 0 (.fresh 0 0 led) }:=by rw[← hG];exact af _ rfl
   have hGs:G.objs.size=s.heap.objs.size+1:=by rw[← hG,bo]
   have hGk:∀b o,s.heap.get? b=some o->G.get? b=some o:=λb o e=>by rw[← hG];exact ab _ e
   have hT:dQ { s with heap:=G } (.ref s.heap.objs.size) "set":=⟨_,hS,rfl⟩;have hli:=bn.init.lookup;have hbi:=bn.init.bind (.ref s.heap.objs.size)
   repeat any_goals (first | assumption | wp_step)
   refine bZ (codeAny_call_builtin (R:=wants (λr s₂=>r= .none/\∃h' tk,s₂={ s with heap:=h',toks:=tk }/\h'.SetOf (strKind prog w) s.heap.objs.size (λx=>decide (x∈dd [] ys)) (dd [] ys).length/\
     (∀b o,b < s.heap.objs.size->s.heap.get? b=some o->h'.get? b=some o)) E) bn.init.plain iV (check_set_init_1 hT ?_)) λr₂ s₂ hr₂=> ?_
   ·obtain⟨⟨ocls,odict,odata,oslots⟩,hol,hcl,nl,hdl⟩:=hl;simp only at hcl hdl;subst hcl;subst hdl;have hol' :=hGk _ _ hol;have hsls:=F.sub_list_set;have hslf:=hJ;have hne:(Value.type "list" == Value.type "dict")=false:=by decide
    have hl1:G.IsList l its.toArray:=⟨_,hol',rfl,nl,rfl⟩;have hlS:l < s.heap.objs.size:=ao hol;unfold Builtin.«set.__init__» noKeywords dW;generalize hPI:pyIter=PI
    wp_walk
    subst hPI;refine wpAny_pyIter_list hl1 (a7 (wpAny_runValue ?_));have hSf:s.heap.objs.size ∉ [G.objs.size,l]:=by
     rw[hGs];intro z;rcases aj.mp z with z | z
     ·exact absurd z (ax (cN _))
     ·exact absurd (aC.mp z) (bT hlS)
    refine QS (ic (A:=A.in1.in1.in1) (by simp[hh]) G.objs.size l (by rw[hGs];exact ax (bJ hlS)) its.toArray) s.heap.objs.size hSf (λi=>ys.getD i ⟨#[]⟩) (λi v e=>hget i v (by simpa using e)) (by simpa using hb) its.length 0 [] _ (by simp) (b6 _) (am _)
     ⟨⟨_,af _ rfl,rfl,rfl⟩,hl1.push _⟩ ?_ ?_
    ·have hget' :(G.push { cls:= .type "list_iterator",data:= .fields #[.ref l,.int 0 0] }).get? s.heap.objs.size=some { cls:= .type "set",dict:=none,data:= .set #[] 0 (.fresh 0 0 led) }:=ab _ hS;exact j4 ((PyProof.Rows.setObjOf_fresh (knd:=strKind prog w) led).setOf hget' (by unfold scanBound;omega)) (λo e=>e) (by funext x;simp) rfl
    ·intro h' tk' hm hS';rw[hys]at hS';refine ag (show wpAny _ _ (ret Value.none) _ _ _ from ag ⟨rfl,h',tk',rfl,hS',λb o hb e=> ?_⟩);refine hm b o (λz=> ?_) (ab _ (hGk b o e));rcases aj.mp z with z | z
     ·exact absurd z (ax hb)
     ·have z' :b=G.objs.size:=aC.mp z;rw[hGs]at z';exact absurd z' (ax (bJ hb))
   ·cases r₂ with
    | error e=>exact hr₂
    | ok fl₂=>
     cases fl₂ with
     | ret r=>
      obtain⟨rfl,h',tk,rfl,hS',hk'⟩:=hr₂
      repeat any_goals (first | assumption | wp_step)
      exact h _ _ hS' hk'
     | _=>exact hr₂.elim
  | _=>exact hr.elim
end
section
theorem Y2 (hh:X.A.handled=none):Zb X (.type "set") (λvs H Q=>∃l xs ts ys,vs=[.ref l]/\H l=some (.lst xs)/\zC H xs ts/\wo ts=some ys/\ts.length+1 < 4096/\
  ∀q,H q=none->Q (.ref q) (upd H q (.ext λh=>h.SetOf (strKind X.prog X.w) q (λx=>decide (x∈dd [] ys)) (dd [] ys).length))):=by
 intro pins s σ H vs us Q I rv h;obtain⟨l,xs,ts,ys,rfl,hl,r,ey,hb,q⟩:=h;obtain⟨u,rfl,ru⟩:=Zp rv;obtain rfl:u=Value.ref l:=ru;obtain⟨its,rv,pl,hln,_⟩:=zI I (.inl hl) r;refine Y1 hh pl (jV r rv ey) (by unfold scanBound;omega) λh' tk hS hk=> ?_
 refine⟨.ref _,_,I.laid (λb u e=>hk b u (ao e) e) (am _) ?_,rfl,q _ (I.hok.fresh (am _))⟩;obtain⟨o,es,ep,t,ho,rr⟩:=id hS;exact⟨hS,⟨o,ho⟩,λh1 h2 ⟨o1,es1,ep1,t1,ho1,rr1⟩ e=>⟨o1,es1,ep1,t1,e _ ho1,rr1⟩⟩
theorem Y3:Zb X (.builtin "len") (λvs H Q=>∃q φ f n,vs=[.ref q]/\H q=some (.ext φ)/\(∀h:Heap,φ h->h.SetOf (strKind X.prog X.w) q f n)/\Q (.int n) H):=by
 intro pins s σ H vs us Q I rv h;obtain⟨l,φ,f,n,rfl,hl,hφ,q⟩:=h;obtain⟨u,rfl,ru⟩:=Zp rv;obtain rfl:u=Value.ref l:=ru;obtain⟨h1,_,_⟩:=(show zX _ X.w H _ l _ from I.hok l _ hl);obtain⟨o,es,ep,t,ho,hex,hd,_,_,hb,hf,hn⟩:=hφ _ h1;refine call_len_set ho hex hd hf ?_ ⟨.int _,H,I.tok _,⟨_,rfl⟩,by rw[hn];exact q⟩
 have:es.size < 4096:=hb;omega
def QT:T->R T
 | .lst ts=>match wo ts with
  | some ys=>if ts.length+1 < 4096 then .ok (.int (dd [] ys).length) else .bad
  | none=> .bad
 | _=> .bad
theorem KM (hh:X.A.handled=none)(gl:Gl X "len")(mg:X.mg "len"=none)(gl' :Gl X "set")(mg' :X.mg "set"=none)(ha:j8 X Y a fa)(hs:St1 X a:=by exact st1 rfl)(hs' :St1 X (.Call (.Name "set" p') [a] [] pos'):=by exact st1 rfl):
  Snd X Y (.Call (.Name "len" p) [.Call (.Name "set" p') [a] [] pos'] [] pos) (ap1 QT fa):= .mk λρ=>
 PE.imp (Zv Y3 gl mg PySem.boot_len (zl (ZD (Y2 hh) gl' mg' PyProof.Rows.Boot.«set» (zl (ha ρ) zK hs) (by decide) (by decide) hs rfl) zK hs') (by decide) (by decide) hs' rfl) λσ H Q ⟨B,I,q⟩=>
  step I q λt v H1 _ s1 r1 I1 q1=>by
   cases r1 with
   | @lst l xs ts h r=>
    have q1:Po Y rC _ H1 (match wo ts with | some ys=>if ts.length+1 < 4096 then .ok _ else .bad | none=> .bad) Q:=q1
    split at q1
    ·rename_i ys e;split at q1
     ·rename_i hl;refine⟨l,xs,ts,ys,rfl,h,r,e,hl,λz hz=>⟨z,_,_,_,rfl,zr,λh hh=>hh, ?_⟩⟩;exact q1 _ _ (zp.new hz _) (.int _)
     ·exact q1.elim
    ·exact q1.elim
   | _=>exact q1.elim
def JQ (i j:Nat)(ga:En->R (List T)):En->RS:=λρ=>(ga ρ).s λts=>match ts with
 | [x,y]=> .nx ((ρ.set i (.vl x)).set j (.vl y))
 | _=> .bad
theorem z1K (hc:X.calm=true)(hN:X.N.Nodup)(hi:X.N[i]? =some x)(hj:X.N[j]? =some y)(hij:i ≠ j)(hx:X.env.scope.names.lookup x=some .local)(hy:X.env.scope.names.lookup y=some .local)
  (ha:UA X Y [a,b] ga) (hs:swappedStores [.Tuple [.Name x px,.Name y py] kt pt] (.Tuple [a,b] k2 pt2) X.env=pure (some [x,y])) (hw:swapsWithSole [.Tuple [.Name x px,.Name y py] kt pt] (.Tuple [a,b] k2 pt2) pos.line X.env=pure false:=by rfl):
  wk X Y (.Assign [.Tuple [.Name x px,.Name y py] kt pt] (.Tuple [a,b] k2 pt2) pos) (JQ i j ga):= .mk λρ=>
 PS.imp (kP hc hN hi hj hij hx hy (ha ρ) hs hw) λD σ H ⟨B,I,q⟩=>jR I q λts vs H1 _ s1 r1 I1 q1=>by
  cases r1 with
  | nil=>exact q1.elim
  | cons r rr=>
   cases rr with
   | nil=>exact q1.elim
   | cons r' rr=>
    cases rr with
    | cons _ _=>exact q1.elim
    | nil=>exact⟨_,_,rfl,q1 _ _ _ (zp.refl _) ((I1.setV i r).setV j r')⟩
end
theorem KN:JM CX0 X E:=λ_ _ _ _ _ _ _ h=>h.elim
section
theorem xM (hy:Y.cl=cl)(F:W2 X.prog X.w X.K X.mg X.base CX0 j f fd ps (spP cl n g))(hr:jU k X.A)(hj:j<=k)(gl:Gl X x)
  (mg:X.mg x=some (.ref f)) (kp:cK X.K (.ref f)=true) (bd:L2.Binds X.K fd ps []) (ha:UA X Y (a :: es) ga) (hd:(x == ("__debug__":Str))=false:=by decide)
  (hs:starEach (a :: es) X.env=(false,eval a X.env) :: starEach es X.env:=by exact zV rfl) (hz:((backTo pos (starEach es X.env)).any λx=>x.fst)=false:=by exact j3 rfl):Snd X Y (.Call (.Name x p) (a :: es) [] pos) (za n g ga):=by
 subst hy;exact Kv F (hr.mono hj) gl mg kp bd KN ha hd hs hz
theorem xN (gl:Gl X x)(mg:X.mg x=some u)(hu:∃t,u=Value.int i t)(hd:(x == ("__debug__":Str))=false:=by decide):Snd X Y (.Name x pos) (cE (.int i)):= .mk λρ=>
 PE.imp (x8 (v:= .int i) gl mg hu hd) λσ H Q ⟨B,I,q⟩=>ZJ I q (.int i)
end
noncomputable def z02 (scope sc0:Scope):Bool:=(scope.kind == .function) && scope.names.all (λx=>x.2 != .cell) && scope.names.all (λx=>x.2 != .local || scope.names.lookup x.1 == some .local) &&
 scope.names.all (λx=>x.2 != .free || sc0.names.lookup x.1 == some .cell || sc0.names.lookup x.1 == some .free)
theorem KO (sc0:Scope)(h0:X.env.scope=sc0)(h:z02 scope sc0=true):CSc X scope:=by
 unfold z02 at h;simp only[ah,aQ]at h;obtain⟨⟨⟨h1,h2⟩,h3⟩,h4⟩:=h;refine⟨eq_of_beq h1,λx hx=>by simpa using h2 x hx,λx hx hl=> ?_,λx hx hf=> ?_⟩
 ·have:=h3 x hx;rw[hl]at this;simpa using this
 ·have:=h4 x hx;rw[hf]at this;show X.env.scope.names.lookup x.1=_\/X.env.scope.names.lookup x.1=_;rw[h0];simpa using this
noncomputable def z03 (N N' :List Str)(scope sc0:Scope)(k:Nat)(js:List Nat):Bool:=(N'.length == k+js.length) && (bc js.length).all λi=>match js[i]? with
 | none=>true
 | some j=>match N'[k+i]?,N[j]? with
  | some x,some y=>(x == y) && (sc0.names.lookup x == some .cell || sc0.names.lookup x == some .free) && (scope.names.lookup x == some .free)
  | _,_=>false
theorem xO {js:List Nat}(N:List Str)(sc0:Scope)(hN:X.N=N)(h0:X.env.scope=sc0)(h:z03 N N' scope sc0 k js=true):z1I X scope N' k js:=by
 unfold z03 at h;simp only[ah,aQ]at h;obtain⟨h1,h2⟩:=h;refine⟨eq_of_beq h1,λi j e=> ?_⟩;have hi:=(ak.mp e).1;have q:=h2 i (bS.mpr hi);rw[e]at q;dsimp only at q;split at q
 ·rename_i x y e1 e2;simp only[ah,l6,beq_iff_eq]at q;obtain⟨⟨rfl,q2⟩,q3⟩:=q;refine⟨x,e1,by rw[hN];exact e2, ?_,q3, ?_⟩
  ·rw[h0];exact .inr q2
  ·show X.env.scope.names.lookup x=_\/X.env.scope.names.lookup x=_;rw[h0];exact q2
 ·cases q
theorem Vj {js:List Nat}{g:T->En->R En}(N' :List Str)(N:List Str)(sc0:Scope)(hN:X.N=N)(h0:X.env.scope=sc0)
  (h:(z02 scope sc0 && z03 N N' scope sc0 k js)=true) (cm:X.calm=true) (it:uK X Y tg iter fi) (gt:Vg X scope N' λXC=>PG XC tg tG) (gk:GOk tG g) (gn:GNo g) (tt:∀Y',Y'.cl=Y.cl->Vg X scope N' λXC=>wm XC Y' ifs ft)
  (el:∀Y',Y'.cl=Y.cl->KF X scope N' Y'.E λXC=>Snd XC Y' elt fe) (hs:∀x,foldedSetIterable iter X.env x=pure x:=by intro _;rfl):Wi X Y tg iter elt ifs scope N' k js fi tG g ft fe:=by
 rw[ah]at h;exact⟨KO sc0 h0 h.1,xO N sc0 hN h0 h.2,cm,it,gt,gk,gn,tt,el,hs⟩
end PV
namespace PV
open PySem PySem.Spec PyProof.Rows L2 PySem.W
section
end
end PV
namespace PySem.W
open PySem PySem.Calls PyProof.Rows PySem.Spec Builtin Builtin.ObjectAttr Builtin.Getset_descriptor
end PySem.W
namespace PySem.W
open PySem PySem.Calls PyProof.Rows PySem.Spec Builtin Builtin.ObjectAttr Builtin.Getset_descriptor
end PySem.W
namespace PySem.W
open PySem PySem.Calls PyProof.Rows PySem.Spec Builtin Builtin.ObjectAttr Builtin.Getset_descriptor
end PySem.W
namespace PV
open PySem PySem.Spec PyProof.Rows L2 PySem.W
section
end
end PV
namespace PySem.ZG
open PySem PySem.Spec PySem.Builtin.SmallTypes
structure u0 (i:Addr) (fp:List Addr) (v:Nat->Option Value) (St:Nat->Heap->Prop):Prop where
 mem:i∈fp
 item:∀{prog:Program} {w:World} {A:Around} {E:Value->Shared->Prop} {s:Shared} {Q:Value->Shared->Prop} {k:Nat} {x:Value},St k s.heap->v k=some x->(∀h',St (k+1) h' ->bv i s.heap h' ->Q x { s with heap:=h' })->wpAny (model prog w) A (nextOf (.ref i)) Q E s
 stop:∀{prog:Program} {w:World} {A:Around} {E:Value->Shared->Prop} {s:Shared} {Q:Value->Shared->Prop} {k:Nat},A.handled=none->St k s.heap->v k=none->(∀h' e,hU i s.heap h' ->(∃o,h'.get? e=some o/\o.cls= .type "StopIteration")->E (.ref e) { s with heap:=h' })->wpAny (model prog w) A (nextOf (.ref i)) Q E s
 keep:∀{k:Nat} {h h' :Heap},St k h->(∀b∈fp,∀o,h.get? b=some o->h'.get? b=some o)->St k h'
 there:∀{k:Nat} {h:Heap},St k h->∀b∈fp,∃o,h.get? b=some o
theorem u0.but {v:Nat->Option Value}{St:Nat->Heap->Prop}(N:u0 i fp v St)(x:St k h)(e:hU b h h')(n:b ∉ fp):St k h' :=
 N.keep x λc hc o q=>e c o (λz=>n (z ▸ hc)) q
theorem xP (hil:l ≠ i)(xs:Array Value):u0 i [i,l] (λk=>xs[k]?) (λk h=>h.IsListIter i l k/\h.IsList l xs) where
 mem:= .head _
 item:=λst hx h=>wpAny_nextOf_list_item st.1 st.2 hx λh' a b=>h h' ⟨a,st.2.extBut b.extBut hil⟩ b
 stop:=λhh st hx h=>wpAny_nextOf_list_end hh st.1 st.2 hx h
 keep:=λst k=>⟨st.1.at λo e=>k i (.head _) o e,st.2.at λo e=>k l (.tail _ (.head _)) o e⟩
 there:=λst b hb=>by
  obtain⟨⟨o,e,_⟩,o2,e2,_⟩:=st;rcases aj.mp hb with z | hb
  ·exact⟨o,z ▸ e⟩
  ·exact⟨o2,(aC.mp hb) ▸ e2⟩
end PySem.ZG
namespace PySem.ZG
open PySem PySem.Spec PySem.Builtin.SmallTypes
section
theorem uO (hit:s.heap.IsTupleIter it l k)(h:wpAny (model prog w) A.in1 (Builtin.«tuple_iterator.__next__» ⟨[.ref it],[]⟩) (λfin s' =>∃v,fin= .done (.ret v)/\Q v s') E s):wpAny (model prog w) A (nextOf (.ref it)) Q E s:=by
 exact a7 (bP hit.typeIs dF (bq dF hit.typeIs PySem.F.entry_tuple_iterator_next
  (cS h (λfin s' ⟨v,e,q⟩=>⟨v,e,ag q⟩) λ_ _ z=>z) (PySem.F.args_tuple_iterator_next_1 _)))
theorem QU (hit:s.heap.IsTupleIter it l k)(ht:s.heap.IsTuple l xs)(hx:xs[k]? =some x)(h:∀h',h'.IsTupleIter it l (k+1)->bv it s.heap h' ->Q x { s with heap:=h' }):wpAny (model prog w) A (nextOf (.ref it)) Q E s:=by
 refine uO hit ?_;obtain⟨o,ho,hc,hd⟩:=id hit;obtain⟨ol,hol,_,nl,hdl⟩:=ht;refine a7 (m:=field _ 0) (bh ho hd rfl ?_);refine a7 (bh ho hd rfl (a7 (bp hol hdl ?_)));simp only[c9,hx];have g:=bu (Obj.mapFields (·.setIfInBounds 1 (rawInt (k+1)))) ho (Obj.isFreed_of_fields (ii hd _));refine a7 (wpAny_setField ho hd (by simp) (ag ⟨x,rfl,h _ ⟨_,g,(Obj.cls_mapFields ..).trans hc, ?_⟩ (dk ..)⟩))
 rw[ii hd];simp[rawInt]
theorem QV (hh:A.handled=none)(hit:s.heap.IsTupleIter it l k)(ht:s.heap.IsTuple l xs)(hx:xs[k]? =none)
  (h:∀h' e,hU it s.heap h' ->(∃o,h'.get? e=some o/\o.cls= .type "StopIteration")->E (.ref e) { s with heap:=h' }):wpAny (model prog w) A (nextOf (.ref it)) Q E s:=by
 refine uO hit ?_;obtain⟨o,ho,hc,hd⟩:=id hit;obtain⟨ol,hol,_,nl,hdl⟩:=ht;refine a7 (m:=field _ 0) (bh ho hd rfl ?_);refine a7 (bh ho hd rfl (a7 (bp hol hdl ?_)));simp only[c9,hx];refine a7 (cu (a7 (wpAny_setField ho hd (by simp) (a7 ?_))))
 refine a7 (aM (a7 (b7 (by first | rfl | (simp only[firstArgMember])) (aM ?_ (by size_fits)))) (by size_fits))
 refine a7 (wpAny_handled ?_);rw[hh];exact a7 (ag (wpAny_throw (h _ _ (((dk ..).extBut.push _).push _) ⟨_,af _ rfl,rfl⟩)))
end
theorem KP (hil:l ≠ i)(xs:Array Value):u0 i [i,l] (λk=>xs[k]?) (λk h=>h.IsTupleIter i l k/\h.IsTuple l xs) where
 mem:= .head _
 item:=λst hx h=>QU st.1 st.2 hx λh' a b=>h h' ⟨a,st.2.extBut b.extBut hil⟩ b
 stop:=λhh st hx h=>QV hh st.1 st.2 hx h
 keep:=λst k=>by
  obtain⟨⟨o,e,r⟩,o2,e2,r2⟩:=st;exact⟨⟨o,k i (.head _) o e,r⟩,o2,k l (.tail _ (.head _)) o2 e2,r2⟩
 there:=λst b hb=>by
  obtain⟨⟨o,e,_⟩,o2,e2,_⟩:=st;rcases aj.mp hb with z | hb
  ·exact⟨o,z ▸ e⟩
  ·exact⟨o2,(aC.mp hb) ▸ e2⟩
end PySem.ZG
namespace PySem.ZG
open PySem PySem.Spec PySem.Builtin.SmallTypes
structure Ap (z TI TO i1 i2:Addr) (fp1 fp2:List Addr):Prop where
 Iz:TI ≠ z
 Oz:TO ≠ z
 IO:TI ≠ TO
 I1:TI ≠ i1
 I2:TI ≠ i2
 z1:z ∉ fp1
 z2:z ∉ fp2
 O1:TO ∉ fp1
 O2:TO ∉ fp2
 a:i1 ∉ fp2
 b:i2 ∉ fp1
section
variable {v1 v2:Nat->Option Value}{S1 S2:Nat->Heap->Prop}
theorem Ap.ne1 (D:Ap z TI TO i1 i2 fp1 fp2)(N1:u0 i1 fp1 v1 S1):i1 ≠ z/\i1 ≠ TO:=⟨λe=>D.z1 (e ▸ N1.mem),λe=>D.O1 (e ▸ N1.mem)⟩
theorem Ap.ne2 (D:Ap z TI TO i1 i2 fp1 fp2)(N2:u0 i2 fp2 v2 S2):i2 ≠ z/\i2 ≠ TO:=⟨λe=>D.z2 (e ▸ N2.mem),λe=>D.O2 (e ▸ N2.mem)⟩
theorem xQ {Q:Value->Shared->Prop}(N1:u0 i1 fp1 v1 S1)(N2:u0 i2 fp2 v2 S2)(D:Ap z TI TO i1 i2 fp1 fp2)(hz:IsZip s.heap z TI TO .none)(hTI:IsPair s.heap TI (.ref i1) (.ref i2))(hTO:IsPair s.heap TO a b)(p1:S1 k s.heap)(p2:S2 k s.heap)(hx:v1 k=some x)(hy:v2 k=some y)
  (hQ:∀h',IsZip h' z TI TO (rawInt s.heap.objs.size)->IsPair h' TO x y->S1 (k+1) h' ->S2 (k+1) h' ->IsPair h' s.heap.objs.size x y->
   (∀c o,c ≠ z->c ≠ TO->c ≠ i1->c ≠ i2->s.heap.get? c=some o->h'.get? c=some o)->Q (.ref s.heap.objs.size) { s with heap:=h' }):
  wpAny (model prog w) A (Builtin.«zip.__next__» ⟨[.ref z],[]⟩) (λfin s' =>∃v,fin= .done (.ret v)/\Q v s') E s:=by
 refine a7 (m:=field (.ref z) 2) (bh hz rfl (x:= .bool false) rfl (a7 (bh hz rfl (x:= .ref TI) rfl (a7 (bp hTI rfl ?_)))));refine a7 ?_;refine a7 (bh hz rfl (x:= .none) rfl (ag ?_));refine a7 (cu (a7 (bh hz rfl (x:= .ref TO) rfl (a7 (aX hz (by simp) λg1 z1 e1=> ?_)))))
 replace z1:=z1
 refine a7 ?_;refine a7 (a7 (wpAny_onRaise (a7 (N1.item (N1.but p1 e1.extBut D.z1) hx λg2 q1 e2=>ag ?_))));have t2:IsPair g2 TO a b:=e2.extBut _ _ (D.ne1 N1).2.symm (e1.extBut _ _ D.Oz hTO);refine a7 (bp t2 rfl (a7 (wpAny_updateSeq_pair t2 λg3 t3 e3=> ?_)));refine a7 (dA (ag ?_));refine a7 (a7 (wpAny_onRaise (a7 (N2.item (N2.but (N2.but (N2.but p2 e1.extBut D.z2) e2.extBut D.a) e3.extBut D.O2) hy λg4 q2 e4=>ag ?_))));have t4:IsPair g4 TO x b:=e4.extBut _ _ (D.ne2 N2).2.symm t3;refine a7 (bp t4 rfl (a7 (wpAny_updateSeq_pair t4 λg5 t5 e5=> ?_)))
 replace t5:IsPair g5 TO x y:=t5
 refine a7 (dA (ag (ag ?_)));refine a7 (bp t5 rfl (a7 (wpAny_newTuple ?_)));have sz:g5.objs.size=s.heap.objs.size:=by rw[e5.1,e4.1,e3.1,e2.1,e1.1]
 have z5:=e5.extBut _ _ D.Oz.symm (e4.extBut _ _ (D.ne2 N2).1.symm (e3.extBut _ _ D.Oz.symm (e2.extBut _ _ (D.ne1 N1).1.symm z1)));have k5:∀c o,c ≠ z->c ≠ TO->c ≠ i1->c ≠ i2->s.heap.get? c=some o->g5.get? c=some o:=λc o c1 c2 c3 c4 e=>
  e5.extBut _ _ c2 (e4.extBut _ _ c4 (e3.extBut _ _ c2 (e2.extBut _ _ c3 (e1.extBut _ _ c1 e))))
 have r1:S1 (k+1) g5:=N1.but (N1.but (N1.but q1 e3.extBut D.O1) e4.extBut D.b) e5.extBut D.O1;have r2:S2 (k+1) g5:=N2.but q2 e5.extBut D.O2;refine a7 ?_;have z6:IsZip (g5.push { cls:= .type "tuple",data:= .seq #[x,y] }) z TI TO _:=ab _ z5;refine a7 (aX z6 (by simp) λg7 z7 e7=> ?_)
 refine aX z7 (by simp) λg8 z8 e8=> ?_
 have up:∀c o,c ≠ z->g5.get? c=some o->g8.get? c=some o:=λc o c1 e=>e8.extBut _ _ c1 (e7.extBut _ _ c1 (ab _ e));have hn:g5.objs.size ≠ z:=bT (ao z5);have t8:=e8.extBut _ _ hn (e7.extBut _ _ hn (af _ rfl));rw[sz]at z8 t8;refine ag ⟨_,rfl, ?_⟩;rw[sz];exact hQ g8 z8 (up _ _ D.Oz t5) (N1.keep r1 λc hc o e=>up c o (λq=>D.z1 (q ▸ hc)) e) (N2.keep r2 λc hc o e=>up c o (λq=>D.z2 (q ▸ hc)) e) t8 λc o c1 c2 c3 c4 e=>up c o c1 (k5 c o c1 c2 c3 c4 e)
theorem xR {Q:Fin->Shared->Prop}(hh:A.handled=none)(N1:u0 i1 fp1 v1 S1)(N2:u0 i2 fp2 v2 S2)(D:Ap z TI TO i1 i2 fp1 fp2)(hz:IsZip s.heap z TI TO .none)(hTI:IsPair s.heap TI (.ref i1) (.ref i2))(hTO:IsPair s.heap TO a b)(p1:S1 k s.heap)(p2:S2 k s.heap)(hend:v1 k=none\/v2 k=none)
  (hE:∀h' e,(∀c o,c ≠ z->c ≠ TO->c ≠ i1->c ≠ i2->s.heap.get? c=some o->h'.get? c=some o)->(∃o,h'.get? e=some o/\o.cls= .type "StopIteration")->E (.ref e) { s with heap:=h' }):
  wpAny (model prog w) A (Builtin.«zip.__next__» ⟨[.ref z],[]⟩) Q E s:=by
 refine a7 (m:=field (.ref z) 2) (bh hz rfl (x:= .bool false) rfl (a7 (bh hz rfl (x:= .ref TI) rfl (a7 (bp hTI rfl ?_)))));refine a7 ?_;refine a7 (bh hz rfl (x:= .none) rfl (ag ?_));simp only[if_true];refine a7 (cu (a7 (bh hz rfl (x:= .ref TO) rfl (a7 (aX hz (by simp) λg1 z1 e1=> ?_)))))
 replace z1:=z1
 refine a7 ?_;have off:∀{g:Heap} {e:Addr} {oe:Obj},IsZip g z TI TO .ellipsis->g.get? e=some oe->oe.cls= .type "StopIteration"->e ≠ z:=λhg he hc q=>by
  subst q;rw[hg]at he;cases he;simp at hc
 cases hx:v1 k with
 | none=>
  refine a7 (a7 (wpAny_onRaise (a7 (N1.stop hh (N1.but p1 e1.extBut D.z1) hx λg2 e e2 he=> ?_))));obtain⟨oe,ho,hc⟩:=he;have z2:=e2 _ _ (D.ne1 N1).1.symm z1;exact aX z2 (by simp) λg3 _ e3=>hE g3 e (λc o c1 _ c3 _ q=>e3.extBut _ _ c1 (e2 _ _ c3 (e1.extBut _ _ c1 q))) ⟨oe,e3.extBut _ _ (off z2 ho hc) ho,hc⟩
 | some x=>
  have hy:v2 k=none:=by
   rcases hend with q | q
   ·rw[hx]at q;cases q
   ·exact q
  refine a7 (a7 (wpAny_onRaise (a7 (N1.item (N1.but p1 e1.extBut D.z1) hx λg2 q1 e2=>ag ?_))));have t2:=e2.extBut _ _ (D.ne1 N1).2.symm (e1.extBut _ _ D.Oz hTO);refine a7 (bp t2 rfl (a7 (wpAny_updateSeq_pair t2 λg3 t3 e3=>a7 (dA (ag ?_)))));refine a7 (a7 (wpAny_onRaise (a7 (N2.stop hh (N2.but (N2.but (N2.but p2 e1.extBut D.z2) e2.extBut D.a) e3.extBut D.O2) hy λg4 e e4 he=> ?_))));obtain⟨oe,ho,hc⟩:=he;have z4:=e4 _ _ (D.ne2 N2).1.symm (e3.extBut _ _ D.Oz.symm (e2.extBut _ _ (D.ne1 N1).1.symm z1));exact aX z4 (by simp) λg5 _ e5=>hE g5 e (λc o c1 c2 c3 c4 q=>e5.extBut _ _ c1 (e4 _ _ c4 (e3.extBut _ _ c2 (e2.extBut _ _ c3 (e1.extBut _ _ c1 q))))) ⟨oe,e5.extBut _ _ (off z4 ho hc) ho,hc⟩
theorem xS {Q:Option Value->Shared->Prop}(N1:u0 i1 fp1 v1 S1)(N2:u0 i2 fp2 v2 S2)(D:Ap z TI TO i1 i2 fp1 fp2)(hz:IsZip s.heap z TI TO .none)(hTI:IsPair s.heap TI (.ref i1) (.ref i2))(hTO:IsPair s.heap TO a b)(p1:S1 k s.heap)(p2:S2 k s.heap)(hx:v1 k=some x)(hy:v2 k=some y)
  (hQ:∀h',IsZip h' z TI TO (rawInt s.heap.objs.size)->IsPair h' TO x y->S1 (k+1) h' ->S2 (k+1) h' ->IsPair h' s.heap.objs.size x y->
   (∀c o,c ≠ z->c ≠ TO->c ≠ i1->c ≠ i2->s.heap.get? c=some o->h'.get? c=some o)->Q (some (.ref s.heap.objs.size)) { s with heap:=h' }):wpAny (model prog w) A (pyNext (.ref z)) Q E s:=by
 have ty:s.TypeIs (.ref z) _:=⟨_,hz,rfl⟩;exact a7 (c_ (bP ty d4 (bq d4 ty fM
  (xQ N1 N2 D hz hTI hTO p1 p2 hx hy λh' a1 a2 a3 a4 a5 a6=>ag (hQ h' a1 a2 a3 a4 a5 a6)) (fv _))))
theorem xT {Q:Option Value->Shared->Prop}(hh:A.handled=none)(N1:u0 i1 fp1 v1 S1)(N2:u0 i2 fp2 v2 S2)(D:Ap z TI TO i1 i2 fp1 fp2)(hz:IsZip s.heap z TI TO .none)(hTI:IsPair s.heap TI (.ref i1) (.ref i2))(hTO:IsPair s.heap TO a b)(p1:S1 k s.heap)(p2:S2 k s.heap)(hend:v1 k=none\/v2 k=none)
  (hQ:∀h',(∀c o,c ≠ z->c ≠ TO->c ≠ i1->c ≠ i2->s.heap.get? c=some o->h'.get? c=some o)->Q none { s with heap:=h' }):wpAny (model prog w) A (pyNext (.ref z)) Q E s:=by
 have ty:s.TypeIs (.ref z) _:=⟨_,hz,rfl⟩;refine a7 (c_ (bP ty d4 (bq d4 ty fM
  (xR hh N1 N2 D hz hTI hTO p1 p2 hend λh' e kp he=> ?_) (fv _))))
 obtain⟨o,ho,hc⟩:=he;exact a7 (cn ⟨o,ho,hc⟩ isSubtype_stop (ag (hQ _ kp)))
end
end PySem.ZG
namespace PySem.ZG
open PySem PySem.Spec PySem.Builtin.SmallTypes
structure xU (l:Addr) (o:Obj) (P:Heap->Prop):Prop where
 go:∀{prog:Program} {w:World} {A:Around} {E:Value->Shared->Prop} {s:Shared} {Q:Value->Shared->Prop},P s.heap->Q (.ref s.heap.objs.size) { s with heap:=s.heap.push o }->wpAny (model prog w) A (pyIter (.ref l)) Q E s
 push:∀{h:Heap} (o' :Obj),P h->P (h.push o')
 fresh:o.isFreed=false
noncomputable abbrev oL (l:Addr):Obj:={ cls:= .type "list_iterator",data:= .fields #[.ref l,.int 0 0] }
noncomputable abbrev oT (l:Addr):Obj:={ cls:= .type "tuple_iterator",data:= .fields #[.ref l,.int 0 0] }
theorem xV (l:Addr)(xs:Array Value):xU l (oL l) (λh=>h.IsList l xs):=⟨λp q=>wpAny_pyIter_list p q,λo p=>Heap.IsList.push p o,rfl⟩
theorem KQ (l:Addr)(xs:Array Value):xU l (oT l) (λh=>h.IsTuple l xs):=⟨λp q=>wpAny_pyIter_tuple p q,λo p=>Heap.IsTuple.push p o,rfl⟩
noncomputable abbrev zh2 (h:Heap)(o1 o2:Obj):Heap:=(h.push o1).push o2
abbrev zh3 (h:Heap)(o1 o2:Obj):Heap:=(zh2 h o1 o2).push { cls:= .type "tuple",data:= .seq #[.ref h.objs.size,.ref (h.push o1).objs.size] }
abbrev zh4 (h:Heap)(o1 o2:Obj):Heap:=(zh3 h o1 o2).push { cls:= .type "tuple",data:= .seq #[.none,.none] }
abbrev zh5 (h:Heap)(o1 o2:Obj):Heap:=(zh4 h o1 o2).push { cls:= .type "zip",data:= .fields #[.none,.bool false,.bool false,.ref (zh2 h o1 o2).objs.size,.ref (zh3 h o1 o2).objs.size] }
theorem KR {P1 P2:Heap->Prop}(J1:xU l1 o1 P1)(J2:xU l2 o2 P2):
  Meets (Builtin.«zip.__new__» ⟨[.type "zip",.ref l1,.ref l2],[]⟩) (λ_ R s=>P1 s.heap/\P2 s.heap/\R (.ok (.ret (.ref (zh4 s.heap o1 o2).objs.size))) { s with heap:=zh5 s.heap o1 o2 }):=
 .of_wp λprog w A R s h=>by
  obtain⟨hp,g,d,tk,os⟩:=s;obtain⟨q1,q2,h⟩:=h;have hsub:=sub_zip;have c1:P1 (Shared.heap ⟨hp,g,d,tk,os⟩):=q1;have c2:P2 (Shared.heap ⟨hp.push o1,g,d,tk,os⟩):=J2.push o1 q2
  wp_walk using J1.go c1,J2.go c2
  exact⟨_,rfl,h⟩
end PySem.ZG
namespace PySem.ZG
open PySem PySem.Spec PySem.Builtin.SmallTypes
theorem xW {P1 P2:Heap->Prop}(J1:xU l1 o1 P1)(J2:xU l2 o2 P2)(q1:P1 s.heap)(q2:P2 s.heap)
  (h:∀h' n,n=s.heap.objs.size->IsZip h' (n+4) (n+2) (n+3) .none->IsPair h' (n+2) (.ref n) (.ref (n+1))->IsPair h' (n+3) .none .none->h'.get? n=some o1->h'.get? (n+1)=some o2->
   (∀c o,s.heap.get? c=some o->h'.get? c=some o)->Q (.ref (n+4)) { s with heap:=h' }):wpAny (model prog w) A (call (.type "zip") [.ref l1,.ref l2]) Q E s:=by
 refine callType_new PySem.F.called_zip (by decide) (PySem.F.typeCall_zip_2 _ _) (PySem.F.newCall_zip_2 _ _) (λobj=>PySem.F.args_object_init_3 obj _ _) PySem.F.entry_zip_new (KR J1 J2) ⟨q1,q2, ?_⟩
 have n1:(s.heap.push o1).objs.size=s.heap.objs.size+1:=bo ..;have n2:(zh2 s.heap o1 o2).objs.size=s.heap.objs.size+2:=by rw[bo,n1]
 have n3:(zh3 s.heap o1 o2).objs.size=s.heap.objs.size+3:=by rw[bo,n2]
 have n4:(zh4 s.heap o1 o2).objs.size=s.heap.objs.size+4:=by rw[bo,n3]
 have up:∀{h:Heap} {c:Addr} {o:Obj} (o' :Obj),h.get? c=some o->(h.push o').get? c=some o:=λo' e=>ab o' e;have e5:(zh5 s.heap o1 o2).get? _=some _:=af _ rfl;have e4:(zh5 s.heap o1 o2).get? _=some _:=up _ (af _ rfl);have e3:(zh5 s.heap o1 o2).get? _=some _:=up _ (up _ (af _ rfl));have e2:(zh5 s.heap o1 o2).get? _=some _:=up _ (up _ (up _ (af _ J2.fresh)));have e1:(zh5 s.heap o1 o2).get? _=some _:=up _ (up _ (up _ (up _ (af _ J1.fresh))));rw[n2,n3,n4]at e5;rw[n1,n2]at e3;rw[n3]at e4;rw[n1]at e2;rw[n4];exact⟨⟨_,e5,rfl⟩,h _ _ rfl e5 e3 e4 e1 e2 λc o q=>up _ (up _ (up _ (up _ (up _ q))))⟩
end PySem.ZG
namespace PV
open PySem PySem.Spec PyProof.Rows L2 PySem.ZG
inductive SK where
 | l | t
noncomputable def SK.it:SK->Heap->Addr->Addr->Nat->Prop
 | .l=>λh i l k=>h.IsListIter i l k
 | .t=>λh i l k=>h.IsTupleIter i l k
noncomputable def SK.has:SK->Heap->Addr->Array Value->Prop
 | .l=>λh l xs=>h.IsList l xs
 | .t=>λh l xs=>h.IsTuple l xs
def SK.sq (K:ai):SK->Hp->Addr->List V->Prop
 | .l=>λH a xs=>SqL K H a xs
 | .t=>λH a xs=>SqT K H a xs
noncomputable def SK.tr:SK->List V->HO
 | .l=> .lst
 | .t=> .tup
def SK.ob:SK->Addr->Obj
 | .l=>oL
 | .t=>oT
theorem SK.nx (k:SK){i l:Addr}(h:l ≠ i)(xs:Array Value):u0 i [i,l] (λn=>xs[n]?) (λn hp=>k.it hp i l n/\k.has hp l xs):=by
 cases k with
 | l=>exact xP h xs
 | t=>exact KP h xs
theorem SK.of (k:SK)(l:Addr)(xs:Array Value):xU l (k.ob l) (λh=>k.has h l xs):=by
 cases k with
 | l=>exact xV l xs
 | t=>exact KQ l xs
theorem SK.start (k:SK){h:Heap}{i l:Addr}(e:h.get? i=some (k.ob l)):k.it h i l 0:=by
 cases k with
 | l=>exact⟨_,e,rfl,rfl⟩
 | t=>exact⟨_,e,rfl,rfl⟩
theorem SK.obj {k:SK}{h:Heap}{i l:Addr}{n:Nat}(x:k.it h i l n):∃o,h.get? i=some o/\∀v,o.data ≠ .cell v:=by
 cases k with
 | l=>obtain⟨o,e,_,d⟩:=x;exact⟨o,e,λv z=>by rw[d]at z;cases z⟩
 | t=>obtain⟨o,e,_,d⟩:=x;exact⟨o,e,λv z=>by rw[d]at z;cases z⟩
theorem SK.at_ {k:SK}{h h' :Heap}{i l:Addr}{n:Nat}(x:k.it h i l n)(q:∀o,h.get? i=some o->h'.get? i=some o):k.it h' i l n:=by
 cases k with
 | l=>obtain⟨o,e,r⟩:=x;exact⟨o,q o e,r⟩
 | t=>obtain⟨o,e,r⟩:=x;exact⟨o,q o e,r⟩
theorem SK.sqOf {K:ai}(k:SK){H:Hp}{a:Addr}{xs:List V}(e:H a=some (k.tr xs)):k.sq K H a xs:=by
 cases k with
 | l=>exact SqL.of e
 | t=>exact SqT.of e
theorem Inv.seq (I:L2.Inv X pins σ H s)(k:SK)(h:k.sq X.K H a xs):∃its:List Value,zU xs its/\k.has s.heap a its.toArray/\∃o,s.heap.get? a=some o:=by
 cases k with
 | l=>
  obtain⟨its,r,p,_⟩:=I.list h;obtain⟨o,_,e,_⟩:=id p;exact⟨its,r,p.isList,o,e⟩
 | t=>
  obtain⟨its,r,p,_⟩:=I.tuple h;obtain⟨o,e,_⟩:=id p;exact⟨its,r,p,o,e⟩
def Itz (K:ai)(k1 k2:SK)(l1 l2:Addr):It:=
 ⟨λi H=>∃xs ys x y,k1.sq K H l1 xs/\k2.sq K H l2 ys/\xs[i]? =some x/\ys[i]? =some y,λi H v H' =>∃p x y,H p=none/\v= .ref p/\(∀xs,k1.sq K H l1 xs->xs[i]? =some x)/\(∀ys,k2.sq K H l2 ys->ys[i]? =some y)/\H' =upd H p (.tup [x,y]),
  λi H=>∃xs ys,k1.sq K H l1 xs/\k2.sq K H l2 ys/\(xs.length<=i\/ys.length<=i)⟩
theorem Inv.seq_inj (I:L2.Inv X pins σ H s)(k:SK)(h:k.sq X.K H a xs)(h' :k.sq X.K H a ys):xs=ys:=by
 cases k with
 | l=>exact I.list_inj h h'
 | t=>exact I.tuple_inj h h'
theorem nN {a b:Nat}(h:a ≠ b): @Ne Addr a b:=h
theorem nM {a b c:Nat}(h:a ≠ b)(h' :a ≠ c):¬ @Membership.mem Addr (List Addr) _ [b,c] a:=λq=>by
 rcases aj.mp q with z | z
 ·exact h z
 ·exact h' (aC.mp z)
theorem QW {P:Program}{w:World}{K:ai}{elts:List Expr}{kk:Nat}{pt:Pos}(k1 k2:SK){n l1 l2:Nat}(h1:l1 < n)(h2:l2 < n):
  yl P w K (.Tuple elts kk pt) (Itz K k1 k2 l1 l2) [n+4,n+2,n+3,n,n+1] (n+4)
   (λi h=>IsZip h (n+4) (n+2) (n+3) .none/\IsPair h (n+2) (.ref n) (.ref (n+1))/\(∃a b,IsPair h (n+3) a b)/\k1.it h n l1 i/\k2.it h (n+1) l2 i):=by
 have D:Ap (n+4) (n+2) (n+3) n (n+1) [n,l1] [n+1,l2]:=by
  refine⟨nN (by omega),nN (by omega),nN (by omega),nN (by omega),nN (by omega),nM (by omega) (by omega),nM (by omega) (by omega),nM (by omega) (by omega),nM (by omega) (by omega),nM (by omega) (by omega),nM (by omega) (by omega)⟩
 refine⟨by simp,λi h st b hb=> ?_,λi h h' st k=> ?_, ?_, ?_, ?_⟩
 ·obtain⟨hz,hI,⟨a,c,hO⟩,p1,p2⟩:=st;simp only[aj,be,or_false]at hb;rcases hb with rfl | rfl | rfl | rfl | rfl
  ·exact⟨_,hz,λv z=>nomatch z⟩
  ·exact⟨_,hI,λv z=>nomatch z⟩
  ·exact⟨_,hO,λv z=>nomatch z⟩
  ·exact SK.obj p1
  ·exact SK.obj p2
 ·obtain⟨hz,hI,⟨a,c,hO⟩,p1,p2⟩:=st;exact⟨k _ (by simp) _ hz,k _ (by simp) _ hI,⟨a,c,k _ (by simp) _ hO⟩,SK.at_ p1 λo e=>k n (by simp) o e,SK.at_ p2 λo e=>k (n+1) (by simp) o e⟩
 ·intro X hP hw hK hc i pins s σ H E I hf st hg;subst hP hw hK;obtain⟨xs,ys,x,y,s1,s2,hx,hy⟩:=hg;obtain⟨hz,hI,⟨a,c,hO⟩,p1,p2⟩:=st;obtain⟨its1,r1,b1,_⟩:=Inv.seq I k1 s1;obtain⟨its2,r2,b2,_⟩:=Inv.seq I k2 s2;obtain⟨u,hu,ru⟩:=r1.get hx;obtain⟨v,hv,rv⟩:=r2.get hy;refine xS (k1.nx (ax h1) its1.toArray) (k2.nx (i:=n+1) (nN (by omega)) its2.toArray) D hz hI hO ⟨p1,b1⟩ ⟨p2,b2⟩ (x:=u) (y:=v) (by simpa using hu) (by simpa using hv) λg a1 a2 a3 a4 a5 kp=>⟨_,rfl, ?_⟩
  refine wpAny_letOwnedTupleGo_zip a1 λg2 z2 e2=> ?_;have hlt:n+4 < s.heap.objs.size:=ao hz;have ne:∀b:Nat,b<=n+4->s.heap.objs.size ≠ b:=λb hb=>by
   omega
  have kp2:∀b o,b ∉ [n+4,n+2,n+3,n,n+1]->s.heap.get? b=some o->g2.get? b=some o:=λb o hb e=>by
   simp only[aj,be,or_false,not_or]at hb;exact e2.extBut _ _ hb.1 (kp b o hb.1 hb.2.2.1 hb.2.2.2.1 hb.2.2.2.2 e)
  have g2P:=e2.extBut _ _ (ne _ (am _)) a5;have g2I:=e2.extBut _ _ D.Iz (kp _ _ D.Iz D.IO D.I1 D.I2 hI);have g2O:=e2.extBut _ _ D.Oz a2;have q1:=SK.at_ a3.1 λo e=>e2.extBut _ _ (nN (by omega)) e
  have q2:=SK.at_ a4.1 λo e=>e2.extBut _ _ (nN (by omega)) e
  have hfr:=I.hok.fresh (am _);refine⟨.ref s.heap.objs.size,upd H s.heap.objs.size (.tup [x,y]),Inv.laidT (s:=s) (h' :=g2) (tk:=s.toks) I hf kp2 (λb o hb _=> ?_) (am _)
   ⟨by rw[bH];show 2<=16777216;decide,[u,v],.cons ru (.cons rv .nil),⟨_,g2P,rfl,_,rfl⟩,.inr ⟨_,g2P,rfl⟩⟩,rfl,⟨_,x,y,hfr,rfl,λzs hq=>by rw[← Inv.seq_inj I k1 s1 hq];exact hx,λzs hq=>by rw[← Inv.seq_inj I k2 s2 hq];exact hy,rfl⟩,⟨z2,g2I,⟨u,v,g2O⟩,q1,q2⟩,λb hb=> ?_⟩
  ·simp only[aj,be,or_false]at hb;rcases hb with rfl | rfl | rfl | rfl | rfl
   ·exact⟨_,z2⟩
   ·exact⟨_,g2I⟩
   ·exact⟨_,g2O⟩
   ·obtain⟨o',e',_⟩:=SK.obj q1;exact⟨o',e'⟩
   ·obtain⟨o',e',_⟩:=SK.obj q2;exact⟨o',e'⟩
  ·have hb2:(b:Nat)<=n+4:=by
    have hb:=by simpa using hb
    rcases hb with rfl | rfl | rfl | rfl | rfl
    ·exact am _
    ·exact dZ (by decide) n
    ·exact dZ (by decide) n
    ·exact av _ _
    ·exact dZ (by decide) n
   rw[zm λz=>ne b hb2 z.symm];exact(hf b hb).1
 ·intro X hP hw hK hc i pins s σ H E I hf st hg;subst hP hw hK;obtain⟨xs,ys,s1,s2,hend⟩:=hg;obtain⟨hz,hI,⟨a,c,hO⟩,p1,p2⟩:=st;obtain⟨its1,r1,b1,_⟩:=Inv.seq I k1 s1;obtain⟨its2,r2,b2,_⟩:=Inv.seq I k2 s2;have l1' :=r1.length;have l2' :=r2.length;refine xT (I.ok.hd hc) (k1.nx (ax h1) its1.toArray) (k2.nx (nN (by omega)) _) D hz hI hO ⟨p1,b1⟩ ⟨p2,b2⟩ ?_ λg kp=>⟨rfl, ?_⟩
  ·rcases hend with q | q
   ·exact .inl (bE (by rw[aA,← l1'];exact q))
   ·exact .inr (bE (by rw[aA,← l2'];exact q))
  ·have kp2:∀b o,b ∉ [n+4,n+3,n,n+1]->s.heap.get? b=some o->g.get? b=some o:=λb o hb e=>by
    simp only[aj,be,or_false,not_or]at hb;exact kp b o hb.1 hb.2.1 hb.2.2.1 hb.2.2.2 e
   have nch:∀b u,H b=some u->b ∉ [n+4,n+3,n,n+1]:=λb u e hb=>by
    have hb' :b∈[n+4,n+2,n+3,n,n+1]:=by
     simp only[aj,be,or_false]at hb ⊢;rcases hb with q | q | q | q
     ·exact .inl q
     ·exact .inr (.inr (.inl q))
     ·exact .inr (.inr (.inr (.inl q)))
     ·exact .inr (.inr (.inr (.inr q)))
    rw[(hf b hb').1]at e;cases e
   refine I.call' rfl ⟨λb o e _ _ hc=>kp2 b o hc e,λb o e _ _ hc=>⟨o.slots,kp2 b o hc e⟩,λb o e q _=>q,λb o e hc=>⟨o,kp2 b o hc e⟩,λb ys e=>e,λb o u e=>e,λ_ _ _ e=>e⟩ (λb u e=> ?_) I.bare λb hb=> ?_
   ·refine(I.hok b u e).stay (λc v hc q=>kp2 c v ?_ q) (λ_ q=>q) λ_ _ q=>q;rcases hc with rfl | hc
    ·exact nch c u e
    ·exact nch c _ hc
   ·have hb' :b∈[n+4,n+2,n+3,n,n+1]:=by
     simp only[aj,be,or_false]at hb ⊢;rcases hb with q | q | q | q
     ·exact .inl q
     ·exact .inr (.inr (.inl q))
     ·exact .inr (.inr (.inr (.inl q)))
     ·exact .inr (.inr (.inr (.inr q)))
    obtain⟨f0,f1,f2,f3,f4,f5⟩:=hf b hb';exact⟨f3,f1,f4,f5⟩
 ·intro A i s Q E st h;exact wpAny_pyIter_zip st.1 h
noncomputable def QX (xs ys:List T):List T:=(xs.zip ys).map λp=>T.tup [p.1,p.2]
theorem QY {xs ys:List T}{i:Nat}{t:T}(h:(QX xs ys)[i]? =some t):∃x y,xs[i]? =some x/\ys[i]? =some y/\t= .tup [x,y]:=by
 unfold QX at h;rw[ar]at h;cases e:(xs.zip ys)[i]? with
 | none=>rw[e]at h;cases h
 | some p=>
  rw[e]at h;cases h;have:=bV.mp e;exact⟨p.1,p.2,this.1,this.2,rfl⟩
theorem u3 (xs ys:List T):(QX xs ys).length=min xs.length ys.length:=by unfold QX;simp
theorem KS {K:ai}{B1 H1:Hp}{k1 k2:SK}{a b:Addr}{xs ys:List V}{ts us:List T}(ha:B1 a=some (k1.tr xs))(hb:B1 b=some (k2.tr ys))(ra:zC B1 xs ts)(rb:zC B1 ys us):rI B1 H1 (Itz K k1 k2 a b) (QX ts us):=λB2 H2 s1 s2=>by
 have a2:=k1.sqOf (K:=K) (s2 _ _ (s1 _ _ ha));have b2:=k2.sqOf (K:=K) (s2 _ _ (s1 _ _ hb));rw[u3];refine⟨λi hi=> ?_,λi t x H3 e y=> ?_,λi hi=>⟨xs,ys,a2,b2, ?_⟩⟩
 ·obtain⟨v,e1,_⟩:=ra.get (a9 (show i < ts.length by omega))
  obtain⟨u,e2,_⟩:=rb.get (a9 (show i < us.length by omega))
  exact⟨xs,ys,v,u,a2,b2,e1,e2⟩
 ·obtain⟨p,v,u,hp,rfl,y1,y2,rfl⟩:=y;obtain⟨t1,t2,et,eu,rfl⟩:=QY e;obtain⟨v',e1,r1⟩:=ra.get et;obtain⟨u',e2,r2⟩:=rb.get eu;have q1:=y1 xs a2;have q2:=y2 ys b2;rw[e1]at q1;cases q1;rw[e2]at q2;cases q2;have up:=zS.ge s2 (zp.new hp (.tup [v,u]));exact⟨zp.new hp _,.tup (jy hp _) (.cons ((r1.mono s1).mono up) (.cons ((r2.mono s1).mono up) .nil))⟩
 ·rw[ra.length,rb.length];omega
section
theorem KT {ta:TA}(hg:Gl X "zip")(hm:X.mg "zip"=none)(ha:PA X [a,b] ta)(hs:starEach [a,b] X.env=[(false,eval a X.env),(false,eval b X.env)])(hs2:starEach [b] X.env=[(false,eval b X.env)]):
  PI X (.Tuple elts kk pt) (.Call (.Name "zip" p) [a,b] [] pos) (λσ H R=>ta σ H λvs H1=>∃k1 k2 l1 l2 xs ys,vs=[.ref l1,.ref l2]/\H1 l1=some (SK.tr k1 xs)/\H1 l2=some (SK.tr k2 ys)/\R (Itz X.K k1 k2 l1 l2) H1):=by
 intro pins s σ H R I h;refine Call_ (ZC I hg hm PyProof.Rows.Boot.«zip» (aV (thn (ha pos _ s σ H _ I h) λus s1 ⟨vs,H1,I1,r1,q1⟩=> ?_) (by rw[hs,hs2]) (by rw[hs2];rfl)))
 obtain⟨k1,k2,l1,l2,xs,ys,e,h1,h2,q⟩:=q1;subst e;obtain⟨u,v,rfl,ru,rv⟩:=Uy r1;obtain rfl:u=Value.ref l1:=ru;obtain rfl:v=Value.ref l2:=rv;obtain⟨its1,_,b1,o1,e1⟩:=Inv.seq I1 k1 (k1.sqOf h1);obtain⟨its2,_,b2,o2,e2⟩:=Inv.seq I1 k2 (k2.sqOf h2);refine xW (k1.of l1 _) (k2.of l2 _) b1 b2 λg n hn z1 z2 z3 z4 z5 kp=>wpAny_pyIter_zip z1 ?_;subst hn;have f:∀b∈[s1.heap.objs.size+4,s1.heap.objs.size+2,s1.heap.objs.size+3,s1.heap.objs.size,s1.heap.objs.size+1],WP X _ H1 b:=λb hb=>by
  have hb' :s1.heap.objs.size<=b:=by
   simp only[aj,be,or_false]at hb;rcases hb with rfl | rfl | rfl | rfl | rfl
   ·exact av _ _
   ·exact av _ _
   ·exact av _ _
   ·exact am _
   ·exact av _ _
  exact I1.fpOk hb' (I1.hok.fresh hb')
 exact⟨s1.heap.objs.size+4,_,_,_,H1,rfl,I1.kept kp,QW k1 k2 (ao e1) (ao e2),⟨z1,z2,⟨_,_,z3⟩,SK.start k1 z4,SK.start k2 z5⟩,f,q⟩
noncomputable def Zu:T->R (List T)
 | .lst xs=> .ok xs
 | .tup xs=> .ok xs
 | _=> .bad
def uP (fa fb:En->R T):En->R (List T):=λρ=>(fa ρ).bind λt=>(fb ρ).bind λu=>(Zu t).bind λxs=>(Zu u).bind λys=> .ok (QX xs ys)
theorem Y4 (r:Rep B v t)(e:Zu t= .ok xs):∃(k:SK) (a:Addr) (vs:List V),v= .ref a/\B a=some (k.tr vs)/\zC B vs xs:=by
 cases r with
 | lst h r=>cases e;exact⟨.l,_,_,rfl,h,r⟩
 | tup h r=>cases e;exact⟨.t,_,_,rfl,h,r⟩
 | _=>cases e
theorem uQ (t:T)(c:Nat):Zu t ≠ .ex c:=by cases t <;> exact λz=>nomatch z
theorem z1L (hg:Gl X "zip")(hm:X.mg "zip"=none)(ha:Snd X Y a fa)(hb:Snd X Y b fb)(hs:starEach [a,b] X.env=[(false,eval a X.env),(false,eval b X.env)]:=by exact st2 rfl rfl)(hs2:starEach [b] X.env=[(false,eval b X.env)]:=by exact st1 rfl):
  uK X Y (.Tuple elts kk pt) (.Call (.Name "zip" p) [a,b] [] pos) (uP fa fb):= .mk λρ=>
 PI.imp (KT hg hm (zl (ha ρ) (zl (hb ρ) zK hs2) (by rw[hs,hs2])) hs hs2) λσ H R ⟨B,I,q⟩=>step I q λt v H1 _ s1 r1 I1 q1=>step I1 q1 λu v' H2 _ s2 r2 I2 q2=>by
  cases e1:Zu t with
  | bad=>rw[e1]at q2;exact q2.elim
  | ex c=>exact absurd e1 (uQ _ _)
  | ok xs=>
   rw[e1]at q2;cases e2:Zu u with
   | bad=>rw[e2]at q2;exact q2.elim
   | ex c=>exact absurd e2 (uQ _ _)
   | ok ys=>
    rw[e2]at q2;obtain⟨k1,a1,vs1,rfl,h1,w1⟩:=Y4 (r1.mono (zS.ge I1.sB s2)) e1;obtain⟨k2,a2,vs2,rfl,h2,w2⟩:=Y4 r2 e2;exact⟨k1,k2,a1,a2,vs1,vs2,rfl,I2.sB _ _ h1,I2.sB _ _ h2,ZJ I2 (show Po Y rI _ H2 _ R from q2) (KS h1 h2 w1 w2)⟩
end
end PV
namespace PV
open PySem PySem.Spec PyProof.Rows L2
section
def Y5:T->R T
 | .bl b=> .ok (.int (b2 b))
 | .int i=> .ok (.int i)
 | _=> .bad
theorem z1M (v:V)(t:T)(B H:Hp)(Q:VK)(r:Rep B v t)(sB:zp B H)(q:Po Y rC B H (Y5 t) Q):
  (∃i,[v]=[V.int i]/\Q (.int i) H)\/∃k,[v]=[V.bl k]/\Q (.int (if k then 1 else 0)) H:=by
 cases r with
 | int i=>exact .inl ⟨i,rfl,po0 sB q rfl (.int i)⟩
 | bl k=>exact .inr ⟨k,rfl,po0 sB q rfl (by cases k <;> exact .int _)⟩
 | _=>exact q.elim
theorem KU (gl:Gl X "int")(mg:X.mg "int"=none)(ha:Snd X Y a fa)(hs:St1 X a:=by exact st1 rfl):Snd X Y (.Call (.Name "int" p) [a] [] pos) (ap1 Y5 fa):=
 Va yv z1M gl mg (PyProof.Rows.Boot.«int») ha hs
theorem Y6:Zb X (.type "range") (λxs H Q=>∃i j,xs=[.int i,.int j]/\∀r,H r=none->Q (.ref r) (upd H r (.rng i j))):=by
 intro pins s σ H xs us Q I r h;obtain⟨i,j,rfl,q⟩:=h;obtain⟨u,v,rfl,ru,rv⟩:=Uy r;obtain⟨t,rfl⟩:=ru;obtain⟨t',rfl⟩:=rv;exact call_range_2 ⟨.ref _,_,I.laid (λb o e=>ab _ e) (am _) (show zX _ X.w _ _ _ (.rng i j) from ⟨_,_,_,af _ rfl⟩),rfl,q _ (I.hok.fresh (am _))⟩
noncomputable def Qj (lo:Int)(n:Nat):List V:=(bc n).map λ(i:Nat)=>V.int (lo+(i:Int))
theorem wp (hh:X.A.handled=none):Zb X (.type "list") (λxs H Q=>∃r lo hi,xs=[.ref r]/\H r=some (.rng lo hi)/\(-1000000 < lo/\lo < 1000000/\ -1000000 < hi/\hi < 1000000)/\∀l,H l=none->Q (.ref l) (upd H l (.lst (Qj lo (hi - lo).toNat)))):=by
 intro pins s σ H xs us Q I rv h;obtain⟨r,lo,hi,rfl,e,⟨c1,c2,c3,c4⟩,q⟩:=h;obtain⟨u,rfl,ru⟩:=Zp rv;obtain rfl:u=Value.ref r:=ru;obtain⟨t,v,v',eo⟩:=(show zX _ X.w H _ r _ from I.hok r _ e);have hn:fj lo hi 1=((hi - lo).toNat):=by rw[rangeSize_one];split <;> omega
 refine call_list_range hh eo (small_one (by omega) (by omega) (by omega) (by omega)) hn (by omega) λh' tk acc c kp eo' hacc=> ?_
 have hv:zU (Qj lo (hi - lo).toNat) acc.toList:=by
  have key:∀(n:Nat) (lo:Int) (vs:List _),vs.length=n->(∀(j:Nat) (v:Value),vs[j]? =some v->∃t,v=Value.int (lo+(j)) t)->zU (Qj lo n) vs:=by
   intro n
   induction n with
   | zero=>
    intro lo vs hl _;rw[List.eq_nil_of_length_eq_zero hl];exact .nil
   | succ n ih=>
    intro lo vs hl hv;cases vs with
    | nil=>cases hl
    | cons v vs=>
     have e:Qj lo (n+1)=V.int (lo+0) :: Qj (lo+1) n:=by
      unfold Qj;rw[dD,ay,aO];refine congrArg _ (br λj _=> ?_);show V.int _=V.int _;congr 1;omega
     rw[e];refine .cons (hv 0 v rfl) (ih _ vs (by simpa using hl) λj x hx=> ?_)
     obtain⟨t,z⟩:=hv (j+1) x (by simpa using hx)
     exact⟨t,by rw[z];congr 1;omega⟩
  refine key _ lo _ (by simpa using hacc.1) λj v hj=> ?_
  obtain⟨t,z⟩:=hacc.2 j v (by simpa using hj)
  exact⟨t,by rw[z];congr 1;omega⟩
 have hz:(Qj lo (hi - lo).toNat).length<=sizeLine:=by
  rw[bH];unfold Qj;rw[aa,bw];omega
 exact⟨.ref _,_,I.laid kp (am _) (show zX _ X.w _ h' _ (.lst _) from ⟨hz,acc.toList,c,hv,by simpa using eo'⟩),rfl,q _ (I.hok.fresh (am _))⟩
def z04 (fi:En->R (List T)):En->R T:=λρ=>(fi ρ).bind λts=> .ok (.lst ts)
theorem Y7 (lo:Int)(n:Nat):zC B (Qj lo n) (rng lo n):=by
 unfold Qj rng
 induction bc n with
 | nil=>exact .nil
 | cons i is ih=>exact .cons (.int _) ih
theorem xX (hh:X.A.handled=none)(gl:Gl X "list")(mg:X.mg "list"=none)(gl' :Gl X "range")(mg' :X.mg "range"=none)(ha:Snd X Y a fa)(hb:Snd X Y b fb)
  (hs:starEach [a,b] X.env=[(false,eval a X.env),(false,eval b X.env)]:=by exact st2 rfl rfl) (hs2:St1 X b:=by exact st1 rfl):Snd X Y (.Call (.Name "list" p) [.Call (.Name "range" p') [a,b] [] pos'] [] pos) (z04 (jS fa fb)):= .mk λρ=>
 PE.imp (ZD (wp hh) gl mg PyProof.Rows.Boot.«list» (zl (ZD Y6 gl' mg' boot_range (zl (ha ρ) (zl (hb ρ) zK hs2) (by rw[hs,hs2])) (by decide) (by decide) (by rw[hs,hs2]) (by rw[hs2];rfl)) zK (st1 rfl)) (by decide) (by decide) (st1 rfl) rfl) λσ H Q ⟨B,I,q⟩=>by
  have q:Po Y rC B H ((fa ρ).bind λt=>(fb ρ).bind λt' =>(match t,t' with | .int i,.int j=>if -1000000 < i/\i < 1000000/\ -1000000 < j/\j < 1000000 then R.ok (rng i (j - i).toNat) else .bad | _,_=> .bad).bind λts=> .ok (.lst ts)) Q:=by
   revert q;unfold z04 jS;cases fa ρ with
   | ok t=>cases fb ρ <;> exact λq=>q
   | ex c=>exact λq=>q
   | bad=>exact λq=>q
  refine step I q λt v H1 _ s1 r1 I1 q1=>step I1 q1 λt' v' H2 _ s2 r2 I2 q2=> ?_;cases r1 with
  | int i=>
   cases r2 with
   | int j=>
    by_cases c: -1000000 < i/\i < 1000000/\ -1000000 < j/\j < 1000000
    ·dsimp only at q2;rw[if_pos c]at q2;refine⟨i,j,rfl,λr hr=>⟨r,i,j,rfl,zr,c,λl hl=> ?_⟩⟩;have hlr:l ≠ r:=λz=>by rw[z,zr]at hl;cases hl
     have hl2:=by rw[zm hlr]at hl;exact hl
     refine q2 _ _ (zp.new hr _ |>.trans (zp.new hl _)) (.lst ?_ (Y7 _ _))
     rw[Z7 hl2,zr]
    ·dsimp only at q2;rw[if_neg c]at q2;exact q2.elim
   | _=>exact q2.elim
  | _=>cases r2 <;> exact q2.elim
def mvS (i j:Nat):En->RS:=λρ=>match ρ[j]? with
 | some (.ow ts)=> .nx ((ρ.set j (.vl (.lst ts))).set i (.vl (.lst ts)))
 | _=> .bad
theorem SI.give (I:SI Y B ρ σ H)(hj:ρ[j]? =some (.ow ts)):∃(a:Addr) (B' :Hp),σ[j]? =some (some (V.ref a))/\zp B B' /\Rep B' (.ref a) (.lst ts)/\SI Y B' (ρ.set j (.vl (.lst ts))) σ H:=by
 obtain⟨a,xs,e,b0,h0,hh,rr,d⟩:=I.ow j ts hj;have s1:zp B (upd B a (.lst xs)):=zp.new b0 _;have rp:Rep _ _ _:= .lst zr (rr.mono s1);refine⟨a,_,e,s1,rp,⟨I.s0,I.sH,λb o q=> ?_,λb o q=> ?_,by rw[cf];exact I.len,λk t q=> ?_,λk us q=> ?_,λk c q=> ?_, ?_⟩⟩
 ·by_cases hb:b=a
  ·subst hb;rw[zr]at q;cases q;exact hh
  ·rw[zm hb]at q;exact I.sB b o q
 ·rw[zm λz=>by rw[z,h0]at q;cases q];exact I.old b o q
 ·rcases zw q with ⟨rfl,z⟩ | ⟨_,z⟩
  ·cases z;exact⟨_,e,rp⟩
  ·obtain⟨v,e1,r⟩:=I.vl k t z;exact⟨v,e1,r.mono s1⟩
 ·rcases zw q with ⟨rfl,z⟩ | ⟨hk,z⟩
  ·cases z
  ·obtain⟨a',xs',e',b0',h0',hh',rr',d'⟩:=I.ow k us z;have hne:a' ≠ a:=λw=>by subst w;exact d k us hk z e'
   refine⟨a',xs',e',by rw[zm hne];exact b0',h0',hh',rr'.mono s1,λm ws hm hw=> ?_⟩
   rcases zw hw with ⟨rfl,w⟩ | ⟨_,w⟩
   ·cases w
   ·exact d' m ws hm w
 ·rcases zw q with ⟨rfl,z⟩ | ⟨_,z⟩
  ·cases z
  ·obtain⟨a',e',r⟩:=I.xc k c z;exact⟨a',e',s1 _ _ r⟩
 ·obtain⟨as,O,x⟩:=I.st;refine⟨as,O,x.on (λk y hy h=> ?_) s1 rfl rfl (zp.refl _) λb o hb b0' h0' cs=> ?_⟩
  ·rcases zw h with ⟨_,z⟩ | ⟨_,z⟩
   ·subst z;cases hy
   ·exact⟨z,rfl⟩
  ·have hne:b ≠ a:=λz=>by
    subst z;rcases cs with ⟨C,dx,vs,ez⟩ | ok
    ·rw[hh]at hb;cases hb;cases ez
    ·exact ok j ts hj e
   refine⟨hb,by rw[zm hne];exact b0',h0',λok k us h=> ?_⟩
   rcases zw h with ⟨_,z⟩ | ⟨_,z⟩
   ·cases z
   ·exact ok k us z
theorem s_mv (hv:PE X (.Name y yp) (Qi j))(hN:X.N.Nodup)(hi:X.N[i]? =some x)(hx:L2.Loc X.env.scope x)(hs:swapsWith (.Name y yp) (some (.Name x p')) pos.line X.env=pure false:=by rfl)
  (hf:X.fn x=true\/X.env.scope.names.lookup x=some .local:=by first | exact .inl rfl | exact .inr rfl | assumption):wk X Y (.Assign [.Name x p'] (.Name y yp) pos) (mvS i j):= .mk λρ=>
 PS.imp (uC hN hi hx hv hs hf) λD σ H ⟨B,I,q⟩=>by
  unfold mvS at q;split at q
  ·rename_i ts e;obtain⟨a,B',e1,s1,r,J⟩:=I.give e;exact⟨_,e1,q _ _ B' s1 (J.setV i r)⟩
  ·exact q.elim
end
def eqs (y:T):List T->Option (List Bool)
 | []=>some []
 | t :: ts=>match eqF 30 t y with
  | none=>none
  | some b=>match eqs y ts with
   | none=>none
   | some bs=>some (b :: bs)
def cntT (y:T)(ts:List T):R T:=match eqs y ts with
 | some bs=> .ok (.int (bs.count true))
 | none=> .bad
def xY (y:T)(ts:List T):R T:=match eqs y ts with
 | some bs=>if true∈bs then .ok (.int (bs.idxOf true)) else .bad
 | none=> .bad
def KW (g:T->List T->R T)(fa fb:En->R T):En->R T:=λρ=>(fa ρ).bind λt=>match t with
 | .lst ts=>(fb ρ).bind λu=>g u ts
 | _=> .bad
theorem Vk {H:Hp}{y:T}{e:Value->Bool}(he:∀(v:V) (t:T) (u:Value) (b:Bool),Z3 v u->Rep H v t->eqF 30 t y=some b->e u=b):∀{xs:List V} {ts:List T} {its:List Value} {bs:List Bool},
  zU xs its->zC H xs ts->eqs y ts=some bs->its.map e=bs/\∀u∈its,∃v t k,Z3 v u/\Rep H v t/\eqF 30 t y=some k
 | _,_,_,_,.nil,.nil,h=>by
  cases h;exact⟨rfl,λu hu=>by simp at hu⟩
 | _,_,_,_,.cons rv vs,.cons r rs,h=>by
  rename_i v u vals us t ts;unfold eqs at h;cases q:eqF 30 t y with
  | none=>rw[q]at h;cases h
  | some k=>
   rw[q]at h;cases q' :eqs y ts with
   | none=>rw[q']at h;cases h
   | some k' =>
    rw[q']at h;cases h;obtain⟨h1,h2⟩:=Vk he vs rs q';refine⟨by rw[ay,h1,he v t u k rv r q],λw hw=> ?_⟩
    rcases aj.mp hw with z | hw
    ·exact⟨v,t,k,z ▸ rv,r,q⟩
    ·exact h2 w hw
section
theorem QZ (hu:X.A.units+64 < cLine):MtR X "list.index" (λx xs H Q=>∃l ys ts v t bs,x= .ref l/\xs=[v]/\H l=some (.lst ys)/\zC H ys ts/\Rep H v t/\eqs t ts=some bs/\true∈bs/\Q (.int (bs.idxOf true)) H):=by
 intro pins s σ H x xs v0 us Q I rx rv h;obtain⟨l,ys,ts,v,t,bs,rfl,rfl,hl,r,rt,e,hm,q⟩:=h;obtain rfl:v0=Value.ref l:=rx;obtain⟨u,rfl,ru⟩:=Zp rv;obtain⟨hz,its,n,ri,eo⟩:=(show zX _ X.w H _ l _ from I.hok l _ hl);obtain⟨f,hf⟩:=yI λz=>eqF 30 z t;obtain⟨h2,h3⟩:=Vk hf ri r e;have hj:=eZ.mpr hm;have hlen:bs.length=its.length:=by rw[← h2,aa]
 have hri:=ri.length;rw[bH]at hz;have hat:∀m (hm:m < its.length),f its[m]=bs[m]'(by rw[hlen];exact hm):=λm hm=>by
  have:(its.map f)[m]'(by rw[aa];exact hm)=bs[m]'(by rw[hlen];exact hm):=by simp only[h2]
  rw[← this,fw]
 refine d9 fx ⟨_,eo,rfl⟩ PySem.F.entry_list_index (PySem.F.args_list_index_2 _ _) (SeqAt.list_indexAt l _ n _ #[] u f _ (by rw[aA,← hlen];exact hj) (by omega) ?_ ?_) ⟨eo,λw hw=> ?_, ?_⟩
 ·rw[hV,hat];exact ij hj
 ·intro m hm hlt;rw[hV,hat m (by simpa using hm)]
  have:=List.not_of_lt_findIdx hlt;simpa using this
 ·obtain⟨v',t',k,rv',rr,ee⟩:=h3 w (by simpa using hw)
  rw[hf v' t' w k rv' rr ee];exact(Qy I 30 _ (by rw[Jb];omega) t' t k v' v w u ee rr rt rv' ru).1
 ·exact⟨.int _,H,I.tok _,⟨_,rfl⟩,q⟩
theorem xZ (hu:X.A.units+64 < cLine)(ha:j8 X Y a fa)(hb:j8 X Y b fb)(hb1:attributeBase a "index" X.env (eval a X.env)=eval a X.env:=by rfl)(hs:St1 X b:=by exact st1 rfl)(hz:(pa.endLine == p.line)=true:=by rfl):
  Snd X Y (.Call (.Attribute a "index" pa) [b] [] p) (KW xY fa fb):= .mk λρ=>by
 have e1:(((((backTo p (starEach [b] X.env)).all λx=> !x.fst) && (backToKw p (keywordEach [] X.env)).all λx=>x.fst.isSome) && decide (([b].length+([]:List Keyword).length+if ([]:List Keyword).isEmpty=true then 0 else 1) < 30))=true):=by rw[hs];rfl
 refine PE.imp (Qw dy fx PySem.F.type_list_index (QZ hu) (ha ρ) (zl (hb ρ) zK hs) hb1 e1 hz hs rfl) λσ H Q ⟨B,I,q⟩=>step I q λt v H1 _ s1 r1 I1 q1=> ?_;cases t with
 | lst ts=>
  cases r1 with
  | @lst l xs _ h r=>
   refine⟨.inl ⟨rfl,_,SqL.of h⟩,step I1 q1 λu v' H2 _ s2 r2 I2 q2=> ?_⟩;unfold xY at q2;split at q2
   ·rename_i bs e;split at q2
    ·rename_i hm;exact⟨l,xs,ts,v',u,bs,rfl,rfl,s2 _ _ h,r.mono s2,r2,e,hm,ZJ I2 q2 (.int _)⟩
    ·exact q2.elim
   ·exact q2.elim
 | _=>exact q1.elim
end
noncomputable def Z5:List T->Option (List Int)
 | []=>some []
 | .int i :: r=>match Z5 r with | some l=>some (i :: l) | none=>none
 | _ :: _=>none
def Vl:T->R T
 | .lst ts=>match Z5 ts with | some l=> .ok (.int l.sum) | none=> .bad
 | _=> .bad
def z05:En->RS:=λ_=> .bad
theorem z1N {X:Cx}{Y:Fx}{st:Stmt}:wk X Y st z05:= .mk λρ=>λpins s σ H D I ⟨B,J,q⟩=>q.elim
theorem u4:∀{H:Hp} {xs:List V} {ts:List T} {its:List Value} {is:List Int},zC H xs ts->zU xs its->Z5 ts=some is->∃ps:List (Int×Tok),its=ps.map (λp=>Value.int p.1 p.2)/\ps.map (·.1)=is
 | _,_,_,_,is,.nil,.nil,h=>by
  have h' :=h;cases h';exact⟨[],rfl,rfl⟩
 | H,_,_,_,is,.cons r rs,.cons rv vs,h=>by
  cases r with
  | int i=>
   unfold Z5 at h;split at h
   ·rename_i l e;cases h;obtain⟨ps,h1,h2⟩:=u4 rs vs e;obtain⟨tk,rfl⟩:=rv;exact⟨(i,tk) :: ps,by rw[h1];rfl,by rw[ay,h2]⟩
   ·cases h
  | _=>cases h
section
variable {X:Cx}{Y:Fx}{a b:Expr}{fa fb:En->R T}{pos p p' pos' :Pos}
theorem Y8 (hh:X.A.handled=none):Zb X (.builtin "sum") (λvs H Q=>∃l xs ts is,vs=[.ref l]/\H l=some (.lst xs)/\zC H xs ts/\Z5 ts=some is/\Q (.int is.sum) H):=by
 intro pins s σ H vs us Q I rv h;obtain⟨l,xs,ts,is,rfl,hl,r,hk,q⟩:=h;obtain⟨u,rfl,ru⟩:=Zp rv;obtain rfl:u=Value.ref l:=ru;obtain⟨its,rv,p,_⟩:=zI I (.inl hl) r;obtain⟨ps,h1,h2⟩:=u4 r rv hk;have e:its.toArray=intItems ps.toArray:=by rw[h1];simp[intItems]
 rw[e]at p;refine sum_intListG hh p λh' tk t' kp=> ?_;have e2:preSum (numAt ps.toArray) ps.toArray.size=is.sum:=by
  rw[preSum_eq,List.take_of_length_le (by simp),← h2]
 rw[e2];exact⟨.int _,H,I.kept kp,⟨t',rfl⟩,q⟩
theorem z1O (hh:X.A.handled=none)(gl:Gl X "sum")(mg:X.mg "sum"=none)(ha:j8 X Y a fa)(hs:St1 X a:=by exact st1 rfl):Snd X Y (.Call (.Name "sum" p) [a] [] pos) (ap1 Vl fa):=
 uI (Y8 hh) (λv t B H Q r sB q=>by
  cases r with
  | @lst l xs ts h r=>
   have q:Po Y rC B H (match Z5 ts with | some k=> .ok _ | none=> .bad) Q:=q
   split at q
   ·rename_i k e;exact⟨l,xs,ts,k,rfl,h,r,e,po0 sB q rfl (.int _)⟩
   ·exact q.elim
  | _=>exact q.elim) gl mg boot_sum ha hs
end
end PV
namespace PySem.RV
open PySem PySem.Spec PyProof.Rows PySem.Builtin.SmallTypes
theorem wq:Manifest.owners.lookup (String.ofList "desrever".toList.reverse)=some Manifest.sig_reversed:=by kernel_rfl
theorem ZX:Slot "reversed" "__next__" "reversed.__next__":=
 .of (owner:="reversed") (n:="__next__") (by kernel_rfl) (by decide+kernel) (by decide+kernel) (by decide+kernel)
  (by first | exact .inl (by decide+kernel) | exact .inr (by decide+kernel)) (by kernel_rfl)
theorem JR:entryFor table "reversed.__next__"=some Builtin.«reversed.__next__»:=entryFor_of_tree (by kernel_rfl)
theorem Wk (a:Value):argsOk "reversed.__next__" ⟨[a],[]⟩:=by
 unfold argsOk;rw[signature?_of (n:="__txen__".toList) (by kernel_rfl) wq];kernel_rfl
theorem Wl:Slot "reversed" "__iter__" "reversed.__iter__":=
 .of (owner:="reversed") (n:="__iter__") (by kernel_rfl) (by decide+kernel) (by decide+kernel) (by decide+kernel)
  (by first | exact .inl (by decide+kernel) | exact .inr (by decide+kernel)) (by kernel_rfl)
theorem Y9 (a:Value):argsOk "reversed.__iter__" ⟨[a],[]⟩:=by
 unfold argsOk;rw[signature?_of (n:="__reti__".toList) (by kernel_rfl) wq];kernel_rfl
theorem UE:entryFor table "reversed.__iter__"=some Builtin.«dict_keyiterator.__iter__»:=
 entryFor_alias (id' :="dict_keyiterator.__iter__") (by kernel_rfl) (by first | rfl | decide+kernel | (unfold String.splitOn;simp+decide [String.splitOnAux])) (by decide+kernel) (by kernel_rfl)
theorem KY:typeLookup (.type "tuple") "__reversed__"=pure none:=by rw[cW,builtinLookup_eq_fast];kernel_rfl
theorem KZ:isSubtype (.type "tuple") (.type "dict")=pure false:=by rw[isSubtype_type];kernel_rfl
noncomputable abbrev IsRv (h:Heap)(it:Addr)(v:Value)(i:Int):Prop:=h.get? it=some { cls:= .type "reversed",data:= .fields #[v,rawInt i] }
section
variable {prog:Program}{w:World}{A:Around}{E:Value->Shared->Prop}{s:Shared}{it l:Addr}{xs:Array Value}
theorem JJ {v:Value}{i:Int}(x:IsRv s.heap it v i):s.TypeIs (.ref it) "reversed":=⟨_,x,rfl⟩
theorem next_item {i:Nat}{x:Value}{Q:Option Value->Shared->Prop}(hit:IsRv s.heap it (.ref l) (i:Int))(ht:IsTup s.heap l xs)(hf:(xs.size:Int) < 2 ^ 63)(hx:xs[i]? =some x)
  (hQ:∀h' tk,IsRv h' it (.ref l) ((i:Int) - 1)->bv it s.heap h' ->Q (some x) { s with heap:=h',toks:=tk }):wpAny (model prog w) A (pyNext (.ref it)) Q E s:=by
 refine a7 (c_ (bP (JJ hit) ZX (bq ZX (JJ hit) JR ?_ (Wk _))));refine a7 (b7 rfl ?_);refine a7 (bh hit rfl rfl ?_);refine a7 (bh hit rfl rfl ?_);have hi:=(Array.getElem?_eq_some_iff.mp hx).1;have hT:=ht.typeIs;refine a7 (cg hT slot_tuple_getitem.lookup ?_);refine a7 (wpAny_mkInt ?_);refine a7 (c_ (getItem_tuple ht (by omega) (by omega) (seqIndex_of (by omega) (by omega)) (by simpa using hx) ?_))
 refine a7 (bh hit rfl rfl ?_);refine a7 (aX hit (by simp) λg1 z1 e1=> ?_)
 exact ag ⟨x,rfl,ag (hQ g1 _ z1 e1)⟩
theorem next_end {Q:Option Value->Shared->Prop}(hh:A.handled=none)(hit:IsRv s.heap it (.ref l) (-1))
  (hQ:∀h',hU it s.heap h' ->Q none { s with heap:=h' }):wpAny (model prog w) A (pyNext (.ref it)) Q E s:=by
 refine a7 (c_ (bP (JJ hit) ZX (bq ZX (JJ hit) JR ?_ (Wk _))));refine a7 (b7 rfl ?_);refine a7 (bh hit rfl rfl ?_);refine a7 (bh hit rfl rfl ?_);refine a7 (cu ?_);refine a7 (show wpAny _ _ _ _ _ _ from ?_);refine a7 (aX hit (by simp) λg1 z1 e1=> ?_)
 refine aX z1 (by simp) λg2 z2 e2=> ?_
 refine a7 (show wpAny _ _ (newExc _ [] >>= λe=>raiseNew e) _ _ _ from ?_);refine a7 ?_;refine a7 (aM (a7 (b7 (by first | rfl | (simp only[firstArgMember])) (aM ?_ (by size_fits)))) (by size_fits))
 refine a7 (wpAny_handled ?_);rw[hh];refine a7 (ag (wpAny_throw ?_));refine a7 (cn ⟨_,af _ rfl,rfl⟩ isSubtype_stop ?_);exact ag (hQ _ (((e1.extBut.trans e2.extBut).push _).push _))
theorem iter_rv {v:Value}{i:Int}{Q:Value->Shared->Prop}(hit:IsRv s.heap it v i)(h:Q (.ref it) s):wpAny (model prog w) A (pyIter (.ref it)) Q E s:=by
 refine wpAny_pyIter_slot (JJ hit) Wl (bq Wl (JJ hit) UE ?_ (Y9 _));exact ag ⟨_,rfl,"reversed",_,JJ hit,ZX.lookup,h⟩
theorem Vm:mroOf (.type "reversed")=pure [.type "reversed",.type "object"]:=by rw[mroOf_type];kernel_rfl
theorem g6:typeLookup (.type "reversed") "__new__"=pure (some (.builtin "reversed.__new__")):=by kernel_rfl
theorem X0:Bind.madeBy (.type "reversed")=pure (some "reversed.__new__"):=madeBy_type Vm g6 (by decide+kernel)
theorem Vn:isSubtype (.type "reversed") (.type "reversed")=pure true:=by rw[isSubtype_type];kernel_rfl
theorem gc (a:Value):newClass "reversed" ⟨[.type "reversed",a],[]⟩=pure (.type "reversed",[a]):=by
 unfold newClass;simp only[isType,Vn,pure_bind,e_,aB,if_false]
theorem Ya:entryFor table "reversed.__new__"=some Builtin.«reversed.__new__»:=entryFor_of_tree (by kernel_rfl)
theorem v6 {Q:Fin->Shared->Prop}(ht:IsTup s.heap l xs)(hf:(xs.size:Int) < 2 ^ 63)
  (h:∀tk,Q (.done (.ret (.ref s.heap.objs.size))) { s with heap:=s.heap.push { cls:= .type "reversed",data:= .fields #[.ref l,rawInt ((xs.size:Int) - 1)] },toks:=tk }):
  wpAny (model prog w) A (Builtin.«reversed.__new__» ⟨[.type "reversed",.ref l],[]⟩) Q E s:=by
 have hT:=ht.typeIs;refine a7 (b7 (gc _) ?_);refine a7 (b7 (by first | rfl | kernel_rfl) ?_)
 refine a7 (b7 (by first | rfl | kernel_rfl) ?_)
 refine a7 (cg hT KY ?_);refine a7 ?_;refine a7 (cn hT KZ ?_);refine a7 (cg hT slot_tuple_getitem.lookup ?_);refine ag ?_;refine a7 (len_tuple ht hf ?_);refine a7 (b7 rfl ?_);refine a7 (show wpAny _ _ (newObj _ (.fields #[.ref l,rawInt _])) _ _ _ from ?_);exact aM (ag (h _)) (by size_fits)
theorem Yb:Slot "reversed" "__init__" "object.__init__":=
 .of (owner:="object") (n:="__init__") (by kernel_rfl) (by decide+kernel) (by decide+kernel) (by decide+kernel)
  (by first | exact .inl (by decide+kernel) | exact .inr (by decide+kernel)) (by kernel_rfl)
theorem Yc:TypeCalled "reversed" "reversed.__new__" "object.__init__":=
 ⟨by decide+kernel,by decide+kernel,⟨_,_,Vm⟩,X0,by decide+kernel,by kernel_rfl,Yb⟩
theorem v7 (a:Value):checkTypeCall "reversed" ⟨[a],[]⟩=pure ():=by kernel_rfl
theorem v8 (a:Value):checkBuiltinCall "reversed.__new__" ⟨[.type "reversed",a],[]⟩=pure ():=by kernel_rfl
theorem call_rvT (ht:IsTup s.heap l xs)(hf:(xs.size:Int) < 2 ^ 63)
  (h:∀tk,Q (.ref s.heap.objs.size) { s with heap:=s.heap.push { cls:= .type "reversed",data:= .fields #[.ref l,rawInt ((xs.size:Int) - 1)] },toks:=tk }):wpAny (model prog w) A (call (.type "reversed") [.ref l]) Q E s:=by
 refine callType_new (S:=λ_ R s=>(∃xs,IsTup s.heap l xs/\(xs.size:Int) < 2 ^ 63/\∀tk,R (.ok (.ret (.ref s.heap.objs.size))) { s with heap:=s.heap.push { cls:= .type "reversed",data:= .fields #[.ref l,rawInt ((xs.size) - 1)] },toks:=tk })) Yc (by decide) (v7 _) (v8 _) (λobj=>PySem.F.args_object_init_2 obj _) Ya (.of_wp λprog w A R s h=> ?_) ⟨xs,ht,hf,λtk=> ?_⟩
 ·obtain⟨xs,h1,h2,h3⟩:=h;exact v6 h1 h2 λtk=>⟨_,rfl,h3 tk⟩
 ·exact⟨⟨_,af _ rfl,rfl⟩,h tk⟩
end
end PySem.RV
namespace PySem.RV
open PySem PySem.Spec PyProof.Rows
theorem v9:typeLookup (.type "list_reverseiterator") "__len__"=pure none:=by rw[cW,builtinLookup_eq_fast];kernel_rfl
theorem X1:typeLookup (.type "list_reverseiterator") "__length_hint__"=pure (some (.builtin "list_reverseiterator.__length_hint__")):=by rw[cW];kernel_rfl
section
variable {G:Array GenState->Array GenState->Prop}{P:Nat->Value->Prop}{St:Nat->Shared->Prop}
theorem UF {Q:List Value->Shared->Prop}(W:WalksS prog w A.in1 I fp wr G n P St)(hT:∀i s,St i s->s.TypeIs (.ref I) "list_reverseiterator")(hst:St 0 s)(hfp:∀b∈fp,b < s.heap.objs.size)(hI:I∈fp)
  (hQ:∀s' acc,Moved wr G s s' ->ItemsOf P acc n->Q acc.toList s') (hn:n<=sizeLine):wpAny (model prog w) A (collect (.ref I)) Q E s:=by
 have nf:=λz=>ba _ (hfp _ z);have nI:s.heap.objs.size ≠ I:=λz=>nf (z ▸ hI);unfold collect;refine a7 (wpAny_runValue (aS f_ ?_));refine a7 (aM (ag ⟨aZ iC _,aS iD ?_⟩));have g0:=W.frame 0 s (s.heap.push { cls:= .type "list",data:= .seq ([]:List _).toArray }) _ hst (am _) λb _ o e=>ab _ e;have g1:(s.heap.push { cls:= .type "list",data:= .seq ([]:List _).toArray }).get? _=some _:=af _ rfl;have g2:bL (.ref s.heap.objs.size) (.ref I)=false:=by simp[bL,nI]
 refine(show wpAny _ _ (d6 _ _ _) _ _ _ from ?_);refine a7 (cT (hT 0 _ g0) ?_);rw[if_neg (by rw[g2];decide)]
 refine a7 (W.self 0 _ _ _ g0 (a7 (bB ?_)));refine a7 (cg (hT 0 _ g0) v9 ?_);refine a7 (cg (hT 0 _ g0) X1 ?_);generalize hid:("list_reverseiterator.__length_hint__")=id0;subst hid;refine a7 (cn (b:=true) (hT 0 _ g0) (by kernel_rfl) ?_)
 refine ag ?_;refine ag ⟨aZ d_ _,codeAny_extend_loopS W hn _ nf _ n 0 _ _ _ rfl (b6 _) g0 g1 (i_ P) λs' acc' c' hm hS' hacc=> ?_⟩;exact a7 (wpAny_load hS' (ag (hQ s' _ (Moved.drop_new hm (am _)) hacc)))
theorem gh (W:WalksS prog w A.in1.in1 I fp wr G n P St)(hT:∀i s,St i s->s.TypeIs (.ref I) "list_reverseiterator")(hst:St 0 s)(hfp:∀b∈fp,b < s.heap.objs.size)(hI:I∈fp)
  (h:∀s' acc,Moved wr G s s' ->ItemsOf P acc n->Q₁ (.ref s'.heap.objs.size) { s' with heap:=s'.heap.push { cls:= .type "tuple",data:= .seq acc } }) (hsz:n<=sizeLine):
  codeAny (model prog w) A (.call (.builtin "tuple.__new__") ⟨[.type "tuple",.ref I],[]⟩) (wants Q₁ E) s:=by
 refine codeAny_of_tree ?_;refine(show wpAny _ A.in1 (do checkBuiltinCall "tuple.__new__" ⟨[.type "tuple",.ref I],[]⟩;again (.builtin "tuple.__new__" ⟨[.type "tuple",.ref I],[]⟩)) _ _ s from ?_)
 refine a7 (b7 (iE _) (ag ⟨aZ dG _,aS iF ?_⟩));rw[hW dG _];have hsub:=sub_tuple_self;have hinit:=init_tuple_lookup;have hmh:=madeHere_tuple;have ty:=hT 0 s hst
 wp_walk using cT ty,UF (hn:=hsz) W hT hst hfp hI
 intro s' acc hm hacc;have e:acc.toList.toArray=acc:=by simp
 refine(show wpAny _ _ (cH acc.toList.toArray >>= λv=>ret v) _ _ _ from ?_);unfold cH;refine a7 (aM (ag ?_) (by rw[e];show acc.size<=sizeLine;rw[hacc.1];exact hsz))
 rw[e];exact h s' acc hm hacc
theorem tuple_lr (W:WalksS prog w A.in1.in1.in1 I fp wr G n P St)(hT:∀i s,St i s->s.TypeIs (.ref I) "list_reverseiterator")(hst:St 0 s)(hfp:∀b∈fp,b < s.heap.objs.size)(hI:I∈fp)
  (hQ:∀s' acc,Moved wr G s s' ->ItemsOf P acc n->Q (.ref s'.heap.objs.size) { s' with heap:=s'.heap.push { cls:= .type "tuple",data:= .seq acc } }) (hsz:n<=sizeLine):
  wpAny (model prog w) A (call (.type "tuple") [.ref I]) Q E s:=
 callType_codes (Q₁:=λobj s₁=>s₁.TypeIs obj _/\Q obj _) db (ik _) i6
  (gh (hsz:=hsz) W hT hst hfp hI λs' acc hm hacc=>⟨⟨_,af _ rfl,rfl⟩,hQ s' acc hm hacc⟩) λobj s₁ h₁=>
   ⟨h₁.1,hX obj _,object_init_meets db.init.lookup db.made (by decide) _ w _ _ _ ⟨h₁.1,rfl,h₁.2⟩⟩
end
end PySem.RV
namespace PV
open PySem PySem.Spec PyProof.Rows L2
def z1P (K:ai)(a:Addr)(n:Nat):It:=
 ⟨λi H=>∃xs x,SqT K H a xs/\xs.length=n/\xs.reverse[i]? =some x,λi H x H' =>H' =H/\∀xs,SqT K H a xs->xs.reverse[i]? =some x,λi H=>∃xs,SqT K H a xs/\xs.length=n/\n<=i⟩
def z1Q (K:ai)(a:Addr)(n:Nat):It:=
 ⟨λi H=>∃xs x,SqL K H a xs/\xs.length=n/\xs.reverse[i]? =some x,λi H x H' =>H' =H/\∀xs,SqL K H a xs->xs.reverse[i]? =some x,λi H=>∃xs,SqL K H a xs/\xs.length=n/\n<=i⟩
theorem Vo {α:Type}{xs:List α}{x:α}(h:xs.reverse[i]? =some x):i < xs.length/\xs[xs.length - 1 - i]? =some x:=by
 have hi:=(ak.mp h).1;rw[bG]at hi;rw[d5 hi]at h;exact⟨hi,h⟩
theorem va {P:Program}{w:World}{K:ai}{tg:Expr}(a it:Addr)(n:Nat):yl P w K tg (z1P K a n) [it] it (λi h=>i<=n/\RV.IsRv h it (.ref a) ((n:Int) - 1 - (i:Int))) where
 mem:=by simp
 obj:=λi h st b hb=>by
  have e:b=it:=by simpa using hb
  subst e;exact⟨_,st.2,λv z=>nomatch z⟩
 keep:=λi h h' st k=>⟨st.1,k it (by simp) _ st.2⟩
 item:=by
  intro X hP hw hK hc i pins s σ H E I hf st hg;subst hP hw hK;obtain⟨xs,x,hq,hn,hx⟩:=hg;obtain⟨its,rv,p,hz⟩:=I.tuple hq;obtain⟨hi,hx'⟩:=Vo hx;obtain⟨u,hu,ru⟩:=rv.get hx';obtain⟨f0,f1,f2,f3,f4,f5⟩:=hf it (by simp)
  have hl:=rv.length;have e:(n:Int) - 1 - (i:Int)=((xs.length - 1 - i:Nat):Int):=by omega
  have hit:=st.2;rw[e]at hit;have hb:(its.toArray.size:Int) < 2 ^ 63:=by
   rw[bH]at hz;simp;omega
  refine RV.next_item hit p hb (x:=u) (by simpa using hu) λh' tk st' sb=> ?_
  have I1:Inv X pins σ H { s with heap:=h',toks:=tk }:=I.turned (t' :=tk) (λb o hb e=>(sb.2 b hb).trans e) f0 f1 f3 f4 f5;have e2:((xs.length - 1 - i:Nat):Int) - 1=(n:Int) - 1 - ((i+1:Nat):Int):=by omega
  rw[e2]at st';exact⟨u,rfl,Ut (s:={ s with heap:=h',toks:=tk }) st' rfl rfl (by decide) ⟨x,H,I1,ru,⟨rfl,λys hy=>by rw[I.tuple_inj hy hq];exact hx⟩,⟨by omega,st'⟩,λb hb=>(hf b hb).1⟩⟩
 done:=by
  intro X hP hw hK hc i pins s σ H E I hf st hg;subst hP hw hK;obtain⟨xs,hq,hn,hx⟩:=hg;obtain⟨f0,f1,f2,f3,f4,f5⟩:=hf it (by simp)
  have hit:=st.2;have h1:=st.1;rw[show (n:Int) - 1 - (i:Int)= -1 by omega]at hit
  exact RV.next_end (I.ok.hd hc) hit λh' eb=>⟨rfl,I.turned (t' :=s.toks) (λb o hb e=>eb b o hb e) f0 f1 f3 f4 f5⟩
 self:=λ_ _ _ _ _ st h=>RV.iter_rv st.2 h
theorem vb {P:Program}{w:World}{K:ai}{tg:Expr}(a it:Addr)(n:Nat):yl P w K tg (z1Q K a n) [it] it (λi h=>i<=n/\h.IsRevIter it a ((n:Int) - 1 - (i:Int))) where
 mem:=by simp
 obj:=λi h st b hb=>by
  have e:b=it:=by simpa using hb
  subst e;obtain⟨o,e,c,d⟩:=st.2;exact⟨o,e,λv z=>by rw[d]at z;cases z⟩
 keep:=λi h h' st k=>⟨st.1,st.2.at λo e=>k it (by simp) o e⟩
 item:=by
  intro X hP hw hK hc i pins s σ H E I hf st hg;subst hP hw hK;obtain⟨xs,x,hq,hn,hx⟩:=hg;obtain⟨its,rv,p,hz⟩:=I.list hq;obtain⟨hi,hx'⟩:=Vo hx;obtain⟨u,hu,ru⟩:=rv.get hx';obtain⟨f0,f1,f2,f3,f4,f5⟩:=hf it (by simp)
  have e:(n:Int) - 1 - (i:Int)=((xs.length - 1 - i:Nat):Int):=by omega
  have hit:=st.2;rw[e]at hit;refine wpAny_pyNext_rev_item hit p.isList (x:=u) (by simpa using hu) λh' st' sb=> ?_
  have I1:Inv X pins σ H { s with heap:=h' }:=I.turned (t' :=s.toks) (λb o hb e=>(sb.2 b hb).trans e) f0 f1 f3 f4 f5;have e2:((xs.length - 1 - i:Nat):Int) - 1=(n:Int) - 1 - ((i+1:Nat):Int):=by omega
  rw[e2]at st';obtain⟨o,e,c,d⟩:=id st';exact⟨u,rfl,Ut (s:={ s with heap:=h' }) e c d (by decide) ⟨x,H,I1,ru,⟨rfl,λys hy=>by rw[I.list_inj hy hq];exact hx⟩,⟨by omega,st'⟩,λb hb=>(hf b hb).1⟩⟩
 done:=by
  intro X hP hw hK hc i pins s σ H E I hf st hg;subst hP hw hK;obtain⟨xs,hq,hn,hx⟩:=hg;obtain⟨f0,f1,f2,f3,f4,f5⟩:=hf it (by simp)
  have hit:=st.2;have h1:=st.1;rw[show (n:Int) - 1 - (i:Int)= -1 by omega]at hit
  exact wpAny_pyNext_rev_end (I.ok.hd hc) hit λh' eb=>⟨rfl,I.turned (t' :=s.toks) (λb o hb e=>eb b o hb e) f0 f1 f3 f4 f5⟩
 self:=λ_ _ _ _ _ st h=>wpAny_pyIter_revIter st.2 h
theorem zC.rev {H:Hp}:∀{vs:List V} {ts:List T},zC H vs ts->zC H vs.reverse ts.reverse
 | _,_,.nil=> .nil
 | _,_,.cons r t=>by rw[bU,bU];exact(zC.rev t).append (.cons r .nil)
theorem gm {K:ai}{B1 H1:Hp}{a:Addr}{xs:List V}{ts:List T}(h:B1 a=some (.tup xs))(r:zC B1 xs ts):rI B1 H1 (z1P K a xs.length) ts.reverse:=λB2 H2 s1 s2=>by
 have h2:=s2 _ _ (s1 _ _ h);have hr:=r.rev;refine⟨λi hi=> ?_,λi t x H3 e y=> ?_,λi hi=>⟨xs,SqT.of h2,rfl,by rw[bG]at hi;rw[r.length];exact hi⟩⟩
 ·obtain⟨v,e,_⟩:=hr.get (a9 hi);exact⟨xs,v,SqT.of h2,rfl,e⟩
 ·obtain⟨rfl,y⟩:=y;obtain⟨v,e1,r1⟩:=hr.get e;have:=y xs (SqT.of h2);rw[e1]at this;cases this;refine⟨zp.refl _, ?_⟩;rw[zS.self B2 _ s2];exact r1.mono s1
theorem gp {K:ai}{B1 H1:Hp}{a:Addr}{xs:List V}{ts:List T}(h:B1 a=some (.lst xs))(r:zC B1 xs ts):rI B1 H1 (z1Q K a xs.length) ts.reverse:=λB2 H2 s1 s2=>by
 have h2:=s2 _ _ (s1 _ _ h);have hr:=r.rev;refine⟨λi hi=> ?_,λi t x H3 e y=> ?_,λi hi=>⟨xs,SqL.of h2,rfl,by rw[bG]at hi;rw[r.length];exact hi⟩⟩
 ·obtain⟨v,e,_⟩:=hr.get (a9 hi);exact⟨xs,v,SqL.of h2,rfl,e⟩
 ·obtain⟨rfl,y⟩:=y;obtain⟨v,e1,r1⟩:=hr.get e;have:=y xs (SqL.of h2);rw[e1]at this;cases this;refine⟨zp.refl _, ?_⟩;rw[zS.self B2 _ s2];exact r1.mono s1
def Vp (fa:En->R T):En->R (List T):=λρ=>(fa ρ).bind λt=>(Zu t).bind λxs=> .ok xs.reverse
def vc:T->R T
 | .lst xs=>if xs.length<=bnd then .ok (.tup xs.reverse) else .bad
 | _=> .bad
section
variable {X:Cx}{Y:Fx}{a b tg:Expr}{fa fb:En->R T}{pos p p' pos' :Pos}
theorem gq {ta:TA}(hg:Gl X "reversed")(hm:X.mg "reversed"=none)(ha:PA X [a] ta)(hs:St1 X a:=by exact st1 rfl):
  PI X tg (.Call (.Name "reversed" p) [a] [] pos) (λσ H R=>ta σ H λvs H1=>∃l xs,vs=[.ref l]/\((H1 l=some (.lst xs)/\R (z1Q X.K l xs.length) H1)\/(H1 l=some (.tup xs)/\R (z1P X.K l xs.length) H1))):=by
 intro pins s σ H R I h;refine Call_ (ZC I hg hm boot_reversed (aV (thn (ha pos _ s σ H _ I h) λus s1 ⟨vs,H1,I1,r1,q1⟩=> ?_) hs rfl));obtain⟨l,xs,e,q⟩:=q1;subst e;obtain⟨u,rfl,ru⟩:=Zp r1;obtain rfl:u=Value.ref l:=ru;have ok:∀b∈[s1.heap.objs.size],WP X _ H1 b:=λb hb=>by
  have e:=by simpa using hb
  subst e;exact I1.fpOk (am _) (I1.hok.fresh (am _))
 rcases q with ⟨hl,q⟩ | ⟨hl,q⟩
 ·obtain⟨its,rv,p,hz⟩:=I1.list (SqL.of hl);have e:((its.toArray.size):Int) - 1=(xs.length) - 1 - ((0):Int):=by have:=rv.length;simp;omega
  refine call_reversed_list p.isList ?_;rw[e];have st:(s1.heap.push (revObj l ((xs.length) - 1 - ((0):Int)))).IsRevIter _ l _:=⟨_,af _ rfl,rfl,rfl⟩;refine wpAny_pyIter_revIter st ?_;exact⟨s1.heap.objs.size,[s1.heap.objs.size],_,_,H1,rfl,I1.kept (λb o e=>ab _ e),vb l _ _,⟨b6 _,st⟩,ok,q⟩
 ·obtain⟨its,rv,p,hz⟩:=I1.tuple (SqT.of hl);have hlen:=rv.length;have e:((its.toArray.size):Int) - 1=(xs.length) - 1 - ((0):Int):=by simp;omega
  refine RV.call_rvT p (by rw[bH]at hz;omega) λtk=> ?_
  rw[e];refine RV.iter_rv (af _ rfl) ?_;exact⟨s1.heap.objs.size,[s1.heap.objs.size],_,_,H1,rfl,I1.kept (λb o e=>ab _ e),va l _ _,⟨b6 _,af _ rfl⟩,ok,q⟩
theorem z1R (hg:Gl X "reversed")(hm:X.mg "reversed"=none)(ha:Snd X Y a fa)(hs:St1 X a:=by exact st1 rfl):uK X Y tg (.Call (.Name "reversed" p) [a] [] pos) (Vp fa):= .mk λρ=>
 PI.imp (gq hg hm (zl (ha ρ) zK hs) hs) λσ H R ⟨B,I,q⟩=>step I q λt v H1 _ s1 r1 I1 q1=>by
  cases r1 with
  | @tup l xs ts h r=>exact⟨l,xs,rfl,.inr ⟨I1.sB _ _ h,ZJ I1 (show Po Y rI _ H1 _ R from q1) (gm h r)⟩⟩
  | @lst l xs ts h r=>exact⟨l,xs,rfl,.inl ⟨I1.sB _ _ h,ZJ I1 (show Po Y rI _ H1 _ R from q1) (gp h r)⟩⟩
  | _=>exact q1.elim
theorem uR:∀{xs ys:List V} {us ws:List Value},zU xs us->zU ys ws->zU (xs++ys) (us++ws)
 | _,_,_,_,.nil,q=>q
 | _,_,_,_,.cons r t,q=> .cons r (uR t q)
theorem wu:∀{xs:List V} {us:List Value},zU xs us->zU xs.reverse us.reverse
 | _,_,.nil=> .nil
 | _,_,.cons r t=>by rw[bU,bU];exact uR (wu t) (.cons r .nil)
theorem Yd {its:List Value}{acc:Array Value}(h:ItemsOf (λi v=>its.toArray[its.toArray.size - 1 - i]? =some v) acc its.toArray.size):acc.toList=its.reverse:=by
 have h1:=by
  have:=h.1;simpa using this
 have h2:=h.2;refine cB λi=> ?_
 by_cases hi:i < its.length
 ·have hlt:i < acc.toList.length:=by simp;omega
  have e:=a9 hlt;have:=h2 i _ (by rw[← Array.getElem?_toList];exact e)
  rw[d5 hi,e,← this];simp
 ·rw[aH (by simp;omega),aH (by simp;omega)]
theorem gr (hh:X.A.handled=none)(gl:Gl X "tuple")(mg:X.mg "tuple"=none)(gl' :Gl X "reversed")(mg' :X.mg "reversed"=none)(ha:Snd X Y a fa)(hs:St1 X a:=by exact st1 rfl)(hs' :St1 X (.Call (.Name "reversed" p') [a] [] pos'):=by exact st1 rfl):
  Snd X Y (.Call (.Name "tuple" p) [.Call (.Name "reversed" p') [a] [] pos'] [] pos) (ap1 vc fa):= .mk λρ=>by
 intro pins s σ H Q I ⟨B,J,q⟩;have hq:tS Y rC fa ρ σ H (λv H1=>∃l xs,v= .ref l/\H1 l=some (.lst xs)/\xs.length<=sizeLine/\∀t,H1 t=none->Q (.ref t) (upd H1 t (.tup xs.reverse))):=by
  refine step J q λt v H1 _ s1 r1 I1 q1=> ?_;cases r1 with
  | @lst l xs ts h r=>
   have q1:Po Y rC _ H1 (if ts.length<=bnd then .ok (.tup ts.reverse) else .bad) Q:=q1
   split at q1
   ·rename_i hb;exact⟨l,xs,rfl,I1.sB _ _ h,by rw[r.length];exact Zq hb,λt ht=>Kg I1.sB q1 rfl r.rev ht⟩
   ·exact q1.elim
  | _=>exact q1.elim
 refine bO (ZC I gl mg PyProof.Rows.Boot.«tuple» (aV (rest:=[]) ?_ hs' rfl));rw[hs'];refine eD (bO (ZC I gl' mg' boot_reversed (aV (e:=a) (rest:=[]) ?_ hs rfl)));refine thn ((zl (ha ρ) zK hs) pos' pins s σ H (λvs H1=>∃l xs,vs=[.ref l]/\H1 l=some (.lst xs)/\xs.length<=sizeLine/\∀t,H1 t=none->Q (.ref t) (upd H1 t (.tup xs.reverse))) I ?_) λus s1 ⟨vs,H1,I1,r1,l,xs,e,hl,hz,q1⟩=> ?_
 ·obtain⟨B',J',q'⟩:=hq;refine⟨B',J', ?_⟩;revert q';cases fa ρ with
  | bad=>exact λq' =>q'
  | ex c=>exact λq' =>q'
  | ok t=>
   intro q' v H1 s1 r1;obtain⟨l,xs,rfl,h⟩:=q' v H1 s1 r1;exact⟨l,xs,rfl,h⟩
 subst e;obtain⟨u,rfl,ru⟩:=Zp r1;obtain rfl:u=Value.ref l:=ru;obtain⟨its,rv,pl,_⟩:=I1.list (SqL.of hl);have hlt:=I1.hok.lt hl;refine call_reversed_list pl.isList (eT ?_);have e0:((its.toArray.size):Int) - 1 - ((0:Nat))=((its.toArray.size):Int) - 1:=by omega
 refine RV.tuple_lr (Walks.listRev (A:=X.A.in1.in1.in1) hh _ l (ax hlt) _).toS (λi s st=>st.2.1.typeIs) ⟨b6 _,⟨_,af _ rfl,rfl,by rw[e0];rfl⟩,pl.isList.push _⟩ (λb hb=> ?_) (by simp) (λs' acc hm hacc=> ?_) (by rw[aA,← rv.length];exact hz)
 ·have hb:=by simpa using hb
  rcases hb with rfl | rfl
  ·rw[bo];exact cN _
  ·rw[bo];exact bJ hlt
 obtain⟨h',g',d',tk',os'⟩:=s';have e1:g' =s1.gens:=hm.gens;have e2:d' =s1.drawn:=hm.drawn;have e3:=hm.os;subst e1 e2 e3;have kp:∀b o,s1.heap.get? b=some o->h'.get? b=some o:=λb o e=>hm.heap b o (λz=>by
  have z:b=s1.heap.objs.size:=by simpa using z
  have:=ao e;rw[z]at this;exact ba _ this) (ab _ e)
 have I2:=I1.kept (t' :=tk') kp;have ea:acc=its.reverse.toArray:=by rw[← Yd hacc]
 rw[ea];refine⟨.ref h'.objs.size,upd H1 _ (.tup xs.reverse),I2.laid (λb u e=>ab _ e) (am _) ⟨by rw[bG];exact hz,its.reverse,wu rv,⟨_,af _ rfl,rfl,_,rfl⟩,.inr ⟨_,af _ rfl,rfl⟩⟩,rfl,q1 _ (I2.hok.fresh (am _))⟩
end
section
end
end PV
namespace PySem.RV
open PySem PySem.Spec PyProof.Rows PySem.Builtin.SmallTypes
end PySem.RV
namespace PV
open PySem PySem.Spec PyProof.Rows L2
section
end
end PV
namespace PySem.RW37
open PySem PySem.Spec PyProof.Rows L2
section
end
end PySem.RW37
namespace PV
open PySem PySem.Spec PyProof.Rows L2 PySem.RW37
section
def z06 (fa:En->R T)(g:T->En->R En):En->RS:=λρ=>(fa ρ).s λt=>match g t ρ with
 | .ok ρ' => .nx ρ'
 | _=> .bad
theorem gu {g:T->En->R En}(ha:Snd X Y a fa)(hg:kn X Y tg g)(hs:swapsWithSole [tg] a pos.line X.env=pure false:=by rfl)(hw:swappedStores [tg] a X.env=pure none:=by rfl)
  (h1:(assignEach [tg] X.env).map (·.2)=[assign tg X.env]:=by rfl):wk X Y (.Assign [tg] a pos) (z06 fa g):= .mk λρ=>by
 obtain⟨tt,hp,hr⟩:=hg;refine PS.imp (kO (ha ρ) hp hs hw h1) λD σ H ⟨B,I,q⟩=>jR I q λt v H1 _ s1 r1 I1 q1=>hr _ _ _ _ _ _ _ I1 r1 ?_;cases h:g t ρ with
 | ok ρ' =>
  rw[h]at q1;exact λσ' I' =>q1 _ _ _ (zp.refl _) I'
 | ex c=>rw[h]at q1;exact q1.elim
 | bad=>rw[h]at q1;exact q1.elim
end
end PV
namespace PV
open PySem PySem.Spec PyProof.Rows L2
noncomputable def Jh (t t' :T):R T:=match t,t' with
 | .int i,.int j=> .ok (.int (if j > i then j else i))
 | _,_=> .bad
noncomputable def kr:T->R T
 | .int i=> .ok (.int (if i < 0 then -i else i))
 | _=> .bad
noncomputable def ZE (f:Int->Int->Bool):Int->List Int->Int
 | i,[]=>i
 | i,j :: r=>ZE f (if f j i then j else i) r
def z1S:T->R T
 | .lst ts=>match Z5 ts with | some (i :: l)=> .ok (.int (ZE (λa b=>decide (b < a)) i l)) | _=> .bad
 | _=> .bad
def z1T:T->R T
 | .lst ts=>match Z5 ts with | some (i :: l)=> .ok (.int (ZE (λa b=>decide (a < b)) i l)) | _=> .bad
 | _=> .bad
theorem wv:∀(l:List Int) (i:Int),ZE (λa b=>decide (b < a)) i l∈i :: l/\∀x∈i :: l,x<=ZE (λa b=>decide (b < a)) i l
 | [],i=>⟨ac,λx h=>by simp at h;subst h;exact j_ _⟩
 | j :: r,i=>by
  unfold ZE
  by_cases hj:i < j
  ·simp only[hj,decide_true,if_true];obtain⟨h1,h2⟩:=wv r j;refine⟨a8 _ h1,λx hx=> ?_⟩;rcases aj.mp hx with rfl | hx
   ·exact di (iG hj) (h2 j ac)
   ·exact h2 x hx
  ·simp only[hj,decide_false,aB,if_false];obtain⟨h1,h2⟩:=wv r i;refine⟨?_,λx hx=> ?_⟩
   ·rcases aj.mp h1 with h | h
    ·rw[h];exact ac
    ·exact a8 _ (a8 _ h)
   ·rcases aj.mp hx with rfl | hx
    ·exact h2 x ac
    ·rcases aj.mp hx with rfl | hx
     ·exact di (lg.mp hj) (h2 i ac)
     ·exact h2 x (a8 _ hx)
theorem Wm (ps:List (Int×Tok))(i:Nat)(h:i < ps.length):numAt ps.toArray i=(ps.map (·.1))[i]'(by simpa using h):=by
 unfold numAt;simp[h]
section
theorem gx (hc:X.calm=true)(gl:Gl X "max")(mg:X.mg "max"=none)(ha:Snd X Y a fa)(hb:Snd X Y b fb)
  (hs:starEach [a,b] X.env=[(false,eval a X.env),(false,eval b X.env)]:=by exact st2 rfl rfl) (hs2:starEach [b] X.env=[(false,eval b X.env)]:=by exact st1 rfl):
  Snd X Y (.Call (.Name "max" p) [a,b] [] pos) (zb Jh fa fb):= .mk λρ=>
 PE.imp (Zv (yt hc) gl mg PyProof.Rows.Boot.«max» (zl (ha ρ) (zl (hb ρ) zK hs2) (by rw[hs,hs2])) (by decide) (by decide) (by rw[hs,hs2]) (by rw[hs2];rfl)) λσ H Q ⟨B,I,q⟩=>
  step I q λt v H1 _ s1 r1 I1 q1=>step I1 q1 λt' v' H2 _ s2 r2 I2 q2=>by
   cases r1 with
   | int i=>
    cases r2 with
    | int j=>exact⟨i,j,rfl,po0 I2.sB q2 rfl (.int _)⟩
    | _=>exact q2.elim
   | _=>cases r2 <;> exact q2.elim
theorem z1U (gl:Gl X "abs")(mg:X.mg "abs"=none)(ha:j8 X Y a fa)(hs:St1 X a:=by exact st1 rfl):Snd X Y (.Call (.Name "abs" p) [a] [] pos) (ap1 kr fa):=
 uI Qu (λv t B H Q r sB q=>by
  cases r with
  | int i=>exact⟨i,rfl,po0 sB q rfl (.int _)⟩
  | _=>exact q.elim) gl mg PyProof.Rows.Boot.«abs» ha hs
end
noncomputable def ltS (a b:Str):Bool:=decide (a.cps.toList < b.cps.toList)
def yc (x:Str):List Str->List Str
 | []=>[x]
 | y :: r=>if ltS y x then y :: yc x r else x :: y :: r
def WS:List Str->List Str
 | []=>[]
 | x :: r=>yc x (WS r)
def Wn:T->R T
 | .lst ts=>match wo ts with
  | some ys=>if ts.length < 64 then .ok (.lst ((WS (dd [] ys)).map T.str)) else .bad
  | none=> .bad
 | _=> .bad
def vd (fa fb:En->R T):En->R T:=λρ=>(fa ρ).bind λt=>(fb ρ).bind λu=>match t with
 | .lst []=> .ok u
 | .lst ts=>match Z5 ts with | some (i :: l)=> .ok (.int (ZE (λa b=>decide (b < a)) i l)) | _=> .bad
 | _=> .bad
section
variable {prog:Program}{w:World}{A:Around}{R:Result->Shared->Prop}{I:Addr}{fp wr:List Addr}{n:Nat}{P:Nat->Value->Prop}{St:Nat->Heap->Prop}
theorem ve (W:Walks prog w A.in1 I fp wr n P St)(bt:Nat->Nat->Bool)(hc:CmpOf prog w A.in1 .Gt P bt)(D:Addr)(hD:D ∉ fp)(kw:List (Str×Value)):
  ∀(q j:Nat) (s:Shared) (b0:Value) (e0:Nat),n - (j+1)=q->j+1<=n->St (j+1) s.heap->P (argBest bt j) b0->
  s.heap.get? D=some { cls:= .type "list",dict:=none,data:= .seq #[b0,b0] e0,slots:= #[] }->
  (∀v h' tk,P (argBest bt (n - 1)) v->(∀b o,b ∉ wr->b ≠ D->s.heap.get? b=some o->h'.get? b=some o)->R (.ok (.ret v)) { s with heap:=h',toks:=tk })->
  codeAny (model prog w) A (.builtin "max.loop" ⟨[.ref I,.none,.ref D],kw⟩) R s:=by
 have hDw:D ∉ wr:=λz=>hD (W.sub _ z);intro q
 induction q with
 | zero=>
  intro j s b0 e0 hq hj hst hb hg hR;have hjn:j+1=n:=by omega
  refine aS fy ?_;refine a7 (bp hg rfl ?_);refine a7 (de (W.done s _ _ (hjn ▸ hst) λh1 t1 k1=> ?_));have hg1:=k1 D _ hDw hg;refine a7 (cA hg1 rfl (a7 (dA (ag ?_))));exact hR b0 _ t1 (by rw[← hjn];exact hb) λb o x y z=>(aW _ _ (bb y)).trans (k1 b o x z)
 | succ q ih=>
  intro j s b0 e0 hq hj hst hb hg hR;have hlt:j+1 < n:=by omega
  refine aS fy ?_;refine a7 (bp hg rfl ?_);refine a7 (de (W.item (j+1) s _ _ hlt hst λv h1 t1 hv hst1 k1=> ?_));have hg1:=k1 D _ hDw hg;show wpAny _ _ (tryCatch _ _ >>= _) _ _ _;refine a7 (de (bB (a7 (hc _ _ v b0 _ _ _ hv hb ?_))));refine a7 (bB (bi (a7 (dA (ag ?_)))));cases hbt:bt _ _ with
  | true=>
   refine a7 (cA hg1 rfl (a7 (dA ?_)));refine ag ⟨aZ dO _,ih _ _ v _ (by omega) hlt (W.frame _ _ _ hst1 λb x o z=> ?_) (by simp only[argBest,hbt,if_true];exact hv) (bu _ hg1 rfl) λv2 h2 t2 hv2 k2=> ?_⟩
   ·exact(aW _ _ (λy=>hD (by rw[y];exact x))).trans z
   ·exact hR v2 h2 t2 hv2 λb o x y z=>k2 b o x y ((aW _ _ (bb y)).trans (k1 b o x z))
  | false=>
   refine a7 (dA ?_);refine ag ⟨aZ dO _,ih _ _ b0 e0 (by omega) hlt hst1 (by simp only[argBest,hbt,aB,if_false];exact hb) hg1 λv2 h2 t2 hv2 k2=> ?_⟩
   exact hR v2 h2 t2 hv2 λb o x y z=>k2 b o x y (k1 b o x z)
theorem Ye (W:Walks prog w A.in1 I fp wr n P St)(bt:Nat->Nat->Bool)(hc:CmpOf prog w A.in1 .Gt P bt)(D:Addr)(hD:D ∉ fp)(dn:Str)(dv:Value){s:Shared}{e0:Nat}(hst:St 0 s.heap)
  (hg:s.heap.get? D=some { cls:= .type "list",dict:=none,data:= .seq #[] e0,slots:= #[] })
  (h0:n=0->∀h' tk,(∀b o,b ∉ wr->b ≠ D->s.heap.get? b=some o->h'.get? b=some o)->R (.ok (.ret dv)) { s with heap:=h',toks:=tk })
  (hR:0 < n->∀v h' tk,P (argBest bt (n - 1)) v->(∀b o,b ∉ wr->b ≠ D->s.heap.get? b=some o->h'.get? b=some o)->R (.ok (.ret v)) { s with heap:=h',toks:=tk }):
  codeAny (model prog w) A (.builtin "max.loop" ⟨[.ref I,.none,.ref D],[(dn,dv)]⟩) R s:=by
 have hDw:=λz=>hD (W.sub _ z);refine aS fy ?_;refine a7 (bp hg rfl ?_);rcases il n with hz | hp
 ·refine a7 (de (W.done s _ _ (hz ▸ hst) λh1 t1 k1=> ?_));exact a7 (cu (ag (h0 hz h1 t1 λb o x y z=>k1 b o x z)))
 ·refine a7 (de (W.item 0 s _ _ hp hst λv h1 t1 hv hst1 k1=> ?_));have hg1:=k1 D _ hDw hg;show wpAny _ _ (updateSeq D (λ_=> #[v,v]) >>= _) _ _ _;refine a7 (cA hg1 rfl ?_);refine ag ⟨aZ dO _,ve W bt hc D hD _ _ 0 _ v _ rfl hp (W.frame _ _ _ hst1 λb x o z=> ?_) hv (bu _ hg1 rfl) λv2 h2 t2 hv2 k2=> ?_⟩
  ·exact(aW _ _ (λy=>hD (by rw[y];exact x))).trans z
  ·exact hR hp v2 h2 t2 hv2 λb o x y z=>k2 b o x y ((aW _ _ (bb y)).trans (k1 b o x z))
end
theorem vf (a v:Value):argsOk "max" ⟨[a],[(bM "default",v)]⟩:=by kernel_rfl
section
variable {xs:Array (Int×Tok)}
theorem uS {Q:Value->Shared->Prop}{dv:Value}(hh:A.handled=none)(hl:s.heap.IsList l (intItems xs))
  (h0:xs.size=0->∀h' tk,(∀b o,s.heap.get? b=some o->h'.get? b=some o)->Q dv { s with heap:=h',toks:=tk })
  (h1:0 < xs.size->∀v h' tk,(intItems xs)[argBest (λi j=>decide (numAt xs i > numAt xs j)) (xs.size - 1)]? =some v->(∀b o,s.heap.get? b=some o->h'.get? b=some o)->Q v { s with heap:=h',toks:=tk }):
  wpAny (model prog w) A (call (.builtin "max") [.ref l] [(bM "default",dv)]) Q E s:=by
 have hsz:(intItems xs).size=xs.size:=by simp[intItems]
 refine kmb_tree PySem.F.kind_max PySem.F.plain_max PySem.F.entry_max (vf _ _) ?_;refine a7 (b7 (show Builtin.Builtins.bindParams _ _ 0 _=pure _ from rfl) (a7 (ag ?_)));refine a7 (iter_intList hl λs2 e2 st hfp hlI=> ?_);subst e2;refine a7 (aM ?_);have W:=ic (prog:=prog) (w:=w) (A:=A.in1) hh _ l hlI (intItems xs);generalize hG:s.heap.push _=G at st hfp ⊢;have hDf:=λz=>ba _ (hfp _ z);have kp:∀h' :Heap,(∀b o,b ∉ [s.heap.objs.size]->b ≠ G.objs.size->(G.push { cls:= .type "list",data:= .seq ([]:List _).toArray }).get? b=some o->h'.get? b=some o)->∀b o,s.heap.get? b=some o->h'.get? b=some o:=λh' k b o z=>by
  have hb:=ao z;have hg:G.get? b=some o:=by rw[← hG];exact ab _ z
  refine k b o (λy=> ?_) (λy=> ?_) (ab _ hg)
  ·rw[aC.mp y]at hb;exact ba _ hb
  ·have:=ao hg;rw[y]at this;exact ba _ this
 refine ag ⟨aZ dO _,Ye W _ (CmpOf.ints_gt _ (λ_ _=>intItems_at)) _ hDf _ dv (W.frame _ _ _ st λb _ o z=>ab _ z) (af _ rfl) (λhz h' tk k=> ?_) λhp v h' tk hv k=> ?_⟩
 ·exact h0 (by omega) h' tk (kp h' k)
 ·exact h1 (by omega) v h' tk (by rw[hsz]at hv;exact hv) (kp h' k)
end
section
theorem X2 (hh:X.A.handled=none)(gl:Gl X "max")(mg:X.mg "max"=none)(ha:PE X a ta)(hb:PE X b tb)(hs:St1 X a):
  PE X (.Call (.Name "max" p) [a] [⟨some "default",b,kp⟩] pos) (λσ H Q=>ta σ H λv H1=>tb σ H1 λu H2=>∃l xs ts,([v].length=1/\[u].length=1)/\v= .ref l/\H2 l=some (.lst xs)/\zC H2 xs ts/\
   ((ts=[]/\Q u H2)\/∃i is,Z5 ts=some (i :: is)/\Q (.int (ZE (λa b=>decide (b < a)) i is)) H2)):=by
 intro pins s σ H Q I h;refine bO (ZC I gl mg PyProof.Rows.Boot.«max» ?_ (by decide) (by decide))
 refine callWith_kw (thn (zl ha zK hs pos _ s σ H (λvs H1=>tb σ H1 λu H2=>∃l xs ts,(vs.length=1/\[u].length=1)/\vs.headD .non= .ref l/\H2 l=some (.lst xs)/\zC H2 xs ts/\
   ((ts=[]/\Q u H2)\/∃i is,Z5 ts=some (i :: is)/\Q (.int (ZE (λa b=>decide (b < a)) i is)) H2)) I h) λus s1 ⟨vs,H1,I1,r1,q1⟩=> ?_) (by rw[hs];rfl) (by rw[hs];rfl) rfl rfl
 refine thn (xj hb K3 pos _ s1 σ H1 (λzs H2=>∃l xs ts,(vs.length=1/\zs.length=1)/\vs.headD _= .ref l/\H2 l=some (.lst xs)/\zC H2 xs ts/\
   ((ts=[]/\Q (zs.headD .non) H2)\/∃i is,Z5 ts=some (i :: is)/\Q (.int (ZE (λa b=>decide (b < a)) i is)) H2)) I1 q1) λws s2 ⟨zs,H2,I2,rz,l,xs,ts,⟨l1,l2⟩,ev,hl,r,q2⟩=> ?_
 have hu:∃u,us=[u]/\Z3 (.ref l) u:=by
  match vs,r1,l1,ev with
  | [v],r1,_,ev=>obtain rfl:v= .ref l:=ev;exact Zp r1
 have hw:∃z u,zs=[z]/\ws=[u]/\Z3 z u:=by
  match zs,rz,l2 with
  | [z],rz,_=>obtain⟨u,e,r⟩:=Zp rz;exact⟨z,u,rfl,e,r⟩
 obtain⟨u,rfl,ru⟩:=hu;obtain⟨z,d,rfl,rfl,rd⟩:=hw;obtain rfl:u=Value.ref l:=ru;obtain⟨its,rv,pl,_⟩:=zI I2 (.inl hl) r;rcases q2 with ⟨rfl,q2⟩ | ⟨i,is,hk,q2⟩
 ·have hn:its=[]:=by
   cases r with
   | nil=>cases rv;rfl
  have e:its.toArray=intItems (#[]:Array _):=by rw[hn];simp[intItems]
  rw[e]at pl;exact uS hh pl (λ_ h' tk k=>⟨z,H2,I2.kept k,rd,q2⟩) (λz=>absurd z (by simp))
 ·obtain⟨ps,h1,h2⟩:=u4 r rv hk;have e:its.toArray=intItems ps.toArray:=by rw[h1];simp[intItems]
  rw[e]at pl;have hlen:=by have:=congrArg iZ h2;simpa using this
  refine uS hh pl (λz=>absurd z (by simp[hlen])) λ_ v h' tk hv k=> ?_
  obtain⟨t,rfl⟩:=intItems_at hv;obtain⟨b1,b2⟩:=argBest_gt (numAt ps.toArray) (ps.toArray.size - 1);have hsz:ps.toArray.size=ps.length:=by simp
  rw[hsz]at b1 b2 ⊢;obtain⟨m1,m2⟩:=wv is i;have e2:numAt ps.toArray (argBest (λi j=>decide (numAt ps.toArray i > numAt ps.toArray j)) (ps.length - 1))=ZE (λa b=>decide (b < a)) i is:=by
   refine fT (m2 _ ?_) ?_
   ·rw[Wm ps _ (by omega),← h2]
    exact fA _
   ·rw[← h2]at m1;obtain⟨j,hj,ej⟩:=cC.mp m1;rw[← ej];have hj' :=by simpa using hj
    rw[← Wm ps j hj'];exact b2 j (by omega)
  rw[e2];exact⟨.int _,H2,I2.kept k,⟨t,rfl⟩,q2⟩
theorem gy (hh:X.A.handled=none)(gl:Gl X "max")(mg:X.mg "max"=none)(ha:j8 X Y a fa)(hb:Snd X Y b fb)(hs:St1 X a:=by exact st1 rfl):Snd X Y (.Call (.Name "max" p) [a] [⟨some "default",b,kp⟩] pos) (vd fa fb):= .mk λρ=>
 PE.imp (X2 hh gl mg (ha ρ) (hb ρ) hs) λσ H Q ⟨B,I,q⟩=>step I q λt v H1 _ s1 r1 I1 q1=>step I1 q1 λt' v' H2 _ s2 r2 I2 q2=>by
  have r1:=r1.mono s2;cases r1 with
  | @lst l xs ts h r=>
   cases ts with
   | nil=>exact⟨l,xs,[],⟨rfl,rfl⟩,rfl,h,r,.inl ⟨rfl,po0 I2.sB q2 rfl r2⟩⟩
   | cons t0 ts=>
    have q2:Po Y rC _ H2 (match Z5 _ with | some (i :: l)=> .ok (.int (ZE (λa b=>decide _) i l)) | _=> .bad) Q:=q2
    split at q2
    ·rename_i i k e;exact⟨l,xs,t0 :: ts,⟨rfl,rfl⟩,rfl,h,r,.inr ⟨i,k,e,po0 I2.sB q2 rfl (.int _)⟩⟩
    ·exact q2.elim
  | _=>exact q2.elim
end
noncomputable def jz:List T->Option (List (Str×Int))
 | []=>some []
 | .tup [.str x,.int i] :: r=>match jz r with | some l=>some ((x,i) :: l) | none=>none
 | _ :: _=>none
def Yf (t k:T):R T:=match t,k with
 | .tup ts,.str x=>match jz ts with
  | some l=>if (l.map (·.1)).Nodup then (match l.lookup x with | some i=> .ok (.int i) | none=> .bad) else .bad
  | none=> .bad
 | _,_=> .bad
def Wo:T->R T
 | .tup ts=>match jz ts with
  | some l=>if (l.map (·.1)).Nodup then .ok (.int (l.map (·.2)).sum) else .bad
  | none=> .bad
 | _=> .bad
def vg (j:Nat)(fa:En->R T)(g:List T->R T):En->RS:=λρ=>((fa ρ).bind λt=>(vE j ρ).bind λk=>(Yf t k).bind λx=>(Wo t).bind λy=>g [x,y]).s λt=> .rt t
theorem X3 (t:SetTable)(es:Array (Int×Value))(h:Int)(x:Value):(layNew t es h x).2.1.led=t.led:=by
 unfold layNew;split
 ·have e:∀(u:SetTable) (n:Nat),(u.orStandIn n).led=u.led:=λu n=>by
   unfold SetTable.orStandIn
   by_cases hz:u.fits n=true
   ·rw[if_pos hz]
   ·rw[if_neg hz];rfl
  exact e _ _
 ·rfl
theorem Yg (t:SetTable)(es:Array (Int×Value))(n:Nat):(relayAll t es n).2.1.led=t.led/\(t.plain=false->(relayAll t es n).2.1.plain=false):=by
 unfold relayAll;split
 ·rename_i t' order e;have h2:t'.led=t.led/\t'.plain=t.plain:=by
   unfold SetTable.relaid SetTable.laid at e;simp only[Option.bind_eq_bind,Option.bind_eq_some_iff,Option.pure_def,Option.some.injEq,Prod.mk.injEq]at e;obtain⟨_,_,e,_⟩:=e;rw[← e];exact⟨rfl,rfl⟩
  dsimp only;split
  ·exact⟨h2.1,λz=>h2.2.trans z⟩
  ·exact⟨rfl,λ_=>rfl⟩
 ·exact⟨rfl,λ_=>rfl⟩
section
variable {K:Type}[DecidableEq K]{knd:KeyKind prog w K}
theorem Yh {F:Unit->Shared->Prop}(h:F () u):wpAny (model prog w) A (match b with | true=>rule "set.scan.the-table-gave-way" | false=>pure ()) F E u:=by
 cases b
 ·exact ag h
 ·exact cu h
theorem Yi {h:Heap}{a:Addr}{o:Obj}{es es' :Array (Int×Value)}{ep:Nat}{t t' :SetTable}(ho:h.get? a=some o)(hd:o.data= .set es ep t):
  (h.update a (Obj.putSet es' t')).get? a=some { o with data:= .set es' (ep+1) t' }:=by
 rw[← putSet_of es' t' hd];exact bu _ ho (by rw[putSet_of es' t' hd];rfl)
theorem X4 {a:Addr}{o:Obj}{es:Array (Int×Value)}{ep:Nat}{t:SetTable}{k:K}{x:Value}{Q:Bool->Shared->Prop}(isk:knd.is k x=true)(sc:x.scannable=true)(np:plainKind x=false)
  (ho:s.heap.get? a=some o) (hd:o.data= .set es ep t) (hf:t.fits es.size=true) (el:ElemsOf knd es.toList) (room:es.size+1 < scanBound)
  (h0:(∃e∈es.toList,knd.is k e.2=true)->Q false s)
  (h1:(∀e∈es.toList,knd.is k e.2=false)->∀es' ep' t' h',es'.toList.Perm (es.toList++[(knd.hash k,x)])->t'.fits es'.size=true->t'.led=t.led->t'.plain=false->
   h'.get? a=some { o with data:= .set es' ep' t' }->bv a s.heap h' ->Q true { s with heap:=h' }):
  wpAny (model prog w) A (setAddHashed a x (knd.hash k)) Q E s:=by
 have hb:es.size < scanBound:=by omega
 refine bB (a7 (bf ho hd hf ?_));dsimp only;rw[byScan_of sc hb el];refine a7 (a7 (cu (a7 (wpAny_setScan_of isk ho hd hf el ?_))));cases hr:es.toList.findIdx? (λe=>knd.is k e.2) with
 | some j=>
  obtain⟨hj,hp,_⟩:=List.findIdx?_eq_some_iff_getElem.mp hr;exact ag (ag (h0 ⟨_,fA hj,hp⟩))
 | none=>
  have h1' :=h1 (λe he=>List.findIdx?_eq_none_iff.mp hr e he);have p1:=layNew_perm t es (knd.hash k) x;have f1:=layNew_fits t es (knd.hash k) x;have l1:=X3 t es (knd.hash k) x;generalize layNew t es (knd.hash k) x=L at p1 f1 l1 ⊢;obtain⟨es1,t1,dm,gv⟩:=L;rw[iH]at p1;have n1:es1.size=es.size+1:=by rw[← b8,p1.length_eq];simp
  refine a7 (Yh ?_);have main:∀t2,t2.fits es1.size=true->t2.led=t.led->t2.plain=false->wpAny (model prog w) A (do
    storeSet a es1 t2
    if (!dm && t2.tooFull)=true then do
      (match (relayAll t2 es1 (df es1.size)).2.2 with | true=>rule "set.scan.the-table-gave-way" | false=>pure ())
      storeSet a (relayAll t2 es1 (df es1.size)).1 (relayAll t2 es1 (df es1.size)).2.1
      pure (some true)
     else pure (some true)) (λr s' =>wpAny (model prog w) A (match r with | some added=>pure added | none=>setAddHashedIn a x (knd.hash k) 99999) Q E s') E s:=by
   intro t2 f2 l2 pl2;refine a7 (wpAny_storeSet_of ho hd ?_ (fits_of_scanBound (by omega)))
   have g1:=Yi (es' :=es1) (t' :=t2) ho hd;have sb:=dk s.heap a (Obj.putSet es1 t2);split
   ·have p2:=relayAll_perm t2 es1 (df es1.size);have f3:=relayAll_fits t2 es1 (df es1.size);have l3:=Yg t2 es1 (df es1.size);generalize relayAll t2 es1 _=M at p2 f3 l3 ⊢;obtain⟨es2,t3,gw⟩:=M;dsimp only at p2 f3 l3 ⊢;have n2:es2.size=es1.size:=by rw[← b8,p2.length_eq,b8]
    refine a7 (Yh (a7 (wpAny_storeSet_of g1 rfl ?_ (fits_of_scanBound (by omega)))))
    have g2:=Yi (es' :=es2) (t' :=t3) g1 rfl;exact ag (ag (h1' es2 _ t3 _ (p2.trans p1) f3 (l3.1.trans l2) (l3.2 pl2) g2 (sb.trans (dk _ a _))))
   ·exact ag (ag (h1' es1 _ t2 _ p1 f2 l2 pl2 g1 sb))
  split
  ·refine a7 ?_;rw[hashByValue_scannable 8 sc,np];exact ag (main _ (SetTable.fits_plain_off f1) l1 rfl)
  ·rename_i hp;exact main t1 f1 l1 (by simpa using hp)
end
theorem Zi:Slot "set_iterator" "__next__" "set_iterator.__next__":=
 .of (owner:="set_iterator") (n:="__next__") (by kernel_rfl) (by decide+kernel) (by decide+kernel) (by decide+kernel) (.inl (by decide+kernel)) (by kernel_rfl)
theorem jI:Slot "set_iterator" "__iter__" "set_iterator.__iter__":=
 .of (owner:="set_iterator") (n:="__iter__") (by kernel_rfl) (by decide+kernel) (by decide+kernel) (by decide+kernel) (.inl (by decide+kernel)) (by rw[isSubtype_type];kernel_rfl)
theorem ww:entryFor table "set_iterator.__next__"=some Builtin.«set_iterator.__next__»:=entryFor_of_tree (by kernel_rfl)
theorem wx:entryFor table "set_iterator.__iter__"=some Builtin.«dict_keyiterator.__iter__»:=
 entryFor_alias (id' :="dict_keyiterator.__iter__") (by kernel_rfl) rfl (by decide+kernel) (by kernel_rfl)
theorem JK:entryFor table "set.__iter__"=some Builtin.«frozenset.__iter__»:=
 entryFor_alias (id' :="frozenset.__iter__") (by kernel_rfl) rfl (by decide+kernel) (by kernel_rfl)
theorem Wp (a:Value):argsOk "set_iterator.__next__" ⟨[a],[]⟩:=by kernel_rfl
theorem Wq (a:Value):argsOk "set_iterator.__iter__" ⟨[a],[]⟩:=by kernel_rfl
theorem Yj {src:Source}{Q:Nat->Shared->Prop}(hn:n ≠ 0)(h:∀i,i < n->Q i { s with drawn:=s.drawn.bump src }):wpAny M A (choose src n) Q E s:=λΓ p hΓ=>by
 refine⟨hn, ?_⟩;have:=h _ (eJ (M.w.draws src (s.drawn.get src)) (eK hn));simpa using this
theorem jA {α:Type}:∀(l:List α) (i:Nat) (x:α),l[i]? =some x->(x :: l.eraseIdx i).Perm l
 | [],i,x,h=>by simp at h
 | y :: l,0,x,h=>by simp at h;subst h;simp
 | y :: l,i+1,x,h=>by
  have:=jA l i x (by simpa using h)
  exact(List.Perm.swap y x _).trans (this.cons y)
theorem Yk {α:Type}:∀(n:Nat) (xs:List α) (s:Shared) (Q:List α->Shared->Prop),xs.length=n->
  (∀ys d,ys.Perm xs->Q ys { s with drawn:=d })->wpAny M A (drawOrder n xs) Q E s
 | 0,xs,s,Q,hn,h=>by
  have:=cM.mp hn;subst this;unfold drawOrder;exact ag (h [] _ (.refl _))
 | n+1,[],s,Q,hn,h=>by simp at hn
 | n+1,x :: xs,s,Q,hn,h=>by
  refine a7 (Yj (by simp) λi hi=> ?_)
  have e:=a9 hi;rw[e];refine a7 (Yk n _ _ _ (by rw[eM hi];simpa using hn) λys d hp=> ?_)
  exact ag (h _ d ((hp.cons _).trans (jA _ _ _ e)))
theorem Yl {α:Type}(f:Nat->Nat):∀(n k:Nat) (l:List α) (out:Array α),l.length=n->(iI f n k l out).toList.Perm (out.toList++l)
 | 0,k,l,out,h=>by
  have:=cM.mp h;subst this;unfold iI;simp
 | n+1,k,l,out,h=>by
  unfold iI;have hi:f k % l.length < l.length:=eJ _ (by omega)
  have e:=a9 hi;rw[e];refine(Yl f n _ _ _ (by rw[eM hi];omega)).trans ?_
  rw[iH,bI];exact(List.perm_append_left_iff _).mpr (jA _ _ _ e)
theorem Ji {α:Type}(f:Nat->Nat)(xs:Array α):(pickOrder f xs).toList.Perm xs.toList:=by
 unfold pickOrder;simpa using Yl f _ 0 _ #[] (by simp)
noncomputable abbrev siO (first:Value)(i:Nat)(S:Value)(n ep:Nat):Obj:={ cls:= .type "set_iterator",dict:=none,data:= .fields #[first,.int i 0,S,.int n 0,.int ep 0],slots:= #[] }
section
variable {prog:Program}{w:World}{A:Around}{E:Value->Shared->Prop}{s:Shared}{I S:Addr}{i ep j:Nat}{o:Obj}{es:Array (Int×Value)}{t:SetTable}
theorem u5 (hi:s.heap.get? I=some (siO first i Sv n ep))(h:Q (.ref I) s):wpAny (model prog w) A (pyIter (.ref I)) Q E s:=by
 have hT:s.TypeIs (.ref I) _:=⟨_,hi,rfl⟩;refine wpAny_pyIter_slot hT jI (bq jI hT wx ?_ (Wq _));exact ag ⟨_,rfl,"set_iterator",_,hT,Zi.lookup,h⟩
theorem Ym {Q:Option Value->Shared->Prop}{h:Heap}(hh:A.handled=none)(hQ:∀h',(∀b o,h.get? b=some o->h'.get? b=some o)->Q none { s with heap:=h' }):
  wpAny (model prog w) A.in1 (newExc (.type "StopIteration") [] >>= λe=>(raiseNew e:Sem PySem.Fin)) (λfin s' =>∃v,fin= .done (.ret v)/\Q (some v) s')
   (λe s' =>wpAny (model prog w) A (isInstance e (.type "StopIteration")) (λb s'' =>b=true/\Q none s'') E s') { s with heap:=h }:=by
 refine a7 ?_;refine a7 (aM ?_ (by size_fits))
 refine a7 (b7 (by first | rfl | (simp only[firstArgMember])) ?_)
 refine aM ?_ (by size_fits)
 refine a7 (wpAny_handled ?_);rw[hh];refine a7 (ag (wpAny_throw ?_));refine cn ⟨_,af _ rfl,rfl⟩ isSubtype_stop ⟨rfl,hQ _ λb o e=> ?_⟩;exact ab _ (ab _ e)
theorem Yn {Q:Option Value->Shared->Prop}(hi:s.heap.get? I=some (siO first i Sv n ep))
  (h:wpAny (model prog w) A.in1 (Builtin.«set_iterator.__next__» ⟨[.ref I],[]⟩) (λfin s' =>∃v,fin= .done (.ret v)/\Q (some v) s')
   (λe s' =>wpAny (model prog w) A (isInstance e (.type "StopIteration")) (λb s'' =>b=true/\Q none s'') E s') s):wpAny (model prog w) A (pyNext (.ref I)) Q E s:=by
 have hT:s.TypeIs (.ref I) _:=⟨_,hi,rfl⟩;refine a7 (c_ (bP hT Zi (bq Zi hT ww (cS h (λfin s' x=> ?_) λe s' x=> ?_) (Wp _))))
 ·obtain⟨v,e,q⟩:=x;exact⟨v,e,ag q⟩
 ·refine a7 (cS x (λb s'' y=> ?_) λ_ _ z=>z);obtain⟨rfl,q⟩:=y;exact ag q
theorem uT {Q:Option Value->Shared->Prop}{sl:Nat}(hh:A.handled=none)(hi:s.heap.get? I=some (siO (.int sl 0) i (.ref S) es.size ep))(ho:s.heap.get? S=some o)(hd:o.data= .set es ep t)(hf:t.fits es.size=true)
  (h:wpAny (model prog w) A.in1 (setNext S sl i ep) (λr s' =>s' =s/\match r with
   | some (x,nx)=>∀h',h'.get? I=some (siO (.int nx 0) (i+1) (.ref S) es.size ep)->bv I s.heap h' ->Q (some x) { s with heap:=h' }
   | none=>∀h',(∀b o,b ≠ I->s.heap.get? b=some o->h'.get? b=some o)->Q none { s with heap:=h' }) (λ_ _=>False) s):wpAny (model prog w) A (pyNext (.ref I)) Q E s:=by
 refine Yn hi ?_;refine a7 (b7 rfl ?_);refine a7 (wpAny_fieldsOf hi rfl ?_);refine a7 (a7 (bf ho hd hf (ag ?_)));rw[if_neg (by simp)]
 refine a7 (cS h (λr s' x=> ?_) λ_ _ x=>cG x);obtain⟨rfl,x⟩:=x;cases r with
 | some p=>
  refine a7 (aX hi (by simp) λh1 g1 b1=>a7 (aX g1 (by simp) λh2 g2 b2=>ag ⟨_,rfl,x h2 ?_ (b1.trans b2)⟩))
  simpa[rawInt,siO] using g2
 | none=>
  refine a7 (aX hi (by simp) λh1 g1 b1=>Ym hh λh2 k2=>x h2 λb o hb e=>k2 b o ((b1.2 b hb).trans e))
theorem Vq {Q:Option Value->Shared->Prop}{P:Addr}{pl:List Nat}{on:Nat}{od:Option Addr}{osl:Array (Option Value)}(hh:A.handled=none)(hi:s.heap.get? I=some (siO (.ref P) i (.ref S) es.size ep))(ho:s.heap.get? S=some o)(hd:o.data= .set es ep t)(hf:t.fits es.size=true)
  (hp:s.heap.get? P=some { cls:= .type "tuple",dict:=od,data:= .seq (pl.map λ(k:Nat)=>rawInt k).toArray on,slots:=osl })
  (h:match pl[i]? with
   | some k=>∃e,es[k]? =some e/\∀h',h'.get? I=some (siO (.ref P) (i+1) (.ref S) es.size ep)->bv I s.heap h' ->Q (some e.2) { s with heap:=h' }
   | none=>∀h',(∀b o,b ≠ I->s.heap.get? b=some o->h'.get? b=some o)->Q none { s with heap:=h' }):wpAny (model prog w) A (pyNext (.ref I)) Q E s:=by
 refine Yn hi ?_;refine a7 (b7 rfl ?_);refine a7 (wpAny_fieldsOf hi rfl ?_);refine a7 (a7 (bf ho hd hf (ag ?_)));rw[if_neg (by simp)]
 refine a7 (bp hp rfl ?_);dsimp only;have e0:(pl.map λ(k:Nat)=>rawInt k).toArray[(i:Int).toNat]? =(pl[i]?).map λ(k:Nat)=>rawInt k:=by simp
 rw[e0];cases hk:pl[i]? with
 | some k=>
  rw[hk]at h;obtain⟨e,he,x⟩:=h;simp only[l7,rawInt];refine a7 (a7 (bf ho hd hf ?_));simp only[c9,bne_self_eq_false,aB,if_false,he];refine ag (a7 (aX hi (by simp) λh1 g1 b1=>ag ⟨_,rfl,x h1 ?_ b1⟩))
  simpa[siO] using g1
 | none=>
  rw[hk]at h;refine a7 (aX hi (by simp) λh1 g1 b1=>a7 (aX g1 (by simp) λh2 g2 b2=>Ym hh λh3 k3=>h h3 λb o hb e=>k3 b o ((b2.2 b hb).trans ((b1.2 b hb).trans e))))
end
structure Yo (w:World) (h:Heap) (S:Addr) (es:Array (Int×Value)) (ep:Nat) (t:SetTable):Prop where
 at_:h.get? S=some { cls:= .type "set",dict:=none,data:= .set es ep t,slots:= #[] }
 fits:t.fits es.size=true
 led:w.params.followText "set-order"=true\/t.led=true
 plain:t.plain=false\/es.size=0
theorem Yo.keep {es:Array (Int×Value)}{t:SetTable}(x:Yo w h S es ep t)(e:∀o,h.get? S=some o->h'.get? S=some o):Yo w h' S es ep t:=⟨e _ x.at_,x.fits,x.led,x.plain⟩
theorem Wr (j k:Nat):dH #[j] k=if j < k then 1 else 0:=by
 show iJ _ k 1 0 1=_;unfold iJ;simp only[Nat.lt_add_one,Nat.zero_lt_one,if_true];have e:(#[j]).getD ((0+1) / 2) k=j:=rfl;rw[e];split <;> rfl
section
variable {es:Array (Int×Value)}{t:SetTable}
theorem Zr {Q:Bool->Shared->Prop}(h:Q (M.w.params.followText "set-order") s):wpAny M A setsByText Q E s:=by
 exact a7 (wpAny_askSetting (ag h))
theorem UG (hh:A.handled=none)(ht:w.params.followText "set-order"=true)(hne:S ≠ I):
  Walks prog w A I [I,S] [I] es.size (λi v=>∃e,(pickOrder (w.params.setOrder S ep) es)[i]? =some e/\v=e.2) (λi h=>h.get? I=some (siO (.int 0 0) i (.ref S) es.size ep)/\Yo w h S es ep t) where
 sub:=λb hb=>by simp at hb;simp[hb]
 frame:=λ_ _ _ st hk=>⟨hk I (by simp) _ st.1,st.2.keep λo e=>hk S (by simp) o e⟩
 item:=λi s Q E hi st hQ=>by
  have hz:i < (pickOrder (w.params.setOrder S ep) es).size:=by rw[← b8,(Ji _ es).length_eq,b8];exact hi
  have he:(pickOrder (w.params.setOrder S ep) es)[i]? =some (pickOrder (w.params.setOrder S ep) es)[i]:=bW hz;refine uT (sl:=0) hh st.1 st.2.at_ rfl st.2.fits ?_;unfold setNext;refine a7 (bf st.2.at_ rfl st.2.fits (a7 (Zr ?_)));have e0:(model prog w).w.params.followText "set-order"=true:=ht;simp only[e0,if_true,bne_self_eq_false,aB,if_false];refine a7 (m:=setWalk S) ?_;unfold setWalk;refine a7 (bf st.2.at_ rfl st.2.fits (a7 (Zr ?_)));simp only[e0,if_true];refine a7 (wpAny_askSetting (ag (ag ⟨rfl, ?_⟩)));have e1:∀f:Int×Value->Value×Nat,im f (pickOrder ((model prog w).w.params.setOrder S ep) es)[i]? =some (f (pickOrder (w.params.setOrder S ep) es)[i]):=λf=>congrArg (im f) he;rw[e1];intro h' g b;exact hQ _ h' s.toks ⟨_,he,rfl⟩ ⟨g,st.2.keep λo e=>(b.2 S hne).trans e⟩ λb' o hb e=>(b.2 b' (λz=>hb (by simp[z]))).trans e
 done:=λs Q E st hQ=>by
  have he:(pickOrder (w.params.setOrder S ep) es)[es.size]? =none:=bE (by rw[← b8,(Ji _ es).length_eq,b8];exact am _)
  refine uT (sl:=0) hh st.1 st.2.at_ rfl st.2.fits ?_;unfold setNext;refine a7 (bf st.2.at_ rfl st.2.fits (a7 (Zr ?_)));have e0:(model prog w).w.params.followText "set-order"=true:=ht;simp only[e0,if_true,bne_self_eq_false,aB,if_false];refine a7 (m:=setWalk S) ?_;unfold setWalk;refine a7 (bf st.2.at_ rfl st.2.fits (a7 (Zr ?_)));simp only[e0,if_true];refine a7 (wpAny_askSetting (ag (ag ⟨rfl, ?_⟩)));have e1:∀f:Int×Value->Value×Nat,im f (pickOrder ((model prog w).w.params.setOrder S ep) es)[es.size]? =none:=λf=>congrArg (im f) he;rw[e1];intro h' k;exact hQ h' s.toks λb o hb e=>k b o (λz=>hb (by simp[z])) e
 self:=λ_ _ _ _ st hQ=>u5 st.1 hQ
theorem Yp (hh:A.handled=none)(ht:w.params.followText "set-order"=false)(hz:es.size<=1)(hne:S ≠ I):
  Walks prog w A I [I,S] [I] es.size (λi v=>∃e,es[i]? =some e/\v=e.2) (λi h=>h.get? I=some (siO (.int (if i=0 then 0 else t.place.getD 0 0+1:Nat) 0) i (.ref S) es.size ep)/\Yo w h S es ep t) where
 sub:=λb hb=>by simp at hb;simp[hb]
 frame:=λ_ _ _ st hk=>⟨hk I (by simp) _ st.1,st.2.keep λo e=>hk S (by simp) o e⟩
 item:=λi s Q E hi st hQ=>by
  obtain rfl:i=0:=by omega
  have h1:es.size=1:=by omega
  have he:es[0]? =some es[0]:=bW hi;have hp:t.place.size=1:=by have:=st.2.fits;simp only[SetTable.fits,ah,beq_iff_eq]at this;omega
  obtain⟨j,hj⟩:∃j,t.place= #[j]:=⟨t.place[0],by
   apply Array.ext
   ·simp[hp]
   ·intro i h1 h2;simp at h2;subst h2;rfl⟩
  have hl:t.led=true:=st.2.led.resolve_left (by rw[ht];simp)
  refine uT (sl:=0) hh st.1 st.2.at_ rfl st.2.fits ?_;unfold setNext;refine a7 (bf st.2.at_ rfl st.2.fits (a7 (Zr ?_)));have e0:(model prog w).w.params.followText "set-order"=false:=ht;simp only[e0,aB,if_false];refine cX (λh=>absurd h ?_) (λ_=> ?_)
  ·show ¬ ((!t.plain && decide (es.size > 1))=true);simp[show ¬ (es.size > 1) by omega]
  refine a7 (b7 (a:=()) ?_ (ag ⟨rfl, ?_⟩))
  ·show (if (!t.led && !es.isEmpty)=true then unsupported "set:maker-not-led" else pure ())=pure ()
   rw[hl];rfl
  have e1:dH t.place 0=0:=by rw[hj,Wr];rfl
  have e2:t.place[0]? =some j:=by rw[hj];rfl
  rw[e1,he,e2];intro h' g b;have e3:t.place.getD 0 0=j:=by rw[hj];rfl
  refine hQ _ h' s.toks ⟨_,he,rfl⟩ ⟨?_,st.2.keep λo e=>(b.2 S hne).trans e⟩ λb' o hb e=>(b.2 b' (λz=>hb (by simp[z]))).trans e
  rw[e3];exact g
 done:=λs Q E st hQ=>by
  refine uT hh st.1 st.2.at_ rfl st.2.fits ?_;unfold setNext;refine a7 (bf st.2.at_ rfl st.2.fits (a7 (Zr ?_)));have e0:(model prog w).w.params.followText "set-order"=false:=ht;have hl:t.led=true:=st.2.led.resolve_left (by rw[ht];simp)
  simp only[e0,aB,if_false];refine cX (λh=>absurd h ?_) (λ_=> ?_)
  ·show ¬ ((!t.plain && decide (es.size > 1))=true);simp[show ¬ (es.size > 1) by omega]
  refine a7 (b7 (a:=()) ?_ (ag ⟨rfl, ?_⟩))
  ·show (if (!t.led && !es.isEmpty)=true then unsupported "set:maker-not-led" else pure ())=pure ()
   rw[hl];rfl
  have hp:t.place.size=es.size:=by have:=st.2.fits;simp only[SetTable.fits,ah,beq_iff_eq]at this;exact this.1
  have e1:es[dH t.place (if es.size=0 then 0 else t.place.getD 0 0+1)]? =none:=by
   rcases il es.size with h0 | h0
   ·exact bE (by omega)
   ·have h1:t.place.size=1:=by omega
    obtain⟨j,hj⟩:∃j,t.place= #[j]:=⟨t.place[0],by
     apply Array.ext
     ·simp[h1]
     ·intro i h1 h2;simp at h2;subst h2;rfl⟩
    have e3:t.place.getD 0 0=j:=by rw[hj];rfl
    rw[if_neg (by omega),e3,hj,Wr,if_pos (by omega)]
    exact bE (by omega)
  rw[e1];intro h' k;exact hQ h' s.toks λb o hb e=>k b o (λz=>hb (by simp[z])) e
 self:=λ_ _ _ _ st hQ=>u5 st.1 hQ
theorem u6 (hh:A.handled=none)(pl:List Nat)(hpl:pl.Perm (bc es.size))(hne:S ≠ I)(hP:P ≠ I):
  Walks prog w A I [I,S,P] [I] es.size (λi v=>∃k e,pl[i]? =some k/\es[k]? =some e/\v=e.2) (λi h=>h.get? I=some (siO (.ref P) i (.ref S) es.size ep)/\Yo w h S es ep t/\h.get? P=some { cls:= .type "tuple",dict:=none,data:= .seq (pl.map λ(k:Nat)=>rawInt k).toArray 0,slots:= #[] }) where
 sub:=λb hb=>by simp at hb;simp[hb]
 frame:=λ_ _ _ st hk=>⟨hk I (by simp) _ st.1,st.2.1.keep λo e=>hk S (by simp) o e,hk P (by simp) _ st.2.2⟩
 item:=λi s Q E hi st hQ=>by
  have hl:pl.length=es.size:=by rw[hpl.length_eq,bw]
  have hi' :i < pl.length:=by omega
  have e1:pl[i]? =some pl[i]:=a9 hi';have hk:pl[i] < es.size:=bS.mp (hpl.mem_iff.mp (fA hi'));have e2:es[pl[i]]? =some es[pl[i]]:=bW hk;refine Vq hh st.1 st.2.1.at_ rfl st.2.1.fits st.2.2 ?_;rw[e1];refine⟨_,e2,λh' g b=> ?_⟩;exact hQ _ h' s.toks ⟨_,_,e1,e2,rfl⟩ ⟨g,st.2.1.keep λo e=>(b.2 S hne).trans e,(b.2 P hP).trans st.2.2⟩ λb' o hb e=>(b.2 b' (λz=>hb (by simp[z]))).trans e
 done:=λs Q E st hQ=>by
  have hl:pl.length=es.size:=by rw[hpl.length_eq,bw]
  refine Vq hh st.1 st.2.1.at_ rfl st.2.1.fits st.2.2 ?_;rw[show pl[es.size]? =none from aH (by omega)]
  intro h' k;exact hQ h' s.toks λb o hb e=>k b o (λz=>hb (by simp[z])) e
 self:=λ_ _ _ _ st hQ=>u5 st.1 hQ
end
section
variable {es:Array (Int×Value)}{t:SetTable}
noncomputable def gA (es:Array (Int×Value))(P:Nat->Value->Prop):Prop:=∃ord:List (Int×Value),ord.Perm es.toList/\∀i v,P i v->∃e,ord[i]? =some e/\v=e.2
theorem X5 (hh:A.handled=none)(hS:Yo w s.heap S es ep t)(hb:es.size<=100)
  (h:∀(I:Addr) (fp:List Addr) (P:Nat->Value->Prop) (St:Nat->Heap->Prop) (h' :Heap) (d:Drawn),Walks prog w A I fp [I] es.size P St->St 0 h' ->gA es P->s.heap.objs.size<=I->(∀b∈fp,b=S\/s.heap.objs.size<=b)->
   (∀b o,s.heap.get? b=some o->h'.get? b=some o)->Q (.ref I) { s with heap:=h',drawn:=d }):wpAny (model prog w) A (pyIter (.ref S)) Q E s:=by
 have hT:s.TypeIs (.ref S) "set":=⟨_,hS.at_,rfl⟩;have hlt:=ao hS.at_;refine wpAny_pyIter_slot hT l8 (bq l8 hT JK ?_ (F.args_set_iter_1 _));refine a7 (b7 (a:=S) rfl ?_);refine a7 (a7 (a7 (bf hS.at_ rfl hS.fits (ag (ag ?_)))));refine a7 (m:=setDrawn S) ?_;unfold setDrawn;refine a7 (bf hS.at_ rfl hS.fits (a7 (Zr (ag ?_))));refine cX (λhd=> ?_) (λhd=> ?_)
 ·have hd:=hd;refine a7 (Yk es.size _ _ _ (by simp) λpl d hp=>a7 (wpAny_newTuple ?_ (by rw[aa,hp.length_eq,bw,bH];show es.size<=16777216;omega)))
  have g1:Yo w (s.heap.push { cls:= .type "tuple",data:= .seq (pl.map λ(i:Nat)=>rawInt i).toArray }) S es ep t:=hS.keep λo e=>ab _ e;refine a7 (wpAny_setEpoch_of g1.at_ rfl g1.fits ?_);refine a7 (aM (ag ⟨_,rfl,"set_iterator",_,⟨_,af _ rfl,rfl⟩,Zi.lookup, ?_⟩));refine h _ _ _ _ _ _ (u6 (ep:=ep) (t:=t) hh pl hp ?_ ?_) ⟨af _ rfl,g1.keep λo e=>ab _ e, ?_⟩ ?_ ?_ ?_ ?_
  ·have e:(s.heap.push { cls:= .type "tuple",data:= .seq (pl.map λ(i:Nat)=>rawInt i).toArray }).objs.size=s.heap.objs.size+1:=bo ..;exact ax (by rw[e];exact bJ hlt)
  ·have e:(s.heap.push { cls:= .type "tuple",data:= .seq (pl.map λ(i:Nat)=>rawInt i).toArray }).objs.size=s.heap.objs.size+1:=bo ..;exact ax (by rw[e];exact cN _)
  ·exact ab _ (af _ rfl)
  ·refine⟨pl.map λk=>es.getD k (0,.none), ?_,λi v ⟨k,e,a1,a2,a3⟩=>⟨e, ?_,a3⟩⟩
   ·have e1:=hp.map λk=>es.getD k (0,Value.none);refine e1.trans (.of_eq ?_);refine cB λi=> ?_
    by_cases hi:i < es.size
    ·simp[io,hi]
    ·rw[aH (by simp;omega)]
     simp;omega
   ·rw[ar,a1,l7,Array.getD_eq_getD_getElem?,a2];rfl
  ·have e:(s.heap.push { cls:= .type "tuple",data:= .seq (pl.map λ(i:Nat)=>rawInt i).toArray }).objs.size=s.heap.objs.size+1:=bo ..;rw[e];exact dz _
  ·intro b hb;have e:(s.heap.push { cls:= .type "tuple",data:= .seq (pl.map λ(i:Nat)=>rawInt i).toArray }).objs.size=s.heap.objs.size+1:=bo ..;rcases aj.mp hb with z | hb
   ·right;rw[z]
    rw[e];exact dz _
   ·rcases aj.mp hb with z | hb
    ·exact .inl z
    ·right;rw[aC.mp hb];exact am _
  ·intro b o e;exact ab _ (ab _ e)
 ·have hd:¬ ((!w.params.followText _ && (!t.plain && decide _))=true):=hd;refine a7 (ag (a7 (wpAny_setEpoch_of hS.at_ rfl hS.fits ?_)));refine a7 (aM (ag ⟨_,rfl,"set_iterator",_,⟨_,af _ rfl,rfl⟩,Zi.lookup, ?_⟩));have hSp:Yo w (s.heap.push (siO (.int 0 0) 0 (.ref S) es.size ep)) S es ep t:=hS.keep λo e=>ab _ e;have fin:∀(P:Nat->Value->Prop) (St:Nat->Heap->Prop),Walks _ w A _ _ _ _ P St->St 0 (s.heap.push (siO (.int 0 0) 0 (.ref S) es.size ep))->gA es P->
    Q _ { s with heap:=s.heap.push _ }:=λP St W st od=>
   h _ _ _ _ _ _ W st od (am _) (λb hb=>by
    rcases aj.mp hb with z | hb
    ·right;rw[z];exact am _
    ·exact .inl (aC.mp hb)) λb o e=>ab _ e
  cases ht:w.params.followText _ with
  | true=>
   refine fin _ _ (UG hh ht (ax hlt)) ⟨af _ rfl,hSp⟩ ⟨(pickOrder _ es).toList,Ji _ es,λi v ⟨e,a1,a2⟩=>⟨e,by simpa using a1,a2⟩⟩
  | false=>
   have hz:es.size<=1:=by
    rcases hS.plain with p | p
    ·rw[ht,p]at hd;simp at hd;exact hd
    ·omega
   exact fin _ _ (Yp hh ht hz (ax hlt)) ⟨af _ rfl,hSp⟩ ⟨es.toList,.refl _,λi v ⟨e,a1,a2⟩=>⟨e,by simpa using a1,a2⟩⟩
theorem X6 {Q:Bool->Shared->Prop}(hT:s.TypeIs (.ref S) "set")(h:Q false s):wpAny (model prog w) A (eA (.ref S)) Q E s:=by
 refine a7 (cg hT F.slot_set_len.lookup ?_);generalize hq:("set.__len__")=q;subst hq;refine a7 (cn (b:=true) hT (by rw[isSubtype_type];kernel_rfl) (cX (λz=>absurd z (by decide)) λ_=> ?_))
 refine cX (λ_=>a7 (cT hT (ag h))) (λz=>absurd (by decide+kernel) z)
theorem UH {R:List Value->Shared->Prop}(hh:A.handled=none)(hS:Yo w s.heap S es ep t)(hb:es.size<=100)
  (h:∀(h' :Heap) (tk:Nat) (d:Drawn) (vs:List Value),(∀b o,s.heap.get? b=some o->h'.get? b=some o)->s.heap.objs.size<=h'.objs.size->vs.Perm (es.toList.map (·.2))->R vs { s with heap:=h',drawn:=d,toks:=tk }):
  wpAny (model prog w) A (collect (.ref S)) R E s:=by
 have hlt:=ao hS.at_;have hnl:es.size<=sizeLine:=by rw[bH];omega
 unfold collect;refine a7 (wpAny_runValue (aS entry_proto_collect' ?_));refine a7 (m:=newList []) (aM (ag ⟨aZ PySem.F.plain_list_iadd _,aS entry_list_iadd' ?_⟩));generalize hG:s.heap.push _=G;have gL:G.get? s.heap.objs.size=some { cls:= .type "list",data:= .seq #[] }:=by rw[← hG];exact af _ rfl
 have gk:∀b o,s.heap.get? b=some o->G.get? b=some o:=λb o e=>by rw[← hG];exact ab _ e
 have gz:G.objs.size=s.heap.objs.size+1:=by rw[← hG];exact bo ..
 have gS:=hS.keep (h' :=G) (gk S);have hT:dQ { s with heap:=G } (.ref S) "set":=⟨_,gS.at_,rfl⟩;have hne:=bT hlt;show wpAny _ A.in1 (d6 _ (.ref S) _) _ _ _;refine a7 (cT hT ?_);have c1:bL (.ref s.heap.objs.size) (.ref S)=false:=by simp[bL,hne]
 have c2:(Value.type "set" == Value.type "list")=false:=by decide
 have c3:(Value.type "set" == Value.type "tuple")=false:=by decide
 simp only[c1,c2,c3,Bool.or_false,aB,if_false];refine a7 (X5 (A:=A.in1) hh gS hb λI fp P St h1 d W st od hI hfp k1=> ?_);refine a7 (bB (X6 ⟨_,k1 S _ gS.at_,rfl⟩ ?_));have hLf:s.heap.objs.size ∉ fp:=λz=>by
  rcases hfp _ z with z | z
  ·exact hne z
  ·rw[gz]at z;exact absurd z (Nat.not_succ_le_self _)
 have loop:∀(h2:Heap) (c tk:Nat),St 0 h2->(∀b o,b ≠ s.heap.objs.size->h1.get? b=some o->h2.get? b=some o)->h2.get? s.heap.objs.size=some { cls:= .type "list",data:= .seq #[] c }->
   codeAny (model prog w) A (.builtin "list.extend.loop" ⟨[.ref s.heap.objs.size,.ref I,.ref s.heap.objs.size],[]⟩)
    (λq s' =>∃vs:List Value,vs.Perm (es.toList.map (·.2))/\∃(h' :Heap) (tk:Nat) (c' :Nat),q= .ok (.ret (.ref s.heap.objs.size))/\s' ={ s with heap:=h',drawn:=d,toks:=tk }/\(∀b o,s.heap.get? b=some o->h'.get? b=some o)/\
     h'.get? s.heap.objs.size=some { cls:= .type "list",dict:=none,data:= .seq vs.toArray c',slots:= #[] }) { s with heap:=h2,drawn:=d,toks:=tk }:=by
  intro h2 c tk st2 k2 g2;refine codeAny_extend_loopS W.toS hnl s.heap.objs.size hLf _ es.size 0 _ #[] c rfl (b6 _) st2 g2 (i_ _) λs' acc c' hm g3 ha=> ?_;obtain⟨ord,hp,ho⟩:=od;have ea:acc.toList=ord.map (·.2):=by
   refine cB λi=> ?_;rw[ar]
   by_cases hi:i < acc.size
   ·obtain⟨e,e1,e2⟩:=ho i acc[i] (ha.2 i acc[i] (bW hi));rw[e1];simp[hi,e2]
   ·have l2:ord.length=acc.size:=by rw[hp.length_eq,b8,ha.1]
    rw[aH (by simpa using hi),aH (by omega)];rfl
  refine⟨acc.toList,by rw[ea];exact hp.map _,s'.heap,s'.toks,c',rfl, ?_,λb o e=> ?_,by simpa using g3⟩
  ·rw[Moved.eq_with hm]
  ·have hbs:=ax (ao e);refine hm.heap b o (λz=> ?_) (k2 b o hbs (k1 b o (gk b o e)));rcases aj.mp z with z | z
   ·exact hbs z
   ·have zz:s.heap.objs.size+1<=b:=by rw[aC.mp z,← gz];exact hI
    exact absurd (ao e) (Nat.not_lt.mpr (Nat.le_of_succ_le zz))
 have done:∀(q:Result) (s' :Shared),(∃vs:List Value,vs.Perm (es.toList.map (·.2))/\∃(h' :Heap) (tk:Nat) (c' :Nat),q= .ok (.ret (.ref s.heap.objs.size))/\s' ={ s with heap:=h',drawn:=d,toks:=tk }/\(∀b o,s.heap.get? b=some o->h'.get? b=some o)/\
     h'.get? s.heap.objs.size=some { cls:= .type "list",dict:=none,data:= .seq vs.toArray c',slots:= #[] })->q= .ok (.ret (.ref s.heap.objs.size))/\wpAny (model prog w) A (do
   let o ← load s.heap.objs.size
   match o.data with
   | .seq xs _=>pure xs.toList
   | _=>unsupported "internal:collect") R E s' :=by
  rintro q s' ⟨vs,hp,h',tk,c',rfl,rfl,k,g⟩
  refine⟨rfl,a7 (wpAny_load g (ag ?_))⟩;exact h h' tk d vs k (e9 (ao g)) hp
 have gL1:=k1 _ _ gL;refine cX (λ_=> ?_) (λ_=> ?_)
 ·refine a7 (cu (a7 ?_));have gL2:=bu (fJ (·.push Value.none)) gL1 rfl;refine a7 (cA gL1 rfl (cA gL2 rfl ?_));have gL3:=bu (fJ (·.pop)) gL2 rfl;refine ag ⟨aZ eS _,bZ (loop _ _ _ (W.frame 0 _ _ st λb hb o e=> ?_) (λb o hb e=> ?_) gL3) λq s' x=> ?_⟩
  ·have hbs:b ≠ s.heap.objs.size:=λz=>hLf (z ▸ hb);exact(aW _ _ (bb hbs)).trans ((aW _ _ (bb hbs)).trans e)
  ·exact(aW _ _ (bb hb)).trans ((aW _ _ (bb hb)).trans e)
  ·obtain⟨rfl,y⟩:=done q s' x;exact y
 ·refine ag ⟨aZ eS _,bZ (loop _ _ _ st (λb o _ e=>e) gL1) λq s' x=> ?_⟩;obtain⟨rfl,y⟩:=done q s' x;exact y
end
noncomputable def yd (prog:Program)(w:World)(h:Heap)(S:Addr)(acc:List Str):Prop:=∃es ep t ps,Yo w h S es ep t/\ElemsOf (strKind prog w) es.toList/\StrsAre (es.toList.map (·.2)) ps/\ps.Perm acc
theorem yd.keep (x:yd prog w h S acc)(e:∀o,h.get? S=some o->h'.get? S=some o):yd prog w h' S acc:=
 let ⟨es,ep,t,ps,a,r⟩:=x;⟨es,ep,t,ps,a.keep e,r⟩
theorem Wt:∀{vs us:List Value},vs.Perm us->∀{ps:List Str},StrsAre us ps->∃qs,StrsAre vs qs/\qs.Perm ps:=by
 intro vs us hp ps h;refine⟨vs.map _,strsAre_map vs λv hv=>h.all v (hp.mem_iff.mp hv), ?_⟩;have:=hp.map strOf;rw[h.strs]at this;exact this
theorem Yq:∀{vs:List Value} {ps:List Str} (x:Str) (t:Tok),StrsAre vs ps->StrsAre (vs++[.str x t]) (ps++[x]):=by
 intro vs ps x t h
 induction h with
 | nil=>exact .cons x t .nil
 | cons y u _ ih=>exact .cons y u ih
theorem wy:∀{vs:List Value} {ps:List Str},StrsAre vs ps->vs.length=ps.length:=by
 intro vs ps h
 induction h with
 | nil=>rfl
 | cons y u _ ih=>simp[ih]
theorem vh:∀{vs:List Value} {ps:List Str} {x:Str},StrsAre vs ps->(x∈ps↔∃t,Value.str x t∈vs):=by
 intro vs ps x h
 induction h with
 | nil=>simp
 | cons y u _ ih=>
  rw[aj,ih];constructor
  ·rintro(rfl | ⟨t,e⟩)
   ·exact⟨u,by simp⟩
   ·exact⟨t,by simp[e]⟩
  ·rintro⟨t,e⟩
   rcases aj.mp e with e | e
   ·cases e;exact .inl rfl
   ·exact .inr ⟨t,e⟩
section
theorem vi {acc:List Str}{x:Str}{tk:Tok}{Q:Bool->Shared->Prop}(hS:yd prog w s.heap S acc)(hb:acc.length+1 < scanBound)
  (h:∀b h',bv S s.heap h' ->yd prog w h' S (if x∈acc then acc else acc++[x])->Q b { s with heap:=h' }):
  wpAny (model prog w) A (setAddHashed S (.str x tk) ((strKind prog w).hash x)) Q E s:=by
 obtain⟨es,ep,t,ps,hw,el,hs,hp⟩:=hS;have hz:es.size=acc.length:=by
  have h1:=wy hs;rw[aa,b8]at h1;rw[h1,hp.length_eq]
 have isk:(strKind prog w).is x (.str x tk)=true:=strKind_is _ _ _ _;have key:x∈acc↔∃e∈es.toList,(strKind prog w).is x e.2=true:=by
  rw[← hp.mem_iff,vh hs];constructor
  ·rintro⟨t',e⟩
   obtain⟨e,he,e2⟩:=au.mp e;exact⟨e,he,by rw[e2];exact strKind_is _ _ _ _⟩
  ·rintro⟨e,he,e2⟩
   obtain⟨t',e3⟩:=i5 e2;exact⟨t',au.mpr ⟨e,he,e3⟩⟩
 refine X4 isk rfl rfl hw.at_ rfl hw.fits el (by omega) (λhm=> ?_) λhm es' ep' t' h' p' f' l' pl' g' sb=> ?_
 ·have:=h false _ (bv.refl _ _) (by rw[if_pos (key.mpr hm)];exact⟨es,ep,t,ps,hw,el,hs,hp⟩)
  exact this
 ·have hx:x ∉ acc:=λz=>by
   obtain⟨e,he,e2⟩:=key.mp z;rw[hm e he]at e2;cases e2
  refine h _ h' sb ?_;rw[if_neg hx];have hs2:StrsAre ((es.toList++[((strKind prog w).hash x,Value.str x tk)]).map (·.2)) (ps++[x]):=by
   rw[bC];exact Yq x tk hs
  obtain⟨qs,h1,h2⟩:=Wt (p'.map _) hs2;exact⟨es',ep',t',qs,⟨g',f',hw.led.imp id λz=>l'.trans z,.inl pl'⟩,(el.push isk rfl).perm p',h1,h2.trans (hp.append_right [x])⟩
end
section
variable {prog:Program}{w:World}{A:Around}{R:Result->Shared->Prop}{I:Addr}{fp wr:List Addr}{n:Nat}{P:Nat->Value->Prop}{St:Nat->Heap->Prop}
theorem Yr (W:Walks prog w A.in1 I fp wr n P St)(S:Addr)(hSf:S ∉ fp)(val:Nat->Str)(hval:∀i v,P i v->∃t,v=Value.str (val i) t)(hb:n+1 < scanBound):
  ∀(k i:Nat) (acc:List Str) (s:Shared),n - i=k->i<=n->acc.length<=i->St i s.heap->yd prog w s.heap S acc->
   (∀h' tk,(∀b o,b ∉ S :: wr->s.heap.get? b=some o->h'.get? b=some o)->yd prog w h' S (dd acc ((eW i k).map val))->
    R (.ok (.ret .none)) { s with heap:=h',toks:=tk })->codeAny (model prog w) A (.builtin "set.update.loop" ⟨[.ref S,.ref I],[]⟩) R s:=by
 intro k
 induction k with
 | zero=>
  intro i acc s hk hi hal hst hS hR;obtain rfl:i=n:=by omega
  refine aS cO ?_;refine a7 (W.done s _ _ hst λh' tk hk' =>ag ?_);exact hR h' tk (λb o hb e=>hk' b o (λz=>hb (a8 _ z)) e) (hS.keep (λo e=>hk' S o (λz=>hSf (W.sub _ z)) e))
 | succ k ih=>
  intro i acc s hk hi hal hst hS hR;refine aS cO ?_;refine a7 (W.item i s _ _ (by omega) hst λv h1 tk1 hP hst1 hk1=> ?_)
  obtain⟨t,rfl⟩:=hval i v hP;have hS1:=hS.keep (λo e=>hk1 S o (λz=>hSf (W.sub _ z)) e);refine a7 (bB ?_);have isk:(strKind prog w).is (val i) (.str _ t)=true:=strKind_is _ _ _ _;refine bB (a7 ((strKind _ w).pyHash isk ?_));refine vi hS1 (by omega) λb h2 hsb hS2=> ?_
  refine ag ⟨aZ fu _,ih _ _ _ (by omega) (by omega) ?_ (W.frame _ h1 _ hst1 λb hb o e=> ?_) hS2 λh3 tk3 hk3 hS4=> ?_⟩
  ·split
   ·omega
   ·rw[az,aG];omega
  ·exact(hsb.2 b (λz=>hSf (z ▸ hb))).trans e
  ·refine hR h3 tk3 (λb o hb e=>hk3 b o hb ?_) hS4;exact(hsb.2 b (λz=>hb (z ▸ ac))).trans (hk1 b o (λz=>hb (a8 _ z)) e)
end
theorem wz (a:Value)
  (h:Q (.ref s.heap.objs.size) { s with heap:=s.heap.push { cls:= .type "set",dict:=none,data:= .set #[] 0 (.fresh 0 0 (!w.params.followText "set-order")) } }):
  codeAny (model prog w) A (.call (.builtin "set.__new__") ⟨[.type "set",a],[]⟩) (wants Q E) s:=by
 refine codeAny_of_tree ?_;refine a7 (b7 (F.newCall_set_1 a) (ag ⟨aZ F.plain_set_new _,aS F.entry_set_new ?_⟩));have hq:=sub_set_self
 wp_walk
 refine wpAny_askSetting (ag ?_);exact a7 (wpAny_alloc (ag (ag h)))
section
variable {prog:Program}{w:World}{A:Around}{E:Value->Shared->Prop}{s:Shared}
set_option maxRecDepth 100000 in
set_option maxHeartbeats 3200000 in
theorem UI {l:Addr}{its:List Value}{ys:List Str}{Q:Value->Shared->Prop}(hh:A.handled=none)(hl:s.heap.IsList l its.toArray)(hi:StrsAre its ys)(hb:its.length+1 < scanBound)
  (h:∀(h' :Heap) (tk:Nat),yd prog w h' s.heap.objs.size (dd [] ys)->(∀b o,b < s.heap.objs.size->s.heap.get? b=some o->h'.get? b=some o)->
   Q (.ref s.heap.objs.size) { s with heap:=h',toks:=tk }):wpAny (model prog w) A (call (.type "set") [.ref l]) Q E s:=by
 have getv:∀{its:List Value} {ys:List Str},StrsAre its ys->its.length=ys.length/\∀(i:Nat) (v:Value),its[i]? =some v->∃t,v=Value.str (ys.getD i ⟨#[]⟩) t:=λ{its ys} hi=>by
  induction hi with
  | nil=>exact⟨rfl,λi v e=>by simp at e⟩
  | cons y t _ ih=>
   refine⟨by simp[ih.1],λi v e=> ?_⟩
   cases i with
   | zero=>exact⟨t,by simpa using e.symm⟩
   | succ i=>exact ih.2 i v (by simpa using e)
 obtain⟨hlen,hget⟩:=getv hi;have hys:(eW 0 its.length).map (λi=>ys.getD i ⟨#[]⟩)=ys:=by
  rw[hlen];refine cB λi=> ?_;rw[ar]
  by_cases hi' :i < ys.length
  ·rw[h7 hi',a9 hi'];simp[a9 hi']
  ·rw[aH (by simp;omega),aH (by omega)]
   rfl
 obtain⟨c,tl,hmro⟩:=bn.mro;have hmade:=bn.made;have hsub:=bn.sub;have h1:=bn.notType;have h2:=bn.canCreate;have hct:=iU (.ref l);refine wpAny_call (codeAny_of_tree (show wpAny _ _ (callAny (.type "set") _) _ _ _ from ?_));refine ag ⟨ie _ (by decide+kernel),aS iB ?_⟩
 rw[ig (weight_type_call_type "set" [.ref l] []) rfl]
 repeat any_goals (first | assumption | wp_step)
 refine bZ (wz (.ref l) (E:=E) (Q:=λobj s₁=>∃led:Bool,led= !w.params.followText "set-order"/\obj= .ref s.heap.objs.size/\s₁={ s with heap:=s.heap.push { cls:= .type "set",dict:=none,data:= .set #[] 0 (.fresh 0 0 led) } }) ⟨_,rfl,rfl,rfl⟩) λr s₁ hr=> ?_;cases r with
 | error e=>exact hr
 | ok fl=>
  cases fl with
  | ret obj=>
   obtain⟨led,hled,rfl,rfl⟩:=hr;generalize hG:s.heap.push { cls:= .type "set",dict:=none,data:= .set #[] 0 (.fresh 0 0 led) }=G;have hS:G.get? s.heap.objs.size=some { cls:= .type "set",dict:=none,data:= .set #[] 0 (.fresh 0 0 led) }:=by rw[← hG];exact af _ rfl
   have hGs:G.objs.size=s.heap.objs.size+1:=by rw[← hG,bo]
   have hGk:∀b o,s.heap.get? b=some o->G.get? b=some o:=λb o e=>by rw[← hG];exact ab _ e
   have hT:dQ { s with heap:=G } (.ref s.heap.objs.size) "set":=⟨_,hS,rfl⟩;have hli:=bn.init.lookup;have hbi:=bn.init.bind (.ref s.heap.objs.size)
   repeat any_goals (first | assumption | wp_step)
   refine bZ (codeAny_call_builtin (R:=wants (λr s₂=>r= .none/\∃h' tk,s₂={ s with heap:=h',toks:=tk }/\yd prog w h' s.heap.objs.size (dd [] ys)/\
     (∀b o,b < s.heap.objs.size->s.heap.get? b=some o->h'.get? b=some o)) E) bn.init.plain iV (check_set_init_1 hT ?_)) λr₂ s₂ hr₂=> ?_
   ·obtain⟨⟨ocls,odict,odata,oslots⟩,hol,hcl,nl,hdl⟩:=hl;simp only at hcl hdl;subst hcl;subst hdl;have hol' :=hGk _ _ hol;have hsls:=F.sub_list_set;have hslf:=hJ;have hne:(Value.type "list" == Value.type "dict")=false:=by decide
    have hl1:G.IsList l its.toArray:=⟨_,hol',rfl,nl,rfl⟩;have hlS:l < s.heap.objs.size:=ao hol;unfold Builtin.«set.__init__» noKeywords dW;generalize hPI:pyIter=PI
    wp_walk
    subst hPI;refine wpAny_pyIter_list hl1 (a7 (wpAny_runValue ?_));have hSf:s.heap.objs.size ∉ [G.objs.size,l]:=by
     rw[hGs];intro z;rcases aj.mp z with z | z
     ·exact absurd z (ax (cN _))
     ·exact absurd (aC.mp z) (bT hlS)
    refine Yr (ic (A:=A.in1.in1.in1) (by simp[hh]) G.objs.size l (by rw[hGs];exact ax (bJ hlS)) its.toArray) s.heap.objs.size hSf (λi=>ys.getD i ⟨#[]⟩) (λi v e=>hget i v (by simpa using e)) (by simpa using hb) its.length 0 [] _ (by simp) (b6 _) (am _)
     ⟨⟨_,af _ rfl,rfl,rfl⟩,hl1.push _⟩ ?_ ?_
    ·have hget' :(G.push { cls:= .type "list_iterator",data:= .fields #[.ref l,.int 0 0] }).get? s.heap.objs.size=some { cls:= .type "set",dict:=none,data:= .set #[] 0 (.fresh 0 0 led) }:=ab _ hS;exact⟨#[],0,_,[],⟨hget',rfl,by cases hw:w.params.followText "set-order" with | true=>exact .inl rfl | false=>exact .inr (by rw[hled,hw];rfl),.inr rfl⟩,(λe he=>by simp at he),.nil,.refl _⟩
    ·intro h' tk' hm hS';rw[hys]at hS';refine ag (show wpAny _ _ (ret Value.none) _ _ _ from ag ⟨rfl,h',tk',rfl,hS',λb o hb e=> ?_⟩);refine hm b o (λz=> ?_) (ab _ (hGk b o e));rcases aj.mp z with z | z
     ·exact absurd z (ax hb)
     ·have z' :b=G.objs.size:=aC.mp z;rw[hGs]at z';exact absurd z' (ax (bJ hb))
   ·cases r₂ with
    | error e=>exact hr₂
    | ok fl₂=>
     cases fl₂ with
     | ret r=>
      obtain⟨rfl,h',tk,rfl,hS',hk'⟩:=hr₂
      repeat any_goals (first | assumption | wp_step)
      exact h _ _ hS' hk'
     | _=>exact hr₂.elim
  | _=>exact hr.elim
end
theorem Vr:∀(ys acc:List Str),(dd acc ys).length<=acc.length+ys.length
 | [],acc=>am _
 | y :: r,acc=>by
  refine aq (Vr r _) ?_;split
  ·simp only[aw];omega
  ·simp only[aw,az,bN];omega
theorem u7 (a:Str):ltS a a=false:=by unfold ltS;simp
theorem Vs {a b c:Str}(h:ltS a b=true)(k:ltS b c=true):ltS a c=true:=by
 unfold ltS at*;simp only[decide_eq_true_eq]at*;exact List.lt_trans h k
theorem Ys {a b:Str}(h:ltS a b=false)(k:ltS b a=false):a=b:=by
 unfold ltS at*;simp only[decide_eq_false_iff_not]at*;have e:=iW (k_.mp k) (k_.mp h);obtain⟨⟨x⟩⟩:=a;simp at e;rw[e]
theorem Jj (x:Str):∀ys:List Str,(yc x ys).Perm (x :: ys)
 | []=> .refl _
 | y :: ys=>by
  unfold yc;split
  ·exact((Jj x ys).cons y).trans (.swap x y ys)
  ·exact .refl _
theorem zZ:∀xs:List Str,(WS xs).Perm xs
 | []=> .refl _
 | x :: xs=>(Jj x _).trans ((zZ xs).cons x)
def nlt (a b:Str):Prop:=ltS b a=false
theorem Vt {a b c:Str}(h:nlt a b)(k:nlt b c):nlt a c:=by
 unfold nlt at*;cases e:ltS c a with
 | false=>rfl
 | true=>
  cases e2:ltS a b with
  | true=>rw[Vs e e2]at k;cases k
  | false=>rw[Ys e2 h]at e;rw[e]at k;cases k
theorem Jk (x:Str):∀ys:List Str,ys.Pairwise nlt->(yc x ys).Pairwise nlt
 | [],_=>by unfold yc;simp
 | y :: ys,h=>by
  unfold yc;rw[a_]at h;split
  ·rename_i hx;refine a_.mpr ⟨λz hz=> ?_,Jk x ys h.2⟩;rcases aj.mp ((Jj x ys).mem_iff.mp hz) with rfl | hz
   ·show ltS z y=false;cases e:ltS z y with
    | false=>rfl
    | true=>have:=Vs hx e;rw[u7]at this;cases this
   ·exact h.1 z hz
  ·rename_i hx;have hx:=by show ltS y x=false;simpa using hx
   refine a_.mpr ⟨λz hz=> ?_,a_.mpr h⟩;rcases aj.mp hz with rfl | hz
   ·exact hx
   ·exact Vt hx (h.1 z hz)
theorem Jl:∀xs:List Str,(WS xs).Pairwise nlt
 | []=> .nil
 | x :: xs=>Jk x _ (Jl xs)
theorem JS:∀(xs ys:List Str),xs.Perm ys->xs.Pairwise nlt->ys.Pairwise nlt->xs=ys
 | [],ys,p,_,_=>(List.nil_perm.mp p).symm
 | x :: xs,[],p,_,_=>by cases List.perm_nil.mp p
 | x :: xs,y :: ys,p,h1,h2=>by
  rw[a_]at h1 h2;have e:=by
   have a1:nlt x y:=by
    rcases aj.mp (p.mem_iff.mpr (ac)) with z | z
    ·rw[z];exact u7 x
    ·exact h1.1 y z
   have a2:nlt y x:=by
    rcases aj.mp (p.mem_iff.mp (ac)) with z | z
    ·rw[z];exact u7 y
    ·exact h2.1 x z
   exact Ys a2 a1
  subst e;rw[JS xs ys (List.Perm.cons_inv p) h1.2 h2.2]
theorem Jm:∀(l:List Str) (p:Str),risingS p l=true->(p :: l).Pairwise nlt
 | [],p,_=>by simp
 | x :: r,p,h=>by
  have h:(!ltCps _ _ && risingS x r)=true:=h;rw[ah]at h;have h2:=Jm r x h.2;have h1:nlt p x:=by
   have:=h.1;rw[ltCps_eq]at this;show decide _=false;simpa using this
  refine a_.mpr ⟨λz hz=> ?_,h2⟩;rcases aj.mp hz with rfl | hz
  ·exact h1
  ·exact Vt h1 ((a_.mp h2).1 z hz)
theorem u8:∀(l:List Str),sortedS l=true->l.Pairwise nlt
 | [],_=> .nil
 | x :: r,h=>Jm r x h
theorem Yt:∀{its:List Value} {ns:List Str},StrsAre its ns->zU (ns.map V.str) its:=by
 intro its ns h
 induction h with
 | nil=>exact .nil
 | cons n t _ ih=>exact .cons ⟨_,rfl⟩ ih
theorem vj:∀{ts:List T} {ys:List Str},wo ts=some ys->ys.length=ts.length:=by
 intro ts
 induction ts with
 | nil=>intro ys h;cases h;rfl
 | cons t ts ih=>
  intro ys h;cases t with
  | str x=>
   unfold wo at h;split at h
   ·rename_i l e;cases h;simp[ih e]
   ·cases h
  | _=>cases h
theorem Wu {H:Hp}:∀ns:List Str,zC H (ns.map V.str) (ns.map T.str)
 | []=> .nil
 | n :: ns=> .cons (.str n) (Wu ns)
section
variable {prog:Program}{w:World}{A:Around}{E:Value->Shared->Prop}{s:Shared}{S:Addr}
theorem UJ {acc:List Str}{Q:Value->Shared->Prop}(hh:A.handled=none)(hS:yd prog w s.heap S acc)(hb:acc.length < 64)
  (h:∀(h' :Heap) (tk:Nat) (d:Drawn) (r:Addr) (vs:List Value) (n:Nat),(∀b o,s.heap.get? b=some o->h'.get? b=some o)->s.heap.objs.size<=r->StrsAre vs (WS acc)->h'.get? r=some (seqObj "list" vs.toArray n)->Q (.ref r) { s with heap:=h',drawn:=d,toks:=tk }):
  wpAny (model prog w) A (call (.builtin "sorted") [.ref S]) Q E s:=by
 obtain⟨es,ep,t,ps,hw,el,hs,hp⟩:=hS;have hz:es.size=acc.length:=by
  have h1:=wy hs;rw[aa,b8]at h1;rw[h1,hp.length_eq]
 refine Calls.call_function_entry kind_sorted plain_sorted entry_sorted (args_sorted1 _) ?_;refine a7 (ag ?_);refine a7 (UH hh hw (by omega) λh1 tk d vs k1 z1 pv=> ?_)
 obtain⟨qs,q1,q2⟩:=Wt pv hs;have hl:vs.length=acc.length:=by rw[wy q1,q2.length_eq,hp.length_eq]
 refine a7 (wpAny_newList ?_ (by rw[bH];omega))
 have g1:(h1.push { cls:= .type "list",data:= .seq vs.toArray }).get? _=some _:=af _ rfl;refine a7 (bB (bq slot_list_sort ⟨_,g1,rfl⟩ entry_list_sort (list_sort_treeK strKind_oneLt g1 q1.keysOf (λv₁ v₂ rest e=>keyKind_strs (by rw[← e];exact q1)) (by omega) λst' a1 a2=>⟨_,rfl, ?_⟩) (args_list_sort _)))
 obtain⟨ss',b1,b2,b3⟩:=sorted_out_str q1 a1 a2;have e:=JS _ _ (b2.trans (q2.trans (hp.trans (zZ acc).symm))) (u8 _ b3) (Jl acc);rw[e]at b1;obtain⟨n,g2⟩:=sortedHeap_at g1;refine ag ⟨_,rfl,h _ tk d _ _ n (λb o e=> ?_) ?_ b1 ?_⟩
 ·have e1:=k1 b o e;have lt1:=ao e1;exact(sortedHeap_old (ax lt1) (by rw[size_push'];exact bJ lt1)).trans (ab _ e1)
 ·exact z1
 ·exact g2
end
section
variable {X:Cx}{Y:Fx}{a b:Expr}{fa fb:En->R T}{pos pos' p p' :Pos}
theorem Yu (hh:X.A.handled=none):Zb X (.type "set") (λvs H Q=>∃l xs ts ys,vs=[.ref l]/\H l=some (.lst xs)/\zC H xs ts/\wo ts=some ys/\ts.length < 64/\
  ∀q,H q=none->Q (.ref q) (upd H q (.ext λh=>yd X.prog X.w h q (dd [] ys)))):=by
 intro pins s σ H vs us Q I rv h;obtain⟨l,xs,ts,ys,rfl,hl,r,ey,hb,q⟩:=h;obtain⟨u,rfl,ru⟩:=Zp rv;obtain rfl:u=Value.ref l:=ru;obtain⟨its,rv,pl,hln,_⟩:=zI I (.inl hl) r;refine UI hh pl (jV r rv ey) (by unfold scanBound;omega) λh' tk hS hk=> ?_
 refine⟨.ref _,_,I.laid (λb u e=>hk b u (ao e) e) (am _) ?_,rfl,q _ (I.hok.fresh (am _))⟩;obtain⟨es,ep,t,ps,hw,_⟩:=id hS;exact⟨hS,⟨_,hw.at_⟩,λh1 h2 x e=>x.keep e⟩
theorem UK (hh:X.A.handled=none):Zb X (.builtin "sorted") (λvs H Q=>∃q φ acc,vs=[.ref q]/\H q=some (.ext φ)/\(∀h:Heap,φ h->yd X.prog X.w h q acc)/\acc.length < 64/\∀r,H r=none->Q (.ref r) (upd H r (.lst ((WS acc).map V.str)))):=by
 intro pins s σ H vs us Q I rv h;obtain⟨l,φ,acc,rfl,hl,hφ,hn,q⟩:=h;obtain⟨u,rfl,ru⟩:=Zp rv;obtain rfl:u=Value.ref l:=ru;obtain⟨h1,_,_⟩:=(show zX _ X.w H _ l _ from I.hok l _ hl);refine UJ hh (hφ _ h1) hn λh' tk d r vs n k z1 hv g=> ?_;have I2:Inv X _ σ H { s with drawn:=d }:=⟨I.ok,I.os,I.bare,I.base,I.loc,I.cell,I.free,I.freeC,I.pin,I.hok,I.len⟩;refine⟨.ref r,upd H r _,Inv.laid I2 k z1 ?_,rfl,q _ (I.hok.fresh z1)⟩;have hl2:=(zZ acc).length_eq;exact⟨by rw[aa,bH];omega,vs,n,Yt hv,g⟩
theorem gB (hh:X.A.handled=none)(gl:Gl X "sorted")(mg:X.mg "sorted"=none)(gl' :Gl X "set")(mg' :X.mg "set"=none)(ha:j8 X Y a fa)(hs:St1 X a:=by exact st1 rfl)(hs' :St1 X (.Call (.Name "set" p') [a] [] pos'):=by exact st1 rfl):
  Snd X Y (.Call (.Name "sorted" p) [.Call (.Name "set" p') [a] [] pos'] [] pos) (ap1 Wn fa):= .mk λρ=>
 PE.imp (Zv (UK hh) gl mg PyProof.Rows.Boot.«sorted» (zl (ZD (Yu hh) gl' mg' PyProof.Rows.Boot.«set» (zl (ha ρ) zK hs) (by decide) (by decide) hs rfl) zK hs') (by decide) (by decide) hs' rfl) λσ H Q ⟨B,I,q⟩=>
  step I q λt v H1 _ s1 r1 I1 q1=>by
   cases r1 with
   | @lst l xs ts h r=>
    have q1:Po Y rC _ H1 (match wo ts with | some ys=>if ts.length < 64 then .ok _ else .bad | none=> .bad) Q:=q1
    split at q1
    ·rename_i ys e;split at q1
     ·rename_i hl;have hn:(dd [] ys).length < 64:=by
       have h1:=Vr ys [];have h2:=vj e;simp only[bN]at h1;omega
      refine⟨l,xs,ts,ys,rfl,h,r,e,hl,λz hz=>⟨z,_,_,rfl,zr,λh hh=>hh,hn,λr hr=> ?_⟩⟩;have hrz:r ≠ z:=λe=>by rw[e,zr]at hr;cases hr
      have hr1:=by rw[zm hrz]at hr;exact hr
      exact q1 _ _ (λb o hb=>by
       have n1:b ≠ z:=λe=>by rw[e,hz]at hb;cases hb
       have n2:b ≠ r:=λe=>by rw[e,hr1]at hb;cases hb
       rw[zm n2,zm n1];exact hb) (.lst (by rw[Z7 hr1,zr]) (Wu _))
     ·exact q1.elim
    ·exact q1.elim
   | _=>exact q1.elim
end
noncomputable def Vu:T->T->R T
 | .int i,.int j=>if 0 < j/\j.natAbs.log2 < 9000 then .ok (.int (i / j)) else .bad
 | _,_=> .bad
section
theorem gC:OpR X (binaryOp .FloorDiv) (L2.rI (λ_ j=>0 < j/\j.natAbs.log2 < 9000) λi j=> .int (i / j)):=opI λi j _ _ _ _ _ hc q=>by
 exact floordiv_int (by omega) (by rw[eC i (by omega)];exact q) (.inl (PyProof.noPylong_of_log2 hc.2))
theorem X7:OpR X (binaryOp .FloorDiv) (rG Y Vu):=by
 intro pins s σ H x y v u Q I rx ry h;obtain⟨B,t,t',sB,r,r',q⟩:=h;cases r with
 | int i=>
  cases r' with
  | int j=>
   by_cases hj:0 < j/\j.natAbs.log2 < 9000
   ·exact gC _ s σ H _ _ v u Q I rx ry ⟨i,j,rfl,rfl,hj,po0 sB q (if_pos hj) (.int _)⟩
   ·rw[show Vu (.int i) (.int j)= .bad from if_neg hj]at q;exact q.elim
  | _=>exact q.elim
 | _=>cases r' <;> exact q.elim
theorem z1V (ha:Snd X Y a fa)(hb:Snd X Y b fb):Snd X Y (.BinOp a .FloorDiv b pos) (zb Vu fa fb):=We X7 ha hb
end
noncomputable def big:Nat:=2 ^ 8000
def mlT:T->T->R T
 | .int i,.int j=>if i.natAbs < big/\j.natAbs < big then .ok (.int (i*j)) else .bad
 | _,_=> .bad
theorem uU (h:i.natAbs < big):i7 i<=2 ^ 20:=by
 unfold i7;split
 ·exact b6 _
 ·rename_i h0;have h0:i.natAbs ≠ 0:=λz=>h0 (by rw[Int.natAbs_eq_zero.mp z];rfl)
  have h1:=(Nat.log2_lt h0).mpr h;omega
section
theorem z1W:OpR X (binaryOp .Mult) (L2.rI (λi j=>i.natAbs < big/\j.natAbs < big) λi j=> .int (i*j)):=opI λi j _ _ _ _ _ hc q=>mul_int q (IntMulOk.of_bits (uU hc.1) (uU hc.2))
theorem gD:OpR X (binaryOp .Mult) (rG Y mlT):=by
 intro pins s σ H x y v u Q I rx ry h;obtain⟨B,t,t',sB,r,r',q⟩:=h;cases r with
 | int i=>
  cases r' with
  | int j=>
   by_cases hj:i.natAbs < big/\j.natAbs < big
   ·exact z1W _ s σ H _ _ v u Q I rx ry ⟨i,j,rfl,rfl,hj,po0 sB q (if_pos hj) (.int _)⟩
   ·rw[show mlT (.int i) (.int j)= .bad from if_neg hj]at q;exact q.elim
  | _=>exact q.elim
 | _=>cases r' <;> exact q.elim
theorem s_ml (ha:Snd X Y a fa)(hb:Snd X Y b fb):Snd X Y (.BinOp a .Mult b pos) (zb mlT fa fb):=We gD ha hb
end
theorem X8:typeLookup (.type "tuple") "keys"=pure none:=by rw[cW,builtinLookup_eq_fast];kernel_rfl
theorem X9:typeLookup (.type "tuple") "__getattr__"=pure none:=by rw[cW,builtinLookup_eq_fast];kernel_rfl
section
theorem vk {sl:Array (Option Value)}{u:Tok}{Q:PySem.Fin->Shared->Prop}(hh:A.handled=none)(hl:s.heap.get? l=some { cls:= .type "tuple",dict:=none,data:= .seq its n,slots:=sl })
  (h:∀h' tk e,Heap.NewAttrErr s.heap h' e (.ref l) "keys"->E (.ref e) { s with heap:=h',toks:=tk }):
  wpAny (model prog w) A (Builtin.«object.__getattribute__» ⟨[.ref l,.str "keys" u],[]⟩) Q E s:=by
 obtain⟨hp,g,d,tk,os⟩:=s;have hT:(⟨hp,g,d,tk,os⟩:Shared).TypeIs (.ref l) "tuple":=⟨_,hl,rfl⟩;have f1:=X8;unfold Builtin.«object.__getattribute__»
 repeat (any_goals (first | assumption | wp_step))
 exact wpAny_raiseAttrError hh h (attrMsg_fits (by decide+kernel) (by decide+kernel))
end
section
theorem Xa {l:Addr}{its:Array Value}{n:Nat}{sl:Array (Option Value)}{u:Tok}{R:Result->Shared->Prop}(hh:A.handled=none)(hl:s.heap.get? l=some { cls:= .type "tuple",dict:=none,data:= .seq its n,slots:=sl })
  (h:∀h' tk e,Heap.NewAttrErr s.heap h' e (.ref l) "keys"->R (.error (.ref e)) { s with heap:=h',toks:=tk }):
  codeAny (model prog w) A (.call (.builtin "tuple.__getattribute__") ⟨[.ref l,.str "keys" u],[]⟩) R s:=
 codeAny_call_builtin cx.plain F.entry_tuple_ga (cx.check _ _ _ _ _ _ _ _ (show s.TypeIs _ _ from ⟨_,hl,rfl⟩) (F.args_tuple_getattribute_2 _ _) (vk hh hl h))
theorem Xb {l:Addr}{its:Array Value}{n:Nat}{sl:Array (Option Value)}{Q:Option Value->Shared->Prop}(hh:A.handled=none)(hl:s.heap.get? l=some { cls:= .type "tuple",dict:=none,data:= .seq its n,slots:=sl })
  (h:∀h' tk,(∀b o,s.heap.get? b=some o->h'.get? b=some o)->Q none { s with heap:=h',toks:=tk }):
  wpAny (model prog w) A (getAttr? (.ref l) "keys") Q E s:=by
 obtain⟨hp,g,d,tk,os⟩:=s;have hT:∀t,(⟨hp,g,d,t,os⟩:Shared).TypeIs (.ref l) "tuple":=λ_=>⟨_,hl,rfl⟩;have f1:=sub_AttributeError;have f2:=cx.lookup;have f3:=cx.bind (.ref l);have f5:=X9;unfold getAttr? getAttrBy? getAttrBy
 repeat (any_goals (first | assumption | exact hT _ | wp_step))
 refine Xa (s:=⟨hp,g,d,tk+1,os⟩) hh hl λh' tk' e hx=> ?_;obtain⟨t',u',he⟩:=hx.there;have hE:(⟨h',g,d,tk',os⟩:Shared).TypeIs (.ref e) "AttributeError":=⟨_,he,rfl⟩;show wpAny _ _ (getattributeRaised _ _ _ _ _ _ _) _ _ _;unfold getattributeRaised
 repeat (any_goals (first | assumption | wp_step))
 exact h _ _ hx.keeps
end
noncomputable def Zc (h:Heap)(its:List Value)(ps:List (Str×Int)):Prop:=Paired (λv (p:Str×Int)=>∃a t u n ob,v=Value.ref a/\h.get? a=some ob/\ob.cls= .type "tuple"/\ob.data= .seq #[.str p.1 t,.int p.2 u] n) its ps
theorem Zc.keep {ps:List (Str×Int)}(x:Zc h its ps)(k:∀b o,h.get? b=some o->h'.get? b=some o):Zc h' its ps:=
 Paired.mapP x λv p ⟨a,t,u,n,ob,e1,e2,e3⟩=>⟨a,t,u,n,ob,e1,k _ _ e2,e3⟩
theorem Zc.off {h h' :Heap}{D I:Addr}(k:∀b o,b ≠ D->b ≠ I->h.get? b=some o->h'.get? b=some o):∀{its:List Value} {ps:List (Str×Int)},Zc h its ps->(∀v a,v∈its->v=Value.ref a->a ≠ D/\a ≠ I)->Zc h' its ps
 | _,_,.nil,_=> .nil
 | _,_,.cons r q,ha=>by
  obtain⟨a,t,u,n,ob,e1,e2,e3⟩:=r;obtain⟨n1,n2⟩:=ha _ a ac e1;exact .cons ⟨a,t,u,n,ob,e1,k _ _ n1 n2 e2,e3⟩ (Zc.off k q λv b hv=>ha v b (a8 _ hv))
def KVs (kvs:List (Key×Value))(ps:List (Str×Int)):Prop:=Paired (λ(q:Key×Value) (p:Str×Int)=>q.1=Sum.inr p.1/\∃t,q.2=Value.int p.2 t) kvs ps
theorem KVs.snoc:∀{kvs:List (Key×Value)} {ps:List (Str×Int)} {x:Str} {i:Int} {t:Tok},KVs kvs ps->KVs (kvs++[(Sum.inr x,.int i t)]) (ps++[(x,i)])
 | _,_,x,i,t,.nil=> .cons ⟨rfl,t,rfl⟩ .nil
 | _,_,x,i,t,.cons r q=> .cons r (KVs.snoc q)
theorem KVs.keys:∀{kvs:List (Key×Value)} {ps:List (Str×Int)},KVs kvs ps->kvs.map (·.1)=ps.map λp=>(Sum.inr p.1:Key)
 | _,_,.nil=>rfl
 | _,_,.cons r q=>by rw[ay,ay,r.1,KVs.keys q]
theorem KVs.len {kvs:List (Key×Value)}{ps:List (Str×Int)}(h:KVs kvs ps):kvs.length=ps.length:=by
 have:=congrArg iZ h.keys;simpa using this
theorem UL {kvs:List (Key×Value)}{k:Key}(h:k ∉ kvs.map (·.1)):stored kvs k v=kvs++[(k,v)]:=by
 unfold stored;rw[if_neg];intro z;rw[cP]at z;obtain⟨q,hq,e⟩:=z;exact h (au.mpr ⟨q,hq,of_decide_eq_true e⟩)
section
variable {prog:Program}{w:World}{A:Around}{R:Result->Shared->Prop}{I:Addr}{fp wr:List Addr}{n:Nat}{P:Nat->Value->Prop}{St:Nat->Heap->Prop}
theorem uV:entryFor table "dict.update.loop"=some Builtin.«dict.update.loop»:=entryFor_of_tree (by kernel_rfl)
theorem uW:plainId "dict.update.loop"=true:=by decide+kernel
theorem jB {α β:Type}{F:α->β->Prop}:∀{xs:List α} {ys:List β} {i:Nat} {y:β},Paired F xs ys->ys[i]? =some y->∃x,xs[i]? =some x/\F x y
 | _,_,_,_,.nil,h=>by simp at h
 | _,_,0,y,.cons r _,h=>by simp at h;subst h;exact⟨_,rfl,r⟩
 | _,_,i+1,y,.cons _ q,h=>by
  obtain⟨x,e,r⟩:=jB q (by simpa using h)
  exact⟨x,by simpa using e,r⟩
theorem JT {α β:Type}{F:α->β->Prop}:∀{xs:List α} {ys:List β},Paired F xs ys->xs.length=ys.length
 | _,_,.nil=>rfl
 | _,_,.cons _ q=>by simp[JT q]
theorem Yv {l:Addr}{its:List Value}{ps:List (Str×Int)}(hh:A.handled=none)(I D:Addr)(hlI:l ≠ I)(hD:D ≠ I)(hDl:D ≠ l)(nd:(ps.map (·.1)).Nodup)(hps:ps.length<=sizeLine)(kw:Value):
  ∀(m i:Nat) (s:Shared) (kvs:List (Key×Value)) (tk0:Tok),ps.length - i=m->i<=ps.length->s.heap.IsTupleIter I l i->s.heap.IsTuple l its.toArray->Zc s.heap its ps->(∀v a,v∈its->v=Value.ref a->a ≠ D/\a ≠ I)->
   s.heap.DictOf (ZK prog w) D kvs->KVs kvs (ps.take i)->
   (∀h' tk kvs',(∀b o,b ≠ D->b ≠ I->s.heap.get? b=some o->h'.get? b=some o)->h'.DictOf (ZK prog w) D kvs' ->KVs kvs' ps->R (.ok (.ret kw)) { s with heap:=h',toks:=tk })->
   codeAny (model prog w) A (.builtin "dict.update.loop" ⟨[.ref D,.ref I,.int (i:Int) tk0,kw],[]⟩) R s:=by
 intro m
 induction m with
 | zero=>
  intro i s kvs tk0 hm hi hit ht hp ha hd hk hR;obtain rfl:i=ps.length:=by omega
  refine aS uV ?_;unfold Builtin.«dict.update.loop»;dsimp only;have hl:=JT hp;refine a7 (wpAny_pyNext_tuple_end hh hit ht (by simp[hl]) λh' he=> ?_)
  rw[List.take_length]at hk;refine a7 (b7 (a:=()) rfl (ag ?_));exact hR h' s.toks kvs (λb o _ hb e=>he b o hb e) (hd.extBut he hD) hk
 | succ m ih=>
  intro i s kvs tk0 hm hi hit ht hp ha hd hk hR;refine aS uV ?_;unfold Builtin.«dict.update.loop»;dsimp only;have hi' :i < ps.length:=by omega
  have ei:=a9 hi';obtain⟨v,ev,a,t,u,n,ob,rfl,ga,ca,da⟩:=jB hp ei;refine a7 (wpAny_pyNext_tuple_item hit ht (x:= .ref a) (by simpa using ev) λh1 hit1 sb=> ?_)
  obtain⟨naD,naI⟩:=ha _ a (aN ev) rfl;have ga1:=(sb.2 a naI).trans ga;have hd1:=hd.sameBut sb hD;have hTa:dQ { s with heap:=h1 } (.ref a) "tuple":=⟨_,ga1,ca⟩;refine a7 (bB (a7 (de ?_)));refine a7 (cT hTa ?_);refine a7 (bp ga1 da (ag ?_));have hnew:(Sum.inr ps[i].1) ∉ kvs.map (·.1):=by
   rw[hk.keys];intro z;obtain⟨p,hp',e⟩:=au.mp z;have e:p.1=ps[i].1:=by injection e
   obtain⟨j,hj,ej⟩:=cC.mp hp';rw[cL]at hj;rw[eX]at ej;have hji:j < i:=by omega
   have:=(bX.mp nd) j i (by rw[aa];omega) (by rw[aa];exact hi') hji
   rw[fw,fw]at this;exact this (by rw[ej,e])
  have hz:kvs.length<=sizeLine:=by rw[hk.len,cL];exact aq (Nat.min_le_right _ _) hps
  refine bB (wpAny_dictSet_pairs (J8 _ _ _ _) hd1 λh2 hd2 sb2=> ?_);rw[UL hnew]at hd2;refine ag ⟨aZ uW _, ?_⟩;have hk2:KVs (kvs++[(Sum.inr ps[i].1,.int ps[i].2 u)]) (ps.take (i+1)):=by
   rw[List.take_succ,ei];exact hk.snoc
  have k12:∀b o,b ≠ D->b ≠ I->s.heap.get? b=some o->h2.get? b=some o:=λb o n1 n2 e=>(sb2.2 b n1).trans ((sb.2 b n2).trans e);have:=ih _ { s with heap:=h2,toks:=s.toks+1 } _ 0 (by omega) (by omega) (hit1.extBut sb2.extBut (bb hD)) (Heap.IsTuple.at ht λo e=>k12 l o (bb hDl) hlI e) ?_ ha hd2 hk2 (λh' tk kvs' k' d' q' =>hR h' tk _ (λb o n1 n2 e=>k' b o n1 n2 (k12 b o n1 n2 e)) d' q')
  ·exact this
  ·exact hp.off k12 ha
end
theorem Zc.mem {h:Heap}:∀{its:List Value} {ps:List (Str×Int)},Zc h its ps->∀{v:Value} {a:Addr},v∈its->v=Value.ref a->∃o,h.get? a=some o
 | _,_,.nil,_,_,hv,_=>by simp at hv
 | _,_,.cons r q,v,a,hv,e=>by
  rcases aj.mp hv with z | hv
  ·obtain⟨b,t,u,n,ob,e1,e2,_⟩:=r;subst z;rw[e]at e1;cases e1;exact⟨_,e2⟩
  ·exact Zc.mem q hv e
section
theorem Yw {l:Addr}{its:List Value}{ps:List (Str×Int)}{n:Nat}{sl:Array (Option Value)}{Q:Value->Shared->Prop}(hh:A.handled=none)(hl:s.heap.get? l=some { cls:= .type "tuple",dict:=none,data:= .seq its.toArray n,slots:=sl })
  (hp:Zc s.heap its ps) (nd:(ps.map (·.1)).Nodup) (hps:ps.length<=sizeLine)
  (h:∀h' tk kvs,(∀b o,s.heap.get? b=some o->h'.get? b=some o)->h'.DictOf (ZK prog w) s.heap.objs.size kvs->KVs kvs ps->Q (.ref s.heap.objs.size) { s with heap:=h',toks:=tk }):
  wpAny (model prog w) A (call (.type "dict") [.ref l]) Q E s:=by
 refine callType_codes (Q₁:=λobj s₁=>obj= .ref _/\s₁={ s with heap:=s.heap.push _ }) F.kt_called_dict (F.kt_typeCall_dict_1 _) F.entry_dict_init (kt_code_dict_new _ ⟨rfl,rfl⟩) ?_
 rintro obj s₁ ⟨rfl,rfl⟩
 generalize hG:s.heap.push _=G;have hnew:G.DictOf (ZK prog w) s.heap.objs.size []:=by rw[← hG];exact Heap.DictOf.new _
 have gk:∀b o,s.heap.get? b=some o->G.get? b=some o:=λb o e=>by rw[← hG];exact ab _ e
 have gl:=gk _ _ hl;have hlt:=ao hl;have hT:dQ { s with heap:=G } (.ref l) _:=⟨_,gl,rfl⟩;refine⟨hnew.typeIs,F.args_dict_init_2 _ _, ?_⟩;refine a7 ?_;refine a7 (wpAny_notOrdered_dict hnew.typeIs ?_);refine ag ?_;refine a7 (cT hT ?_);refine a7 (Xb hh gl λh1 tk1 k1=> ?_);refine a7 (cu ?_);have gl1:=k1 _ _ gl;have hL1:h1.IsTuple l _:=⟨_,gl1,rfl,n,rfl⟩;refine a7 (wpAny_pyIter_tuple hL1 ?_);generalize hG2:h1.push _=G2;have D0:s.heap.objs.size < h1.objs.size:=by
  obtain⟨o,_,_,e,_⟩:=id hnew;exact ao (k1 _ _ e)
 have k2:∀b o,h1.get? b=some o->G2.get? b=some o:=λb o e=>by rw[← hG2];exact ab _ e
 have gi:G2.get? h1.objs.size=some { cls:= .type "tuple_iterator",data:= .fields #[.ref l,.int 0 0] }:=by rw[← hG2];exact af _ rfl
 have hd2:G2.DictOf (ZK prog w) s.heap.objs.size []:=by
  obtain⟨o,es,ep,e,r⟩:=hnew;exact⟨o,es,ep,k2 _ _ (k1 _ _ e),r⟩
 refine ag ⟨aZ uW _, ?_⟩;refine Yv (A:=A.in1) hh _ _ (ax (fN hlt D0)) (ax D0) (bT hlt) nd hps _ _ 0 _ [] 0 rfl (b6 _) ⟨_,gi,rfl,rfl⟩ ⟨_,k2 _ _ gl1,rfl,n,rfl⟩ (hp.keep λb o e=>k2 b o (k1 b o (gk b o e))) (λv a hv e=> ?_) hd2 .nil λh' tk kvs kk dd qq=> ?_
 ·obtain⟨o,eo⟩:=hp.mem hv e;have:=ao eo;exact⟨ax this,ax (fN this D0)⟩
 ·refine⟨rfl,h h' tk kvs (λb o e=>kk b o (ax (ao e)) (ax (fN (ao e) D0)) (k2 b o (k1 b o (gk b o e)))) dd qq⟩
end
abbrev kvV (ps:List (Str×Int)):List (Key×V):=ps.map λp=>(Sum.inr p.1,V.int p.2)
theorem gE:∀{kvs:List (Key×Value)} {ps:List (Str×Int)},KVs kvs ps->KV (kvV ps) kvs
 | _,_,.nil=> .nil
 | _,_,.cons r q=>by
  obtain⟨e,t,e2⟩:=r;exact .cons ⟨e.symm,⟨t,e2⟩⟩ (gE q)
theorem Yx:∀{ps:List (Str×Int)} {kvs:List (Key×Value)},KV (kvV ps) kvs->KVs kvs ps
 | [],_,.nil=> .nil
 | p :: ps,_,.cons r q=>by
  obtain⟨e,t,e2⟩:=r;exact .cons ⟨e.symm,t,e2⟩ (Yx q)
theorem Vv:∀{kvs:List (Key×Value)} {ps:List (Str×Int)} {x:Str} {i:Int},KVs kvs ps->ps.lookup x=some i->∃t,valueAt kvs (Sum.inr x)=some (.int i t)
 | _,_,x,i,.nil,h=>by simp at h
 | _,_,x,i,.cons (b:=p) r rs,h=>by
  obtain⟨e,t,e2⟩:=r;rw[aP]at h
  by_cases hx:x=p.1
  ·have:(x == p.1)=true:=by simp[hx]
   rw[this]at h;cases h;unfold valueAt;rw[l9,show decide _=true from decide_eq_true (by rw[e,hx])]
   simp[e2]
  ·have:=beq_eq_false_iff_ne.mpr hx;rw[this]at h;obtain⟨t',h'⟩:=Vv rs h;refine⟨t', ?_⟩;unfold valueAt at h' ⊢;rw[l9,show decide _=false from decide_eq_false (by rw[e];intro z;injection z with z;exact hx z.symm)]
   exact h'
theorem Yy {ps:List (Str×Int)}(h:jz (t :: ts)=some ps):∃x i l,t= .tup [.str x,.int i]/\jz ts=some l/\ps=(x,i) :: l:=by
 unfold jz at h;split at h
 ·rename_i e;cases e
 ·rename_i x i r e;injection e with e1 e2;subst e1 e2;split at h
  ·rename_i l el;cases h;exact⟨x,i,l,rfl,el,rfl⟩
  ·cases h
 ·cases h
theorem Yz:∀{ts:List T} {ps:List (Str×Int)},jz ts=some ps->ps.length=ts.length
 | [],_,h=>by cases h;rfl
 | t :: ts,ps,h=>by
  obtain⟨x,i,l,rfl,el,rfl⟩:=Yy h;simp[Yz el]
theorem z1X (h:zC H ys [.str x,.int i]):ys=[.str x,.int i]:=by
 cases h with
 | cons r1 h=>
  cases r1;cases h with
  | cons r2 h=>
   cases r2;cases h;rfl
theorem Xc (h:zU [V.str x,V.int i] its):∃t u,its=[.str x t,.int i u]:=by
 obtain⟨u1,u2,rfl,⟨t1,rfl⟩,⟨t2,rfl⟩⟩:=Uy h;exact⟨t1,t2,rfl⟩
theorem vm {σ:L2.St}(I:Inv X pins σ H s)(r:Rep H v (.tup [.str x,.int i]))(rv:Z3 v u):
  ∃a t u' n ob,u=Value.ref a/\s.heap.get? a=some ob/\ob.cls= .type "tuple"/\ob.data= .seq #[.str x t,.int i u'] n:=by
 cases r with
 | @tup a ys _ ha ry=>
  obtain rfl:u=Value.ref a:=rv;have hy:=z1X ry;subst hy;obtain⟨_,its',rv',⟨ob,e1,e2,n,e3⟩,_⟩:=(show zX _ X.w H _ a _ from I.hok a _ ha);obtain⟨t1,t2,rfl⟩:=Xc rv';exact⟨a,t1,t2,n,ob,rfl,e1,e2,e3⟩
theorem uX {X:Cx}{pins:List (Addr×Obj)}{σ:L2.St}{H:Hp}{s:Shared}(I:Inv X pins σ H s):∀{xs:List V} {ts:List T} {its:List Value} {ps:List (Str×Int)},zC H xs ts->zU xs its->jz ts=some ps->Zc s.heap its ps/\∀(i:Int) t,its[0]? ≠ some (Value.int i t)
 | _,_,_,ps,.nil,.nil,h=>by cases h;exact⟨.nil,λ_ _ z=>by simp at z⟩
 | _,_,_,ps,.cons r rs,.cons rv vs,h=>by
  obtain⟨x,i,l,rfl,el,rfl⟩:=Yy h;obtain⟨p1,_⟩:=uX I rs vs el;obtain⟨a,t1,t2,n,ob,rfl,e⟩:=vm I r rv;exact⟨.cons ⟨a,t1,t2,n,ob,rfl,e⟩ p1,λ_ _ z=>by simp at z⟩
section
theorem gF {σ:L2.St}(I:Inv X pins σ H s):sysModules < s.heap.objs.size:=fN (by decide) (I.mod.glob.keeps I.bk).lt
theorem UM (hh:X.A.handled=none):Zb X (.type "dict") (λvs H Q=>∃l xs ts ps,vs=[.ref l]/\H l=some (.tup xs)/\zC H xs ts/\jz ts=some ps/\(ps.map (·.1)).Nodup/\
  ∀q,H q=none->Q (.ref q) (upd H q (.dK (kvV ps)))):=by
 intro pins s σ H vs us Q I rv h;obtain⟨l,xs,ts,ps,rfl,hl,r,ey,nd,q⟩:=h;obtain⟨u,rfl,ru⟩:=Zp rv;obtain rfl:u=Value.ref l:=ru;obtain⟨hz,its,rv,⟨⟨c,dd,da,sl⟩,ho,hc,n,hd⟩,hno⟩:=(show zX _ X.w H _ l _ from I.hok l _ hl);subst hc hd;obtain⟨pa,ni⟩:=uX I r rv ey;have hb:ps.length<=sizeLine:=by rw[Yz ey,← r.length];exact hz
 have hdn:dd=none:=by
  rcases hno with ⟨i,t,e⟩ | ⟨o,e1,e2⟩
  ·exact absurd (by simpa using e) (ni i t)
  ·rw[ho]at e1;cases e1;exact e2
 subst hdn;refine Yw hh ho pa nd hb λh' tk kvs k dd qq=> ?_;refine⟨.ref _,_,I.laid k (am _) ?_,rfl,q _ (I.hok.fresh (am _))⟩;exact⟨by rw[aa];exact hb,beq_eq_false_iff_ne.mpr (bb (ax (gF I))),kvs,gE qq,dd⟩
theorem gG:IxR X (λx y H Q=>∃a ps k i,x= .ref a/\y= .str k/\H a=some (.dK (kvV ps))/\ps.lookup k=some i/\Q (.int i) H):=by
 intro value slice pins s σ H x y v u Q I rx ry h hs;obtain⟨p,ps,k,i,rfl,rfl,hp,he,q⟩:=h;cases rx;obtain⟨t,rfl⟩:=ry;obtain⟨hz,hS,vs,r,m⟩:=(show zX _ X.w H _ p _ from I.hok p _ hp);obtain⟨t',e⟩:=Vv (Yx r) he;exact tail_any m.typeIs slot_dict_getitem.lookup (wpAny_getItem_of (J8 _ _ _ _) m.mapOf e ⟨.int i,H,I.tok _,⟨_,rfl⟩,q⟩) hs
theorem YA:MtR X "dict.values" (λx xs H Q=>∃a ps,x= .ref a/\xs=[]/\H a=some (.dK (kvV ps))/\∀r,H r=none->Q (.ref r) (upd H r (.ext λh=>h.IsValuesView r a))):=by
 intro pins s σ H x xs v0 us Q I rx rv h;obtain⟨a,ps,rfl,rfl,ha,q⟩:=h;obtain rfl:v0=Value.ref a:=rx;cases rv;obtain⟨hz,hS,vs,r,m⟩:=(show zX _ X.w H _ a _ from I.hok a _ ha);refine call_meetsIn f6 m.typeIs PySem.F.entry_dict_values (PySem.F.args_dict_values_1 _) (meets_dict_values _ a hS) ⟨⟨vs,m⟩, ?_⟩;have hle:s.heap.objs.size<=s.heap.objs.size:=am _;refine⟨.ref _,_,I.laid (λb o e=>ab _ e) hle ?_,rfl,q _ (I.hok.fresh hle)⟩;exact⟨⟨_,af _ rfl,rfl,rfl⟩,⟨_,af _ rfl⟩,λh1 h2 ⟨o,e1,e2⟩ e=>⟨o,e _ e1,e2⟩⟩
theorem YB (val:Nat->Int):∀n:Nat,preSum val n=((bc n).map val).sum
 | 0=>rfl
 | n+1=>by
  rw[fU,bC,List.sum_append,← YB val n];simp[preSum]
theorem YC (hh:X.A.handled=none):Zb X (.builtin "sum") (λvs H Q=>∃r φ a ps,vs=[.ref r]/\H r=some (.ext φ)/\(∀h:Heap,φ h->h.IsValuesView r a)/\H a=some (.dK (kvV ps))/\Q (.int (ps.map (·.2)).sum) H):=by
 intro pins s σ H vs us Q I rv h;obtain⟨r,φ,a,ps,rfl,hr,hφ,ha,q⟩:=h;obtain⟨u,rfl,ru⟩:=Zp rv;obtain rfl:u=Value.ref r:=ru;obtain⟨h1,_,_⟩:=(show zX _ X.w H _ r _ from I.hok r _ hr);obtain⟨hz,hS,vs,rr,m⟩:=(show zX _ X.w H _ a _ from I.hok a _ ha);obtain⟨ep,hat⟩:=m.dictAt;have hk:=Yx rr;have K:=PySem.W.kdl_values (prog:=X.prog) (knd:=ZK _ X.w) (r:=r) (d:=a) (kvs:=vs) (ep:=ep);refine call_sum_walkAnyS ?_;obtain⟨oI,St,hit,W,st⟩:=K.iter X.A.in1 s hh ⟨hφ _ h1,hat⟩;refine hit _ _ ⟨s.heap.objs.size,_,_,_,_,_,_,λi=>((ps[i]?).map (·.2)).getD 0,rfl,W.toS,st,λb hb=> ?_,λi v hv=> ?_,λs' t' hm=> ?_⟩
 ·rw[size_push'];rcases aj.mp hb with e | hb
  ·rw[e];exact cN _
  ·rw[aC.mp hb];exact bJ (I.hok.lt ha)
 ·obtain⟨k,hv⟩:=hv;have hi:i < ps.length:=by rw[← hk.len];exact(ak.mp hv).1
  obtain⟨q',e1,e2,t,e3⟩:=jB hk (a9 hi);rw[hv]at e1;cases e1;exact⟨t,by dsimp only;rw[a9 hi];exact e3⟩
 ·have kp:=λb o e=>
   hm.heap b o (λz=>absurd (ao e) (by rw[aC.mp z];exact ba _)) (ab _ e)
  rw[Moved.eq_with hm];have es:preSum (λi=>((ps[i]?).map (·.2)).getD 0) vs.length=(ps.map (·.2)).sum:=by
   rw[YB,hk.len];congr 1
   refine cB λi=> ?_;rw[ar,ar]
   by_cases hi:i < ps.length
   ·simp[hi]
   ·rw[aH (by simp;omega),aH (by omega)];rfl
  rw[es];exact⟨.int _,H,I.kept kp,⟨_,rfl⟩,q⟩
end
theorem Xd (h:Yf t k= .ok v):∃ts ps x i,t= .tup ts/\k= .str x/\jz ts=some ps/\(ps.map (·.1)).Nodup/\ps.lookup x=some i/\v= .int i:=by
 unfold Yf at h;split at h
 ·rename_i ts x;split at h
  ·rename_i l e;split at h
   ·rename_i nd;split at h
    ·rename_i i ei;cases h;exact⟨ts,l,x,i,rfl,rfl,e,nd,ei,rfl⟩
    ·cases h
   ·cases h
  ·cases h
 ·cases h
theorem YD (t k:T):(∃v,Yf t k= .ok v)\/Yf t k= .bad:=by
 unfold Yf;split
 ·split
  ·split
   ·split
    ·exact .inl ⟨_,rfl⟩
    ·exact .inr rfl
   ·exact .inr rfl
  ·exact .inr rfl
 ·exact .inr rfl
section
theorem vn {ps:List (Str×Int)}(ht:t= .tup ts)(e:jz ts=some ps)(nd:(ps.map (·.1)).Nodup):Wo t= .ok (.int (ps.map (·.2)).sum):=by
 subst ht;unfold Wo;dsimp only;rw[e];dsimp only;rw[if_pos nd]
theorem Xe (hij:i ≠ j)(hy:Y.cl=cl)(F:W2 X.prog X.w X.K X.mg X.base CX0 jf fo fd ps (spP cl 2 g))(hr:jU k X.A)(hjf:jf<=k)(gf:Gl X f)
  (mf:X.mg f=some (.ref fo)) (kp:cK X.K (.ref fo)=true) (bd:L2.Binds X.K fd ps []) (hN:X.N.Nodup) (hi:X.N[i]? =some x) (hx:L2.Loc X.env.scope x) (gl:Gl X "dict") (mg:X.mg "dict"=none) (gs:Gl X "sum") (ms:X.mg "sum"=none)
  (pi:PE X (.Name x p3) (Qi i)) (pj:PE X (.Name y p4) (Qi j)) (ha:Snd X Y a fa) (pi' :PE X (.Name x p5) (Qi i):=by exact V0 (by rfl) (by rfl)) (hs:St1 X a:=by exact st1 rfl)
  (hsw:swapsWith (.Call (.Name "dict" p2) [a] [] pa) (some (.Name x p1)) pb.line X.env=pure false:=by rfl) (hf:X.fn x=true\/X.env.scope.names.lookup x=some .local:=by first | exact .inl rfl | exact .inr rfl | assumption) (hd:(f == ("__debug__":Str))=false:=by decide)
  (hb:attributeBase (.Name x p5) "values" X.env (eval (.Name x p5) X.env)=eval (.Name x p5) X.env:=by rfl) (hli:(p6.endLine == p7.line)=true:=by rfl):
  WY X Y [.Assign [.Name x p1] (.Call (.Name "dict" p2) [a] [] pa) pb,.Return (some (.Call (.Name f p8) [.Subscript (.Name x p3) (.Name y p4) p9,.Call (.Name "sum" pc) [.Call (.Attribute (.Name x p5) "values" p6) [] [] p7] [] pd] [] pos)) pos'] (vg j fa g):= .mk λρ=>by
 subst hy;have hh:=hr.hd;have st2' :starEach [.Subscript (.Name x p3) (.Name y p4) p9,.Call (.Name "sum" pc) [.Call (.Attribute (.Name x p5) "values" p6) [] [] p7] [] pd] X.env=(false,eval _ X.env) :: starEach _ X.env:=zV rfl;have W:=(uB (uC hN hi hx (ZD (UM hh) gl mg PyProof.Rows.Boot.«dict» (zl (ha ρ) zK hs) (by decide) (by decide) hs rfl) hsw hf)
  (yi (V2 (pos:=pos') (yy (E:=Y.E) (p:=p8) (pos:=pos) F (hr.mono hjf) gf mf kp bd .nil KN
   (zl (K4 gG pi pj (λ_ _=>rfl)) (zl (Zv (YC hh) gs ms PyProof.Rows.Boot.«sum» (zl (K8 PySem.F.plainAttrs_dict f6 PySem.F.type_dict_values YA pi' hb hli) zK (st1 rfl)) (by decide) (by decide) (st1 rfl) rfl) zK (st1 rfl)) st2') hd st2' (j3 rfl)))))
 intro pins s σ H D Iv ⟨B,I,q⟩;have hlen:i < σ.length:=by rw[Iv.len];exact(ak.mp hi).1
 refine W pins s σ H D Iv ?_;have q' :PoS Y B ((fa ρ).s λt=>(((vE j ρ).bind λk=>(Yf t k).bind λx=>(Wo t).bind λy=>g [x,y]).s λt=> .rt t)) D:=by
  have e:vg j fa g ρ=((fa ρ).s λt=>(((vE j ρ).bind λk=>(Yf t k).bind λx=>(Wo t).bind λy=>g [x,y]).s λt=> .rt t)):=by
   unfold vg;cases fa ρ <;> rfl
  rw[← e];exact q
 refine jR I q' λt v H1 _ s1 r1 I1 q1=> ?_;unfold vE at q1;split at q1
 ·rename_i kk e;obtain⟨u,eu,ru⟩:=I1.vl j kk e;have q1:PoS Y _ (((Yf t kk).bind λx=>(Wo t).bind λy=>g [x,y]).s λt=> .rt t) D:=q1;rcases YD t kk with ⟨v',e'⟩ | e'
  ·obtain⟨ts,qs,z,m,rfl,rfl,e1,nd,ei,rfl⟩:=Xd e';rw[e']at q1;rw[vn rfl e1 nd]at q1;have q1:PoS Y _ ((g _).s λt=> .rt t) D:=q1;cases r1 with
   | @tup l xs _ h r=>
    cases ru;refine⟨l,xs,ts,qs,rfl,I1.sB _ _ h,r.mono I1.sB,e1,nd,λw hw=> ?_⟩;have gi:(σ.set i (some (V.ref w)))[i]? =some (some (V.ref w)):=by rw[bj hlen]
    have gj:(σ.set i (some (V.ref w)))[j]? =some (some (V.str z)):=by rw[aD hij];exact eu
    refine⟨_,gi,_,gj,w,qs,z,m,rfl,rfl,zr,ei, ?_⟩;refine⟨_,gi,.inr (.inr (.inl ⟨rfl,.inl ⟨_,zr⟩⟩)),w,qs,rfl,rfl,zr,λy hy=> ?_⟩;have hyw:y ≠ w:=λe=>by rw[e,zr]at hy;cases hy
    have hy1:=by rw[zm hyw]at hy;exact hy
    refine⟨y,_,w,qs,rfl,zr,λh z=>z,by rw[zm (bb hyw)];exact zr, ?_⟩
    have s13:zp H1 (upd (upd H1 w (.dK (kvV qs))) y (.ext λh=>h.IsValuesView y w)):=λb o hb=>by
     have n1:b ≠ w:=λe=>by rw[e,hw]at hb;cases hb
     have n2:b ≠ y:=λe=>by rw[e,hy1]at hb;cases hb
     rw[zm n2,zm n1];exact hb
    have I3:=I1.grow s13;refine⟨_,[.int m,.int _],rfl,I3.sB,.cons (.int _) (.cons (.int _) .nil), ?_⟩;revert q1;cases g _ with
    | bad=>exact λq1=>q1
    | ex c=>exact λq1 d H' s sB=>q1 d H' (I3.sH.trans s) ((zS.ge I1.sB s13).trans sB)
    | ok t=>exact λq1 b H' s r=>q1 b H' (I3.sH.trans s) (r.mono (Vb I3.sH I3.old s I3.sB))
  ·rw[e']at q1;exact q1.elim
 ·exact q1.elim
end
def vo:T->T->R T
 | .tup ts,.int k=>if k=1/\ts ≠ [] then .ok (.tup ts) else zN (.tup ts) (.int k)
 | _,_=> .bad
theorem UN (l:Addr)(items:Array Value)(n:Nat)(dd:Option Addr)(sl:Array (Option Value))(u:Tok):
  Meets (Builtin.«tuple.__mul__» ⟨[.ref l,.int 1 u],[]⟩) (λ_ R s=>s.heap.get? l=some { cls:= .type "tuple",dict:=dd,data:= .seq items n,slots:=sl }/\R (.ok (.ret (Value.ref l))) s):=
 .of_wp λprog w A R s h=>by
  obtain⟨hl,h⟩:=h
  wp_walk using wpAny_loadPart' hl
  exact⟨_,rfl,h⟩
theorem vp {prog:Program}{w:World}{A:Around}{E:Value->Shared->Prop}{s:Shared}{l:Addr}{its:List Value}{t:Tok}{Q:Value->Shared->Prop}(p:IsTup s.heap l its.toArray)(q:Q (.ref l) s):
  wpAny (model prog w) A (binaryOp .Mult (.ref l) (.int 1 t)) Q E s:=by
 obtain⟨⟨cls,dd,data,sl⟩,ho,hc,n,hd⟩:=id p;subst hc hd;exact wpAny_binaryOp_repeat_ref (by decide) ⟨_,ho,rfl⟩ (λs' =>dM s' 1 t) ZS fS cU jH fk.lookup
  (d9 cU (dM s 1 t) fq (eV _ _) (j9 1 t l _ n dd sl)
   ⟨ho,rfl,⟨_,ho,rfl⟩,d9 dN ⟨_,ho,rfl⟩ iA (ib _ _) (UN l _ n dd sl t) ⟨ho,q⟩⟩)
section
theorem Xf:OpR X (binaryOp .Mult) (rG Y vo):=by
 intro pins s σ H x y v u Q I rx ry h;obtain⟨B,t,t',sB,r,r',q⟩:=id h;cases r with
 | @tup l xs ts h1 r1=>
  cases r' with
  | int k=>
   by_cases hk:k=1/\ts ≠ []
   ·have eg:vo (.tup ts) (.int k)= .ok _:=if_pos hk;obtain rfl:v=Value.ref l:=rx;obtain⟨tk,rfl⟩:=ry;obtain⟨rfl,_⟩:=hk;obtain⟨its,rv,p,_⟩:=I.tuple (SqT.of (sB _ _ h1));exact vp p ⟨.ref l,H,I,rfl,po0 sB q eg (.tup h1 r1)⟩
   ·have eg:vo (.tup ts) (.int k)=zN _ _:=if_neg hk;rw[eg]at q;exact yH _ s σ H _ _ v u Q I rx ry ⟨B,.tup ts,.int k,sB,.tup h1 r1,.int k,q⟩
  | _=>exact q.elim
 | _=>cases r' <;> exact q.elim
theorem z1Y (ha:Snd X Y a fa)(hb:Snd X Y b fb):Snd X Y (.BinOp a .Mult b pos) (zb vo fa fb):=We Xf ha hb
end
section
end
end PV
namespace PySem.RV
open PySem PySem.Spec PyProof.Rows PySem.Builtin.SmallTypes
theorem Wv:Slot "reversed" "__length_hint__" "reversed.__length_hint__":=
 .of (owner:="reversed") (n:="__length_hint__") (by kernel_rfl) (by decide+kernel) (by decide+kernel) (by decide+kernel)
  (by first | exact .inl (by decide+kernel) | exact .inr (by decide+kernel)) (by kernel_rfl)
theorem UO:entryFor table "reversed.__length_hint__"=some Builtin.«reversed.__length_hint__»:=entryFor_of_tree (by kernel_rfl)
theorem YE (a:Value):argsOk "reversed.__length_hint__" ⟨[a],[]⟩:=by
 unfold argsOk;rw[signature?_of (n:="__tnih_htgnel__".toList) (by kernel_rfl) wq];kernel_rfl
theorem vq:typeLookup (.type "reversed") "__len__"=pure none:=by rw[cW,builtinLookup_eq_fast];kernel_rfl
theorem Xg:builtinKind "reversed.__length_hint__"=some .method:=by decide+kernel
theorem YF (self:Value):bindSpecial (.builtin "reversed.__length_hint__") self=pure (.builtin "reversed.__length_hint__",[self]):=by
 have hop:withoutEnding? "reversed.__length_hint__" "#opaque"=none:=by decide+kernel
 have hdat:withoutEnding? "reversed.__length_hint__" "#data"=none:=by decide+kernel
 simp only[bindSpecial,typeOf,builtinType,hop,hdat,Xg];rfl
theorem tup_at (t:IsTup h l xs)(k:∀o,h.get? l=some o->h'.get? l=some o):IsTup h' l xs:=let ⟨o,e,r⟩:=t;⟨o,k o e,r⟩
section
theorem Xh {Q:Bool->Shared->Prop}(hit:IsRv s.heap I (.ref l) ((xs.size:Int) - 1))(ht:IsTup s.heap l xs)(hz:xs.size<=sizeLine)
  (h:∀b tk,s.toks<=tk->Q b { s with toks:=tk }):wpAny (model prog w) A (eA (.ref I)) Q E s:=by
 have hf:(xs.size:Int) < 2 ^ 63:=by rw[bH]at hz;omega
 have hT:=JJ hit;refine a7 (cg hT vq ?_);refine a7 (cg hT Wv.lookup ?_);generalize hid:("reversed.__length_hint__")=id0
 wp_delta
 subst hid;refine a7 (cn (b:=true) hT Vn ?_);refine a7 (cu ?_);refine a7 (b7 (YF _) ?_);dsimp only;refine a7 (c_ (bq Wv hT UO ?_ (YE _)));refine a7 (b7 (a:=Value.ref I) rfl ?_);refine a7 (bh hit rfl (x:= .ref l) rfl ?_);refine a7 (len_tuple ht hf ?_);refine a7 (b7 rfl ?_);refine a7 (bh hit rfl (x:=rawInt _) rfl ?_);refine(show wpAny _ _ (if (xs.size:Int) < (xs.size:Int) - 1+1 then _ else retInt ((xs.size) - 1+1)) _ _ _ from ?_)
 rw[if_neg (by omega)]
 refine a7 (wpAny_mkInt ?_);refine ag ⟨_,rfl, ?_⟩;refine a7 (b7 rfl ?_);dsimp only;have e:(xs.size:Int) - 1+1=(xs.size):=by omega
 rw[e];have c1:eN (xs.size)=true:=by unfold eN;simp;omega
 have c2:b_ ((xs.size:Int)).toNat=false:=by unfold b_;simp;omega
 rw[if_neg (by rw[c1];decide),if_neg (by omega),if_neg (by rw[c2];decide)]
 exact ag (h _ _ (aq (dz _) (aq (dz _) (dz _))))
theorem vt (hh:A.handled=none)(hne:l ≠ I)(hz:xs.size<=sizeLine):Walks prog w A I [I,l] [I] xs.size (λi v=>xs[xs.size - 1 - i]? =some v) (λi h=>i<=xs.size/\IsRv h I (.ref l) ((xs.size:Int) - 1 - (i:Int))/\IsTup h l xs) where
 sub:=λb hb=>by simp at hb;simp[hb]
 frame:=λ_ _ _ x hk=>⟨x.1,hk I (by simp) _ x.2.1,tup_at x.2.2 λo e=>hk l (by simp) o e⟩
 item:=λi s Q E hi x hQ=>by
  have e:(xs.size:Int) - 1 - (i:Int)=((xs.size - 1 - i:Nat):Int):=by omega
  have hit:=x.2.1;rw[e]at hit;have hx:xs[xs.size - 1 - i]? =some (xs[xs.size - 1 - i]'(by omega)):=bW (by omega)
  refine next_item hit x.2.2 (by rw[bH]at hz;omega) hx λh' tk hit' hs' => ?_
  have e2:((xs.size - 1 - i:Nat):Int) - 1=(xs.size:Int) - 1 - ((i+1:Nat):Int):=by omega
  rw[e2]at hit';exact hQ _ h' tk hx ⟨hi,hit',tup_at x.2.2 λo eo=>(hs'.2 l hne).trans eo⟩ λb o hb eo=>hs'.extBut b o (λh=>hb (by simp[h])) eo
 done:=λs Q E x hQ=>by
  have e:(xs.size:Int) - 1 - (xs.size:Int)= -1:=by omega
  have hit:=x.2.1;rw[e]at hit;exact next_end hh hit λh' he' =>hQ h' s.toks λb o hb eo=>he' b o (λh=>hb (by simp[h])) eo
 self:=λ_ _ _ _ x hQ=>iter_rv x.2.1 hQ
theorem UP {R:List Value->Shared->Prop}(hh:A.handled=none)(hit:IsRv s.heap I (.ref l) ((xs.size:Int) - 1))(ht:IsTup s.heap l xs)(hz:xs.size<=sizeLine)(hne:l ≠ I)
  (h:∀s' acc,Moved [I] (λa b=>b=a) s s' ->ItemsOf (λi v=>xs[xs.size - 1 - i]? =some v) acc xs.size->R acc.toList s'):wpAny (model prog w) A (collect (.ref I)) R E s:=by
 have W:=vt (prog:=prog) (w:=w) (A:=A.in1) (I:=I) (l:=l) (xs:=xs) hh hne hz;have nI:=bT (ao hit);have nl:=bT (let ⟨_,e,_⟩:=ht;ao e);have nf:s.heap.objs.size ∉ [I,l]:=by simp[nI,nl]
 unfold collect;refine a7 (wpAny_runValue (aS f_ ?_));refine a7 (aM (ag ⟨aZ iC _,aS iD ?_⟩));generalize hG:s.heap.push _=G;have gk:∀b o,s.heap.get? b=some o->G.get? b=some o:=λb o e=>by rw[← hG];exact ab _ e
 have gL:G.get? s.heap.objs.size=some { cls:= .type "list",data:= .seq #[] }:=by rw[← hG];exact af _ rfl
 have gI:=gk _ _ hit;have gT:IsTup G l xs:=tup_at ht λo e=>gk _ _ e;have st:0<=xs.size/\IsRv G I (.ref l) ((xs.size:Int) - 1 - ((0:Nat):Int))/\IsTup G l xs:=⟨b6 _,by rw[show (xs.size:Int) - 1 - ((0:Nat):Int)=(xs.size:Int) - 1 by omega];exact gI,gT⟩
 have g2:bL (.ref s.heap.objs.size) (.ref I)=false:=by simp[bL,nI]
 refine(show wpAny _ A.in1 (d6 _ (.ref I) _) _ _ _ from ?_);refine a7 (cT (JJ gI) ?_);rw[if_neg (by rw[g2];decide)]
 refine a7 (iter_rv gI (a7 (bB (Xh gI gT hz λb tk htk=> ?_))));have mv:∀s',Moved _ (λa b=>b=a) { s with heap:=G,toks:=tk } s' ->Moved [I] (λa b=>b=a) s s' :=λs' m=>⟨λb o hb e=>m.heap b o (λz=>by
  rcases aj.mp z with z | z
  ·exact absurd (ao e) (by rw[z];exact ba _)
  ·exact hb z) (gk b o e),m.gens,m.drawn,m.os,aq htk m.toks⟩
 have fin:∀(h2:Heap) (c:Nat),(∀b o,b ≠ s.heap.objs.size->G.get? b=some o->h2.get? b=some o)->h2.get? s.heap.objs.size=some { cls:= .type "list",dict:=none,data:= .seq #[] c,slots:= #[] }->
   codeAny (model prog w) A (.builtin "list.extend.loop" ⟨[.ref s.heap.objs.size,.ref I,.ref s.heap.objs.size],[]⟩) (λq s' =>∃acc c',q= .ok (.ret (.ref s.heap.objs.size))/\Moved [I] (λa b=>b=a) s s' /\ItemsOf (λi v=>xs[xs.size - 1 - i]? =some v) acc xs.size/\s'.heap.get? s.heap.objs.size=some { cls:= .type "list",dict:=none,data:= .seq acc c',slots:= #[] }) { s with heap:=h2,toks:=tk }:=by
  intro h2 c k2 g3;refine codeAny_extend_loopS W.toS hz _ nf _ xs.size 0 _ #[] c rfl (b6 _) (W.frame 0 _ h2 st λb hb o e=>k2 b o (λz=>nf (z ▸ hb)) e) g3 (i_ _) λs' acc c' m gS ha=> ?_;exact⟨acc,c',rfl,mv s' ⟨λb o hb e=>m.heap b o hb (k2 b o (λz=>hb (by rw[z];exact ac)) e),m.gens,m.drawn,m.os,m.toks⟩,ha,gS⟩
 have done:∀(q:Result) (s' :Shared),(∃acc c',q= .ok (.ret (.ref s.heap.objs.size))/\Moved [I] (λa b=>b=a) s s' /\ItemsOf (λi v=>xs[xs.size - 1 - i]? =some v) acc xs.size/\s'.heap.get? s.heap.objs.size=some { cls:= .type "list",dict:=none,data:= .seq acc c',slots:= #[] })->q= .ok (.ret (.ref s.heap.objs.size))/\wpAny (model prog w) A (do
   let o ← load s.heap.objs.size
   match o.data with
   | .seq xs _=>pure xs.toList
   | _=>unsupported "internal:collect") R E s' :=by
  rintro q s' ⟨acc,c',rfl,m,ha,g⟩
  exact⟨rfl,a7 (wpAny_load g (ag (h s' acc m ha)))⟩
 cases b with
 | true=>
  refine a7 (cu (a7 ?_));have gL2:=bu (fJ (·.push Value.none)) gL rfl;refine a7 (cA gL rfl (cA gL2 rfl ?_));have gL3:=bu (fJ (·.pop)) gL2 rfl;refine ag ⟨aZ d_ _,bZ (fin _ _ (λb o hb e=>(aW _ _ (bb hb)).trans ((aW _ _ (bb hb)).trans e)) gL3) λq s' x=> ?_⟩;obtain⟨rfl,y⟩:=done q s' x;exact y
 | false=>
  refine ag ⟨aZ d_ _,bZ (fin _ _ (λb o _ e=>e) gL) λq s' x=> ?_⟩;obtain⟨rfl,y⟩:=done q s' x;exact y
theorem Xi (hh:A.handled=none)(hit:IsRv s.heap I (.ref l) ((xs.size:Int) - 1))(ht:IsTup s.heap l xs)(hz:xs.size<=sizeLine)(hne:l ≠ I)
  (h:∀s' acc,Moved [I] (λa b=>b=a) s s' ->ItemsOf (λi v=>xs[xs.size - 1 - i]? =some v) acc xs.size->Q₁ (.ref s'.heap.objs.size) { s' with heap:=s'.heap.push { cls:= .type "tuple",data:= .seq acc } }):
  codeAny (model prog w) A (.call (.builtin "tuple.__new__") ⟨[.type "tuple",.ref I],[]⟩) (wants Q₁ E) s:=by
 refine codeAny_of_tree ?_;refine(show wpAny _ A.in1 (do checkBuiltinCall "tuple.__new__" ⟨[.type "tuple",.ref I],[]⟩;again (.builtin "tuple.__new__" ⟨[.type "tuple",.ref I],[]⟩)) _ _ s from ?_)
 refine a7 (b7 (iE _) (ag ⟨aZ dG _,aS iF ?_⟩));rw[hW dG _];have hsub:=sub_tuple_self;have hinit:=init_tuple_lookup;have hmh:=madeHere_tuple;have ty:=JJ hit
 wp_walk using cT ty,UP (A:=A.in1) hh hit ht hz hne
 intro s' acc hm hacc;have e:acc.toList.toArray=acc:=by simp
 refine(show wpAny _ _ (cH acc.toList.toArray >>= λv=>ret v) _ _ _ from ?_);unfold cH;refine a7 (aM (ag ?_) (by rw[e];show acc.size<=sizeLine;rw[hacc.1];exact hz))
 rw[e];exact h s' acc hm hacc
theorem tuple_rv (hh:A.handled=none)(hit:IsRv s.heap I (.ref l) ((xs.size:Int) - 1))(ht:IsTup s.heap l xs)(hz:xs.size<=sizeLine)(hne:l ≠ I)
  (hQ:∀s' acc,Moved [I] (λa b=>b=a) s s' ->ItemsOf (λi v=>xs[xs.size - 1 - i]? =some v) acc xs.size->Q (.ref s'.heap.objs.size) { s' with heap:=s'.heap.push { cls:= .type "tuple",data:= .seq acc } }):
  wpAny (model prog w) A (call (.type "tuple") [.ref I]) Q E s:=
 callType_codes (Q₁:=λobj s₁=>s₁.TypeIs obj _/\Q obj _) db (ik _) i6
  (Xi hh hit ht hz hne λs' acc hm hacc=>⟨⟨_,af _ rfl,rfl⟩,hQ s' acc hm hacc⟩) λobj s₁ h₁=>
   ⟨h₁.1,hX obj _,object_init_meets db.init.lookup db.made (by decide) _ w _ _ _ ⟨h₁.1,rfl,h₁.2⟩⟩
end
end PySem.RV
namespace PV
open PySem PySem.Spec PyProof.Rows L2
def gH:T->R T
 | .tup xs=>if xs.length<=bnd then .ok (.tup xs.reverse) else .bad
 | _=> .bad
section
theorem Xj (hh:X.A.handled=none)(gl:Gl X "tuple")(mg:X.mg "tuple"=none)(gl' :Gl X "reversed")(mg' :X.mg "reversed"=none)(ha:Snd X Y a fa)(hs:St1 X a:=by exact st1 rfl)(hs' :St1 X (.Call (.Name "reversed" p') [a] [] pos'):=by exact st1 rfl):
  Snd X Y (.Call (.Name "tuple" p) [.Call (.Name "reversed" p') [a] [] pos'] [] pos) (ap1 gH fa):= .mk λρ=>by
 intro pins s σ H Q I ⟨B,J,q⟩;have hq:tS Y rC fa ρ σ H (λv H1=>∃l xs,v= .ref l/\H1 l=some (.tup xs)/\xs.length<=sizeLine/\∀t,H1 t=none->Q (.ref t) (upd H1 t (.tup xs.reverse))):=by
  refine step J q λt v H1 _ s1 r1 I1 q1=> ?_;cases r1 with
  | @tup l xs ts h r=>
   have q1:Po Y rC _ H1 (if ts.length<=bnd then .ok _ else .bad) Q:=q1
   split at q1
   ·rename_i hb;exact⟨l,xs,rfl,I1.sB _ _ h,by rw[r.length];exact Zq hb,λt ht=>Kg I1.sB q1 rfl r.rev ht⟩
   ·exact q1.elim
  | _=>exact q1.elim
 refine bO (ZC I gl mg PyProof.Rows.Boot.«tuple» (aV ?_ hs' rfl));refine eD (bO (ZC I gl' mg' boot_reversed (aV ?_ hs rfl)));refine thn ((zl (ha ρ) zK hs) _ _ s σ H (λvs H1=>∃l xs,vs=[.ref l]/\H1 l=some (.tup xs)/\xs.length<=sizeLine/\∀t,H1 t=none->Q (.ref t) (upd H1 t (.tup xs.reverse))) I ?_) λus s1 ⟨vs,H1,I1,r1,l,xs,e,hl,hz,q1⟩=> ?_
 ·obtain⟨B',J',q'⟩:=hq;refine⟨B',J', ?_⟩;revert q';cases fa ρ with
  | bad=>exact λq' =>q'
  | ex c=>exact λq' =>q'
  | ok t=>
   intro q' v H1 s1 r1;obtain⟨l,xs,rfl,h⟩:=q' v H1 s1 r1;exact⟨l,xs,rfl,h⟩
 subst e;obtain⟨u,rfl,ru⟩:=Zp r1;obtain rfl:u=Value.ref l:=ru;obtain⟨its,rv,pl,hz'⟩:=I1.tuple (SqT.of hl);have hlt:=I1.hok.lt hl;have hsz:its.toArray.size<=sizeLine:=by rw[aA,← rv.length];exact hz
 refine RV.call_rvT pl (by rw[bH]at hsz;omega) λtk=>(eT ?_)
 refine RV.tuple_rv hh (af _ rfl) (RV.tup_at pl λo e=>ab _ e) hsz (ax hlt) λs' acc hm hacc=> ?_;obtain⟨h',g',d',tk',os'⟩:=s';have e1:=hm.gens;have e2:=hm.drawn;have e3:=hm.os;subst e1 e2 e3;have kp:=λb o e=>hm.heap b o (λz=>by
  have z:=by simpa using z
  have:=ao e;rw[z]at this;exact ba _ this) (ab _ e)
 have I2:Inv X _ σ H1 { s1 with heap:=h',toks:=tk' }:=I1.kept kp;have ea:acc=its.reverse.toArray:=by rw[← Yd hacc]
 rw[ea];refine⟨.ref _,upd H1 _ (.tup _),I2.laid (λb u e=>ab _ e) (am _) ⟨by rw[bG];exact hz,its.reverse,wu rv,⟨_,af _ rfl,rfl,_,rfl⟩,.inr ⟨_,af _ rfl,rfl⟩⟩,rfl,q1 _ (I2.hok.fresh (am _))⟩
end
section
section
end
end
section
end
section
end
end PV
namespace PV
open PySem PySem.W PyProof.Rows
section
variable {α β:Type}
noncomputable def Gd (lt:Nat->Nat->Bool)(n:Nat):KasT α->(α->Prop)->Prop
 | .ret a,P=>P a
 | .ask i j k,P=>(i < n/\j < n/\i ≠ j)/\Gd lt n (k (lt i j)) P
theorem Gd.mono {lt:Nat->Nat->Bool}{P P' :α->Prop}(h:∀a,P a->P' a):∀(t:KasT α),Gd lt n t P->Gd lt n t P'
 | .ret a,g=>h a g
 | .ask i j k,⟨h1,g⟩=>⟨h1,Gd.mono h _ g⟩
theorem Gd.bind {lt:Nat->Nat->Bool}{P:β->Prop}{f:α->KasT β}:∀(t:KasT α),Gd lt n t (λa=>Gd lt n (f a) P)->Gd lt n (t.bind f) P
 | .ret a,g=>g
 | .ask i j k,⟨h1,g⟩=>⟨h1,Gd.bind _ g⟩
end
section
variable {O:KeyOrd}{key:Nat->O.α}
noncomputable abbrev kp (key:Nat->O.α)(p:Array Nat)(i:Nat):O.α:=key (p.getD i 0)
structure Pm (n:Nat) (p:Array Nat):Prop where
 sz:p.size=n
 pm:p.toList.Perm (bc n)
theorem Pm.lt {p:Array Nat}(h:Pm n p)(hi:i < n):p.getD i 0 < n:=by
 have hs:i < p.size:=by rw[h.sz];exact hi
 have e:p.getD i 0=p[i]:=by simp[io,hs]
 rw[e];exact bS.mp (h.pm.mem_iff.mp (Array.getElem_mem_toList hs))
theorem Pm.inj {p:Array Nat}(h:Pm n p)(hi:i < n)(hj:j < n)(e:p.getD i 0=p.getD j 0):i=j:=by
 have hs:i < p.size:=by rw[h.sz];exact hi
 have hs' :j < p.size:=by rw[h.sz];exact hj
 have e1:p.getD i 0=p[i]:=by simp[io,hs]
 have e2:p.getD j 0=p[j]:=by simp[io,hs']
 rw[e1,e2]at e;have nd:=h.pm.nodup_iff.mpr fB;have:=(fh (h₀:=by simpa using hs) (h₁:=by simpa using hs') nd).mp (by simpa using e)
 exact this
def So (key:Nat->O.α)(p:Array Nat)(m:Nat):Prop:=∀i j,i < j->j < m->O.klt (kp key p i) (kp key p j)
theorem Xk {p q:Array Nat}(h:p[i]? =q[j]?):p.getD i 0=q.getD j 0:=by
 have e:∀(a:Array Nat) (k:Nat),a.getD k 0=(a[k]?).getD 0:=λa k=>by simp
 rw[e,e,h]
variable (hk:∀i j,i < n->j < n->key i=key j->i=j)
include hk
theorem gJ {p:Array Nat}(h:Pm n p)(hi:i < n)(hj:j < n)(hij:i ≠ j)(hf:O.blt (kp key p i) (kp key p j)=false):O.klt (kp key p j) (kp key p i):=by
 cases q:O.blt _ _ with
 | true=>exact q
 | false=>exact absurd (h.inj hi hj (hk _ _ (h.lt hi) (h.lt hj) (O.total _ _ hf q))) hij
omit hk in
theorem So.snoc {p:Array Nat}(h:So key p m)(h1:1<=m)(hl:O.klt (kp key p (m - 1)) (kp key p m)):So key p (m+1):=λi j hij hj=>by
 by_cases hjm:j=m
 ·subst hjm
  by_cases him:i=j - 1
  ·rw[him];exact hl
  ·exact f7 (h i _ (by omega) (by omega)) (iK hl)
 ·exact h i j hij (by omega)
theorem YG {p:Array Nat}(hp:Pm n p):∀(f m:Nat),1<=m->m+f=n->So key p m->Gd (λi j=>O.blt (key i) (key j)) n (kas_asc p f m) λr=>m<=r/\r<=n/\So key p r/\(r < n->O.klt (kp key p r) (kp key p (r - 1)))
 | 0,m,_,hm,h=>⟨am _,by omega,h,λz=>by omega⟩
 | f+1,m,h1,hm,h=>by
  refine⟨⟨hp.lt (by omega),hp.lt (by omega),λz=>absurd (hp.inj (by omega) (by omega) z) (by omega)⟩, ?_⟩
  show Gd _ n (if O.blt _ _=true then .ret m else kas_asc p f _) _
  cases q:O.blt _ _ with
  | true=>exact⟨am _,by omega,h,λ_=>q⟩
  | false=>
   exact Gd.mono (λr ⟨a,b,c⟩=>⟨by omega,b,c⟩) _ (YG hp f _ (by omega) (by omega) (h.snoc h1 (gJ hk hp (by omega) (by omega) (by omega) q)))
def De (key:Nat->O.α)(p:Array Nat)(m:Nat):Prop:=∀i j,i < j->j < m->O.klt (kp key p j) (kp key p i)
theorem YH {p:Array Nat}(hp:Pm n p):∀(f m:Nat),2<=m->m+f=n->De key p m->Gd (λi j=>O.blt (key i) (key j)) n (kas_desc f p m 0) λr=>r.1=p/\r.2.2=0/\m<=r.2.1/\r.2.1<=n/\De key p r.2.1
 | 0,m,_,hm,h=>⟨rfl,rfl,am _,by show m<=n;omega,h⟩
 | f+1,m,h1,hm,h=>by
  refine⟨⟨hp.lt (by omega),hp.lt (by omega),λz=>absurd (hp.inj (by omega) (by omega) z) (by omega)⟩, ?_⟩
  show Gd _ n (if O.blt _ _=true then (if 0 > 0 then kas_desc f _ _ 0 else kas_desc f p _ 0) else .ask _ _ λd=>if d=true then .ret _ else kas_desc f p _ _) _
  cases q:O.blt _ _ with
  | true=>
   refine Gd.mono (λr ⟨a,b,c,d⟩=>⟨a,b,by omega,d⟩) _ (YH hp f _ (by omega) (by omega) λi j hij hj=> ?_)
   by_cases hjm:j=m
   ·subst hjm
    by_cases him:i=j - 1
    ·rw[him];exact q
    ·exact f7 (show O.klt _ _ from q) (iK (h i _ (by omega) (by omega)))
   ·exact h i j hij (by omega)
  | false=>
   refine⟨⟨hp.lt (by omega),hp.lt (by omega),λz=>absurd (hp.inj (by omega) (by omega) z) (by omega)⟩, ?_⟩
   have q2:O.blt _ _=true:=gJ hk hp (by omega) (by omega) (by omega) q
   show Gd _ n (if O.blt _ _=true then .ret _ else _) _
   rw[if_pos q2];exact⟨rfl,rfl,am _,by show m<=n;omega,h⟩
omit hk in
theorem Vw {p:Array Nat}(hp:Pm n p)(i j:Nat):Pm n (kas_rev p i j):=⟨(mirror_size _ _ _ _).trans hp.sz,(Array.perm_iff_toList_perm.mp (mirror_perm p i j _)).trans hp.pm⟩
omit hk in
theorem YI {p:Array Nat}(hp:Pm n p)(hm:m<=n)(hk' :k < m):(kas_rev p 0 m).getD k 0=p.getD (m - 1 - k) 0:=by
 refine Xk ?_;unfold kas_rev;rw[getElem?_mirror_all (by rw[hp.sz];exact hm),if_pos ⟨b6 _,hk'⟩]
 congr 1
 omega
theorem Zg {p:Array Nat}(hp:Pm n p)(h2:2<=n):Gd (λi j=>O.blt (key i) (key j)) n (kas_count n p) λr=>1<=r.1/\r.1<=n/\Pm n r.2/\So key r.2 r.1:=by
 refine Gd.bind _ (Gd.mono (λm ⟨a,b,c,d⟩=> ?_) _ (YG hk hp _ 1 (am _) (by omega) λi j hij hj=>by omega))
 by_cases hmn:m=n
 ·rw[if_pos (by simpa using hmn)]
  exact⟨a,b,hp,c⟩
 ·rw[if_neg (by simpa using hmn)]
  by_cases hm1:m > 1
  ·rw[if_pos hm1];refine⟨⟨hp.lt (by omega),hp.lt (by omega),λz=>absurd (hp.inj (by omega) (by omega) z) (by omega)⟩, ?_⟩
   have q:O.blt _ (kp key p (m - 1))=true:=c 0 _ (by omega) (by omega)
   show Gd _ n (if O.blt _ _=true then .ret _ else _) _
   rw[if_pos q];exact⟨a,b,hp,c⟩
  ·have e:m=1:=by omega
   subst e;have d1:=d (by omega)
   refine Gd.bind _ (Gd.mono (λr ⟨r1,r2,r3,r4,r5⟩=> ?_) _ (YH hk hp _ _ (by omega) (by omega) λi j hij hj=>by
    have:i=0/\j=1:=by omega
    rw[this.1,this.2];exact d1))
   rw[r2,r1];refine Gd.bind _ (Gd.mono (λm' ⟨x1,x2,x3,_⟩=>⟨by omega,x2,Vw hp 0 _,x3⟩) _ (YG hk (Vw hp 0 _) _ _ (by omega) (by omega) λi j hij hj=> ?_))
   unfold kp;rw[YI hp r4 (by omega),YI hp r4 hj]
   exact r5 _ _ (by omega) (by omega)
omit hk in
end
end PV
namespace PV
open PySem PySem.Spec PyProof.Rows L2
section
end
section
end
section
open PySem.W PySem.Calls
variable {O:KeyOrd}{key:Nat->O.α}
end
section
open PySem.W PySem.Calls
end
end PV
namespace PV
open PySem PySem.Spec PyProof.Rows L2
section
end
section
open HT in
open HT in
end
section
end
end PV
namespace PV
open PySem PySem.Spec PyProof.Rows L2
end PV
namespace L2
open PySem PySem.Spec PyProof.Rows PySem.W
end L2
namespace L2
open PySem PySem.Spec PyProof.Rows PySem.W
section
end
end L2
namespace L2
open PySem PySem.Spec PyProof.Rows PySem.W
end L2
namespace PV
open PySem PySem.Spec PyProof.Rows L2 PySem.W
section
end
end PV
namespace L2
open PySem PySem.Spec PyProof.Rows PySem.W
end L2
namespace PV
open PySem PySem.Spec PyProof.Rows L2
end PV
namespace PV
open PySem PySem.Spec PyProof.Rows L2 PySem.W
section
def Xl (i j l:Nat):T->En->R En:=λt ρ=>match t with
 | .tup [x,y,z]=> .ok (((ρ.set i (.vl x)).set j (.vl y)).set l (.vl z))
 | _=> .bad
theorem gK (hc:X.calm=true)(hN:X.N.Nodup)(hi:X.N[i]? =some x)(hj:X.N[j]? =some y)(hl:X.N[l]? =some z)(hx:L2.Loc X.env.scope x)(hy:L2.Loc X.env.scope y)(hz:L2.Loc X.env.scope z)
  (hf:X.fn x=true\/X.env.scope.names.lookup x=some .local:=by first | exact .inl rfl | exact .inr rfl | assumption) (hf' :X.fn y=true\/X.env.scope.names.lookup y=some .local:=by first | exact .inl rfl | exact .inr rfl | assumption) (hf2:X.fn z=true\/X.env.scope.names.lookup z=some .local:=by first | exact .inl rfl | exact .inr rfl | assumption):
  kn X Y (.Tuple [.Name x q1,.Name y q2,.Name z q3] k q4) (Xl i j l):=by
 refine⟨kN X.K 3 _,yk hc (ZM (ZL hN hi hx hf) (ZM (ZL hN hj hy hf') (ZM (ZL hN hl hz hf2) WU))),λB ρ σ H v t Q I r q=> ?_⟩;cases r with
 | @tup a xs ts h r=>
  cases r with
  | nil=>exact q.elim
  | cons r1 rr=>
   cases rr with
   | nil=>exact q.elim
   | cons r2 rr=>
    cases rr with
    | nil=>exact q.elim
    | cons r3 rr=>
     cases rr with
     | cons _ _=>exact q.elim
     | nil=>
      exact⟨a,_,rfl,SqT.of (I.sB _ _ h),rfl,_,_,rfl,_,_,rfl,_,_,rfl,rfl,q _ (((I.setV i r1).setV j r2).setV l r3)⟩
 | _=>exact q.elim
end
end PV
namespace PV
open PySem PySem.Spec PyProof.Rows L2
section
end
end PV
namespace PV
open PySem PySem.Spec PyProof.Rows L2 PySem.W
section
end
section
end
section
end
def enM (k j:Nat)(fs:List (Str×Fd))(ts:List T):En:= .ob k 0 :: (ts.map Sl.vl++(ae (j - 1 - ts.length) .un++[.st [(k,fs)]]))
section
end
section
end
section
end
section
end
section
end
section
end
section
end
section
end
section
end
section
end
section
end
section
end
end PV
namespace PV
open PySem PySem.Spec PyProof.Rows L2
structure Fn (K:ai) (mg:Str->Option Value) (x:Str) (st:Stmt) (ps:List Str) (f:Addr) (fd:FuncData):Prop where
 F:Fun K x x st f fd
 b:L2.Binds K fd ps []
 m:mg x=some (.ref f)
noncomputable abbrev FE (K:ai)(mg:Str->Option Value)(x:Str)(st:Stmt)(ps:List Str):Prop:=∃f fd,Fn K mg x st ps f fd
structure Zz where
 P:Program
 w:World
 K:ai
 mg:Str->Option Value
 base:Heap
 cl:Nat->Value
structure QQ (x:Str) (CX:CXT) (k:Nat) (sp:Sp) (Z:Zz):Prop where
 ex:∃st ps f fd,Fn Z.K Z.mg x st ps f fd/\W2 Z.P Z.w Z.K Z.mg Z.base CX k f fd ps sp
abbrev qP (Z:Zz)(x:Str)(n k:Nat)(c:List T->R T):Prop:=QQ x CX0 k (spP Z.cl n c) Z
def oP (m:Nat)(b:En->RS):List T->R T:=λts=>zf (b (en0 m ts))
section
variable {P:Program}{w:World}{K:ai}{mg:Str->Option Value}{base:Heap}{cl:Nat->Value}{x:Str}{CX:CXT}{k c:Nat}{sp:Sp}{G:Prop}{as:List Str}
theorem QQ.go (O:QQ x CX k sp ⟨P,w,K,mg,base,cl⟩)(h:∀st ps f fd,Fn K mg x st ps f fd->W2 P w K mg base CX k f fd ps sp->G):G:=by
 obtain⟨⟨st,ps,f,fd,C,F⟩⟩:=O;exact h st ps f fd C F
end
section
variable {Z:Zz}{x y:Str}{st:Stmt}{ps:List Str}{c k n m j:Nat}{fb:En->RS}{fm:En->R (T×En)}
abbrev Sc (N ps:List Str)(st:Stmt):Prop:=J9 N ps (zD st)
theorem okP (C:FE Z.K Z.mg x st ps)(N:List Str) (hb:∀(f:Addr) (cdv:Value) (A:Around) (outer:List Env) (s:Shared) (H:Hp) (E:XK) (Y:Fx),Y.cl=Z.cl->True->jU k (A.deeper (envOfC x (zD st) s.heap.objs.size f cdv))->N.Nodup->True->
   WY (Qv CX0 Z.P Z.w Z.K Z.mg Z.base N x (zD st) f cdv A outer s H E).nox Y (Zj st) fb)
  (S:Sc N ps st:=by refine⟨rfl,rfl,rfl, ?_,rfl, ?_, ?_⟩ <;> decide+kernel) (hn:n=ps.length:=by rfl) (hm:m=N.length:=by rfl):qP Z x n (k+1) (oP m fb):=by
 obtain⟨f,fd,C⟩:=C;subst hm;exact⟨_,_,f,fd,C,Kw C.F S hn (λcdv A outer s H E Y hy hr=>hb f cdv A outer s H E Y hy trivial hr S.nd trivial) λ_ _=>rfl⟩
theorem okB (C:FE Z.K Z.mg x st ps)(hn:n=ps.length:=by rfl):qP Z x n k (λ_=> .bad):=by
 obtain⟨f,fd,C⟩:=C;exact⟨_,_,f,fd,C,λvs H Q E h=>by rw[← hn];exact spP.len vs H Q E h,λA outer s H args us vs Q E _ _ _ _ ⟨B,ts,_,_,_,q⟩=>q.elim⟩
end
section
variable {Z:Zz}{x:Str}{st:Stmt}{ps:List Str}{k n m:Nat}{fb:En->RS}{f:Addr}{fd:FuncData}
theorem okLP (C:Fn Z.K Z.mg x st ps f fd)(N:List Str) (hb:∀(cdv:Value) (A:Around) (outer:List Env) (s:Shared) (H:Hp) (E:XK) (Y:Fx),Y.cl=Z.cl->True->jU k (A.deeper (envOfC x (zD st) s.heap.objs.size f cdv))->N.Nodup->True->
   WY (Qv CX0 Z.P Z.w Z.K Z.mg Z.base N x (zD st) f cdv A outer s H E).nox Y (Zj st) fb)
  (S:Sc N ps st:=by refine⟨rfl,rfl,rfl, ?_,rfl, ?_, ?_⟩ <;> decide+kernel) (hn:n=ps.length:=by rfl) (hm:m=N.length:=by rfl):W2 Z.P Z.w Z.K Z.mg Z.base CX0 (k+1) f fd ps (spP Z.cl n (oP m fb)):=by
 subst hm;exact Kw C.F S hn (λcdv A outer s H E Y hy hr=>hb cdv A outer s H E Y hy trivial hr S.nd trivial) λ_ _=>rfl
end
section
theorem cZ (hy:Y.cl=cl)(O:QQ x CX0 j (spP cl n g) ⟨X.prog,X.w,X.K,X.mg,X.base,cl⟩)(hr:jU k X.A)(ha:UA X Y (a :: es) ga)(hj:j<=k:=by omega)(gl:Gl X x:=by rfl)(hd:(x == ("__debug__":Str))=false:=by decide)
  (hs:starEach (a :: es) X.env=(false,eval a X.env) :: starEach es X.env:=by exact zV rfl) (hz:((backTo pos (starEach es X.env)).any λx=>x.fst)=false:=by exact j3 rfl):Snd X Y (.Call (.Name x p) (a :: es) [] pos) (za n g ga):=
 O.go λ_ _ _ _ C F=>xM hy F hr hj gl C.m C.F.kp C.b ha hd hs hz
end
noncomputable def nms (N:List Str)(js:List Nat):List Str:=js.map λj=>N.getD j ""
noncomputable def ndB:List Str->Bool
 | []=>true
 | x :: r=> !(r.contains x) && ndB r
theorem uY:∀{l:List Str},ndB l=true->l.Nodup
 | [],_=> .nil
 | x :: r,h=>by
  rw[ndB,ah]at h;exact dt.mpr ⟨by simpa using h.1,uY h.2⟩
def z07 (N N' :List Str)(sc0 scope:Scope)(k:Nat)(js:List Nat):Bool:=(z02 scope sc0 && z03 N N' scope sc0 k js) && ndB N'
section
variable {cl:Nat->Value}{X:Cx}{Y:Fx}{x y:Str}{p p' p2:Pos}{kk:Nat}{iter elt:Expr}{ifs:List Expr}{scope:Scope}{js:List Nat}{fi:En->R (List T)}{ft:En->R Bool}{fe:En->R T}
theorem cr1 (hy:Y.cl=cl)(h:z07 X.N (x :: nms X.N js) X.env.scope scope 1 js=true)(hx:((relabel scope X.env).names.lookup x == some .local)=true)(cm:X.calm=true)(it:uK X Y (.Name x p) iter fi)(tt:∀Y',Y'.cl=cl->Vg X scope (x :: nms X.N js) λXC=>wm XC Y' ifs ft)
  (el:∀Y',Y'.cl=cl->KF X scope (x :: nms X.N js) Y'.E λXC=>Snd XC Y' elt fe) (hs:∀x,foldedSetIterable iter X.env x=pure x:=by intro _;rfl):Wi X Y (.Name x p) iter elt ifs scope (x :: nms X.N js) 1 js fi (wb 0) (zE 0) ft fe:=by
 subst hy;rw[z07,ah]at h;have hx:(relabel scope X.env).names.lookup x=some .local:=eq_of_beq hx;exact Vj _ _ _ rfl rfl h.1 cm it (λ_ _ _ _ _ _=>ZL (uY h.2) rfl (.inl hx) (.inr hx)) (QL 0) (QO 0) tt el hs
theorem cr2 (hy:Y.cl=cl)(h:z07 X.N (x :: y :: nms X.N js) X.env.scope scope 2 js=true)(hx:((relabel scope X.env).names.lookup x == some .local && (relabel scope X.env).names.lookup y == some .local)=true)(cm:X.calm=true)(it:uK X Y (.Tuple [.Name x p,.Name y p'] kk p2) iter fi)(tt:∀Y',Y'.cl=cl->Vg X scope (x :: y :: nms X.N js) λXC=>wm XC Y' ifs ft)
  (el:∀Y',Y'.cl=cl->KF X scope (x :: y :: nms X.N js) Y'.E λXC=>Snd XC Y' elt fe) (hs:∀x,foldedSetIterable iter X.env x=pure x:=by intro _;rfl):Wi X Y (.Tuple [.Name x p,.Name y p'] kk p2) iter elt ifs scope (x :: y :: nms X.N js) 2 js fi (kN X.K 2 (yj (wb 0) (yj (wb 1) z0U))) (zM 0 1) ft fe:=by
 subst hy;rw[z07,ah]at h;rw[ah]at hx;have h1:(relabel scope X.env).names.lookup x=some .local:=eq_of_beq hx.1;have h2:(relabel scope X.env).names.lookup y=some .local:=eq_of_beq hx.2;exact Vj _ _ _ rfl rfl h.1 cm it (λ_ _ _ _ _ _=>yk cm (ZM (ZL (uY h.2) rfl (.inl h1) (.inr h1)) (ZM (ZL (uY h.2) rfl (.inl h2) (.inr h2)) WU))) (QM _ 0 1) (QP 0 1) tt el hs
end
end PV
namespace L2
open PySem PySem.Spec PyProof.Rows
section
end
end L2
namespace PV
open PySem PySem.Spec PyProof.Rows L2 PySem.W
section
end
end PV
namespace PV
open PySem PySem.Spec PyProof.Rows L2
end PV
namespace PV
open PySem PySem.Spec PyProof.Rows L2 PySem.W
section
end
section
end
section
end
section
end
section
end
end PV
namespace PV
open PySem PySem.Spec PyProof.Rows L2
section
end
noncomputable def mx2 (i j:Int):Int:=if j > i then j else i
def vv (fa fb fc:En->R T):En->R T:=λρ=>(fa ρ).bind λa=>(fb ρ).bind λb=>(fc ρ).bind λc=>match a,b,c with
 | .int i,.int j,.int l=> .ok (.int (mx2 (mx2 i j) l))
 | _,_,_=> .bad
section
theorem YJ (hh:X.A.handled=none):Zb X (.builtin "max") (λvs H Q=>∃i j l,vs=[.int i,.int j,.int l]/\Q (.int (mx2 (mx2 i j) l)) H):=by
 intro pins s σ H vs us Q I rv h;obtain⟨i,j,l,rfl,q⟩:=h;obtain⟨t,u,x,rfl⟩:∃t u x,us=[Value.int i t,Value.int j u,Value.int l x]:=by
  cases rv with
  | cons r1 r2=>
   cases r2 with
   | cons r2 r3=>
    cases r3 with
    | cons r3 r4=>
     cases r4;obtain⟨t,rfl⟩:=r1;obtain⟨u,rfl⟩:=r2;obtain⟨x,rfl⟩:=r3;exact⟨t,u,x,rfl⟩
 refine max_three_ints hh λh' tk k=>⟨.int (mx2 (mx2 i j) l),H,I.kept k, ?_,q⟩;unfold mx2;split
 ·split
  ·exact⟨_,rfl⟩
  ·exact⟨_,rfl⟩
 ·split
  ·exact⟨_,rfl⟩
  ·exact⟨_,rfl⟩
theorem gM (hh:X.A.handled=none)(gl:Gl X "max")(mg:X.mg "max"=none)(ha:Snd X Y a fa)(hb:Snd X Y b fb)(hc:Snd X Y c fc)
  (hs:starEach [a,b,c] X.env=(false,eval a X.env) :: starEach [b,c] X.env:=by exact zV rfl) (hs2:starEach [b,c] X.env=(false,eval b X.env) :: starEach [c] X.env:=by exact zV rfl) (hs3:starEach [c] X.env=[(false,eval c X.env)]:=by exact st1 rfl):
  Snd X Y (.Call (.Name "max" p) [a,b,c] [] pos) (vv fa fb fc):= .mk λρ=>
 PE.imp (Zv (YJ hh) gl mg PyProof.Rows.Boot.«max» (zl (ha ρ) (zl (hb ρ) (zl (hc ρ) zK hs3) hs2) hs) (by decide) (by decide) hs (by rw[hs2,hs3];rfl)) λσ H Q ⟨B,I,q⟩=>
  step I q λt v H1 _ s1 r1 I1 q1=>step I1 q1 λt' v' H2 _ s2 r2 I2 q2=>step I2 q2 λt3 v3 H3 _ s3 r3 I3 q3=>by
   cases r1 with
   | int i=>
    cases r2 with
    | int j=>
     cases r3 with
     | int l=>exact⟨i,j,l,rfl,po0 I3.sB q3 rfl (.int _)⟩
     | _=>exact q3.elim
    | _=>cases r3 <;> exact q3.elim
   | _=>cases r2 <;> cases r3 <;> exact q3.elim
end
end PV
namespace G
open PySem PySem.Spec PyProof.Rows L2 PV
def b_1q:En->RS:=
  zh (ifS (zk ltC (vB 1) (ap1 Zo (vB 0))) (zi (zb ixT (vE 0) (vE 1))) (nxS))
  (zh (ifS (zk eqC (vB 0) (jm (zd))) (zi (cE (.int 0))) (nxS))
  (zi (zb zq (zb zN (zb ixT (vE 0) (zb Jc (vE 1) (ap1 Zo (vB 0)))) (cE (.int 31))) (vE 1))))
def gN:List T->R T:=λts=>zf (b_1q  (en0 2 ts))
def b_h (c_1q:List T->R T):En->RS:=
  zh (zA 3 (zb Jc (zb zN (zb zq (za 2 c_1q (z9 (vE 0) (z9 (vE 1) (zd)))) (zb zN (cE (.int 6151)) (zb zq (vE 1) (cE (.int 1))))) (cE (.int 40692))) (cE (.int 2147483399))))
  (zi (zb Jc (zb Jc (zb zq (zb zN (vE 3) (vE 3)) (zb wf (vE 3) (cE (.int 31)))) (cE (.int 2147483629))) (vE 2)))
def f_h:List T->R T:=λts=>zf (b_h (gN) (en0 4 ts))
def z08 (c_h:List T->R T):En->RS:=
  zh (zA 2 (cE (.str "abcdefghijklmnopqrstuvwxyz")))
  (zh (ifS (zk gtC (za 3 c_h (z9 (vE 0) (z9 (vE 1) (z9 (cE (.int 6)) (zd))))) (cE (.int 0))) (zi (zb ixT (jm (z9 (cE (.str "a")) (z9 (cE (.str "b")) (z9 (cE (.str "ab")) (z9 (cE (.str "cab")) (zd)))))) (za 3 c_h (z9 (vE 0) (z9 (zb zq (vE 1) (cE (.int 1))) (z9 (cE (.int 4)) (zd))))))) (nxS))
  (zi (ap1 (KK "") (zL (jo (zb zq (cE (.int 1)) (za 3 c_h (z9 (vE 0) (z9 (zb zq (vE 1) (cE (.int 1))) (z9 (cE (.int 3)) (zd))))))) (zE 0) (zW) (zb ixT (vE 3) (za 3 c_h (z9 (vE 1) (z9 (zb zq (zb zq (vE 2) (cE (.int 2))) (vE 0)) (z9 (cE (.int 26)) (zd)))))) 1 [0,1,2]))))
def ku:List T->R T:=λts=>zf (z08 (f_h) (en0 3 ts))
def z09 (c_h:List T->R T)(c_1b:List T->R T):En->RS:=
  zh (ifS (zk gtC (za 3 c_h (z9 (vE 0) (z9 (vE 1) (z9 (cE (.int 3)) (zd))))) (cE (.int 0))) (zh (zA 2 (zb Wf (za 3 c_h (z9 (vE 0) (z9 (zb zq (vE 1) (cE (.int 1))) (z9 (cE (.int 7)) (zd))))) (cE (.int 3))))
  (zh (ifS (zk eqC (za 3 c_h (z9 (vE 0) (z9 (zb zq (vE 1) (cE (.int 3))) (z9 (cE (.int 8)) (zd))))) (cE (.int 0))) (zA 2 (zb ixT (jm (z9 (y7 (cE (.int 20))) (z9 (cE (.int 17)) (z9 (cE (.int 20)) (zd))))) (za 3 c_h (z9 (vE 0) (z9 (zb zq (vE 1) (cE (.int 4))) (z9 (cE (.int 3)) (zd))))))) (nxS))
  (zi (zG (z9 (cE (.str "whole")) (z9 (vE 2) (z9 (zb jQ (cE (.int 20)) (zb zq (vE 2) (za 3 c_h (z9 (vE 0) (z9 (zb zq (vE 1) (cE (.int 2))) (z9 (cE (.int 4)) (zd))))))) (zd)))))))) (nxS))
  (zh (y9 3 (zd))
  (zh (ZN (jo (zb zq (cE (.int 1)) (za 3 c_h (z9 (vE 0) (z9 (zb zq (vE 1) (cE (.int 1))) (z9 (cE (.int 4)) (zd))))))) (zE 4) (zh (zA 5 (za 2 c_1b (z9 (vE 0) (z9 (zb zq (zb zq (vE 1) (cE (.int 5))) (zb zN (cE (.int 5)) (vE 4))) (zd)))))
  (ifS (zk QC (vB 5) (vB 3)) (QJ 3 (vE 5)) (nxS))))
  (zi (zG (z9 (cE (.str "pick")) (z9 (ap1 yP (zL (xK (vE 3)) (zM 0 1) (zW) (zG (z9 (vE 1) (z9 (zb zq (cE (.int 1)) (za 3 c_h (z9 (vE 2) (z9 (zb zq (zb zq (vE 3) (cE (.int 30))) (vE 0)) (z9 (cE (.int 20)) (zd)))))) (zd)))) 2 [0,1])) (zd)))))))
def gO:List T->R T:=λts=>zf (z09 (f_h) (ku) (en0 6 ts))
def b_q (c_h:List T->R T)(c_1e:List T->R T)(c_q:List T->R T):En->RS:=
  zh (zA 3 (za 3 c_h (z9 (vE 0) (z9 (vE 1) (z9 (cE (.int 5)) (zd))))))
  (zh (ifS (orT (zk eqC (vB 2) (cE (.int 1))) (zk ltC (vB 3) (cE (.int 2)))) (zi (za 2 c_1e (z9 (vE 0) (z9 (zb zq (vE 1) (cE (.int 1))) (zd))))) (nxS))
  (zh (ifS (zk ltC (vB 3) (cE (.int 4))) (zh (zA 4 (zL (jo (zb zq (cE (.int 1)) (za 3 c_h (z9 (vE 0) (z9 (zb zq (vE 1) (cE (.int 1))) (z9 (cE (.int 3)) (zd))))))) (zE 0) (zW) (za 3 c_q (z9 (vE 1) (z9 (zb zq (zb zq (zb zN (cE (.int 3)) (vE 2)) (cE (.int 40))) (zb zN (cE (.int 50)) (vE 0))) (z9 (zb Wf (vE 3) (cE (.int 1))) (zd))))) 1 [0,1,2]))
  (zi (zG (z9 (cE (.str "row")) (z9 (ap1 yP (vE 4)) (zd)))))) (nxS))
  (zh (zA 5 (za 3 c_h (z9 (vE 0) (z9 (zb zq (vE 1) (cE (.int 1))) (z9 (cE (.int 3)) (zd))))))
  (zi (zG (z9 (cE (.str "many")) (z9 (za 3 c_q (z9 (vE 0) (z9 (zb zq (zb zN (cE (.int 3)) (vE 1)) (cE (.int 40))) (z9 (zb Wf (vE 2) (cE (.int 1))) (zd))))) (z9 (vE 5) (z9 (zb jQ (cE (.int 3)) (zb zq (vE 5) (za 3 c_h (z9 (vE 0) (z9 (zb zq (vE 1) (cE (.int 2))) (z9 (cE (.int 3)) (zd))))))) (zd))))))))))
def S_q:Nat->Nat->List T->R T
 | 0,_=>λ_=> .bad
 | n+1,_=>λts=>zf (b_q (f_h) (gO) (S_q n 0) (en0 6 ts))
abbrev f_q (n:Nat):List T->R T:=S_q n 0
def b_s:En->RS:=
  zh (zA 1 (jm (z9 (zG (zd)) (zd))))
  (zh (ZN (Zm (vE 0)) (zE 2) (zh (y9 3 (zd))
  (zh (ZN (Zm (vE 1)) (zE 4) (ya 3 (zL (Zm (vE 2)) (zE 0) (zW) (zb zq (vE 1) (zG (z9 (vE 0) (zd)))) 1 [4])))
  (mvS 1 3))))
  (zi (vE 1)))
def f_s:List T->R T:=λts=>zf (b_s  (en0 5 ts))
def b_9 (c_9:List T->R T)(c_s:List T->R T):En->RS:=
  zh (ifS (zk eqC (zb ixT (vE 0) (cE (.int 0))) (cE (.str "whole"))) (zi (z04 (jS (zb ixT (vE 0) (cE (.int 1))) (zb zq (zb ixT (vE 0) (cE (.int 2))) (cE (.int 1)))))) (nxS))
  (zh (ifS (zk eqC (zb ixT (vE 0) (cE (.int 0))) (cE (.str "pick"))) (zi (zL (Zm (zb ixT (vE 0) (cE (.int 1)))) (zM 0 1) (zW) (vE 0) 2 [])) (nxS))
  (zh (ifS (zk eqC (zb ixT (vE 0) (cE (.int 0))) (cE (.str "row"))) (zi (za 1 c_s (z9 (zL (Zm (zb ixT (vE 0) (cE (.int 1)))) (zE 0) (zW) (za 1 c_9 (z9 (vE 0) (zd))) 1 []) (zd)))) (nxS))
  (zh (y9 1 (zd))
  (zh (ZN (jS (zb ixT (vE 0) (cE (.int 2))) (zb zq (zb ixT (vE 0) (cE (.int 3))) (cE (.int 1)))) (zE 2) (ya 1 (za 1 c_s (z9 (zb zN (jm (z9 (za 1 c_9 (z9 (zb ixT (vE 0) (cE (.int 1))) (zd))) (zd))) (vE 2)) (zd)))))
  (zi (vE 1))))))
def S_9:Nat->Nat->List T->R T
 | 0,_=>λ_=> .bad
 | n+1,_=>λts=>zf (b_9 (S_9 n 0) (f_s) (en0 3 ts))
abbrev f_9 (n:Nat):List T->R T:=S_9 n 0
def b_n (c_9:List T->R T)(c_n:List T->R T):En->RS:=
  zh (ifS (zk inC (zb ixT (vE 0) (cE (.int 0))) (zG (z9 (cE (.str "whole")) (z9 (cE (.str "pick")) (zd))))) (zi (ap1 Zo (za 1 c_9 (z9 (vE 0) (zd))))) (nxS))
  (zh (zA 1 (ifE (zk eqC (zb ixT (vE 0) (cE (.int 0))) (cE (.str "row"))) (zL (Zm (zb ixT (vE 0) (cE (.int 1)))) (zE 0) (zW) (za 1 c_n (z9 (vE 0) (zd))) 1 []) (jm (zd))))
  (zh (zA 2 (cE (.int 1)))
  (zh (ZN (Zm (vE 1)) (zE 3) (zA 2 (zb zN (vE 2) (vE 3))))
  (zh (ifS (zk eqC (zb ixT (vE 0) (cE (.int 0))) (cE (.str "many"))) (zh (zA 4 (za 1 c_n (z9 (zb ixT (vE 0) (cE (.int 1))) (zd))))
  (zh (zA 2 (zb zq (ap1 Y5 (JI eqC (zb ixT (vE 0) (cE (.int 2))) (cE (.int 0)))) (zb zN (vE 4) (ap1 Y5 (chE leC leC (zb ixT (vE 0) (cE (.int 2))) (cE (.int 1)) (zb ixT (vE 0) (cE (.int 3))))))))
  (zh (zA 2 (zb zq (vE 2) (zb zN (zb zN (vE 4) (vE 4)) (ap1 Y5 (chE leC leC (zb ixT (vE 0) (cE (.int 2))) (cE (.int 2)) (zb ixT (vE 0) (cE (.int 3))))))))
  (zA 2 (zb zq (vE 2) (zb zN (zb zN (zb zN (vE 4) (vE 4)) (vE 4)) (ap1 Y5 (JI eqC (zb ixT (vE 0) (cE (.int 3))) (cE (.int 3)))))))))) (nxS))
  (zi (vE 2))))))
def S_n:Nat->Nat->List T->R T
 | 0,_=>λ_=> .bad
 | n+1,_=>λts=>zf (b_n (f_9 8) (S_n n 0) (en0 5 ts))
abbrev f_n (n:Nat):List T->R T:=S_n n 0
def z0a (c_q:List T->R T)(c_n:List T->R T):En->RS:=
  zh (zA 3 (za 3 c_q (z9 (vE 0) (z9 (vE 1) (z9 (cE (.int 3)) (zd))))))
  (zh (ZN (jo (cE (.int 3))) (zE 4) (zh (ifS (zk leC (za 1 c_n (z9 (vE 3) (zd))) (vB 2)) (zi (vE 3)) (nxS))
  (zA 3 (za 3 c_q (z9 (vE 0) (z9 (zb zq (zb zq (vE 1) (cE (.int 500))) (zb zN (cE (.int 700)) (vE 4))) (z9 (cE (.int 2)) (zd))))))))
  (zi (ifE (zk leC (za 1 c_n (z9 (vE 3) (zd))) (vB 2)) (vE 3) (zG (z9 (cE (.str "whole")) (z9 (y7 (cE (.int 1))) (z9 (cE (.int 2)) (zd))))))))
def Xm:List T->R T:=λts=>zf (z0a (f_q 8) (f_n 8) (en0 5 ts))
def b_r:En->RS:=
  zi (Jd (ap1 (UC "int") (vB 0)) (notE (ap1 (UC "bool") (vB 0))))
def f_r:List T->R T:=λts=>zf (b_r  (en0 1 ts))
def b_1s (c_r:List T->R T):En->RS:=
  zi (Jd (za 1 c_r (z9 (vE 0) (zd))) (Jd (za 1 c_r (z9 (vE 1) (zd))) (ch3E leC leC leC (vB 2) (vB 0) (vB 1) (vB 3))))
def z0b:List T->R T:=λts=>zf (b_1s (f_r) (en0 4 ts))
def b_m:En->RS:=
  zi (Jd (ap1 (UC "tuple") (vB 0)) (chE leC leC (vB 1) (ap1 Zo (vB 0)) (vB 2)))
def f_m:List T->R T:=λts=>zf (b_m  (en0 3 ts))
def b_1t:En->RS:=
  zh (ifS (orT (uH (WX (ap1 (UC "str") (vB 0)))) (uH (chT leC leC (cE (.int 1)) (ap1 Zo (vB 0)) (cE (.int 3))))) (zi (cE (.bl false))) (nxS))
  (zi (ap1 xE (zL (Zm (vE 0)) (zE 0) (zW) (chE leC leC (cE (.str "a")) (vB 0) (cE (.str "z"))) 1 [])))
def gP:List T->R T:=λts=>zf (b_1t  (en0 1 ts))
def z0c (c_r:List T->R T)(c_m:List T->R T)(c_1t:List T->R T):En->RS:=
  zi (Jd (za 3 c_m (z9 (vE 0) (z9 (cE (.int 2)) (z9 (cE (.int 2)) (zd))))) (Jd (za 1 c_1t (z9 (zb ixT (vE 0) (cE (.int 0))) (zd))) (Jd (za 1 c_r (z9 (zb ixT (vE 0) (cE (.int 1))) (zd))) (chE leC leC (cE (.int 1)) (zb ixT (vE 0) (cE (.int 1))) (cE (.int 20))))))
def gQ:List T->R T:=λts=>zf (z0c (f_r) (f_m) (gP) (en0 1 ts))
def z0d (c_m:List T->R T)(c_1i:List T->R T):En->RS:=
  zh (ifS (orT (uH (WX (za 3 c_m (z9 (vE 0) (z9 (cE (.int 1)) (z9 (cE (.int 4)) (zd))))))) (uH (WX (ap1 xE (zL (Zm (vE 0)) (zE 0) (zW) (za 1 c_1i (z9 (vE 0) (zd))) 1 []))))) (zi (cE (.bl false))) (nxS))
  (zh (zA 1 (zL (Zm (vE 0)) (zE 0) (zW) (zb ixT (vE 0) (cE (.int 0))) 1 []))
  (zi (JI eqC (ap1 QT (vB 1)) (ap1 Zo (vB 1)))))
def gR:List T->R T:=λts=>zf (z0d (f_m) (gQ) (en0 2 ts))
def b_j (c_1s:List T->R T)(c_j:List T->R T)(c_1g:List T->R T)(c_1y:List T->R T):En->RS:=
  zh (ifS (orT (zk eqC (vB 1) (cE (.int 0))) (orT (uH (WX (ap1 (UC "tuple") (vB 0)))) (zk eqC (ap1 Zo (vB 0)) (cE (.int 0))))) (zi (cE (.bl false))) (nxS))
  (zh (ifS (zk eqC (zb ixT (vE 0) (cE (.int 0))) (cE (.str "whole"))) (zi (Jd (JI eqC (ap1 Zo (vB 0)) (cE (.int 3))) (za 4 c_1s (z9 (zb ixT (vE 0) (cE (.int 1))) (z9 (zb ixT (vE 0) (cE (.int 2))) (z9 (y7 (cE (.int 20))) (z9 (cE (.int 20)) (zd)))))))) (nxS))
  (zh (ifS (zk eqC (zb ixT (vE 0) (cE (.int 0))) (cE (.str "pick"))) (zi (Jd (JI eqC (ap1 Zo (vB 0)) (cE (.int 2))) (za 1 c_1g (z9 (zb ixT (vE 0) (cE (.int 1))) (zd))))) (nxS))
  (zh (ifS (zk eqC (zb ixT (vE 0) (cE (.int 0))) (cE (.str "row"))) (zi (Jd (JI eqC (ap1 Zo (vB 0)) (cE (.int 2))) (za 2 c_1y (z9 (zb ixT (vE 0) (cE (.int 1))) (z9 (zb Wf (vE 1) (cE (.int 1))) (zd)))))) (nxS))
  (zh (ifS (zk eqC (zb ixT (vE 0) (cE (.int 0))) (cE (.str "many"))) (zi (Jd (JI eqC (ap1 Zo (vB 0)) (cE (.int 4))) (Jd (za 4 c_1s (z9 (zb ixT (vE 0) (cE (.int 2))) (z9 (zb ixT (vE 0) (cE (.int 3))) (z9 (cE (.int 0)) (z9 (cE (.int 3)) (zd)))))) (za 2 c_j (z9 (zb ixT (vE 0) (cE (.int 1))) (z9 (zb Wf (vE 1) (cE (.int 1))) (zd))))))) (nxS))
  (zi (cE (.bl false)))))))
def z0e (c_m:List T->R T)(c_j:List T->R T):En->RS:=
  zi (Jd (za 3 c_m (z9 (vE 0) (z9 (cE (.int 1)) (z9 (cE (.int 3)) (zd))))) (ap1 xE (zL (Zm (vE 0)) (zE 0) (zW) (za 2 c_j (z9 (vE 0) (z9 (vE 1) (zd)))) 1 [1])))
def S_j:Nat->Nat->List T->R T
 | 0,_=>λ_=> .bad
 | n+1,0=>λts=>zf (b_j (z0b) (S_j n 0) (gR) (S_j n 1) (en0 2 ts))
 | n+1,_=>λts=>zf (z0e (f_m) (S_j n 0) (en0 2 ts))
abbrev f_j (n:Nat):List T->R T:=S_j n 0
abbrev f_1y (n:Nat):List T->R T:=S_j n 1
def b_5 (c_j:List T->R T):En->RS:=
  zi (za 2 c_j (z9 (vE 0) (z9 (cE (.int 3)) (zd))))
def f_5:List T->R T:=λts=>zf (b_5 (f_j 20) (en0 1 ts))
def b_8 (c_5:List T->R T):En->RS:=
  ifS (uH (WX (za 1 c_5 (z9 (vE 0) (zd))))) (z05) (nxS)
def f_8:List T->R T:=λts=>zf (b_8 (f_5) (en0 1 ts))
def b_f:En->RS:=
  zh (ifS (zk eqC (zb ixT (vE 0) (cE (.int 0))) (cE (.str "row"))) (zi (zb ixT (vE 0) (cE (.int 1)))) (nxS))
  (zh (ifS (zk eqC (zb ixT (vE 0) (cE (.int 0))) (cE (.str "many"))) (zi (zG (z9 (zb ixT (vE 0) (cE (.int 1))) (zd)))) (nxS))
  (zi (zG (zd))))
def f_f:List T->R T:=λts=>zf (b_f  (en0 1 ts))
def b_w (c_f:List T->R T)(c_w:List T->R T):En->RS:=
  zi (zb zq (cE (.int 1)) (vd (zL (Zm (za 1 c_f (z9 (vE 0) (zd)))) (zE 0) (zW) (za 1 c_w (z9 (vE 0) (zd))) 1 []) (cE (.int 0))))
def S_w:Nat->Nat->List T->R T
 | 0,_=>λ_=> .bad
 | n+1,_=>λts=>zf (b_w (f_f) (S_w n 0) (en0 1 ts))
abbrev f_w (n:Nat):List T->R T:=S_w n 0
def b_b (c_8:List T->R T)(c_w:List T->R T):En->RS:=
  zh (ZW (za 1 c_8 (z9 (vE 0) (zd))))
  (zi (za 1 c_w (z9 (vE 0) (zd))))
def f_b:List T->R T:=λts=>zf (b_b (f_8) (f_w 8) (en0 1 ts))
def b_1 (c_1a:List T->R T)(c_10:List T->R T):En->RS:=
  zh (ifS (zk eqC (zb ixT (vE 0) (cE (.int 0))) (cE (.str "whole"))) (zi (zb zq (zb Wf (zb ixT (vE 0) (cE (.int 2))) (zb ixT (vE 0) (cE (.int 1)))) (cE (.int 1)))) (nxS))
  (zh (ifS (zk eqC (zb ixT (vE 0) (cE (.int 0))) (cE (.str "pick"))) (zi (ap1 Zo (zb ixT (vE 0) (cE (.int 1))))) (nxS))
  (zh (ifS (zk eqC (zb ixT (vE 0) (cE (.int 0))) (cE (.str "row"))) (zi (za 1 c_1a (z9 (zb ixT (vE 0) (cE (.int 1))) (zd)))) (nxS))
  (zi (za 2 c_10 (z9 (vE 0) (z9 (zb zq (zb ixT (vE 0) (cE (.int 3))) (cE (.int 1))) (zd)))))))
def gU (c_1:List T->R T):En->RS:=
  zh (zA 1 (cE (.int 1)))
  (zh (ZN (Zm (vE 0)) (zE 2) (zA 1 (zb zN (vE 1) (za 1 c_1 (z9 (vE 2) (zd))))))
  (zi (vE 1)))
def gW (c_1a:List T->R T):En->RS:=
  zi (ap1 Vl (zL (jS (zb ixT (vE 0) (cE (.int 2))) (vE 1)) (zE 0) (zW) (za 1 c_1a (z9 (zb zN (jm (z9 (zb ixT (vE 1) (cE (.int 1))) (zd))) (vE 0)) (zd))) 1 [0]))
def S_1:Nat->Nat->List T->R T
 | 0,_=>λ_=> .bad
 | n+1,0=>λts=>zf (b_1 (S_1 n 1) (S_1 n 2) (en0 1 ts))
 | n+1,1=>λts=>zf (gU (S_1 n 0) (en0 3 ts))
 | n+1,_=>λts=>zf (gW (S_1 n 1) (en0 2 ts))
abbrev f_1 (n:Nat):List T->R T:=S_1 n 0
abbrev f_1a (n:Nat):List T->R T:=S_1 n 1
abbrev Xn (n:Nat):List T->R T:=S_1 n 2
def z0f (c_8:List T->R T)(c_1:List T->R T):En->RS:=
  zh (ZW (za 1 c_8 (z9 (vE 0) (zd))))
  (zi (za 1 c_1 (z9 (vE 0) (zd))))
def Xo:List T->R T:=λts=>zf (z0f (f_8) (f_1 20) (en0 1 ts))
def b_e:En->RS:=
  zi (zL (Zm (zb ixT (vE 0) (cE (.int 1)))) (zE 0) (zW) (zb ixT (vE 0) (cE (.int 0))) 1 [])
def f_e:List T->R T:=λts=>zf (b_e  (en0 1 ts))
def b_k (c_r:List T->R T)(c_m:List T->R T)(c_e:List T->R T)(c_1w:List T->R T):En->RS:=
  zh (ifS (zk eqC (zb ixT (vE 0) (cE (.int 0))) (cE (.str "whole"))) (zi (Jd (za 1 c_r (z9 (vE 1) (zd))) (chE leC leC (zb ixT (vE 0) (cE (.int 1))) (vB 1) (zb ixT (vE 0) (cE (.int 2)))))) (nxS))
  (zh (ifS (zk eqC (zb ixT (vE 0) (cE (.int 0))) (cE (.str "pick"))) (zi (JI inC (vB 1) (za 1 c_e (z9 (vE 0) (zd))))) (nxS))
  (zh (ifS (zk eqC (zb ixT (vE 0) (cE (.int 0))) (cE (.str "row"))) (zi (Jd (za 3 c_m (z9 (vE 1) (z9 (ap1 Zo (zb ixT (vE 0) (cE (.int 1)))) (z9 (ap1 Zo (zb ixT (vE 0) (cE (.int 1)))) (zd))))) (za 2 c_1w (z9 (zb ixT (vE 0) (cE (.int 1))) (z9 (vE 1) (zd)))))) (nxS))
  (zi (Jd (za 3 c_m (z9 (vE 1) (z9 (zb ixT (vE 0) (cE (.int 2))) (z9 (zb ixT (vE 0) (cE (.int 3))) (zd))))) (za 2 c_1w (z9 (zb zN (jm (z9 (zb ixT (vE 0) (cE (.int 1))) (zd))) (ap1 Zo (vB 1))) (z9 (vE 1) (zd))))))))
def z0g (c_k:List T->R T):En->RS:=
  zi (ap1 xE (zL (uP (vE 0) (vE 1)) (zM 0 1) (zW) (za 2 c_k (z9 (vE 0) (z9 (vE 1) (zd)))) 2 []))
def S_k:Nat->Nat->List T->R T
 | 0,_=>λ_=> .bad
 | n+1,0=>λts=>zf (b_k (f_r) (f_m) (f_e) (S_k n 1) (en0 2 ts))
 | n+1,_=>λts=>zf (z0g (S_k n 0) (en0 2 ts))
abbrev f_k (n:Nat):List T->R T:=S_k n 0
abbrev f_1w (n:Nat):List T->R T:=S_k n 1
def z0h (c_8:List T->R T)(c_k:List T->R T):En->RS:=
  zh (ZW (za 1 c_8 (z9 (vE 0) (zd))))
  (zi (za 2 c_k (z9 (vE 0) (z9 (vE 1) (zd)))))
def z1Z:List T->R T:=λts=>zf (z0h (f_8) (f_k 20) (en0 2 ts))
def b_x (c_1r:List T->R T):En->RS:=
  ifS (uH (WX (za 2 c_1r (z9 (vE 0) (z9 (vE 1) (zd)))))) (z05) (nxS)
def f_x:List T->R T:=λts=>zf (b_x (z1Z) (en0 2 ts))
def b_g (c_e:List T->R T)(c_10:List T->R T)(c_1o:List T->R T):En->RS:=
  zh (ifS (zk eqC (zb ixT (vE 0) (cE (.int 0))) (cE (.str "whole"))) (zi (zb Wf (vE 1) (zb ixT (vE 0) (cE (.int 1))))) (nxS))
  (zh (ifS (zk eqC (zb ixT (vE 0) (cE (.int 0))) (cE (.str "pick"))) (zi (KW xY (za 1 c_e (z9 (vE 0) (zd))) (vB 1))) (nxS))
  (zh (ifS (zk eqC (zb ixT (vE 0) (cE (.int 0))) (cE (.str "row"))) (zi (za 2 c_1o (z9 (zb ixT (vE 0) (cE (.int 1))) (z9 (vE 1) (zd))))) (nxS))
  (zh (zA 2 (ap1 Zo (vB 1)))
  (zi (zb zq (za 2 c_10 (z9 (vE 0) (z9 (vE 2) (zd)))) (za 2 c_1o (z9 (zb zN (jm (z9 (zb ixT (vE 0) (cE (.int 1))) (zd))) (vE 2)) (z9 (vE 1) (zd)))))))))
def gX (c_1:List T->R T)(c_g:List T->R T):En->RS:=
  zh (zA 2 (cE (.int 0)))
  (zh (ZN (uP (vE 0) (vE 1)) (zM 3 4) (zA 2 (zb zq (zb zN (vE 2) (za 1 c_1 (z9 (vE 3) (zd)))) (za 2 c_g (z9 (vE 3) (z9 (vE 4) (zd)))))))
  (zi (vE 2)))
def S_g:Nat->Nat->List T->R T
 | 0,_=>λ_=> .bad
 | n+1,0=>λts=>zf (b_g (f_e) (Xn 20) (S_g n 1) (en0 3 ts))
 | n+1,_=>λts=>zf (gX (f_1 20) (S_g n 0) (en0 5 ts))
abbrev f_g (n:Nat):List T->R T:=S_g n 0
abbrev f_1o (n:Nat):List T->R T:=S_g n 1
def z0i (c_x:List T->R T)(c_g:List T->R T):En->RS:=
  zh (ZW (za 2 c_x (z9 (vE 0) (z9 (vE 1) (zd)))))
  (zi (za 2 c_g (z9 (vE 0) (z9 (vE 1) (zd)))))
def vw:List T->R T:=λts=>zf (z0i (f_x) (f_g 20) (en0 2 ts))
def b_t (c_e:List T->R T)(c_1x:List T->R T)(c_1c:List T->R T):En->RS:=
  zh (ifS (zk eqC (zb ixT (vE 0) (cE (.int 0))) (cE (.str "whole"))) (zi (zb zq (zb ixT (vE 0) (cE (.int 1))) (vE 1))) (nxS))
  (zh (ifS (zk eqC (zb ixT (vE 0) (cE (.int 0))) (cE (.str "pick"))) (zi (zb ixT (za 1 c_e (z9 (vE 0) (zd))) (vE 1))) (nxS))
  (zh (ifS (zk eqC (zb ixT (vE 0) (cE (.int 0))) (cE (.str "row"))) (zi (za 2 c_1c (z9 (zb ixT (vE 0) (cE (.int 1))) (z9 (vE 1) (zd))))) (nxS))
  (zi (za 2 c_1x (z9 (vE 0) (z9 (vE 1) (zd)))))))
def gY (c_10:List T->R T)(c_1c:List T->R T):En->RS:=
  zh (zA 2 (zb ixT (vE 0) (cE (.int 2))))
  (zh (Zh (zk leC (za 2 c_10 (z9 (vE 0) (z9 (zb zq (vE 2) (cE (.int 1))) (zd)))) (vB 1)) (zA 2 (zb zq (vE 2) (cE (.int 1)))) (8))
  (zi (za 2 c_1c (z9 (zb zN (jm (z9 (zb ixT (vE 0) (cE (.int 1))) (zd))) (vE 2)) (z9 (zb Wf (vE 1) (za 2 c_10 (z9 (vE 0) (z9 (vE 2) (zd))))) (zd))))))
def gZ (c_1:List T->R T)(c_t:List T->R T):En->RS:=
  zh (y9 2 (zd))
  (zh (zA 3 (vE 1))
  (zh (ZN (Vp (vE 0)) (zE 4) (zh (zA 5 (za 1 c_1 (z9 (vE 4) (zd))))
  (zh (QJ 2 (za 2 c_t (z9 (vE 4) (z9 (zb Jc (vE 3) (vE 5)) (zd)))))
  (zA 3 (zb wf (vE 3) (vE 5))))))
  (zi (ap1 vc (vE 2)))))
def S_t:Nat->Nat->List T->R T
 | 0,_=>λ_=> .bad
 | n+1,0=>λts=>zf (b_t (f_e) (S_t n 1) (S_t n 2) (en0 2 ts))
 | n+1,1=>λts=>zf (gY (Xn 20) (S_t n 2) (en0 3 ts))
 | n+1,_=>λts=>zf (gZ (f_1 20) (S_t n 0) (en0 6 ts))
abbrev f_t (n:Nat):List T->R T:=S_t n 0
abbrev f_1x (n:Nat):List T->R T:=S_t n 1
abbrev f_1c (n:Nat):List T->R T:=S_t n 2
def z0j (c_8:List T->R T)(c_r:List T->R T)(c_1:List T->R T)(c_t:List T->R T):En->RS:=
  zh (ZW (za 1 c_8 (z9 (vE 0) (zd))))
  (zh (ifS (orT (uH (WX (za 1 c_r (z9 (vE 1) (zd))))) (uH (chT leC ltC (cE (.int 0)) (vB 1) (za 1 c_1 (z9 (vE 0) (zd)))))) (z05) (nxS))
  (zi (za 2 c_t (z9 (vE 0) (z9 (vE 1) (zd))))))
def G1:List T->R T:=λts=>zf (z0j (f_8) (f_r) (f_1 20) (f_t 20) (en0 2 ts))
def z0k:En->RS:=
  zh (Zh (zk neC (vB 1) (cE (.int 0))) (zh (zA 2 (zb Jc (vE 0) (vE 1)))
  (zh (zA 0 (vE 1))
  (zA 1 (vE 2)))) (2 ^ 9000))
  (zi (vE 0))
def z0l:List T->R T:=λts=>zf (z0k  (en0 3 ts))
def b_u (c_1k:List T->R T):En->RS:=
  zh (zA 2 (za 2 c_1k (z9 (ap1 kr (vB 0)) (z9 (vE 1) (zd)))))
  (zi (zG (z9 (zb Vu (vE 0) (vE 2)) (z9 (zb Vu (vE 1) (vE 2)) (zd)))))
def f_u:List T->R T:=λts=>zf (b_u (z0l) (en0 3 ts))
def z0m (c_u:List T->R T):En->RS:=
  vg 1 (zb ixT (vE 0) (cE (.int 1))) c_u
def z0n:List T->R T:=λts=>zf (z0m (f_u) (en0 3 ts))
def b_z (c_u:List T->R T):En->RS:=
  zi (za 2 c_u (z9 (zb mlT (zb ixT (vE 0) (cE (.int 0))) (zb ixT (vE 1) (cE (.int 0)))) (z9 (zb mlT (zb ixT (vE 0) (cE (.int 1))) (zb ixT (vE 1) (cE (.int 1)))) (zd))))
def f_z:List T->R T:=λts=>zf (b_z (f_u) (en0 2 ts))
def b_l (c_1:List T->R T)(c_z:List T->R T)(c_1l:List T->R T)(c_1p:List T->R T):En->RS:=
  zh (ifS (zk eqC (zb ixT (vE 0) (cE (.int 0))) (cE (.str "whole"))) (zi (zG (z9 (cE (.int 1)) (z9 (za 1 c_1 (z9 (vE 0) (zd))) (zd))))) (nxS))
  (zh (ifS (zk eqC (zb ixT (vE 0) (cE (.int 0))) (cE (.str "pick"))) (zi (za 2 c_1l (z9 (vE 0) (z9 (vE 1) (zd))))) (nxS))
  (zh (ifS (zk eqC (zb ixT (vE 0) (cE (.int 0))) (cE (.str "row"))) (zi (za 2 c_1p (z9 (zb ixT (vE 0) (cE (.int 1))) (z9 (vE 1) (zd))))) (nxS))
  (zh (zA 2 (zG (z9 (cE (.int 1)) (z9 (zb zq (zb Wf (zb ixT (vE 0) (cE (.int 3))) (zb ixT (vE 0) (cE (.int 2)))) (cE (.int 1))) (zd)))))
  (zi (za 2 c_z (z9 (vE 2) (z9 (za 2 c_1p (z9 (zb zN (jm (z9 (zb ixT (vE 0) (cE (.int 1))) (zd))) (ap1 Zo (vB 1))) (z9 (vE 1) (zd)))) (zd))))))))
def G4 (c_z:List T->R T)(c_l:List T->R T):En->RS:=
  zh (zA 2 (zG (z9 (cE (.int 1)) (z9 (cE (.int 1)) (zd)))))
  (zh (ZN (uP (vE 0) (vE 1)) (zM 3 4) (zA 2 (za 2 c_z (z9 (vE 2) (z9 (za 2 c_l (z9 (vE 3) (z9 (vE 4) (zd)))) (zd))))))
  (zi (vE 2)))
def S_l:Nat->Nat->List T->R T
 | 0,_=>λ_=> .bad
 | n+1,0=>λts=>zf (b_l (f_1 20) (f_z) (z0n) (S_l n 1) (en0 3 ts))
 | n+1,_=>λts=>zf (G4 (f_z) (S_l n 0) (en0 5 ts))
abbrev f_l (n:Nat):List T->R T:=S_l n 0
abbrev f_1p (n:Nat):List T->R T:=S_l n 1
def b_c (c_x:List T->R T)(c_l:List T->R T):En->RS:=
  zh (ZW (za 2 c_x (z9 (vE 0) (z9 (vE 1) (zd)))))
  (zi (za 2 c_l (z9 (vE 0) (z9 (vE 1) (zd)))))
def f_c:List T->R T:=λts=>zf (b_c (f_x) (f_l 20) (en0 2 ts))
def z0o:En->RS:=
  zi (zb jQ (zb Jh (cE (.int 0)) (zb ixT (vE 0) (cE (.int 1)))) (zb ixT (vE 0) (cE (.int 2))))
def G5:List T->R T:=λts=>zf (z0o  (en0 1 ts))
def b_p (c_e:List T->R T)(c_1d:List T->R T)(c_1u:List T->R T):En->RS:=
  zh (ifS (zk eqC (zb ixT (vE 0) (cE (.int 0))) (cE (.str "whole"))) (zi (ap1 kr (zb Wf (vE 1) (za 1 c_1d (z9 (vE 0) (zd)))))) (nxS))
  (zh (ifS (zk eqC (zb ixT (vE 0) (cE (.int 0))) (cE (.str "pick"))) (zi (KW xY (za 1 c_e (z9 (vE 0) (zd))) (vB 1))) (nxS))
  (zh (ifS (zk eqC (zb ixT (vE 0) (cE (.int 0))) (cE (.str "row"))) (zi (za 2 c_1u (z9 (zb ixT (vE 0) (cE (.int 1))) (z9 (vE 1) (zd))))) (nxS))
  (zi (zb Wf (zb zq (za 2 c_1u (z9 (zb zN (jm (z9 (zb ixT (vE 0) (cE (.int 1))) (zd))) (ap1 Zo (vB 1))) (z9 (vE 1) (zd)))) (ap1 Zo (vB 1))) (zb ixT (vE 0) (cE (.int 2)))))))
def z0p (c_p:List T->R T):En->RS:=
  zi (ap1 Vl (zL (uP (vE 0) (vE 1)) (zM 0 1) (zW) (za 2 c_p (z9 (vE 0) (z9 (vE 1) (zd)))) 2 []))
def S_p:Nat->Nat->List T->R T
 | 0,_=>λ_=> .bad
 | n+1,0=>λts=>zf (b_p (f_e) (G5) (S_p n 1) (en0 2 ts))
 | n+1,_=>λts=>zf (z0p (S_p n 0) (en0 2 ts))
abbrev f_p (n:Nat):List T->R T:=S_p n 0
abbrev f_1u (n:Nat):List T->R T:=S_p n 1
def b_4 (c_x:List T->R T)(c_p:List T->R T):En->RS:=
  zh (ZW (za 2 c_x (z9 (vE 0) (z9 (vE 1) (zd)))))
  (zi (za 2 c_p (z9 (vE 0) (z9 (vE 1) (zd)))))
def f_4:List T->R T:=λts=>zf (b_4 (f_x) (f_p 20) (en0 2 ts))
def b_y (c_y:List T->R T):En->RS:=
  zh (ifS (WX (ap1 (UC "tuple") (vB 0))) (zi (ap1 yP (zL (Vp (vE 0)) (zE 0) (zW) (za 1 c_y (z9 (vE 0) (zd))) 1 []))) (nxS))
  (zi (ifE (WX (ap1 (UC "str") (vB 0))) (vE 0) (y7 (vE 0))))
def S_y:Nat->Nat->List T->R T
 | 0,_=>λ_=> .bad
 | n+1,_=>λts=>zf (b_y (S_y n 0) (en0 1 ts))
abbrev f_y (n:Nat):List T->R T:=S_y n 0
def z0q (c_x:List T->R T)(c_y:List T->R T):En->RS:=
  zh (ZW (za 2 c_x (z9 (vE 0) (z9 (vE 1) (zd)))))
  (zi (za 1 c_y (z9 (vE 1) (zd))))
def Xp:List T->R T:=λts=>zf (z0q (f_x) (f_y 8) (en0 2 ts))
def b_o (c_u:List T->R T):En->RS:=
  zi (za 2 c_u (z9 (zb zq (zb mlT (zb ixT (vE 0) (cE (.int 0))) (zb ixT (vE 1) (cE (.int 1)))) (zb mlT (zb ixT (vE 1) (cE (.int 0))) (zb ixT (vE 0) (cE (.int 1))))) (z9 (zb mlT (zb ixT (vE 0) (cE (.int 1))) (zb ixT (vE 1) (cE (.int 1)))) (zd))))
def f_o:List T->R T:=λts=>zf (b_o (f_u) (en0 2 ts))
def z0r (c_o:List T->R T):En->RS:=
  zh (zA 1 (zG (z9 (cE (.int 0)) (z9 (cE (.int 1)) (zd)))))
  (zh (ZN (Zm (vE 0)) (zE 2) (zA 1 (za 2 c_o (z9 (vE 1) (z9 (vE 2) (zd))))))
  (zi (vE 1)))
def z0s:List T->R T:=λts=>zf (z0r (f_o) (en0 3 ts))
def b_v (c_u:List T->R T)(c_z:List T->R T)(c_1n:List T->R T)(c_v:List T->R T):En->RS:=
  zh (ifS (zk eqC (zb ixT (vE 0) (cE (.int 0))) (cE (.str "whole"))) (zi (za 2 c_u (z9 (zb zq (zb ixT (vE 0) (cE (.int 1))) (zb ixT (vE 0) (cE (.int 2)))) (z9 (cE (.int 2)) (zd))))) (nxS))
  (zh (ifS (zk eqC (zb ixT (vE 0) (cE (.int 0))) (cE (.str "pick"))) (zi (zG (z9 (cE (.int 0)) (z9 (cE (.int 1)) (zd))))) (nxS))
  (zh (ifS (zk eqC (zb ixT (vE 0) (cE (.int 0))) (cE (.str "row"))) (zi (za 1 c_1n (z9 (zL (Zm (zb ixT (vE 0) (cE (.int 1)))) (zE 0) (zW) (za 1 c_v (z9 (vE 0) (zd))) 1 []) (zd)))) (nxS))
  (zh (zA 1 (za 2 c_u (z9 (zb zq (zb ixT (vE 0) (cE (.int 2))) (zb ixT (vE 0) (cE (.int 3)))) (z9 (cE (.int 2)) (zd)))))
  (zi (za 2 c_z (z9 (vE 1) (z9 (za 1 c_v (z9 (zb ixT (vE 0) (cE (.int 1))) (zd))) (zd))))))))
def S_v:Nat->Nat->List T->R T
 | 0,_=>λ_=> .bad
 | n+1,_=>λts=>zf (b_v (f_u) (f_z) (z0s) (S_v n 0) (en0 2 ts))
abbrev f_v (n:Nat):List T->R T:=S_v n 0
def b_d (c_8:List T->R T)(c_v:List T->R T):En->RS:=
  zh (ZW (za 1 c_8 (z9 (vE 0) (zd))))
  (zi (za 1 c_v (z9 (vE 0) (zd))))
def f_d:List T->R T:=λts=>zf (b_d (f_8) (f_v 20) (en0 1 ts))
def z0t:En->RS:=
  zh (JQ 2 3 (z9 (zb zq (zb mlT (zb ixT (vE 0) (cE (.int 0))) (zb ixT (vE 1) (cE (.int 1)))) (zb mlT (zb ixT (vE 1) (cE (.int 0))) (zb ixT (vE 0) (cE (.int 1))))) (z9 (zb mlT (zb ixT (vE 0) (cE (.int 1))) (zb ixT (vE 1) (cE (.int 1)))) (zd))))
  (zh (JQ 4 5 (z9 (vE 2) (z9 (vE 3) (zd))))
  (zh (Zh (zk neC (vB 5) (cE (.int 0))) (JQ 4 5 (z9 (vE 5) (z9 (zb Jc (vE 4) (vE 5)) (zd)))) (2 ^ 9000))
  (zi (zG (z9 (zb Vu (vE 2) (vE 4)) (z9 (zb Vu (vE 3) (vE 4)) (zd)))))))
def z0u:List T->R T:=λts=>zf (z0t  (en0 6 ts))
def b_6 (c_6:List T->R T):En->RS:=
  zh (ifS (zk eqC (zb ixT (vE 0) (cE (.int 0))) (cE (.str "whole"))) (zi (zG (z9 (cE (.str "whole")) (z9 (y7 (zb ixT (vE 0) (cE (.int 2)))) (z9 (y7 (zb ixT (vE 0) (cE (.int 1)))) (zd)))))) (nxS))
  (zh (ifS (zk eqC (zb ixT (vE 0) (cE (.int 0))) (cE (.str "pick"))) (zi (zG (z9 (cE (.str "pick")) (z9 (ap1 gH (zb ixT (vE 0) (cE (.int 1)))) (zd))))) (nxS))
  (zh (ifS (zk eqC (zb ixT (vE 0) (cE (.int 0))) (cE (.str "row"))) (zi (zG (z9 (cE (.str "row")) (z9 (ap1 yP (zL (Vp (zb ixT (vE 0) (cE (.int 1)))) (zE 0) (zW) (za 1 c_6 (z9 (vE 0) (zd))) 1 [])) (zd))))) (nxS))
  (zi (zG (z9 (cE (.str "many")) (z9 (za 1 c_6 (z9 (zb ixT (vE 0) (cE (.int 1))) (zd))) (z9 (zb ixT (vE 0) (cE (.int 2))) (z9 (zb ixT (vE 0) (cE (.int 3))) (zd)))))))))
def S_6:Nat->Nat->List T->R T
 | 0,_=>λ_=> .bad
 | n+1,_=>λts=>zf (b_6 (S_6 n 0) (en0 1 ts))
abbrev f_6 (n:Nat):List T->R T:=S_6 n 0
def b_i (c_8:List T->R T)(c_6:List T->R T):En->RS:=
  zh (ZW (za 1 c_8 (z9 (vE 0) (zd))))
  (zi (za 1 c_6 (z9 (vE 0) (zd))))
def f_i:List T->R T:=λts=>zf (b_i (f_8) (f_6 8) (en0 1 ts))
def b_a (c_a:List T->R T)(c_1z:List T->R T):En->RS:=
  zh (ifS (zk eqC (zb ixT (vE 0) (cE (.int 0))) (cE (.str "whole"))) (zi (zG (z9 (zb ixT (vE 0) (cE (.int 1))) (z9 (zb ixT (vE 0) (cE (.int 2))) (zd))))) (nxS))
  (zh (ifS (zk eqC (zb ixT (vE 0) (cE (.int 0))) (cE (.str "pick"))) (zi (zG (z9 (cE (.int 0)) (z9 (cE (.int 0)) (zd))))) (nxS))
  (zh (ifS (zk eqC (zb ixT (vE 0) (cE (.int 0))) (cE (.str "row"))) (zh (zA 1 (zL (Zm (zb ixT (vE 0) (cE (.int 1)))) (zE 0) (zW) (za 1 c_a (z9 (vE 0) (zd))) 1 []))
  (zi (zG (z9 (ap1 Vl (zL (Zm (vE 1)) (zM 0 1) (zW) (vE 0) 2 [])) (z9 (ap1 Vl (zL (Zm (vE 1)) (zM 0 1) (zW) (vE 1) 2 [])) (zd)))))) (nxS))
  (zi (za 1 c_1z (z9 (vE 0) (zd))))))
def z0v (c_a:List T->R T):En->RS:=
  zh (zA 1 (za 1 c_a (z9 (zb ixT (vE 0) (cE (.int 1))) (zd))))
  (zi (zG (z9 (zb jQ (zb zN (zb ixT (vE 0) (cE (.int 2))) (zb ixT (vE 1) (cE (.int 0)))) (zb zN (zb ixT (vE 0) (cE (.int 3))) (zb ixT (vE 1) (cE (.int 0))))) (z9 (zb Jh (zb zN (zb ixT (vE 0) (cE (.int 2))) (zb ixT (vE 1) (cE (.int 1)))) (zb zN (zb ixT (vE 0) (cE (.int 3))) (zb ixT (vE 1) (cE (.int 1))))) (zd)))))
def S_a:Nat->Nat->List T->R T
 | 0,_=>λ_=> .bad
 | n+1,0=>λts=>zf (b_a (S_a n 0) (S_a n 1) (en0 2 ts))
 | n+1,_=>λts=>zf (z0v (S_a n 0) (en0 2 ts))
abbrev f_a (n:Nat):List T->R T:=S_a n 0
abbrev f_1z (n:Nat):List T->R T:=S_a n 1
def b_3 (c_8:List T->R T)(c_a:List T->R T):En->RS:=
  zh (ZW (za 1 c_8 (z9 (vE 0) (zd))))
  (zi (za 1 c_a (z9 (vE 0) (zd))))
def f_3:List T->R T:=λts=>zf (b_3 (f_8) (f_a 8) (en0 1 ts))
def b_2 (c_e:List T->R T)(c_f:List T->R T)(c_2:List T->R T):En->RS:=
  zh (ifS (zk eqC (zb ixT (vE 0) (cE (.int 0))) (cE (.str "pick"))) (zi (za 1 c_e (z9 (vE 0) (zd)))) (nxS))
  (zh (y9 1 (zd))
  (zh (ZN (Zm (za 1 c_f (z9 (vE 0) (zd)))) (zE 2) (ya 1 (za 1 c_2 (z9 (vE 2) (zd)))))
  (zi (vE 1))))
def S_2:Nat->Nat->List T->R T
 | 0,_=>λ_=> .bad
 | n+1,_=>λts=>zf (b_2 (f_e) (f_f) (S_2 n 0) (en0 3 ts))
abbrev f_2 (n:Nat):List T->R T:=S_2 n 0
def z0w (c_8:List T->R T)(c_2:List T->R T):En->RS:=
  zh (ZW (za 1 c_8 (z9 (vE 0) (zd))))
  (zi (ap1 Wn (za 1 c_2 (z9 (vE 0) (zd)))))
def Vx:List T->R T:=λts=>zf (z0w (f_8) (f_2 8) (en0 1 ts))
def z0x:En->RS:=
  zh (ifS (zk eqC (zb ixT (vE 0) (cE (.int 0))) (cE (.str "row"))) (zi (zb ixT (vE 0) (cE (.int 1)))) (nxS))
  (zh (ifS (z01 (zk eqC (zb ixT (vE 0) (cE (.int 0))) (cE (.str "many"))) (chT leC leC (zb ixT (vE 0) (cE (.int 2))) (vB 1) (zb ixT (vE 0) (cE (.int 3))))) (zi (zb vo (zG (z9 (zb ixT (vE 0) (cE (.int 1))) (zd))) (vE 1))) (nxS))
  (zi (zG (zd))))
def kv:List T->R T:=λts=>zf (z0x  (en0 2 ts))
def z0y:En->RS:=
  zh (zA 2 (zb Jh (zb ixT (vE 0) (cE (.int 1))) (zb ixT (vE 1) (cE (.int 1)))))
  (zh (zA 3 (zb jQ (zb ixT (vE 0) (cE (.int 2))) (zb ixT (vE 1) (cE (.int 2)))))
  (zi (ifE (zk leC (vB 2) (vB 3)) (zG (z9 (cE (.str "whole")) (z9 (vE 2) (z9 (vE 3) (zd))))) (cE .non))))
def G6:List T->R T:=λts=>zf (z0y  (en0 4 ts))
def z0z (c_e:List T->R T):En->RS:=
  zh (zA 2 (za 1 c_e (z9 (vE 1) (zd))))
  (zh (zA 3 (zL (Zm (zb ixT (vE 0) (cE (.int 1)))) (zE 0) (zk inC (zb ixT (vE 0) (cE (.int 0))) (vB 1)) (vE 0) 1 [2]))
  (zi (ifE (zk gtC (ap1 Zo (vB 3)) (cE (.int 0))) (zG (z9 (cE (.str "pick")) (z9 (ap1 yP (vE 3)) (zd)))) (cE .non))))
def G7:List T->R T:=λts=>zf (z0z (f_e) (en0 4 ts))
def b_7 (c_18:List T->R T)(c_1v:List T->R T)(c_1f:List T->R T)(c_1h:List T->R T)(c_20:List T->R T):En->RS:=
  zh (ifS (zk eqC (zb ixT (vE 0) (cE (.int 0))) (cE (.str "row"))) (zi (za 2 c_1v (z9 (zb ixT (vE 0) (cE (.int 1))) (z9 (za 2 c_18 (z9 (vE 1) (z9 (ap1 Zo (zb ixT (vE 0) (cE (.int 1)))) (zd)))) (zd))))) (nxS))
  (zh (ifS (zk eqC (zb ixT (vE 1) (cE (.int 0))) (cE (.str "row"))) (zi (za 2 c_1v (z9 (za 2 c_18 (z9 (vE 0) (z9 (ap1 Zo (zb ixT (vE 1) (cE (.int 1)))) (zd)))) (z9 (zb ixT (vE 1) (cE (.int 1))) (zd))))) (nxS))
  (zh (ifS (zk neC (zb ixT (vE 0) (cE (.int 0))) (zb ixT (vE 1) (cE (.int 0)))) (zi (cE .non)) (nxS))
  (zh (ifS (zk eqC (zb ixT (vE 0) (cE (.int 0))) (cE (.str "whole"))) (zi (za 2 c_1f (z9 (vE 0) (z9 (vE 1) (zd))))) (nxS))
  (zh (ifS (zk eqC (zb ixT (vE 0) (cE (.int 0))) (cE (.str "pick"))) (zi (za 2 c_1h (z9 (vE 0) (z9 (vE 1) (zd))))) (nxS))
  (zi (za 2 c_20 (z9 (vE 0) (z9 (vE 1) (zd)))))))))
def z0A (c_7:List T->R T):En->RS:=
  zh (ifS (zk neC (ap1 Zo (vB 0)) (ap1 Zo (vB 1))) (zi (cE .non)) (nxS))
  (zh (zA 2 (zL (uP (vE 0) (vE 1)) (zM 0 1) (zW) (za 2 c_7 (z9 (vE 0) (z9 (vE 1) (zd)))) 2 []))
  (zh (ifS (zk inC (cE .non) (vB 2)) (zi (cE .non)) (nxS))
  (zi (zG (z9 (cE (.str "row")) (z9 (ap1 yP (vE 2)) (zd)))))))
def z0B (c_7:List T->R T):En->RS:=
  zh (zA 2 (zb Jh (zb ixT (vE 0) (cE (.int 2))) (zb ixT (vE 1) (cE (.int 2)))))
  (zh (zA 3 (zb jQ (zb ixT (vE 0) (cE (.int 3))) (zb ixT (vE 1) (cE (.int 3)))))
  (zh (ifS (zk gtC (vB 2) (vB 3)) (zi (cE .non)) (nxS))
  (zh (zA 4 (za 2 c_7 (z9 (zb ixT (vE 0) (cE (.int 1))) (z9 (zb ixT (vE 1) (cE (.int 1))) (zd)))))
  (zh (ifS (zk wj (vB 4) (cE .non)) (zi (zG (z9 (cE (.str "many")) (z9 (vE 4) (z9 (vE 2) (z9 (vE 3) (zd))))))) (nxS))
  (zi (ifE (zk eqC (vB 2) (cE (.int 0))) (zG (z9 (cE (.str "many")) (z9 (zb ixT (vE 0) (cE (.int 1))) (z9 (cE (.int 0)) (z9 (cE (.int 0)) (zd)))))) (cE .non)))))))
def S_7:Nat->Nat->List T->R T
 | 0,_=>λ_=> .bad
 | n+1,0=>λts=>zf (b_7 (kv) (S_7 n 1) (G6) (G7) (S_7 n 2) (en0 2 ts))
 | n+1,1=>λts=>zf (z0A (S_7 n 0) (en0 3 ts))
 | n+1,_=>λts=>zf (z0B (S_7 n 0) (en0 5 ts))
abbrev f_7 (n:Nat):List T->R T:=S_7 n 0
abbrev f_1v (n:Nat):List T->R T:=S_7 n 1
abbrev f_20 (n:Nat):List T->R T:=S_7 n 2
def z0C (c_8:List T->R T)(c_7:List T->R T):En->RS:=
  zh (ZW (za 1 c_8 (z9 (vE 0) (zd))))
  (zh (ZW (za 1 c_8 (z9 (vE 1) (zd))))
  (zi (za 2 c_7 (z9 (vE 0) (z9 (vE 1) (zd))))))
def Vy:List T->R T:=λts=>zf (z0C (f_8) (f_7 20) (en0 2 ts))
def z0D (c_1:List T->R T)(c_11:List T->R T):En->RS:=
  zh (zA 2 (za 2 c_11 (z9 (vE 0) (z9 (vE 1) (zd)))))
  (zi (Jd (JI wj (vB 2) (cE .non)) (JI eqC (za 1 c_1 (z9 (vE 2) (zd))) (za 1 c_1 (z9 (vE 0) (zd))))))
def ye:List T->R T:=λts=>zf (z0D (f_1 20) (Vy) (en0 3 ts))
def z20 (c_11:List T->R T):En->RS:=
  zi (JI QE (za 2 c_11 (z9 (vE 0) (z9 (vE 1) (zd)))) (cE .non))
def Xq:List T->R T:=λts=>zf (z20 (Vy) (en0 2 ts))
def b_0 (c_17:List T->R T)(c_1j:List T->R T)(c_13:List T->R T)(c_9:List T->R T)(c_16:List T->R T)(c_b:List T->R T)(c_14:List T->R T)(c_3:List T->R T)(c_i:List T->R T)(c_15:List T->R T)(c_12:List T->R T)(c_19:List T->R T)(c_c:List T->R T)(c_d:List T->R T)(c_1m:List T->R T)(c_4:List T->R T):En->RS:=
  zh (z06 (zG (z9 (za 3 c_16 (z9 (vE 0) (z9 (cE (.int 0)) (z9 (cE (.int 9)) (zd))))) (z9 (za 3 c_16 (z9 (vE 0) (z9 (cE (.int 20000)) (z9 (cE (.int 9)) (zd))))) (z9 (za 3 c_16 (z9 (vE 0) (z9 (cE (.int 40000)) (z9 (cE (.int 9)) (zd))))) (zd))))) (Xl 1 2 3))
  (zh (ifS (zk gtC (vv (za 1 c_b (z9 (vE 1) (zd))) (za 1 c_b (z9 (vE 2) (zd))) (za 1 c_b (z9 (vE 3) (zd)))) (cE (.int 2))) (zi (cE (.bl true))) (nxS))
  (zh (zA 4 (zG (z9 (cE (.str "row")) (z9 (zG (z9 (vE 1) (z9 (vE 2) (zd)))) (zd)))))
  (zh (zA 5 (za 1 c_17 (z9 (vE 2) (zd))))
  (zh (ifS (orT (zk neC (za 1 c_17 (z9 (vE 4) (zd))) (zb mlT (za 1 c_17 (z9 (vE 1) (zd))) (vE 5))) (zk neC (za 1 c_b (z9 (vE 4) (zd))) (zb zq (cE (.int 1)) (zb Jh (za 1 c_b (z9 (vE 1) (zd))) (za 1 c_b (z9 (vE 2) (zd))))))) (zi (cE (.bl false))) (nxS))
  (zh (ZN (Zm (za 1 c_9 (z9 (vE 1) (zd)))) (zE 6) (ZN (Zm (za 1 c_9 (z9 (vE 2) (zd)))) (zE 7) (zh (JQ 8 9 (z9 (zG (z9 (vE 6) (z9 (vE 7) (zd)))) (z9 (zb zq (zb mlT (za 2 c_13 (z9 (vE 1) (z9 (vE 6) (zd)))) (vE 5)) (za 2 c_13 (z9 (vE 2) (z9 (vE 7) (zd))))) (zd))))
  (zh (ifS (orT (zk neC (za 2 c_13 (z9 (vE 4) (z9 (vE 8) (zd)))) (vB 9)) (zk neC (za 2 c_1j (z9 (vE 4) (z9 (vE 9) (zd)))) (vB 8))) (zi (cE (.bl false))) (nxS))
  (zh (JQ 10 11 (z9 (za 2 c_c (z9 (vE 1) (z9 (vE 6) (zd)))) (z9 (za 2 c_c (z9 (vE 2) (z9 (vE 7) (zd)))) (zd))))
  (zh (zA 12 (za 2 c_c (z9 (vE 4) (z9 (vE 8) (zd)))))
  (zh (ifS (zk neC (zb mlT (zb mlT (zb ixT (vE 12) (cE (.int 0))) (zb ixT (vE 10) (cE (.int 1)))) (zb ixT (vE 11) (cE (.int 1)))) (zb mlT (zb mlT (zb ixT (vE 12) (cE (.int 1))) (zb ixT (vE 10) (cE (.int 0)))) (zb ixT (vE 11) (cE (.int 0))))) (zi (cE (.bl false))) (nxS))
  (zh (ifS (zk neC (za 2 c_4 (z9 (vE 4) (z9 (vE 8) (zd)))) (zb zq (za 2 c_4 (z9 (vE 1) (z9 (vE 6) (zd)))) (za 2 c_4 (z9 (vE 2) (z9 (vE 7) (zd)))))) (zi (cE (.bl false))) (nxS))
  (ifS (zk neC (za 2 c_15 (z9 (vE 4) (z9 (vE 8) (zd)))) (zG (z9 (za 2 c_15 (z9 (vE 2) (z9 (vE 7) (zd)))) (z9 (za 2 c_15 (z9 (vE 1) (z9 (vE 6) (zd)))) (zd))))) (zi (cE (.bl false))) (nxS))))))))))
  (zh (ifS (orT (zk neC (za 1 c_d (z9 (vE 4) (zd))) (za 2 c_1m (z9 (za 1 c_d (z9 (vE 1) (zd))) (z9 (za 1 c_d (z9 (vE 2) (zd))) (zd))))) (zk neC (za 1 c_i (z9 (vE 4) (zd))) (zG (z9 (cE (.str "row")) (z9 (zG (z9 (za 1 c_i (z9 (vE 2) (zd))) (z9 (za 1 c_i (z9 (vE 1) (zd))) (zd)))) (zd)))))) (zi (cE (.bl false))) (nxS))
  (zh (ifS (zk neC (za 1 c_3 (z9 (vE 4) (zd))) (ap1 yP (zL (Zm (zG (z9 (cE (.int 0)) (z9 (cE (.int 1)) (zd))))) (zE 0) (zW) (zb zq (zb ixT (za 1 c_3 (z9 (vE 1) (zd))) (vE 0)) (zb ixT (za 1 c_3 (z9 (vE 2) (zd))) (vE 0))) 1 [1,2]))) (zi (cE (.bl false))) (nxS))
  (zh (ifS (zk neC (za 1 c_14 (z9 (vE 4) (zd))) (ap1 Wn (zb zq (za 1 c_14 (z9 (vE 1) (zd))) (za 1 c_14 (z9 (vE 2) (zd)))))) (zi (cE (.bl false))) (nxS))
  (zh (ifS (zk neC (za 2 c_12 (z9 (vE 4) (z9 (zG (z9 (cE (.str "row")) (z9 (zG (z9 (vE 3) (z9 (vE 2) (zd)))) (zd)))) (zd)))) (za 2 c_12 (z9 (vE 1) (z9 (vE 3) (zd))))) (zi (cE (.bl false))) (nxS))
  (zi (JI eqC (za 2 c_19 (z9 (vE 4) (z9 (zG (z9 (cE (.str "row")) (z9 (zG (z9 (vE 3) (z9 (vE 2) (zd)))) (zd)))) (zd)))) (za 2 c_19 (z9 (vE 1) (z9 (vE 3) (zd)))))))))))))))
def f_0:List T->R T:=λts=>zf (b_0 (Xo) (G1) (vw) (f_9 8) (Xm) (f_b) (Vx) (f_3) (f_i) (Xp) (ye) (Xq) (f_c) (f_d) (z0u) (f_4) (en0 13 ts))
end G
namespace G
open PySem L2 PV
noncomputable abbrev scr (ns:List Int):T:= .fz (ns.map T.int)
theorem Xr (ns:List Int)(k:Int)(h0:0<=k):∃c,gN [scr ns,.int k]= .ok (.int c):=by
 have e1:gN [scr ns,.int k]=zf (if decide (k < ((ns.map T.int).length))=true then (atT (ns.map T.int) k).s (λt=> .rt t) else
   match (eqC (scr ns) (.lst [])).s (λb=>if b=true then RS.rt (.int 0) else .nx [.vl (scr ns),.vl (.int k)]) with
   | .nx ρ' =>zi (zb zq (zb zN (zb ixT (vE 0) (zb Jc (vE 1) (ap1 Zo (vB 0)))) (cE (.int 31))) (vE 1)) ρ'
   | r=>r):=by
  show zf (match (if decide _=true then (atT _ k).s (λt=>RS.rt t) else .nx _) with
   | .nx ρ' =>_
   | r=>r)=_
  cases decide (k < ((ns.map _).length:Int)) with
  | true=>
   unfold atT;cases atI _ k <;> rfl
  | false=>rfl
 rw[e1,aa]
 by_cases hk:k < (ns.length)
 ·obtain⟨v,hv⟩:∃v,ns[k.toNat]? =some v:=⟨ns[k.toNat]'(by omega),a9 (by omega)⟩
  have ea:atI (ns.map T.int) k=some (.int v):=by
   have:k=((k.toNat):Int):=by omega
   rw[this];exact jd (by rw[ar,hv];rfl)
  rw[decide_eq_true hk];exact⟨v,by unfold atT;rw[ea];rfl⟩
 ·rw[decide_eq_false hk];cases ns with
  | nil=>exact⟨0,rfl⟩
  | cons x xs=>
   have hm0:=fV k (show (((x :: xs).length):Int) ≠ 0 by simp only[aw];omega)
   have hm1:=eO k (show (0) < (((x :: xs).length):Int) by simp only[aw];omega)
   obtain⟨v,hv⟩:∃v,(x :: xs)[(k % (((x :: xs).length):Int)).toNat]? =some v:=⟨_,a9 (by omega)⟩
   have ea:atI ((x :: xs).map T.int) (k % (((x :: xs).length):Int))=some (.int v):=by
    have e:k % (((x :: xs).length):Int)=(((k % (((x :: xs).length):Int)).toNat:Nat):Int):=by omega
    rw[e];exact jd (by rw[ar,hv];rfl)
   have cm:WQ v 31:= .inr ⟨by decide,by decide⟩
   have hp:(0:Int) < (((x :: xs).map T.int).length):=by simp only[aa,aw];omega
   refine⟨v*31+k, ?_⟩;show zf (((((if 0 < (((x :: xs).map _).length:Int) then R.ok _ else .bad).bind λy=>ixT _ y).bind λa=>zN a _).bind λa=>zq a _).s λt=> .rt t)=_
   rw[if_pos hp];show zf ((((atT _ _).bind λa=>zN a _).bind λa=>zq a _).s λt=> .rt t)=_;rw[aa];unfold atT;rw[ea];show zf ((((if WQ v 31 then R.ok _ else .bad)).bind λa=>zq a _).s λt=> .rt t)=_
   rw[if_pos cm];rfl
theorem Z1 (ns:List Int)(k m:Int)(h0:0<=k)(hm:0 < m):∃p,f_h [scr ns,.int k,.int m]= .ok (.int p)/\0<=p/\p < m:=by
 obtain⟨c,hc⟩:=Xr ns k h0;have cm2:WQ (c+6151*(k+1)) 40692:= .inr ⟨by decide,by decide⟩
 generalize hd:(c+6151*(k+1))*40692 % 2147483399=d;have cm3:WQ d d:= .inl ⟨by omega,by omega⟩
 refine⟨(d*d+d / 31) % 2147483629 % m, ?_,fV _ (by omega),eO _ hm⟩
 have e1:f_h [scr ns,.int k,.int m]=zf (match ((((((gN _).bind λx=>(zN (.int 6151) (.int _)).bind λy=>zq x y).bind λx=>zN x _).bind λx=>Jc x _)).s λt=>RS.nx _) with
   | .nx ρ' =>zi _ ρ'
   | r=>r):=rfl
 rw[e1,hc];show zf (match ((((if WQ _ _ then R.ok _ else .bad)).bind λx=>Jc x _).s λt=>RS.nx _) with
   | .nx ρ' =>_
   | r=>r)=_
 rw[if_pos cm2];show zf (zi _ _)=_;rw[hd];show zf (((((if WQ d d then R.ok _ else .bad).bind λx=>zq x _).bind λx=>Jc x _).bind λx=>Jc x _).s λt=>RS.rt t)=_
 rw[if_pos cm3];show zf ((if 0 < m then R.ok _ else .bad).s λt=>RS.rt t)=_
 rw[if_pos hm];rfl
theorem YK:∀(ts:List T) (ρ:En) (x:Sl),zu (zE 0) ft fe ts (ρ.set 0 x)=zu (zE 0) ft fe ts ρ
 | [],_,_=>rfl
 | t :: ts,ρ,x=>by
  unfold zu zE;rw[List.set_set]
theorem ZY {p:T->Bool}{h:T->T}:∀(ts:List T) (ρ:En),(∀t∈ts,ft (ρ.set 0 (.vl t))= .ok (p t)/\(p t=true->fe (ρ.set 0 (.vl t))= .ok (h t)))->zu (zE 0) ft fe ts ρ= .ok ((ts.filter p).map h)
 | [],_,_=>rfl
 | t :: ts,ρ,H=>by
  obtain⟨h1,h2⟩:=H t ac;have ih:=ZY ts ρ λu hu=>H u (a8 _ hu);have e:zu (zE 0) ft fe (t :: ts) ρ=(ft _).bind λk=>if k=true then (fe _).bind λv=>(zu _ ft fe ts _).bind λvs=> .ok _ else zu _ ft fe ts _:=rfl
  rw[e,h1,YK,ih];show (if p t=true then _ else _)=_
  cases hp:p t with
  | true=>rw[h2 hp,List.filter_cons_of_pos hp];rfl
  | false=>rw[if_neg aE,List.filter_cons_of_neg (by rw[hp];exact aE)]
theorem YL {h:T->T}(ts:List T)(ρ:En)(H:∀t∈ts,fe (ρ.set 0 (.vl t))= .ok (h t)):zu (zE 0) zW fe ts ρ= .ok (ts.map h):=by
 have:=ZY (ft:=zW) ts ρ λt ht=>⟨rfl,λ_=>H t ht⟩;rw[this,List.filter_eq_self.mpr (λ_ _=>rfl)]
theorem zH {h:T->T}{js:List Nat}(ts:List T)(hl:ts.length<=bnd)(H:∀t∈ts,fe ((wY k js ρ).set 0 (.vl t))= .ok (h t)):zF (zE 0) zW fe k js ρ ts= .ok (ts.map h):=by
 unfold zF;rw[if_pos hl,YL ts _ H];rfl
theorem jW (p:T->Bool):∀ts:List T,WR (ts.map λt=>T.bl (p t))=some (ts.all p)
 | []=>rfl
 | t :: ts=>by
  show (match WR (ts.map λt=>T.bl _) with | some j=>some _ | none=>none)=_
  rw[jW p ts];rfl
noncomputable def isW:T->Bool
 | .int _=>true
 | _=>false
theorem wA (t:T):f_r [t]= .ok (.bl (isW t)):=by cases t <;> rfl
noncomputable def vx (a b:Nat):T->Bool
 | .tup xs=>decide (a<=xs.length) && decide (xs.length<=b)
 | _=>false
theorem Zs (t:T)(a b:Nat):f_m [t,.int a,.int b]= .ok (.bl (vx a b t)):=by
 cases t with
 | tup xs=>
  show zf ((if decide _=true then R.ok _ else .ok _).s λt=> .rt t)=_
  have e1:decide ((a:Int)<=(xs.length))=decide (a<=xs.length):=by simp
  have e2:decide ((xs.length:Int)<=(b))=decide (xs.length<=b):=by simp
  rw[e1,e2];show _=R.ok (T.bl (decide _ && decide _));cases decide (a<=xs.length) <;> rfl
 | _=>rfl
noncomputable def jJ (lo hi:Int):T->T->Bool
 | .int i,.int j=>decide (lo<=i) && decide (i<=j) && decide (j<=hi)
 | _,_=>false
theorem YM (t u:T)(lo hi:Int):z0b [t,u,.int lo,.int hi]= .ok (.bl (jJ lo hi t u)):=by
 cases t with
 | int i=>
  cases u with
  | int j=>
   show zf ((if decide _=true then (if decide _=true then R.ok _ else .ok _) else .ok _).s λt=> .rt t)=_
   show _=R.ok (T.bl (decide _ && decide _ && decide _));cases decide (lo<=i) <;> cases decide (i<=j) <;> rfl
  | _=>rfl
 | _=>cases u <;> rfl
noncomputable def Zl (c:Nat):Bool:=decide (97<=c) && decide (c<=122)
def Zw:T->Bool
 | .str x=>decide (1<=x.length) && decide (x.length<=3) && x.cps.toList.all Zl
 | _=>false
theorem Vz (a b:Nat):decide ([a] < [b])=decide (a < b):=by
 by_cases h:a < b
 ·rw[decide_eq_true h];exact decide_eq_true (List.Lex.rel h)
 ·rw[decide_eq_false h];refine decide_eq_false λz=> ?_;cases z with
  | rel h' =>exact h h'
  | cons h' =>cases h'
theorem Xs (c:Nat)(ρ:En):chE leC leC (cE (.str "a")) (vB 0) (cE (.str "z")) ((Sl.vl (.str ⟨#[c]⟩)) :: ρ)= .ok (.bl (Zl c)):=by
 have e1:leC (.str "a") (.str ⟨#[c]⟩)= .ok (decide (97<=c)):=by
  show R.ok (!decide ([c] < [97]))=_;rw[Vz]
  by_cases h:c < 97
  ·rw[decide_eq_true h,decide_eq_false (by omega)];rfl
  ·rw[decide_eq_false h,decide_eq_true (by omega)];rfl
 have e2:leC (.str ⟨#[c]⟩) (.str "z")= .ok (decide (c<=122)):=by
  show R.ok (!decide ([122] < [c]))=_;rw[Vz]
  by_cases h:122 < c
  ·rw[decide_eq_true h,decide_eq_false (by omega)];rfl
  ·rw[decide_eq_false h,decide_eq_true (by omega)];rfl
 show (leC (.str "a") (.str _)).bind (λk=>if k=true then (leC (.str _) (.str "z")).bind λk' =>R.ok (T.bl k') else R.ok _)=_
 rw[e1,e2];unfold Zl;cases decide (97<=c) <;> rfl
def G8:T->Prop
 | .str x=>x.length<=bnd
 | _=>True
theorem Xt (t:T)(ht:G8 t):gP [t]= .ok (.bl (Zw t)):=by
 cases t with
 | str x=>
  have hx:=ht;have e0:Zo (.str x)= .ok _:=if_pos hx;have ec:zF (zE 0) zW (chE leC leC (cE (.str "a")) (vB 0) (cE (.str "z"))) 1 [] [.vl (.str x)] (Jf x)= .ok (x.cps.toList.map λc=>T.bl (Zl c)):=by
   have hs:(Jf x).length<=bnd:=by unfold Jf;rw[aa];exact hx
   have:=zH (h:=λt=>match t with | .str y=>T.bl (Zl (y.cps.toList.headD 0)) | t=>t) (k:=1) (js:=[]) (ρ:=[.vl (.str x)]) _ hs λt ht=>by
    obtain⟨c,_,rfl⟩:=au.mp ht;exact Xs c []
   rw[this];unfold Jf;rw[aO];rfl
  have ea:WR (x.cps.toList.map λc=>T.bl (Zl c))=some (x.cps.toList.all Zl):=by
   have:=jW (λt=>match t with | .str y=>Zl (y.cps.toList.headD 0) | _=>true) (Jf x)
   unfold Jf at this;rw[aO,iy]at this;exact this
  have e1:gP [.str x]=zf (match ((((Zo (.str x)).bind λy=>(leC _ y).bind λk=>if k=true then leC y _ else .ok _).bind λb=> .ok _).s λk=>if k=true then RS.rt _ else .nx _) with
    | .nx ρ' =>zi _ ρ'
    | r=>r):=rfl
  rw[e1,e0];have c1:decide ((1:Int)<=(x.length))=decide (1<=x.length):=by
   by_cases h:1<=x.length
   ·rw[decide_eq_true h];exact decide_eq_true (by omega)
   ·rw[decide_eq_false h];exact decide_eq_false (by omega)
  have c2:decide ((x.length:Int)<=(3))=decide (x.length<=3):=by
   by_cases h:x.length<=3
   ·rw[decide_eq_true h];exact decide_eq_true (by omega)
   ·rw[decide_eq_false h];exact decide_eq_false (by omega)
  show zf (match ((((if decide _=true then R.ok _ else .ok _)).bind λb=> .ok _).s λk=>if k=true then RS.rt _ else .nx _) with
    | .nx ρ' =>_
    | r=>r)=_
  rw[c1,c2];show _=R.ok (T.bl (decide _ && decide _ && x.cps.toList.all _));cases decide (1<=x.length) with
  | false=>rfl
  | true=>
   cases decide (x.length<=3) with
   | false=>rfl
   | true=>
    show zf ((((zF _ _ _ 1 [] [.vl _] _).bind λvs=> .ok _).bind xE).s λt=> .rt t)=_;rw[ec];show zf ((match WR (x.cps.toList.map λc=>T.bl _) with | some k=>R.ok _ | none=> .bad).s λt=> .rt t)=_
    rw[ea];rfl
 | _=>rfl
theorem bOk {α β:Type}(a:α)(f:α->R β):(R.ok a).bind f=f a:=rfl
theorem ZO {α:Type}(a:α)(f:α->RS):(R.ok a).s f=f a:=rfl
theorem jK (r:R T):zf (r.s λt=> .rt t)=r:=by cases r <;> rfl
theorem Z6 (f:En->R T)(ρ:En):zi f ρ=(f (frz ρ)).s λt=> .rt t:=rfl
theorem zj:za 1 g (z9 f zd) ρ=(f ρ).bind λx=>g [x]:=by
 unfold za z9 zd;cases f ρ <;> rfl
theorem zn:za 2 g (z9 f (z9 f' zd)) ρ=(f ρ).bind λx=>(f' ρ).bind λy=>g [x,y]:=by
 unfold za z9 zd;cases f ρ with
 | ok a=>cases f' ρ <;> rfl
 | ex c=>rfl
 | bad=>rfl
theorem ZA:za 3 g (z9 f (z9 f' (z9 f'' zd))) ρ=(f ρ).bind λx=>(f' ρ).bind λy=>(f'' ρ).bind λz=>g [x,y,z]:=by
 unfold za z9 zd;cases f ρ with
 | ok a=>
  cases f' ρ with
  | ok b=>cases f'' ρ <;> rfl
  | ex c=>rfl
  | bad=>rfl
 | ex c=>rfl
 | bad=>rfl
theorem z21:za 4 g (z9 f (z9 f' (z9 f'' (z9 f3 zd)))) ρ=(f ρ).bind λx=>(f' ρ).bind λy=>(f'' ρ).bind λz=>(f3 ρ).bind λw=>g [x,y,z,w]:=by
 unfold za z9 zd;cases f ρ with
 | ok a=>
  cases f' ρ with
  | ok b=>
   cases f'' ρ with
   | ok c=>cases f3 ρ <;> rfl
   | ex c=>rfl
   | bad=>rfl
  | ex c=>rfl
  | bad=>rfl
 | ex c=>rfl
 | bad=>rfl
def z0E (r k:R T):R T:=r.bind λx=>match x with
 | .bl true=>k
 | .bl false=> .ok (.bl false)
 | _=> .bad
theorem Jn (f g:En->R T)(ρ:En):Jd f g ρ=z0E (f ρ) (g ρ):=rfl
theorem Zk (a:Bool)(k:R T):z0E (.ok (.bl a)) k=if a=true then k else .ok (.bl false):=by cases a <;> rfl
theorem v0:vE 0 (.vl t :: ρ)= .ok t:=rfl
theorem v1:vE 1 (a :: .vl t :: ρ)= .ok t:=rfl
theorem w0:vB 0 (.vl t :: ρ)= .ok t:=rfl
theorem w1:vB 1 (a :: .vl t :: ρ)= .ok t:=rfl
theorem Z8:cE t ρ= .ok t:=rfl
theorem ze:zb g f f' ρ=(f ρ).bind λx=>(f' ρ).bind λy=>g x y:=rfl
theorem ZP:frz (.vl t :: ρ)= .vl t :: frz ρ:=rfl
theorem wB:frz (.un :: ρ)= .un :: frz ρ:=rfl
theorem ZZ:frz []=[]:=rfl
theorem Xu:chE g g' fa fb fc ρ=(fa ρ).bind λx=>(fb ρ).bind λy=>(g x y).bind λk=>if k=true then (fc ρ).bind λz=>(g' y z).bind λk' => .ok (.bl k') else .ok (.bl false):=rfl
theorem Zd {g:T->R T}:ap1 g f ρ=(f ρ).bind g:=rfl
theorem u9:leC (.int i) (.int j)= .ok (decide (i<=j)):=rfl
theorem je:JI g f f' ρ=(f ρ).bind λx=>(f' ρ).bind λy=>(g x y).bind λb=> .ok (.bl b):=rfl
theorem jg:Zo (.tup xs)= .ok (.int xs.length):=rfl
theorem G9:Zo (.lst xs)= .ok (.int xs.length):=rfl
mutual
noncomputable def sOk:T->Prop
 | .str x=>x.length<=bnd
 | .tup xs=>uZ xs
 | .lst xs=>uZ xs
 | .fz xs=>uZ xs
 | _=>True
noncomputable def uZ:List T->Prop
 | []=>True
 | t :: ts=>sOk t/\uZ ts
end
theorem jq:∀{ts:List T} {t:T},uZ ts->t∈ts->sOk t
 | u :: ts,t,h,hm=>by
  have h' :=by simpa only[uZ] using h
  rcases aj.mp hm with rfl | hm
  ·exact h'.1
  ·exact jq h'.2 hm
theorem sOk.str (h:sOk t):G8 t:=by
 cases t with
 | str x=>
  have h' :=by simpa only[sOk] using h
  exact h'
 | _=>trivial
theorem wC {xs:List T}(h:sOk (.tup xs)):uZ xs:=by simpa only[sOk] using h
def zP:T->Bool
 | .tup [w,.int i]=>Zw w && decide (1<=i) && decide (i<=20)
 | _=>false
theorem YN (t:T)(ht:sOk t):gQ [t]= .ok (.bl (zP t)):=by
 have e:gQ [t]=zf (z0c _ _ _ [.vl t]):=rfl;rw[e,z0c];simp only[Z6,jK,ZP,ZZ,Jn,ZA,zj,v0,Z8,bOk,ze,Xu];rw[show f_m [t,.int 2,.int 2]= .ok _ from Zs t 2 2,Zk];cases t with
 | tup xs=>
  match xs,ht with
  | [],_=>rfl
  | [_],_=>rfl
  | _ :: _ :: _ :: _,_=>simp[vx,zP]
  | [w,n],ht=>
   have hw:sOk w:=jq (wC ht) (by simp)
   show (if true=true then z0E (gP [w]) (z0E (f_r [n]) ((leC _ n).bind λk=>if k=true then (leC n _).bind λk' =>R.ok _ else .ok _)) else _)=_
   rw[Xt w hw.str,wA,Zk,Zk];cases n with
   | int i=>
    show (if Zw w=true then (if true=true then (if decide _=true then R.ok _ else .ok _) else _) else _)=R.ok (T.bl (Zw w && decide _ && decide _))
    cases Zw w <;> cases decide (1<=i) <;> rfl
   | _=>
    cases Zw w <;> rfl
 | _=>rfl
theorem zQ (f g:En->RS)(ρ:En):zh f g ρ=match f ρ with | .nx ρ' =>g ρ' | r=>r:=rfl
theorem ZT (g:En->R Bool)(f1 f2:En->RS)(ρ:En):ifS g f1 f2 ρ=(g ρ).s λk=>if k=true then f1 ρ else f2 ρ:=rfl
theorem YO (f g:En->R Bool)(ρ:En):orT f g ρ=(f ρ).bind λx=>if x=true then .ok true else g ρ:=rfl
theorem JU (f:En->R Bool)(ρ:En):uH f ρ=(f ρ).bind λx=> .ok (!x):=rfl
theorem Jo (f:En->R T)(ρ:En):WX f ρ=(f ρ).bind tru:=rfl
theorem VA (k:Bool):tru (.bl k)= .ok k:=rfl
theorem jL (i:Nat)(f:En->R T)(ρ:En):zA i f ρ=(f ρ).s λt=> .nx (ρ.set i (.vl t)):=rfl
theorem zx:zk g f f' ρ=(f ρ).bind λx=>(f' ρ).bind λy=>g x y:=rfl
theorem zY {g:T->En->R En}{js:List Nat}:zL fi g ft fe k js ρ=(fi ρ).bind λts=>(zF g ft fe k js ρ ts).bind λvs=> .ok (.lst vs):=rfl
theorem jr:Zm f ρ=(f ρ).bind Jg:=rfl
noncomputable def ZF:T->Str
 | .tup (.str w :: _)=>w
 | _=>⟨#[]⟩
def U0:T->Bool
 | .tup cs=>decide (1<=cs.length) && decide (cs.length<=4) && cs.all zP && decide ((dd [] (cs.map ZF)).length=cs.length)
 | _=>false
theorem Ww (h:zP c=true):∃w n,c= .tup [.str w,n]:=by
 unfold zP at h;split at h
 ·rename_i w i;cases w with
  | str x=>exact⟨x,_,rfl⟩
  | _=>cases h
 ·cases h
theorem JV:∀{cs:List T},cs.all zP=true->wo (cs.map λc=>T.str (ZF c))=some (cs.map ZF)
 | [],_=>rfl
 | c :: cs,h=>by
  rw[bR,ah]at h;have ih:=JV h.2;show (match wo (cs.map λc=>T.str _) with | some ys=>some _ | none=>none)=_
  rw[ih];rfl
theorem UQ (t:T)(ht:sOk t):gR [t]= .ok (.bl (U0 t)):=by
 have e:gR [t]=zf (z0d _ _ [.vl t,.un]):=rfl;rw[e,z0d];simp only[zQ,ZT,YO,JU,Jo,ZA,v0,Z8,bOk];rw[show f_m [t,.int 1,.int 4]= .ok _ from Zs t 1 4];cases t with
 | tup cs=>
  have hl:vx 1 4 (.tup cs)=(decide _ && decide _):=rfl;rw[hl];show _=R.ok (T.bl (decide _ && decide _ && cs.all _ && decide _));cases h14:(decide (1<=cs.length) && decide (cs.length<=4)) with
  | false=>rfl
  | true=>
   rw[ah,decide_eq_true_eq,decide_eq_true_eq]at h14;have hb:cs.length<=bnd:=aq h14.2 (by decide)
   have ec:zF _ _ (za 1 gQ (z9 (vE 0) zd)) 1 [] [.vl (.tup cs),.un] cs= .ok (cs.map λc=>T.bl _):=
    zH cs hb λc hc=>by
     exact YN c (jq (wC ht) hc)
   simp only[e_,aB,if_false,Zd,zY,jr,v0,bOk,Jg,ec];have ea:xE (.lst (cs.map λc=>T.bl (zP c)))= .ok (.bl (cs.all zP)):=by
    show (match WR (cs.map λc=>T.bl _) with | some k=>R.ok _ | none=> .bad)=_
    rw[jW]
   rw[ea];simp only[bOk,VA,ZO];cases hall:cs.all _ with
   | false=>rfl
   | true=>
    have ew:zF _ _ (zb ixT (vE 0) (cE (.int 0))) 1 [] [.vl (.tup cs),.un] cs= .ok (cs.map λc=>T.str (ZF c)):=
     zH cs hb λc hc=>by
      obtain⟨w,n,rfl⟩:=Ww (aQ.mp hall c hc);rfl
    simp only[e_,aB,if_false,nxS,jL,zY,jr,v0,bOk,Jg,ew,ZO,Z6];show zf (((QT (.lst (cs.map λc=>T.str _))).bind λx=>(Zo (.lst (cs.map λc=>T.str _))).bind λy=>(eqC x y).bind λb=>R.ok _).s λt=> .rt t)=_;have el:QT (.lst (cs.map λc=>T.str (ZF c)))= .ok (.int (dd [] (cs.map ZF)).length):=by
     show (match wo (cs.map λc=>T.str _) with | some ys=>if (cs.map λc=>T.str _).length+1 < 4096 then R.ok _ else .bad | none=> .bad)=_
     rw[JV hall];exact if_pos (by rw[aa];omega)
    rw[el,G9,aa];show R.ok _=_;congr 2
    by_cases hq:(dd [] (cs.map ZF)).length=cs.length
    ·rw[hq];simp
    ·rw[decide_eq_false hq];simp only[cI,beq_eq_false_iff_ne];omega
 | _=>rfl
noncomputable def isS (w:Str):T->Bool
 | .str s=>s == w
 | _=>false
theorem eqS (h:T)(w:Str):eqC h (.str w)= .ok (isS w h):=by cases h <;> rfl
theorem eqI (i j:Int):eqC (.int i) (.int j)= .ok (i == j):=rfl
theorem at0:ixT (.tup (h :: r)) (.int 0)= .ok h:=by
 show atT _ 0=_;unfold atT;rw[show atI _ 0=some h from jd rfl]
theorem at1:ixT (.tup (h :: a :: r)) (.int 1)= .ok a:=by
 show atT _ 1=_;unfold atT;rw[show atI _ 1=some a from jd rfl]
theorem at2:ixT (.tup (h :: a :: b :: r)) (.int 2)= .ok b:=by
 show atT _ 2=_;unfold atT;rw[show atI _ 2=some b from jd rfl]
theorem at3:ixT (.tup (h :: a :: b :: c :: r)) (.int 3)= .ok c:=by
 show atT _ 3=_;unfold atT;rw[show atI _ 3=some c from jd rfl]
noncomputable def Jp (k:T->Bool):T->Bool
 | .tup ks=>decide (1<=ks.length) && decide (ks.length<=3) && ks.all k
 | _=>false
def Wx:List T->Bool
 | [a,b]=>jJ (-20) 20 a b
 | _=>false
def YQ:List T->Bool
 | [c]=>U0 c
 | _=>false
def Ga (k:T->Bool):List T->Bool
 | [c]=>Jp k c
 | _=>false
def YR (k:T->Bool):List T->Bool
 | [c,a,b]=>jJ 0 3 a b && k c
 | _=>false
def UR (k:T->Bool):T->Bool
 | .tup (h :: r)=>if isS "whole" h=true then Wx r else if isS "pick" h=true then YQ r else if isS "row" h=true then Ga k r else if isS "many" h=true then YR k r else false
 | _=>false
def isK:Nat->T->Bool
 | 0,_=>false
 | d+1,t=>UR (isK d) t
theorem YS {α:Type}(xs:List α)(n:Nat):((xs.length:Int) == (n:Int))=decide (xs.length=n):=by
 by_cases h:xs.length=n
 ·rw[h];simp
 ·rw[decide_eq_false h,beq_eq_false_iff_ne];omega
theorem VB:y7 f ρ=(f ρ).bind λx=>match x with | .int i=> .ok (.int (-i)) | _=> .bad:=rfl
theorem j0:Wf (.int i) (.int j)= .ok (.int (i - j)):=rfl
set_option maxHeartbeats 1000000 in
theorem Xv {n:Nat}{d:Nat}{k:T->Bool}(H0:∀t,sOk t->S_j n 0 [t,.int d]= .ok (.bl (k t)))(H1:∀t,sOk t->S_j n 1 [t,.int d]= .ok (.bl (Jp k t)))(t:T)(ht:sOk t):
  S_j (n+1) 0 [t,.int ((d+1:Nat):Int)]= .ok (.bl (UR k t)):=by
 have e:S_j (n+1) 0 [t,.int ((d+1:Nat))]=zf (b_j z0b _ gR _ [.vl t,.vl (.int _)]):=rfl;have hL:(((d+1:Nat):Int) == 0)=false:=by rw[beq_eq_false_iff_ne];omega
 have hL1:((d+1:Nat)) - 1=(d:Int):=by omega
 rw[e,b_j];simp only[zQ,ZT,YO,JU,Jo,zx,w0,w1,Z8,bOk,eqI,hL,aB,if_false,Zd];cases t with
 | tup xs=>
  cases xs with
  | nil=>rfl
  | cons h r=>
   have hs:=wC ht;have hm:∀u∈r,sOk u:=λu hu=>jq hs (a8 _ hu);have z0:(((h :: r).length:Int) == 0)=false:=by rw[beq_eq_false_iff_ne];simp only[aw];omega
   have ti:UC "tuple" (.tup (h :: r))= .ok (.bl true):=rfl;simp only[ti,bOk,VA,e_,aB,if_false,jg,eqI,z0,ZO,nxS,ze,v0,v1,Z8,at0,eqS,Z6,ZP,ZZ,Jn,je,Zd,w0,z21,zj,zn,VB,j0,hL1];show _=R.ok (T.bl (if isS "whole" h=true then Wx r else if isS "pick" h=true then YQ r else if isS "row" h=true then Ga k r else if isS "many" h=true then YR k r else false))
   have l3:(((h :: r).length:Int) == 3)=decide _:=YS (h :: r) 3;have l2:(((h :: r).length:Int) == 2)=decide _:=YS (h :: r) 2;have l4:(((h :: r).length:Int) == 4)=decide _:=YS _ 4;simp only[l2,l3,l4,Zk];cases isS _ h with
   | true=>
    match r,hm with
    | [],_=>rfl
    | [_],_=>rfl
    | _ :: _ :: _ :: _,_=>simp[Wx,ZO,zf]
    | [a,b],_=>
     simp only[at1,at2,bOk,YM];rfl
   | false=>
    simp only[aB,if_false,v0,v1,w0,bOk,at0,ZO,ZP,ZZ,jg,eqI,l2,l4,Zk,j0,hL1];cases isS _ h with
    | true=>
     match r,hm with
     | [],_=>rfl
     | _ :: _ :: _,_=>simp[YQ,ZO,zf]
     | [c],hm=>
      simp only[at1,bOk,UQ c (hm c (by simp))]
      rfl
    | false=>
     simp only[aB,if_false,v0,v1,w0,bOk,at0,ZO,ZP,ZZ,jg,eqI,l2,l4,Zk,j0,hL1];cases isS _ h with
     | true=>
      match r,hm with
      | [],_=>rfl
      | _ :: _ :: _,_=>simp[Ga,ZO,zf]
      | [c],hm=>
       simp only[at1,bOk,H1 c (hm c (by simp))]
       rfl
     | false=>
      simp only[aB,if_false,v0,v1,w0,bOk,at0,ZO,ZP,ZZ,jg,eqI,l2,l4,Zk,j0,hL1];cases isS _ h with
      | true=>
       match r,hm with
       | [],_=>rfl
       | [_],_=>rfl
       | [_,_],_=>rfl
       | _ :: _ :: _ :: _ :: _,_=>simp[YR,ZO,zf]
       | [c,a,b],hm=>
        simp only[at1,at2,at3,bOk,YM,H0 c (hm c (by simp)),Zk]
        show zf (match (if jJ 0 3 a b=true then R.ok _ else .ok _).s (λt=>RS.rt t) with | .nx _=>RS.rt _ | r=>r)=R.ok (T.bl (jJ 0 3 a b && k c))
        cases jJ 0 3 a b <;> rfl
      | false=>rfl
 | _=>rfl
theorem Gb {k:T->Bool}(H0:∀t,sOk t->S_j n 0 [t,.int d]= .ok (.bl (k t)))(t:T)(ht:sOk t):S_j (n+1) 1 [t,.int d]= .ok (.bl (Jp k t)):=by
 have e:S_j (n+1) 1 [t,.int d]=zf (z0e f_m (S_j n 0) [.vl t,.vl (.int d)]):=rfl;rw[e,z0e];simp only[Z6,jK,ZP,ZZ,Jn,ZA,v0,Z8,bOk];rw[show f_m [t,.int 1,.int 3]= .ok (.bl (vx 1 3 t)) from Zs t 1 3,Zk];cases t with
 | tup ks=>
  show (if (decide (1<=ks.length) && decide (ks.length<=3))=true then _ else _)=R.ok (T.bl (decide (1<=ks.length) && decide (ks.length<=3) && ks.all k))
  cases h13:(decide (1<=ks.length) && decide (ks.length<=3)) with
  | false=>rfl
  | true=>
   rw[ah,decide_eq_true_eq,decide_eq_true_eq]at h13;have hb:ks.length<=bnd:=aq h13.2 (by decide)
   have ec:zF (zE 0) zW (za 2 (S_j n 0) (z9 (vE 0) (z9 (vE 1) zd))) 1 [1] [.vl (.tup ks),.vl (.int d)] ks= .ok (ks.map λc=>T.bl (k c)):=
    zH (h:=λc=>T.bl (k c)) ks hb λc hc=>by
     show za 2 (S_j n 0) (z9 (vE 0) (z9 (vE 1) zd)) [.vl c,.vl (.int d)]=_;rw[zn,v0,v1,bOk,bOk];exact H0 c (jq (wC ht) hc)
   simp only[if_true,Zd,zY,jr,v0,bOk,Jg,ec];show (match WR (ks.map λc=>T.bl (k c)) with | some k=>R.ok (T.bl k) | none=> .bad)=_
   rw[jW];rfl
 | _=>rfl
theorem ua:∀(d n:Nat),2*d+1<=n->∀t,sOk t->S_j n 0 [t,.int d]= .ok (.bl (isK d t))
 | 0,n+1,_,t,_=>rfl
 | d+1,n+2,h,t,ht=>Xv (n:=n+1) (λu hu=>ua d (n+1) (by omega) u hu) (λu hu=>Gb (λv hv=>ua d n (by omega) v hv) u hu) t ht
theorem US (t:T)(ht:sOk t):f_5 [t]= .ok (.bl (isK 3 t)):=by
 have e:f_5 [t]=zf (b_5 (f_j 20) [.vl t]):=rfl;rw[e,b_5];simp only[Z6,jK,ZP,ZZ,zn,v0,Z8,bOk];exact ua 3 20 (by omega) t ht
noncomputable def inR (lo hi:Int):T->Bool
 | .int i=>decide (lo<=i) && decide (i<=hi)
 | _=>false
theorem Wy:∀(ws acc:List Str),(dd acc ws).length<=acc.length+ws.length
 | [],acc=>am _
 | w :: ws,acc=>by
  unfold dd;have:=Wy ws (if w∈acc then acc else acc++[w])
  by_cases h:w∈acc
  ·rw[if_pos h]at this ⊢;simp only[aw];omega
  ·rw[if_neg h]at this ⊢;rw[az,aG]at this;simp only[aw];omega
theorem wD:∀(ws acc:List Str),((dd acc ws).length=acc.length+ws.length)↔∀(k:Nat) (w:Str),ws[k]? =some w->w ∉ acc++ws.take k
 | [],acc=>by simp[dd]
 | w :: ws,acc=>by
  unfold dd
  by_cases h:w∈acc
  ·rw[if_pos h];have:=Wy ws acc;constructor
   ·intro e;simp only[aw]at e;omega
   ·intro H;exact absurd (dS _ h) (H 0 w rfl)
  ·rw[if_neg h];have ih:=wD ws (acc++[w]);rw[az,aG]at ih;rw[show acc.length+(w :: ws).length=acc.length+1+ws.length by simp only[aw];omega,ih]
   constructor
   ·intro H k v e;cases k with
    | zero=>simp at e;subst e;simpa using h
    | succ k=>
     have:=H k v (by simpa using e)
     simpa[bI] using this
   ·intro H k v e;have:=H (k+1) v (by simpa using e)
    simpa[bI] using this
theorem ltI (i j:Int):ltC (.int i) (.int j)= .ok (decide (i < j)):=rfl
theorem v2 {t:T}{a b:Sl}{ρ:En}:vE 2 (a :: b :: .vl t :: ρ)= .ok t:=rfl
theorem v3 {t:T}{a b c:Sl}{ρ:En}:vE 3 (a :: b :: c :: .vl t :: ρ)= .ok t:=rfl
theorem w2 {t:T}{a b:Sl}{ρ:En}:vB 2 (a :: b :: .vl t :: ρ)= .ok t:=rfl
theorem w3 {t:T}{a b c:Sl}{ρ:En}:vB 3 (a :: b :: c :: .vl t :: ρ)= .ok t:=rfl
theorem w5 {t:T}{a b c d e:Sl}{ρ:En}:vB 5 (a :: b :: c :: d :: e :: .vl t :: ρ)= .ok t:=rfl
theorem v4 {t:T}{a b c d:Sl}{ρ:En}:vE 4 (a :: b :: c :: d :: .vl t :: ρ)= .ok t:=rfl
theorem ub (f g:En->R Bool)(ρ:En):z01 f g ρ=(f ρ).bind λx=>if x=true then g ρ else .ok false:=rfl
theorem Gc {g g' :T->T->R Bool}{fa fb fc:En->R T}{ρ:En}:chT g g' fa fb fc ρ=(fa ρ).bind λx=>(fb ρ).bind λy=>(g x y).bind λk=>if k=true then (fc ρ).bind λz=>g' y z else .ok false:=rfl
theorem wE (w:Str):∀ws:List Str,wX (λy=>eqF 30 y (.str w)) (ws.map T.str)=some (decide (w∈ws))
 | []=>rfl
 | x :: ws=>by
  have ih:=wE w ws;show (match wX (λy=>eqF 30 y (.str w)) (ws.map T.str) with | none=>none | some c=>some ((x == w) || c))=_
  rw[ih];show some ((x == w) || decide (w∈ws))=_
  congr 1
  by_cases h:x=w
  ·subst h;simp
  ·have h' :¬ w=x:=λz=>h z.symm;simp[h,h']
theorem gtI (i j:Int):gtC (.int i) (.int j)= .ok (decide (i > j)):=rfl
theorem zR (i j:Int):zq (.int i) (.int j)= .ok (.int (i+j)):=rfl
theorem Ge (p:Int)(h0:0<=p)(h1:p < 26):ixT (.str "abcdefghijklmnopqrstuvwxyz") (.int p)= .ok (.str ⟨#[97+p.toNat]⟩):=by
 obtain⟨n,rfl⟩:=cQ h0;have h:n < 26:=by omega
 iterate 26 (refine(Nat.lt_or_eq_of_le (Nat.le_of_lt_succ h)).elim (λh=> ?_) (λe=>e ▸ rfl))
 exact absurd h (Nat.not_lt_zero _)
abbrev letE:En->R T:=zb ixT (vE 3) (za 3 f_h (z9 (vE 1) (z9 (zb zq (zb zq (vE 2) (cE (.int 2))) (vE 0)) (z9 (cE (.int 26)) (zd)))))
theorem Gf (ns:List Int)(k:Int)(h0:0<=k)(j:Nat):∃c:Nat,(97<=c/\c<=122)/\letE [.vl (.int (j:Int)),.vl (scr ns),.vl (.int k),.vl (.str "abcdefghijklmnopqrstuvwxyz")]= .ok (.str ⟨#[c]⟩):=by
 obtain⟨p,e,p0,p1⟩:=Z1 ns (k+2+j) 26 (by omega) (by omega)
 refine⟨97+p.toNat,⟨by omega,by omega⟩, ?_⟩
 simp only[letE,ze,v3,bOk,ZA,v1,v2,v0,Z8,zR,e];exact Ge p p0 p1
theorem UT (ns:List Int)(k:Int)(h0:0<=k):∃w:Str,ku [scr ns,.int k]= .ok (.str w)/\Zw (.str w)=true:=by
 have e:ku [scr ns,.int k]=zf (z08 _ [.vl _,.vl _,.un]):=rfl;obtain⟨p,e0,p0,p1⟩:=Z1 ns k 6 h0 (by omega)
 have hset:∀t,([Sl.vl (scr ns),Sl.vl (.int k),.un]).set 2 _=[Sl.vl _,Sl.vl _,.vl t]:=λ_=>rfl;rw[e,z08];simp only[zQ,ZT,jL,Z8,ZO,hset,zx,ZA,v0,v1,bOk,e0,gtI];cases hp:decide (p > 0) with
 | true=>
  obtain⟨q,e1,q0,q1⟩:=Z1 ns (k+1) 4 (by omega) (by omega)
  simp only[if_true,Z6,ZP,ZZ,ze,ZA,v0,v1,Z8,bOk,zR,e1];have hq:q=0\/q=1\/q=2\/q=3:=by omega
  rcases hq with rfl | rfl | rfl | rfl
  ·exact⟨"a",rfl,by decide⟩
  ·exact⟨"b",rfl,by decide⟩
  ·exact⟨"ab",rfl,by decide⟩
  ·exact⟨"cab",rfl,by decide⟩
 | false=>
  obtain⟨q,e1,q0,q1⟩:=Z1 ns (k+1) 3 (by omega) (by omega)
  simp only[aB,if_false,nxS,Z6,jK,ZP,ZZ,Zd,zY];obtain⟨g,hg⟩:=iX.mp (Gf ns k h0);have ei:jo (zb zq (cE (.int 1)) (za 3 f_h (z9 (vE 0) (z9 (zb zq (vE 1) (cE (.int 1))) (z9 (cE (.int 3)) (zd)))))) [Sl.vl (scr ns),Sl.vl (.int k),.vl (.str "abcdefghijklmnopqrstuvwxyz")]= .ok (rng 0 (1+q).toNat):=by
   unfold jo;simp only[ze,ZA,v0,v1,Z8,bOk,zR,e1];rw[if_pos ⟨by omega,by omega⟩]
  have ec:∀n,n<=3->zF _ _ _ 1 [0,1,2] [Sl.vl _,Sl.vl _,.vl _] _= .ok ((rng 0 n).map λt=>match t with | .int j=> .str ⟨#[g j.toNat]⟩ | t=>t):=λn hn=>
   zH _ (by unfold rng;rw[aa,bw];exact aq hn (by decide)) λt ht=>by
    obtain⟨j,_,rfl⟩:=au.mp ht;rw[Int.zero_add];exact(hg j).2
  rw[ei,bOk,ec _ (by omega),bOk]
  have hw:∀j,Zl _=true:=λj=>by
   obtain⟨a,b⟩:=(hg j).1;unfold Zl;rw[decide_eq_true a,decide_eq_true b];rfl
  have hq:q=0\/q=1\/q=2:=by omega
  rcases hq with rfl | rfl | rfl
  ·refine⟨⟨#[g 0]⟩,rfl, ?_⟩;show (Zl _ && true)=true;rw[hw 0];rfl
  ·refine⟨⟨#[g 0,g 1]⟩,rfl, ?_⟩;show (Zl _ && (Zl _ && true))=true;rw[hw 0,hw 1];rfl
  ·refine⟨⟨#[g 0,g 1,g 2]⟩,rfl, ?_⟩;show (Zl _ && (Zl _ && (Zl _ && true)))=true;rw[hw 0,hw 1,hw 2];rfl
theorem z22 (j:Int):zN (.int 5) (.int j)= .ok (.int (5*j)):=by
 show (if WQ 5 j then R.ok _ else .bad)=_
 rw[if_pos (.inl ⟨by decide,by decide⟩)]
theorem Jq (hf:f ρ= .ok x)(hg:g ρ= .ok y):zG (z9 f (z9 g zd)) ρ= .ok (.tup [x,y]):=by
 unfold zG z9 zd;rw[hf,hg];rfl
theorem z0F (hf:f ρ= .ok x)(hg:g ρ= .ok y)(hh:h ρ= .ok z):zG (z9 f (z9 g (z9 h zd))) ρ= .ok (.tup [x,y,z]):=by
 unfold zG z9 zd;rw[hf,hg,hh];rfl
theorem z0G (hf:f ρ= .ok x)(hg:g ρ= .ok y)(hh:h ρ= .ok z)(hi:i ρ= .ok w):zG (z9 f (z9 g (z9 h (z9 i zd)))) ρ= .ok (.tup [x,y,z,w]):=by
 unfold zG z9 zd;rw[hf,hg,hh,hi];rfl
noncomputable def Dst (ws:List Str):Prop:=∀(k:Nat) (w:Str),ws[k]? =some w->w ∉ ws.take k
theorem Dst.add (h:Dst ws)(hw:w ∉ ws):Dst (ws++[w]):=λk x hx=>by
 by_cases hk:k < ws.length
 ·rw[aT hk]at hx;rw[List.take_append_of_le_length (by omega)]
  exact h k x hx
 ·rw[aJ (by omega)]at hx
  have hk' :k=ws.length:=by
   rcases Nat.lt_or_ge (k - ws.length) 1 with z | z
   ·omega
   ·rw[aH (by simpa using z)]at hx;cases hx
  subst hk';rw[Nat.sub_self]at hx;cases hx;rw[List.take_left']
  ·exact hw
  ·rfl
abbrev Wz:En->RS:=zh (zA 5 (za 2 ku (z9 (vE 0) (z9 (zb zq (zb zq (vE 1) (cE (.int 5))) (zb zN (cE (.int 5)) (vE 4))) (zd)))))
  (ifS (zk QC (vB 5) (vB 3)) (QJ 3 (vE 5)) (nxS))
theorem Jr (ns:List Int)(k:Int)(h0:0<=k):∀(js:List Nat) (ws:List Str) (x4 x5:Sl),js.length+ws.length<=4->Dst ws->(∀w∈ws,Zw (.str w)=true)->
  ∃ws' y4 y5,Za (zE 4) Wz (js.map λ(j:Nat)=>T.int (0+(j:Int))) [.vl (scr ns),.vl (.int k),.un,.ow (ws.map T.str),x4,x5]= .nx [.vl (scr ns),.vl (.int k),.un,.ow (ws'.map T.str),y4,y5]/\ws'.length<=4/\Dst ws' /\(∀w∈ws',Zw (.str w)=true)/\(0 < js.length+ws.length->0 < ws'.length)
 | [],ws,x4,x5,hl,hd,hw=>⟨ws,x4,x5,rfl,by simpa using hl,hd,hw,λh=>by simpa using h⟩
 | j :: js,ws,x4,x5,hl,hd,hw=>by
  obtain⟨w,ew,hw'⟩:=UT ns (k+5+5*(0+(j:Int))) (by omega)
  have hl' :js.length+ws.length+1<=4:=by simpa[aw,Nat.add_right_comm] using hl
  have e:Za (zE 4) Wz ((j :: js).map λ(j:Nat)=>T.int (0+(j:Int))) [.vl (scr ns),.vl (.int k),.un,.ow (ws.map T.str),x4,x5]=match Wz [.vl (scr ns),.vl (.int k),.un,.ow (ws.map T.str),.vl (.int (0+(j:Int))),x5] with
   | .nx ρ2=>Za (zE 4) Wz (js.map λ(j:Nat)=>T.int (0+(j:Int))) ρ2
   | .ct ρ2=>Za (zE 4) Wz (js.map λ(j:Nat)=>T.int (0+(j:Int))) ρ2
   | .bk ρ2=> .nx ρ2
   | r=>r:=rfl
  have eb:Wz [.vl (scr ns),.vl (.int k),.un,.ow (ws.map T.str),.vl (.int (0+(j:Int))),x5]= .nx [.vl (scr ns),.vl (.int k),.un,.ow ((if w∈ws then ws else ws++[w]).map T.str),.vl (.int (0+(j:Int))),.vl (.str w)]:=by
   have w3o:∀(a b c:Sl) (ts:List T) (ρ:En),vB 3 (a :: b :: c :: .ow ts :: ρ)= .ok _:=λ_ _ _ _ _=>rfl;have hset:∀t,([.vl _,.vl (.int k),.un,.ow (ws.map T.str),.vl (.int (0+(j:Int))),x5]:En).set 5 (.vl t)=[.vl (scr ns),.vl (.int k),.un,.ow (ws.map T.str),.vl _,.vl t]:=λ_=>rfl;have en:QC (.str w) (.lst (ws.map T.str))= .ok (!decide (w∈ws)):=by
    show ((match wX (λy=>eqF 30 y (.str w)) (ws.map _) with | some b=>R.ok b | none=> .bad)).bind (λb=>R.ok _)=_
    rw[wE];rfl
   simp only[Wz,zQ,jL,zn,v0,v1,v4,ze,Z8,bOk,zR,z22,ew,ZO,hset,ZT,zx,w5,w3o,en]
   by_cases hm:w∈ws
   ·rw[decide_eq_true hm,if_pos hm];rfl
   ·rw[decide_eq_false hm,if_neg hm];have hb:(ws.map T.str).length < bnd:=by rw[aa];exact bm (show ws.length<=4 by omega) (by decide)
    show (if (ws.map _).length < bnd then RS.nx _ else .bad)=_
    rw[if_pos hb,bC];rfl
  rw[e,eb]
  by_cases hm:w∈ws
  ·rw[if_pos hm];obtain⟨ws',y4,y5,r1,r2,r3,r4,r5⟩:=Jr ns k h0 js ws _ _ (by omega) hd hw
   exact⟨ws',y4,y5,r1,r2,r3,r4,λ_=>r5 (by have:=List.length_pos_of_mem hm;omega)⟩
  ·rw[if_neg hm];obtain⟨ws',y4,y5,r1,r2,r3,r4,r5⟩:=Jr ns k h0 js _ _ _ (by simp only[az,aw,bN];omega) (hd.add hm) (λx hx=>by
    rcases cy.mp hx with z | z
    ·exact hw x z
    ·rw[aC.mp z];exact hw')
   exact⟨ws',y4,y5,r1,r2,r3,r4,λ_=>r5 (by simp only[az,aw,bN];omega)⟩
abbrev z0H:En->R T:=zG (z9 (vE 1) (z9 (zb zq (cE (.int 1)) (za 3 f_h (z9 (vE 2) (z9 (zb zq (zb zq (vE 3) (cE (.int 30))) (vE 0)) (z9 (cE (.int 20)) (zd)))))) (zd)))
theorem U1 (ns:List Int)(k:Int)(h0:0<=k):∀(ws:List Str) (i:Nat) (x0 x1:Sl),(∀w∈ws,Zw (.str w)=true)->∃cs:List T,zu (zM 0 1) zW z0H (((ws.map T.str).zipIdx i).map λp=>T.tup [.int (p.2:Nat),p.1]) [x0,x1,.vl (scr ns),.vl (.int k)]= .ok cs/\cs.all zP=true/\cs.map ZF=ws
 | [],i,x0,x1,_=>⟨[],rfl,rfl,rfl⟩
 | w :: ws,i,x0,x1,hw=>by
  obtain⟨p,e,p0,p1⟩:=Z1 ns (k+30+i) 20 (by omega) (by omega)
  obtain⟨cs,r1,r2,r3⟩:=U1 ns k h0 ws _ _ _ λx hx=>hw x (a8 _ hx);have ec:z0H [.vl (.int (i)),.vl (.str w),.vl (scr ns),.vl (.int k)]= .ok (.tup [.str w,.int (1+p)]):=by
   have ea:za 3 f_h (z9 (vE 2) (z9 (zb zq (zb zq (vE 3) (cE (.int 30))) (vE 0)) (z9 (cE (.int 20)) (zd)))) [.vl (.int (i)),.vl (.str w),.vl (scr ns),.vl (.int k)]= .ok (.int p):=by
    simp only[ZA,v2,v3,v0,ze,Z8,bOk,zR,e]
   have eb:zb zq (cE (.int 1)) (za 3 f_h (z9 (vE 2) (z9 (zb zq (zb zq (vE 3) (cE (.int 30))) (vE 0)) (z9 (cE (.int 20)) (zd))))) [.vl (.int (i)),.vl (.str w),.vl (scr ns),.vl (.int k)]= .ok (.int (1+p)):=by
    rw[ze,ea];rfl
   exact Jq v1 eb
  refine⟨.tup [.str w,.int (1+p)] :: cs, ?_, ?_, ?_⟩
  ·show ((z0H [.vl _,.vl _,.vl _,.vl _]).bind λv=>(zu _ _ _ (((ws.map _).zipIdx _).map λp=>T.tup _) [.vl _,.vl _,.vl _,.vl _]).bind λvs=>R.ok _)=_;rw[ec,r1];rfl
  ·rw[bR,r2,dR];show (Zw _ && decide _ && decide _)=true;rw[hw w ac,decide_eq_true (by omega),decide_eq_true (by omega)];rfl
  ·rw[ay,r3];rfl
theorem YT (i j:Int):jQ (.int i) (.int j)= .ok (.int (if j < i then j else i)):=rfl
theorem Xw (ns:List Int)(k:Int)(h0:0<=k):∃t,gO [scr ns,.int k]= .ok t/\∀d,isK (d+1) t=true:=by
 have e:gO [scr ns,.int k]=zf (z09 f_h ku [.vl (scr ns),.vl (.int k),.un,.un,.un,.un]):=rfl;obtain⟨p,e0,p0,p1⟩:=Z1 ns k 3 h0 (by omega)
 rw[e,z09,zQ];simp only[ZT,zx,ZA,v0,v1,Z8,bOk,e0,gtI,ZO];cases hp:decide (p > 0) with
 | true=>
  obtain⟨q,e1,q0,q1⟩:=Z1 ns (k+1) 7 (by omega) (by omega)
  obtain⟨q3,e3,_,_⟩:=Z1 ns (k+3) 8 (by omega) (by omega)
  obtain⟨q4,e4,a4,b4⟩:=Z1 ns (k+4) 3 (by omega) (by omega)
  obtain⟨q2,e2,a2,b2⟩:=Z1 ns (k+2) 4 (by omega) (by omega)
  have hset:∀t x,([.vl (scr ns),.vl (.int k),x,.un,.un,.un]:En).set 2 (.vl t)=[.vl (scr ns),.vl (.int k),.vl t,.un,.un,.un]:=λ_ _=>rfl;have fin:∀low:Int, -20<=low->low<=20->∃t,zf (zi (zG (z9 (cE (.str "whole")) (z9 (vE 2) (z9 (zb jQ (cE (.int 20)) (zb zq (vE 2) (za 3 f_h (z9 (vE 0) (z9 (zb zq (vE 1) (cE (.int 2))) (z9 (cE (.int 4)) (zd))))))) (zd))))) [.vl (scr ns),.vl (.int k),.vl (.int low),.un,.un,.un])= .ok t/\∀d,isK (d+1) t=true:=by
   intro low hl1 hl2;refine⟨.tup [.str "whole",.int low,.int (if low+q2 < 20 then low+q2 else 20)], ?_,λd=> ?_⟩
   ·rw[Z6,jK];refine z0F rfl rfl ?_;simp only[ZP,wB,ZZ,ze,v2,v0,v1,ZA,Z8,bOk,zR,e2,YT]
   ·show (decide (-20<=low) && decide (low<=_) && decide (_<=(20:Int)))=true;rw[decide_eq_true hl1,decide_eq_true (by split <;> omega),decide_eq_true (by split <;> omega)];rfl
  simp only[if_true,zQ,jL,ZT,ze,ZA,v0,v1,Z8,bOk,zR,e1,j0,ZO,hset,zx,e3,eqI];cases hq:(q3 == 0) with
  | true=>
   have h3:q4=0\/q4=1\/q4=2:=by omega
   rcases h3 with rfl | rfl | rfl
   ·obtain⟨t,r,s⟩:=fin (-20) (by omega) (by omega)
    refine⟨t, ?_,s⟩;rw[← r];simp only[if_true,e4,bOk];have hv:∀ρ,(jm (z9 (y7 (cE (.int 20))) (z9 (cE (.int 17)) (z9 (cE (.int 20)) (zd)))) ρ)= .ok (.lst [.int (-20),.int 17,.int 20]):=λ_=>rfl;simp only[hv,bOk];have hx:ixT (.lst [.int (-20),.int 17,.int 20]) (.int 0)= .ok (.int (-20)):=rfl;simp only[hx,ZO,hset,Z6];generalize zG _ _=z;cases z <;> rfl
   ·obtain⟨t,r,s⟩:=fin (17) (by omega) (by omega)
    refine⟨t, ?_,s⟩;rw[← r];simp only[if_true,e4,bOk];have hv:∀ρ,(jm (z9 (y7 (cE (.int 20))) (z9 (cE (.int 17)) (z9 (cE (.int 20)) (zd)))) ρ)= .ok (.lst [.int (-20),.int 17,.int 20]):=λ_=>rfl;simp only[hv,bOk];have hx:ixT (.lst [.int (-20),.int 17,.int 20]) (.int 1)= .ok (.int (17)):=rfl;simp only[hx,ZO,hset,Z6];generalize zG _ _=z;cases z <;> rfl
   ·obtain⟨t,r,s⟩:=fin (20) (by omega) (by omega)
    refine⟨t, ?_,s⟩;rw[← r];simp only[if_true,e4,bOk];have hv:∀ρ,(jm (z9 (y7 (cE (.int 20))) (z9 (cE (.int 17)) (z9 (cE (.int 20)) (zd)))) ρ)= .ok (.lst [.int (-20),.int 17,.int 20]):=λ_=>rfl;simp only[hv,bOk];have hx:ixT (.lst [.int (-20),.int 17,.int 20]) (.int 2)= .ok (.int (20)):=rfl;simp only[hx,ZO,hset,Z6];generalize zG _ _=z;cases z <;> rfl
  | false=>
   obtain⟨t,r,s⟩:=fin (q - 3) (by omega) (by omega)
   refine⟨t, ?_,s⟩;rw[← r];simp only[aB,if_false,nxS,Z6];generalize zG _ _=z;cases z <;> rfl
 | false=>
  obtain⟨q,e1,q0,q1⟩:=Z1 ns (k+1) 4 (by omega) (by omega)
  simp only[aB,if_false,nxS,zQ];have ei:jo (zb zq (cE (.int 1)) (za 3 f_h (z9 (vE 0) (z9 (zb zq (vE 1) (cE (.int 1))) (z9 (cE (.int 4)) (zd)))))) [.vl (scr ns),.vl (.int k),.un,.ow [],.un,.un]= .ok (rng 0 (1+q).toNat):=by
   unfold jo;simp only[ze,ZA,v0,v1,Z8,bOk,zR,e1];rw[if_pos ⟨by omega,by omega⟩]
  have el:y9 3 zd [.vl (scr ns),.vl (.int k),.un,.un,.un,.un]= .nx [.vl (scr ns),.vl (.int k),.un,.ow [],.un,.un]:=rfl;rw[el];have hn:(bc (1+q).toNat).length=(1+q).toNat:=bw;obtain⟨ws,y4,y5,r1,r2,r3,r4,r5⟩:=Jr ns k h0 (bc (1+q).toNat) [] .un .un (by rw[hn,bN];omega) (λk w h=>by cases h) (λw h=>by cases h)
  have hpos:0 < ws.length:=r5 (by rw[hn,bN];omega)
  have ef:ZN (jo (zb zq (cE (.int 1)) (za 3 f_h (z9 (vE 0) (z9 (zb zq (vE 1) (cE (.int 1))) (z9 (cE (.int 4)) (zd))))))) (zE 4) Wz [.vl (scr ns),.vl (.int k),.un,.ow [],.un,.un]= .nx [.vl (scr ns),.vl (.int k),.un,.ow (ws.map T.str),y4,y5]:=by
   unfold ZN;rw[ei,ZO];exact r1
  obtain⟨cs,s1,s2,s3⟩:=U1 ns k h0 ws 0 .un .un r4;have hcl:cs.length=ws.length:=by rw[← s3,aa]
  refine⟨.tup [.str "pick",.tup cs], ?_,λd=> ?_⟩
  ·dsimp only;rw[ef];dsimp only;rw[Z6,jK];refine Jq rfl ?_;rw[Zd,zY];have ee:xK (vE 3) (frz [.vl (scr ns),.vl (.int k),.un,.ow (ws.map T.str),y4,y5])= .ok (wn (ws.map T.str)):=rfl;rw[ee,bOk];unfold zF;rw[if_pos (by unfold wn;rw[aa,List.length_zipIdx,aa];exact aq r2 (by decide))]
   have ec:zu (zM 0 1) zW z0H (wn (ws.map T.str)) (wY 2 [0,1] (frz [.vl (scr ns),.vl (.int k),.un,.ow (ws.map T.str),y4,y5]))= .ok cs:=s1;rw[ec];rfl
  ·show (decide (1<=cs.length) && decide (cs.length<=4) && cs.all zP && decide ((dd [] (cs.map ZF)).length=cs.length))=true;have hd:(dd [] (cs.map ZF)).length=cs.length:=by
    rw[s3,hcl];have:=(wD ws []).mpr (λk w h=>by simpa using r3 k w h)
    simpa using this
   rw[decide_eq_true (by omega),decide_eq_true (by omega),s2,decide_eq_true hd];rfl
theorem YU (c:Int)(j:Int)(hc:WQ c j):zN (.int c) (.int j)= .ok (.int (c*j)):=by
 show (if WQ c j then R.ok _ else .bad)=_
 rw[if_pos hc]
theorem Gg (j:Int):zN (.int 3) (.int j)= .ok (.int (3*j)):=YU _ _ (.inl ⟨by decide,by decide⟩)
theorem Gh (j:Int):zN (.int 50) (.int j)= .ok (.int (50*j)):=YU _ _ (.inl ⟨by decide,by decide⟩)
abbrev z0I (c:List T->R T):En->R T:=za 3 c (z9 (vE 1) (z9 (zb zq (zb zq (zb zN (cE (.int 3)) (vE 2)) (cE (.int 40))) (zb zN (cE (.int 50)) (vE 0))) (z9 (zb Wf (vE 3) (cE (.int 1))) (zd))))
theorem uc (ns:List Int):∀(d n:Nat),d<=n->1<=d->∀k:Int,0<=k->∃t,S_q n 0 [scr ns,.int k,.int (d:Int)]= .ok t/\isK d t=true
 | d+1,n+1,hn,_,k,h0=>by
  have e:S_q (n+1) 0 [scr ns,.int k,.int ((d+1:Nat))]=zf (b_q f_h gO (S_q n 0) [.vl (scr ns),.vl (.int k),.vl _,.un,.un,.un]):=rfl;obtain⟨p,e0,p0,p1⟩:=Z1 ns k 5 h0 (by omega)
  obtain⟨l,el,hl⟩:=Xw ns (k+1) (by omega)
  have hset:([.vl (scr ns),.vl (.int k),.vl (.int ((d+1:Nat))),.un,.un,.un]:En).set 3 (.vl (.int p))=[.vl (scr ns),.vl (.int k),.vl _,.vl (.int p),.un,.un]:=rfl;rw[e,b_q];simp only[zQ,jL,ZT,YO,zx,ZA,zn,v0,v1,v2,Z8,bOk,e0,ZO,hset,w2,w3,eqI,ltI,zR,Z6,ZP,wB,ZZ,ze,el];have hd1:((((d+1:Nat):Int) == 1))=decide (d=0):=by
   by_cases h:d=0
   ·subst h;rfl
   ·rw[decide_eq_false h,beq_eq_false_iff_ne];omega
  rw[hd1]
  by_cases hleaf:d=0\/p < 2
  ·refine⟨l, ?_,hl d⟩;rcases hleaf with h | h
   ·rw[decide_eq_true h];rfl
   ·rw[decide_eq_true h];cases decide (d=0) <;> rfl
  ·have hd0:¬ d=0:=λz=>hleaf (.inl z);have hp2:¬ p < 2:=λz=>hleaf (.inr z);have hsub:((d+1:Nat)) - 1=(d:Int):=by omega
   rw[decide_eq_false hd0,decide_eq_false hp2];simp only[aB,if_false,ZO,nxS,w3,v0,v1,v2,bOk,ltI,Z8];cases hp:decide (p < 4) with
   | true=>
    obtain⟨q,e1,q0,q1⟩:=Z1 ns (k+1) 3 (by omega) (by omega)
    have hj:∀j:Nat,∃t,z0I (S_q n 0) [.vl (.int (0+(j:Int))),.vl (scr ns),.vl (.int k),.vl (.int ((d+1:Nat)))]= .ok t/\isK d t=true:=λj=>by
     obtain⟨t,r,s⟩:=uc ns d n (by omega) (by omega) (3*k+40+50*(0+(j:Int))) (by omega)
     refine⟨t, ?_,s⟩;simp only[z0I,ZA,v0,v1,v2,v3,ze,Z8,bOk,Gg,Gh,zR,j0,hsub,r]
    obtain⟨g,hg⟩:=iX.mp hj;have ei:jo (zb zq (cE (.int 1)) (za 3 f_h (z9 (vE 0) (z9 (zb zq (vE 1) (cE (.int 1))) (z9 (cE (.int 3)) (zd)))))) [.vl (scr ns),.vl (.int k),.vl (.int ((d+1:Nat))),.vl (.int p),.un,.un]= .ok (rng 0 (1+q).toNat):=by
     unfold jo;simp only[ze,ZA,v0,v1,Z8,bOk,zR,e1];rw[if_pos ⟨by omega,by omega⟩]
    have ec:zF (zE 0) zW (z0I (S_q n 0)) 1 [0,1,2] [.vl (scr ns),.vl (.int k),.vl _,.vl (.int p),.un,.un] _= .ok ((rng 0 (1+q).toNat).map λt=>match t with | .int j=>g j.toNat | t=>t):=
     zH _ (by unfold rng;rw[aa,bw];exact aq (show (1+q).toNat<=3 by omega) (by decide)) λt ht=>by
      obtain⟨j,_,rfl⟩:=au.mp ht;show z0I (S_q n 0) [.vl _,.vl (scr ns),.vl (.int k),.vl _]= .ok (g _);rw[(hg j).1,Int.zero_add,c9]
    generalize hcs:((rng 0 (1+q).toNat).map λt=>match t with | .int j=>g j.toNat | t=>t)=cs at ec
    have hlen:cs.length=(1+q).toNat:=by rw[← hcs];unfold rng;rw[aa,aa,bw]
    have hall:∀t∈cs,isK d t=true:=λt ht=>by
     rw[← hcs]at ht;obtain⟨u,hu,rfl⟩:=au.mp ht;obtain⟨j,_,rfl⟩:=au.mp hu;exact(hg _).2
    refine⟨.tup [.str "row",.tup cs], ?_, ?_⟩
    ·have hs4:([.vl (scr ns),.vl (.int k),.vl (.int ((d+1:Nat))),.vl (.int p),.un,.un]:En).set 4 (.vl (.lst cs))=[.vl (scr ns),.vl (.int k),.vl _,.vl (.int p),.vl (.lst cs),.un]:=rfl;simp only[if_true,zY,ei,bOk,ec,ZO,hs4,ZP,wB,ZZ];rfl
    ·show (decide _ && decide _ && cs.all _)=true;rw[decide_eq_true (by omega),decide_eq_true (by omega),aQ.mpr hall];rfl
   | false=>
    obtain⟨q,e1,q0,q1⟩:=Z1 ns (k+1) 3 (by omega) (by omega)
    obtain⟨q2,e2,_,_⟩:=Z1 ns (k+2) 3 (by omega) (by omega)
    obtain⟨t,r,s⟩:=uc ns d n (by omega) (by omega) (3*k+40) (by omega)
    refine⟨.tup [.str "many",t,.int q,.int (if q+q2 < 3 then q+q2 else 3)], ?_, ?_⟩
    ·have hs5:([.vl (scr ns),.vl (.int k),.vl (.int ((d+1:Nat))),.vl (.int p),.un,.un]:En).set 5 (.vl (.int q))=[.vl _,.vl _,.vl _,.vl _,.un,.vl _]:=rfl;simp only[aB,if_false,v0,v1,ze,Z8,bOk,zR,e1,ZO,hs5,ZP,wB,ZZ,jK];refine z0G rfl ?_ rfl ?_
     ·simp only[ZA,v0,v1,v2,ze,Z8,bOk,Gg,zR,j0,hsub,r]
     ·have v5:∀{t:T} {a b c d e:Sl} {ρ:En},vE 5 (a :: b :: c :: d :: e :: .vl t :: ρ)= .ok t:=rfl;simp only[ZA,v0,v1,v5,ze,Z8,bOk,zR,e2,YT]
    ·show (jJ 0 3 _ _ && isK d t)=true;rw[s,dR];show (decide _ && decide _ && decide _)=true;rw[decide_eq_true (by omega),decide_eq_true (by split <;> omega),decide_eq_true (by split <;> omega)];rfl
mutual
noncomputable def dep:T->Nat
 | .tup xs=>Qk xs+1
 | .lst xs=>Qk xs+1
 | _=>1
noncomputable def Qk:List T->Nat
 | []=>0
 | t :: ts=>max (dep t) (Qk ts)
end
mutual
noncomputable def siz:T->Nat
 | .tup xs=>Ql xs+1
 | .lst xs=>Ql xs+1
 | _=>1
noncomputable def Ql:List T->Nat
 | []=>0
 | t :: ts=>siz t+Ql ts
end
theorem jM (h:isS w t=true):t= .str w:=by
 cases t with
 | str s=>
  have:=h;rw[eq_of_beq this]
 | _=>cases h
theorem YV (h:inR lo hi t=true):∃i,t= .int i:=by
 cases t with
 | int i=>exact⟨i,rfl⟩
 | _=>cases h
theorem jX (h:jJ lo hi a b=true):∃i j,a= .int i/\b= .int j:=by
 cases a with
 | int i=>
  cases b with
  | int j=>exact⟨i,j,rfl,rfl⟩
  | _=>cases h
 | _=>cases h
structure Fit (D S:Nat) (t:T):Prop where
 so:sOk t
 dp:dep t<=D
 sz:siz t<=S
theorem UU (h:zP c=true):Fit 2 3 c:=by
 unfold zP at h;split at h
 ·rename_i w i;have hw:=by
   rw[ah,ah]at h;exact h.1.1
  cases w with
  | str x=>
   have hx:(decide _ && decide _ && x.cps.toList.all _)=true:=hw;rw[ah,ah,decide_eq_true_eq,decide_eq_true_eq]at hx;refine⟨?_, ?_, ?_⟩
   ·simp only[sOk,uZ,and_true];exact aq hx.1.2 (by decide)
   ·simp[dep,Qk]
   ·simp[siz,Ql]
  | _=>cases hw
 ·cases h
theorem fits {D S:Nat}:∀{cs:List T},(∀c∈cs,Fit D S c)->uZ cs/\Qk cs<=D/\Ql cs<=S*cs.length
 | [],_=>⟨by simp only[uZ],b6 _,b6 _⟩
 | c :: cs,h=>by
  obtain⟨a,b,d⟩:=fits λx hx=>h x (a8 _ hx);obtain⟨x,y,z⟩:=h c ac;refine⟨?_, ?_, ?_⟩
  ·exact⟨x,a⟩
  ·simp only[Qk];omega
  ·simp only[Ql,aw,Nat.mul_add,Nat.mul_one];omega
theorem wF:∀(d:Nat) (t:T),isK d t=true->Fit (2*d+2) (15*4 ^ d) t
 | 0,_,h=>by cases h
 | d+1,t,h=>by
  have hone:1<=4 ^ d:=Nat.pow_pos (by omega)
  have h:UR _ t=true:=h;unfold UR at h;split at h
  ·rename_i hd r;split at h
   ·rename_i e;rw[jM e];unfold Wx at h;split at h
    ·obtain⟨i,j,rfl,rfl⟩:=jX h;refine⟨by simp only[sOk,uZ,and_true];decide,by simp only[dep,Qk];omega,by simp only[siz,Ql];omega⟩
    ·cases h
   ·split at h
    ·rename_i e;rw[jM e];unfold YQ at h;split at h
     ·unfold U0 at h;split at h
      ·rw[ah,ah,ah,decide_eq_true_eq,decide_eq_true_eq]at h;obtain⟨a,b,z⟩:=fits λc hc=>UU (aQ.mp h.1.2 c hc);refine⟨by simp only[sOk,uZ,and_true];exact⟨by decide,a⟩,by simp only[dep,Qk];omega,by simp only[siz,Ql];omega⟩
      ·cases h
     ·cases h
    ·split at h
     ·rename_i e;rw[jM e];unfold Ga at h;split at h
      ·unfold Jp at h;split at h
       ·rename_i cs;rw[ah,ah,decide_eq_true_eq,decide_eq_true_eq]at h;obtain⟨a,b,z⟩:=fits λc hc=>wF d c (aQ.mp h.2 c hc);have:15*4 ^ d*cs.length<=15*4 ^ d*3:=Nat.mul_le_mul_left _ h.1.2;refine⟨by simp only[sOk,uZ,and_true];exact⟨by decide,a⟩,by simp only[dep,Qk];omega,by simp only[siz,Ql];omega⟩
       ·cases h
      ·cases h
     ·split at h
      ·rename_i e;rw[jM e];unfold YR at h;split at h
       ·rename_i c a b;rw[ah]at h;obtain⟨i,j,rfl,rfl⟩:=jX h.1;obtain⟨x,y,z⟩:=wF d c h.2;refine⟨by simp only[sOk,uZ,and_true];exact⟨by decide,x⟩,by simp only[dep,Qk];omega,by simp only[siz,Ql];omega⟩
       ·cases h
      ·cases h
  ·cases h
theorem tup1 (hf:f ρ= .ok x):zG (z9 f zd) ρ= .ok (.tup [x]):=by
 unfold zG z9 zd;rw[hf];rfl
theorem Gi (h:xs.length+ys.length<=bnd):zq (.tup xs) (.tup ys)= .ok (.tup (xs++ys)):=if_pos h
theorem JW (ρ:En):nxS ρ= .nx ρ:=rfl
inductive Kd where
 | whole (lo hi:Int)
 | pick (cs:List (Str×Int))
 | row (ks:List Kd)
 | many (k:Kd) (lo hi:Nat)
noncomputable def ZU (c:Str×Int):T:= .tup [.str c.1,.int c.2]
mutual
noncomputable def Kd.t:Kd->T
 | .whole lo hi=> .tup [.str "whole",.int lo,.int hi]
 | .pick cs=> .tup [.str "pick",.tup (cs.map ZU)]
 | .row ks=> .tup [.str "row",.tup (Kd.ts ks)]
 | .many k lo hi=> .tup [.str "many",k.t,.int (lo:Int),.int (hi:Int)]
noncomputable def Kd.ts:List Kd->List T
 | []=>[]
 | k :: ks=>k.t :: Kd.ts ks
end
theorem Kd.ts_map:∀ks:List Kd,Kd.ts ks=ks.map Kd.t
 | []=>by simp only[Kd.ts,c7]
 | k :: ks=>by simp only[Kd.ts,ay,Kd.ts_map ks]
def Kd.Ok:Nat->Kd->Prop
 | 0,_=>False
 | _+1,.whole lo hi=> -20<=lo/\lo<=hi/\hi<=20
 | _+1,.pick cs=>1<=cs.length/\cs.length<=4/\(∀c∈cs,Zw (.str c.1)=true/\1<=c.2/\c.2<=20)/\Dst (cs.map (·.1))
 | d+1,.row ks=>1<=ks.length/\ks.length<=3/\∀k∈ks,Kd.Ok d k
 | d+1,.many k lo hi=>lo<=hi/\hi<=3/\Kd.Ok d k
theorem YW (h:zP c=true):∃p:Str×Int,c=ZU p/\Zw (.str p.1)=true/\1<=p.2/\p.2<=20:=by
 unfold zP at h;split at h
 ·rename_i w i;rw[ah,ah,decide_eq_true_eq,decide_eq_true_eq]at h;cases w with
  | str x=>exact⟨(x,i),rfl,h.1.1,h.1.2,h.2⟩
  | _=>cases h.1.1
 ·cases h
theorem ud {α:Type}{P:T->Prop}{Q:α->Prop}{f:α->T}(H:∀t,P t->∃a,t=f a/\Q a):∀(ts:List T),(∀t∈ts,P t)->∃as:List α,ts=as.map f/\∀a∈as,Q a
 | [],_=>⟨[],rfl,λ_ h=>nomatch h⟩
 | t :: ts,h=>by
  obtain⟨a,rfl,ha⟩:=H t (h t ac);obtain⟨as,rfl,has⟩:=ud H ts λu hu=>h u (a8 _ hu);exact⟨a :: as,rfl,λb hb=>by
   rcases aj.mp hb with rfl | hb
   ·exact ha
   ·exact has b hb⟩
theorem ue:∀(d:Nat) (t:T),isK d t=true->∃k:Kd,t=k.t/\k.Ok d
 | 0,_,h=>by cases h
 | d+1,t,h=>by
  have h:UR _ t=true:=h;unfold UR at h;split at h
  ·rename_i hd r;split at h
   ·rename_i e;rw[jM e];unfold Wx at h;split at h
    ·obtain⟨i,j,rfl,rfl⟩:=jX h;have h:(decide _ && decide _ && decide _)=true:=h;rw[ah,ah,decide_eq_true_eq,decide_eq_true_eq,decide_eq_true_eq]at h;exact⟨.whole i j,by simp only[Kd.t],h.1.1,h.1.2,h.2⟩
    ·cases h
   ·split at h
    ·rename_i e;rw[jM e];unfold YQ at h;split at h
     ·unfold U0 at h;split at h
      ·rename_i cs;rw[ah,ah,ah,decide_eq_true_eq,decide_eq_true_eq,decide_eq_true_eq]at h;obtain⟨⟨⟨h1,h2⟩,h3⟩,h4⟩:=h;obtain⟨as,rfl,has⟩:=ud (λt ht=>YW ht) cs λc hc=>aQ.mp h3 c hc;rw[aa]at h1 h2;refine⟨.pick as,by simp only[Kd.t],h1,h2,has, ?_⟩
       have e1:(as.map ZU).map ZF=as.map (·.1):=by rw[aO];rfl
       rw[e1]at h4;have:=(wD _ []).mp (by rw[h4,aa];simp)
       exact λk w hw hm=>this k w hw (by simpa using hm)
      ·cases h
     ·cases h
    ·split at h
     ·rename_i e;rw[jM e];unfold Ga at h;split at h
      ·unfold Jp at h;split at h
       ·rename_i cs;rw[ah,ah,decide_eq_true_eq,decide_eq_true_eq]at h;obtain⟨ks,rfl,hks⟩:=ud (λt ht=>ue d t ht) cs λc hc=>aQ.mp h.2 c hc;rw[aa]at h;exact⟨.row ks,by simp only[Kd.t,Kd.ts_map],h.1.1,h.1.2,hks⟩
       ·cases h
      ·cases h
     ·split at h
      ·rename_i e;rw[jM e];unfold YR at h;split at h
       ·rename_i c a b;rw[ah]at h;obtain⟨h1,h2⟩:=h;obtain⟨i,j,rfl,rfl⟩:=jX h1;obtain⟨k,rfl,hk⟩:=ue d c h2;have h1:(decide _ && decide _ && decide _)=true:=h1;rw[ah,ah,decide_eq_true_eq,decide_eq_true_eq,decide_eq_true_eq]at h1;obtain⟨⟨a1,a2⟩,a3⟩:=h1;obtain⟨m,rfl⟩:=cQ a1;obtain⟨n,rfl⟩:=cQ (di a1 a2);exact⟨.many k m n,by simp only[Kd.t],by omega,by omega,hk⟩
       ·cases h
      ·cases h
  ·cases h
noncomputable def zJ (made:List (List T)):List (List T)->List (List T)
 | []=>made
 | ls :: r=>zJ (made.flatMap λa=>ls.map λx=>a++[x]) r
abbrev UV (ls:List (List T)):List T:=(zJ [[]] ls).map T.tup
mutual
noncomputable def Kd.all:Kd->List T
 | .whole lo hi=>(bc (hi+1 - lo).toNat).map λ(i:Nat)=>T.int (lo+(i:Int))
 | .pick cs=>cs.map λc=>T.str c.1
 | .row ks=>UV (Kd.alls ks)
 | .many k lo hi=>(bc (hi+1 - lo)).flatMap λi=>UV (ae (lo+i) k.all)
noncomputable def Kd.alls:List Kd->List (List T)
 | []=>[]
 | k :: ks=>k.all :: Kd.alls ks
end
theorem Kd.alls_map:∀ks:List Kd,Kd.alls ks=ks.map Kd.all
 | []=>by simp only[Kd.alls,c7]
 | k :: ks=>by simp only[Kd.alls,ay,Kd.alls_map ks]
noncomputable def prd:List Nat->Nat
 | []=>1
 | n :: r=>n*prd r
theorem Js:∀{ns:List Nat},(∀n∈ns,1<=n)->1<=prd ns
 | [],_=>am _
 | n :: ns,h=>cD (h n ac) (Js λm hm=>h m (a8 _ hm))
theorem jY {α β:Type}(f:α->List β)(n:Nat):∀as:List α,(∀a∈as,(f a).length=n)->(as.flatMap f).length=as.length*n
 | [],_=>by simp
 | a :: as,h=>by
  rw[aK,az,h a ac,jY f n as λb hb=>h b (a8 _ hb),aw,dB,ck,fK]
theorem Jt:∀(ls:List (List T)) (made:List (List T)),(zJ made ls).length=made.length*prd (ls.map (·.length))
 | [],made=>by simp[zJ,prd]
 | l :: ls,made=>by
  rw[zJ,Jt ls,jY _ _ _ λa _=>aa ..,ay,prd,d0]
abbrev z0J:En->RS:=ya 3 (zL (Zm (vE 2)) (zE 0) (zW) (zb zq (vE 1) (zG (z9 (vE 0) (zd)))) 1 [4])
theorem U2 (hl:l.length<=bnd):∀(as:List (List T)) (acc:List T) (x:Sl),(∀a∈as,a.length<=1000)->acc.length+as.length*l.length<=bnd->
  ∃y,Za (zE 4) z0J (as.map T.tup) [.vl L,.vl M,.vl (.lst l),.ow acc,x]= .nx [.vl L,.vl M,.vl (.lst l),.ow (acc++(as.flatMap λa=>l.map λx=>a++[x]).map T.tup),y]
 | [],acc,x,_,_=>⟨x,by simp[Za]⟩
 | a :: as,acc,x,ha,hb=>by
  have ha1:=ha a ac;have hb1:bnd=16777216:=rfl;rw[aw,dB]at hb;have ec:zF _ _ (zb zq (vE 1) (zG (z9 (vE 0) (zd)))) 1 [4] [.vl L,.vl M,.vl (.lst l),.ow acc,.vl (.tup a)] l= .ok (l.map λx=>T.tup _):=
   zH l hl λx hx=>by
    exact Gi (by rw[aG];omega)
  have eb:z0J [.vl L,.vl M,.vl (.lst l),.ow acc,.vl (.tup a)]= .nx [.vl L,.vl M,.vl (.lst l),.ow (acc++l.map λx=>T.tup (a++[x])),.vl (.tup a)]:=by
   show (((zF _ _ _ _ _ _ l).bind _).s _)=_;rw[ec,bOk];show (if _ then _ else _)=_
   rw[if_pos (by rw[aa];omega)]
   rfl
  obtain⟨y,ih⟩:=U2 hl as (acc++l.map λx=>T.tup _) _ (λb hb=>ha b (a8 _ hb)) (by rw[az,aa];omega)
  refine⟨y, ?_⟩;have e:Za (zE 4) _ ((a :: as).map T.tup) [.vl L,.vl M,.vl (.lst l),.ow acc,x]=match z0J [.vl L,.vl M,.vl _,.ow acc,.vl _] with
   | .nx ρ2=>Za _ _ _ ρ2
   | .ct ρ2=>Za _ _ _ ρ2
   | .bk ρ2=> .nx ρ2
   | r=>r:=rfl
  rw[e,eb];dsimp only;rw[ih,aK,bC,aO,bI];rfl
abbrev vy:En->RS:=(zh (y9 3 (zd))
  (zh (ZN (Zm (vE 1)) (zE 4) z0J)
  (mvS 1 3)))
theorem WA (m:Nat):∀(ls:List (List T)) (made:List (List T)) (k:Nat) (x y z:Sl),(∀a∈made,a.length<=k)->k+ls.length<=1000->(∀l∈ls,1<=l.length)->made.length*prd (ls.map (·.length))<=bnd->1<=made.length->
  ∃x' y' z',Za (zE 2) vy (ls.map T.lst) [.vl L,.vl (.lst (made.map T.tup)),x,y,z]= .nx [.vl L,.vl (.lst ((zJ made ls).map T.tup)),x',y',z']
 | [],made,k,x,y,z,_,_,_,_,_=>⟨x,y,z,by simp[Za,zJ]⟩
 | l :: ls,made,k,x,y,z,hk,hkl,hpos,hb,hm=>by
  have hpr:=Js λn hn=>by
   obtain⟨l',hl',rfl⟩:=au.mp hn;exact hpos l' (a8 _ hl')
  rw[ay,prd,← d0]at hb;have hb1:=aq (cR _ hpr) hb;have hll:=aq (Nat.le_mul_of_pos_left _ hm) hb1;rw[aw]at hkl;obtain⟨w,er⟩:=U2 hll _ [] z (λa ha=>aq (hk a ha) (by omega)) (by rw[bN];omega)
  have es:vy [.vl L,.vl (.lst (made.map T.tup)),.vl (.lst l),y,z]= .nx [.vl L,.vl (.lst ((made.flatMap λa=>l.map λx=>a++[x]).map T.tup)),.vl (.lst l),.vl (.lst ((made.flatMap λa=>l.map λx=>a++[x]).map T.tup)),w]:=by
   have e0:y9 3 (zd) [.vl L,.vl (.lst (made.map T.tup)),.vl (.lst l),y,z]= .nx [.vl L,.vl _,.vl _,.ow [],z]:=rfl;have e1:ZN (Zm (vE 1)) _ _ [.vl L,.vl (.lst _),.vl _,.ow [],z]= .nx [.vl L,.vl _,.vl _,.ow ((made.flatMap λa=>l.map λx=>a++[x]).map _),w]:=er;unfold vy;rw[zQ,e0];dsimp only;rw[zQ,e1];rfl
  obtain⟨x',y',z',ih⟩:=WA m ls (made.flatMap λa=>l.map λx=>a++[x]) (k+1) _ (.vl (.lst ((made.flatMap λa=>l.map λx=>a++[x]).map _))) w (λa ha=>by
   obtain⟨b,hb,hx⟩:=cq.mp ha;obtain⟨u,_,rfl⟩:=au.mp hx;have:=hk b hb;rw[az,aG];omega) (by omega) (λl' hl' =>hpos l' (a8 _ hl')) (by
    rw[jY _ _ _ λa _=>aa ..];exact hb) (by
    rw[jY _ _ _ λa _=>aa ..];exact cD hm (hpos l ac))
  refine⟨x',y',z', ?_⟩;have e:Za (zE 2) _ ((l :: ls).map T.lst) [.vl L,.vl (.lst (made.map T.tup)),x,y,z]=match vy [.vl L,.vl _,.vl _,y,z] with
   | .nx ρ2=>Za _ _ _ ρ2
   | .ct ρ2=>Za _ _ _ ρ2
   | .bk ρ2=> .nx ρ2
   | r=>r:=rfl
  rw[e,es];exact ih
theorem YX (ls:List (List T))(hl:ls.length<=1000)(hpos:∀l∈ls,1<=l.length)(hb:prd (ls.map (·.length))<=bnd):f_s [.lst (ls.map T.lst)]= .ok (.lst (UV ls)):=by
 obtain⟨x',y',z',er⟩:=WA 0 ls [[]] 0 .un .un .un (λa ha=>by rw[aC.mp ha];exact am _) (by omega) hpos (by rw[aG,ck];exact hb) (am _)
 have e:f_s [.lst (ls.map T.lst)]=zf (b_s [.vl _,.un,.un,.un,.un]):=rfl;have e0:zA 1 (jm (z9 (zG (zd)) (zd))) [.vl (.lst (ls.map T.lst)),.un,.un,.un,.un]= .nx [.vl _,.vl _,.un,.un,.un]:=rfl;have e1:ZN (Zm (vE 0)) _ _ [.vl (.lst _),.vl (.lst [.tup []]),.un,.un,.un]= .nx _:=er;rw[e,b_s,zQ,e0];dsimp only;rw[zQ,e1];rfl
theorem ZQ (n:Nat):∀m:Nat,prd (ae m n)=n ^ m
 | 0=>rfl
 | m+1=>by rw[bF,prd,ZQ n m,fO,c6]
theorem jZ (ls:List (List T)):(UV ls).length=prd (ls.map (·.length)):=by
 rw[aa,Jt,aG,ck]
noncomputable def pw (n lo hi:Nat):Nat:=((bc (hi+1 - lo)).map λi=>n ^ (lo+i)).sum
theorem Zx (k:Kd)(lo hi:Nat):(Kd.many k lo hi).all.length=pw k.all.length lo hi:=by
 rw[Kd.all,List.length_flatMap,pw];congr 1
 refine br λi _=> ?_;rw[jZ,aI,ZQ]
theorem jC (ks:List Kd):(Kd.row ks).all.length=prd (ks.map λk=>k.all.length):=by
 rw[Kd.all,jZ,Kd.alls_map,aO];rfl
theorem ZH (lo hi:Int):(Kd.whole lo hi).all.length=(hi+1 - lo).toNat:=by
 rw[Kd.all,aa,bw]
theorem wG (cs:List (Str×Int)):(Kd.pick cs).all.length=cs.length:=by
 rw[Kd.all,aa]
theorem Xx (h:lo<=hi)(h3:hi<=3):(lo=0/\hi=0)\/(lo=0/\hi=1)\/(lo=0/\hi=2)\/(lo=0/\hi=3)\/(lo=1/\hi=1)\/(lo=1/\hi=2)\/(lo=1/\hi=3)\/(lo=2/\hi=2)\/(lo=2/\hi=3)\/(lo=3/\hi=3):=(by decide:∀hi lo:Fin 4,lo.1<=hi.1->(lo.1=0/\hi.1=0)\/(lo.1=0/\hi.1=1)\/(lo.1=0/\hi.1=2)\/(lo.1=0/\hi.1=3)\/(lo.1=1/\hi.1=1)\/(lo.1=1/\hi.1=2)\/(lo.1=1/\hi.1=3)\/(lo.1=2/\hi.1=2)\/(lo.1=2/\hi.1=3)\/(lo.1=3/\hi.1=3)) ⟨hi,iL h3⟩ ⟨lo,iL (aq h h3)⟩ h
noncomputable def iv (b:Bool):Nat:=if b then 1 else 0
theorem Xy (n:Nat)(h:lo<=hi)(h3:hi<=3):pw n lo hi=iv (lo == 0)+n*iv (decide (lo<=1) && decide (1<=hi))+n*n*iv (decide (lo<=2) && decide (2<=hi))+n*n*n*iv (hi == 3):=by
 rcases Xx h h3 with ⟨rfl,rfl⟩ | ⟨rfl,rfl⟩ | ⟨rfl,rfl⟩ | ⟨rfl,rfl⟩ | ⟨rfl,rfl⟩ | ⟨rfl,rfl⟩ | ⟨rfl,rfl⟩ | ⟨rfl,rfl⟩ | ⟨rfl,rfl⟩ | ⟨rfl,rfl⟩ <;>
  simp[pw,fU,iv,fO]
 all_goals omega
theorem Gj (hn:1<=n)(h:lo<=hi)(h3:hi<=3):1<=pw n lo hi:=by
 have h2:=cD hn hn;have h1:=cD h2 hn;rw[Xy n h h3];rcases Xx h h3 with ⟨rfl,rfl⟩ | ⟨rfl,rfl⟩ | ⟨rfl,rfl⟩ | ⟨rfl,rfl⟩ | ⟨rfl,rfl⟩ | ⟨rfl,rfl⟩ | ⟨rfl,rfl⟩ | ⟨rfl,rfl⟩ | ⟨rfl,rfl⟩ | ⟨rfl,rfl⟩ <;>
  simp[iv] <;> omega
theorem z23 (hn:n<=N)(h:lo<=hi)(h3:hi<=3):pw n lo hi<=1+N+N*N+N*N*N:=by
 have h2:=bg hn hn;have h1:=bg h2 hn;rw[Xy n h h3];rcases Xx h h3 with ⟨rfl,rfl⟩ | ⟨rfl,rfl⟩ | ⟨rfl,rfl⟩ | ⟨rfl,rfl⟩ | ⟨rfl,rfl⟩ | ⟨rfl,rfl⟩ | ⟨rfl,rfl⟩ | ⟨rfl,rfl⟩ | ⟨rfl,rfl⟩ | ⟨rfl,rfl⟩ <;>
  simp[iv] <;> omega
theorem VC (hN:1<=N):∀(ns:List Nat),(∀n∈ns,n<=N)->prd ns<=N ^ ns.length
 | [],_=>am _
 | n :: ns,h=>by
  rw[prd,c6];exact bg (VC hN ns λm hm=>h m (a8 _ hm)) (h n ac)
theorem Z2:∀(d:Nat) (k:Kd),k.Ok d->1<=k.all.length
 | 0,_,h=>h.elim
 | d+1,.whole lo hi,h=>by
  obtain⟨_,h2,_⟩:=h;rw[ZH];omega
 | d+1,.pick cs,h=>by
  rw[wG];exact h.1
 | d+1,.row ks,h=>by
  rw[jC];refine Js λn hn=> ?_;obtain⟨k,hk,rfl⟩:=au.mp hn;exact Z2 d k (h.2.2 k hk)
 | d+1,.many k lo hi,h=>by
  rw[Zx];exact Gj (Z2 d k h.2.2) h.1 h.2.1
noncomputable def mx:Nat->Nat
 | 0=>0
 | 1=>41
 | d+1=>1+mx d+mx d*mx d+mx d*mx d*mx d
theorem mx2:mx 2=70644:=by decide
theorem VD (d:Nat):41<=mx (d+1):=by
 induction d with
 | zero=>exact am _
 | succ d ih=>
  show 41<=1+mx _+mx _*mx _+mx _*mx _*mx _;omega
theorem YY (d:Nat)(n:Nat)(h:n<=41):n<=mx (d+1):=aq h (VD d)
theorem Xz (hN:1<=N)(h:m<=3):N ^ m<=1+N+N*N+N*N*N:=by
 have:m=0\/m=1\/m=2\/m=3:=by omega
 rcases this with rfl | rfl | rfl | rfl <;> simp[fO] <;> omega
theorem j1:∀(d:Nat) (k:Kd),k.Ok d->k.all.length<=mx d
 | 0,_,h=>h.elim
 | d+1,.whole lo hi,h=>by
  obtain⟨h1,h2,h3⟩:=h;rw[ZH];exact YY d _ (by omega)
 | d+1,.pick cs,h=>by
  rw[wG];exact YY d _ (aq h.2.1 (by omega))
 | 1,.row ks,h=>by
  obtain⟨h1,h2,h3⟩:=h
  match ks,h1,h3 with
  | k :: _,_,h3=>exact(h3 k ac).elim
 | d+2,.row ks,h=>by
  obtain⟨h1,h2,h3⟩:=h;rw[jC];have hp:=aq (by omega:1<=41) (VD d)
  have:=VC hp (ks.map λk=>k.all.length) λn hn=>by
   obtain⟨k,hk,rfl⟩:=au.mp hn;exact j1 _ k (h3 k hk)
  rw[aa]at this;exact aq this (Xz hp h2)
 | 1,.many k lo hi,h=>h.2.2.elim
 | d+2,.many k lo hi,h=>by
  rw[Zx];exact z23 (j1 _ k h.2.2) h.1 h.2.1
theorem zc (h:f ρ= .nx ρ'):zh f g ρ=g ρ' :=by rw[zQ,h]
theorem cs0:zk eqC (zb ixT (vE 0) (cE (.int 0))) (cE (.str w)) (.vl (.tup (.str x :: r)) :: ρ)= .ok (x == w):=by
 rw[zx,ze,v0,bOk,Z8,bOk,at0,Z8,bOk];rfl
theorem ja:zb ixT (vE 0) (cE (.int 1)) (.vl (.tup (a :: b :: r)) :: ρ)= .ok b:=by
 rw[ze,v0,bOk,Z8,bOk,at1]
theorem wH:zb ixT (vE 0) (cE (.int 2)) (.vl (.tup (a :: b :: c :: r)) :: ρ)= .ok c:=by
 rw[ze,v0,bOk,Z8,bOk,at2]
theorem UW:zb ixT (vE 0) (cE (.int 3)) (.vl (.tup (a :: b :: c :: d :: r)) :: ρ)= .ok d:=by
 rw[ze,v0,bOk,Z8,bOk,at3]
theorem UX (h:f ρ= .ok (.int i)):zb zq f (cE (.int 1)) ρ= .ok (.int (i+1)):=by
 rw[ze,h,bOk,Z8,bOk,zR]
theorem uf (hf:f ρ= .ok (.int i))(hg:g ρ= .ok (.int j))(h: -1000000 < i/\i < 1000000/\ -1000000 < j/\j < 1000000):jS f g ρ= .ok (rng i (j - i).toNat):=by
 unfold jS;rw[hf,hg];exact if_pos h
theorem YZ:∀(cs:List (Str×Int)) (x y:Sl),zu (zM 0 1) zW (vE 0) (cs.map ZU) [x,y]= .ok (cs.map λc=>T.str c.1)
 | [],_,_=>rfl
 | c :: cs,x,y=>by
  have e:zu (zM 0 1) zW (vE 0) ((c :: cs).map ZU) [x,y]=(zu _ _ _ _ [.vl _,.vl _]).bind λvs=> .ok _:=rfl;rw[e,YZ cs];rfl
theorem Ju {x:T}{m:Nat}(h:m<=3):zN (.lst [x]) (.int (m:Int))= .ok (.lst (ae m [x]).flatten):=by
 unfold zN;dsimp only;have c:0<=(m:Int)/\(m:Int) < 1000000/\[x].length*(m:Int).toNat<=bnd:=by
  have hb:3<=bnd:=by decide
  refine⟨by omega,by omega, ?_⟩
  rw[aG,ck];exact aq h hb
 rw[if_pos c,c9]
theorem Zn {α:Type}(x:α):∀m:Nat,(ae m [x]).flatten=ae m x
 | 0=>rfl
 | m+1=>by rw[bF,eU,Zn x m];rfl
abbrev ug (ca cr:List T->R T):En->RS:=ya 1 (za 1 cr (z9 (zb zN (jm (z9 (za 1 ca (z9 (zb ixT (vE 0) (cE (.int 1))) (zd))) (zd))) (vE 2)) (zd)))
theorem XA (hf:f ρ= .ok x):jm (z9 f zd) ρ= .ok (.lst [x]):=by
 unfold jm z9 zd;rw[hf];rfl
theorem WB {ca:List T->R T}{k:Kd}{t:T}{lo:Nat}{ws:List T}(hw:ca [t]= .ok (.lst ws))(hpos:1<=ws.length){a b c:T}:∀(js:List Nat) (acc:List T) (x:Sl),(∀j∈js,lo+j<=3)->acc.length+(js.map λj=>ws.length ^ (lo+j)).sum<=bnd->
  ∃y,Za (zE 2) (ug ca f_s) (js.map λ(j:Nat)=>T.int ((lo:Int)+(j:Int))) [.vl (.tup [a,t,b,c]),.ow acc,x]= .nx [.vl (.tup [a,t,b,c]),.ow (acc++js.flatMap λj=>UV (ae (lo+j) ws)),y]
 | [],acc,x,_,_=>⟨x,by simp[Za]⟩
 | j :: js,acc,x,hj,hb=>by
  have hj1:=hj j ac;rw[ay,d3]at hb;have er:f_s [.lst ((ae (lo+j) ws).map _)]= .ok _:=YX _ (by rw[aF];omega) (λl hl=>by rw[aY hl];exact hpos) (by rw[aI,ZQ];omega)
  have hlen:(UV (ae (lo+j) ws)).length=ws.length ^ (lo+j):=by rw[jZ,aI,ZQ]
  have em:zN (.lst [.lst ws]) (.int ((lo)+(j)))= .ok (.lst ((ae (lo+j) ws).map T.lst)):=by
   have e1:(lo:Int)+(j)=((lo+j:Nat)):=by omega
   rw[e1,Ju (by omega),Zn,aI]
  have eb:ug ca f_s [.vl (.tup [a,t,b,c]),.ow acc,.vl (.int ((lo)+(j)))]= .nx [.vl (.tup [a,t,b,c]),.ow (acc++UV (ae (lo+j) ws)),.vl (.int ((lo)+(j)))]:=by
   have e1:za 1 f_s (z9 (zb zN (jm (z9 (za 1 ca (z9 (zb ixT (vE 0) (cE (.int 1))) (zd))) (zd))) (vE 2)) (zd)) [.vl (.tup [a,t,b,c]),.ow acc,.vl (.int ((lo)+(j)))]= .ok (.lst (UV (ae (lo+j) ws))):=by
    have e0:za 1 ca (z9 (zb ixT (vE 0) (cE (.int 1))) (zd)) [.vl (.tup [a,t,b,c]),.ow acc,.vl (.int ((lo)+(j)))]= .ok (.lst ws):=by
     rw[zj,ja,bOk,hw]
    rw[zj,ze,XA e0,bOk,v2,bOk,em,bOk,er]
   show ((za 1 _ _ _).s λt=>match t with | .lst us=>if acc.length+us.length<=bnd then RS.nx _ else .bad | _=> .bad)=_
   rw[e1];show (if _ then _ else _)=_
   rw[if_pos (by omega)]
   rfl
  obtain⟨y,ih⟩:=WB (k:=k) hw hpos js (acc++UV (ae (lo+j) ws)) _ (λi hi=>hj i (a8 _ hi)) (by rw[az];omega)
  refine⟨y, ?_⟩;have e:Za (zE 2) (ug ca f_s) ((j :: js).map λ(j:Nat)=>T.int ((lo)+(j))) [.vl (.tup [a,t,b,c]),.ow acc,x]=match ug ca _ [.vl _,.ow acc,.vl _] with
   | .nx ρ2=>Za _ _ (js.map λ(j)=>T.int _) ρ2
   | .ct ρ2=>Za _ _ (js.map λ(j)=>T.int _) ρ2
   | .bk ρ2=> .nx ρ2
   | r=>r:=rfl
  rw[e,eb];dsimp only;rw[ih,aK,bI]
theorem vz (h1:lo<=hi)(h2:hi<=3){r:RS}
  (el:Za (zE 2) (ug ca f_s) ((bc (hi+1 - lo)).map λ(j:Nat)=>T.int ((lo:Int)+(j:Int))) [.vl (.tup [a,t,.int (lo:Int),.int (hi:Int)]),.ow acc,x]=r):
  ZN (jS (zb ixT (vE 0) (cE (.int 2))) (zb zq (zb ixT (vE 0) (cE (.int 3))) (cE (.int 1)))) (zE 2) (ug ca f_s) [.vl (.tup [a,t,.int (lo:Int),.int (hi:Int)]),.ow acc,x]=r:=by
 have hn:((hi:Int)+1 - (lo)).toNat=hi+1 - lo:=by omega
 have hc: -1000000 < (lo:Int)/\(lo:Int) < 1000000/\ -1000000 < (hi:Int)+1/\(hi:Int)+1 < 1000000:=by omega
 have e:ZN (jS (zb ixT (vE 0) (cE (.int 2))) (zb zq (zb ixT (vE 0) (cE (.int 3))) (cE (.int 1)))) (zE 2) (ug ca f_s) [.vl (.tup [a,t,.int (lo),.int (hi)]),.ow acc,x]=(jS _ _ _).s λts=>Za _ _ ts _:=rfl;rw[e,uf wH (UX UW) hc,hn];exact el
theorem Gk (e:L=pw n lo hi)(h:L<=1000000):([]:List T).length+((bc (hi+1 - lo)).map λj=>n ^ (lo+j)).sum<=bnd:=by
 have h' :pw n lo hi<=bnd:=aq (e ▸ h) (by decide)
 rw[bN,fP];exact h'
theorem qa (d:Nat)(lo hi:Int)(h:(Kd.whole lo hi).Ok (d+1))(hl:(Kd.whole lo hi).all.length<=1000000)(H:∀k' :Kd,k'.Ok d->ca [k'.t]= .ok (.lst k'.all)):zf (b_9 ca f_s (en0 3 [(Kd.whole lo hi).t]))= .ok (.lst (Kd.whole lo hi).all):=by
 have e:zf (b_9 ca f_s (en0 3 [(Kd.whole lo hi).t]))=zf (b_9 ca _ [.vl _,.un,.un]):=rfl;rw[e,b_9,zQ,ZT];obtain⟨h1,h2,h3⟩:=h;simp only[Kd.t];rw[Z6,ZP,wB];unfold z04;rw[uf ja (UX wH) ⟨by omega,by omega,by omega,by omega⟩]
 rfl
theorem vA (d:Nat)(cs:List (Str×Int))(h:(Kd.pick cs).Ok (d+1))(hl:(Kd.pick cs).all.length<=1000000)(H:∀k' :Kd,k'.Ok d->ca [k'.t]= .ok (.lst k'.all)):zf (b_9 ca f_s (en0 3 [(Kd.pick cs).t]))= .ok (.lst (Kd.pick cs).all):=by
 have hb1:bnd=16777216:=rfl;have e:zf (b_9 ca f_s (en0 3 [(Kd.pick cs).t]))=zf (b_9 ca _ [.vl _,.un,.un]):=rfl;rw[e,b_9,zQ,ZT];simp only[Kd.t];rw[cs0,ZO,show (("pick":Str) == "whole")=false from rfl,if_neg aE,JW];dsimp only;rw[zQ,ZT,Z6,ZP,wB,wB,ZZ,zY,jr,ja];have hc:=h.2.1;have ec:zF (zM 0 1) zW (vE 0) 2 [] [.vl (.tup [.str "pick",.tup (cs.map ZU)]),.un,.un] (cs.map ZU)= .ok (cs.map λc=>T.str c.1):=by
  unfold zF;rw[if_pos (by rw[aa];omega)]
  show quiet (zu _ _ _ _ [.un,.un])=_;rw[YZ];rfl
 show zf (match ((((R.ok _).bind λts=>(zF _ _ _ 2 [] _ ts).bind λvs=> .ok _)).s λt=> .rt t) with | .nx ρ' =>_ | r=>r)=_
 rw[bOk,ec];rfl
theorem XB (d:Nat)(ks:List Kd)(h:(Kd.row ks).Ok (d+1))(hl:(Kd.row ks).all.length<=1000000)(H:∀k' :Kd,k'.Ok d->ca [k'.t]= .ok (.lst k'.all)):zf (b_9 ca f_s (en0 3 [(Kd.row ks).t]))= .ok (.lst (Kd.row ks).all):=by
 have hb1:bnd=16777216:=rfl;have e:zf (b_9 ca f_s (en0 3 [(Kd.row ks).t]))=zf (b_9 ca _ [.vl _,.un,.un]):=rfl;rw[e,b_9,zQ,ZT];obtain⟨h1,h2,h3⟩:=h;simp only[Kd.t];rw[cs0,ZO,show (("row":Str) == "whole")=false from rfl,if_neg aE,JW];dsimp only;rw[zQ,ZT,cs0,ZO,show (("row":Str) == "pick")=false from rfl,if_neg aE,JW];dsimp only;rw[zQ,ZT,Z6,ZP,wB,wB,ZZ,zj,Kd.ts_map];have ec:zF (zE 0) zW (za 1 ca (z9 (vE 0) (zd))) 1 [] [.vl (.tup [.str "row",.tup (ks.map Kd.t)]),.un,.un] (ks.map Kd.t)= .ok ((ks.map Kd.all).map T.lst):=by
  unfold zF;rw[if_pos (by rw[aa];omega)]
  show quiet (zu _ _ _ _ [.un])=_;have:∀(ks:List Kd) (x:Sl),(∀k∈ks,k.Ok d)->zu (zE 0) zW (za 1 ca (z9 (vE 0) (zd))) (ks.map Kd.t) [x]= .ok ((ks.map Kd.all).map T.lst):=by
   intro ks
   induction ks with
   | nil=>intro _ _;rfl
   | cons k ks ih=>
    intro x hk;have e1:zu (zE 0) zW (za 1 ca (z9 (vE 0) (zd))) ((k :: ks).map _) [x]=(za 1 ca _ [.vl k.t]).bind λv=>(zu _ _ _ _ [.vl k.t]).bind λvs=> .ok _:=rfl;rw[e1,zj,v0,bOk,H k (hk k ac),ih _ λk' hk' =>hk k' (a8 _ hk')];rfl
  rw[this ks .un h3];rfl
 have hrow:=jC ks;have er:f_s [.lst ((ks.map Kd.all).map _)]= .ok _:=YX _ (by rw[aa];omega) (λl hl=>by
  obtain⟨k,hk,rfl⟩:=au.mp hl;exact Z2 d k (h3 k hk)) (by
  rw[aO];show prd (ks.map λk=>k.all.length)<=bnd;omega)
 show zf (match ((((R.ok _).bind λts=>(zF _ _ _ 1 [] _ ts).bind λvs=> .ok _).bind λx=>f_s [x]).s λt=> .rt t) with | .nx ρ' =>_ | r=>r)=_
 rw[bOk,ec,bOk,bOk,er,Kd.all,Kd.alls_map];rfl
theorem vC {ca:List T->R T}(d:Nat)(k:Kd)(lo hi:Nat)(h:(Kd.many k lo hi).Ok (d+1))(hl:(Kd.many k lo hi).all.length<=1000000)(H:∀k' :Kd,k'.Ok d->ca [k'.t]= .ok (.lst k'.all)):zf (b_9 ca f_s (en0 3 [(Kd.many k lo hi).t]))= .ok (.lst (Kd.many k lo hi).all):=by
 have hb1:bnd=16777216:=rfl;have e:zf (b_9 ca f_s (en0 3 [(Kd.many k lo hi).t]))=zf (b_9 ca f_s [.vl (Kd.many k lo hi).t,.un,.un]):=rfl;rw[e,b_9,zQ,ZT];obtain⟨h1,h2,h3⟩:=h;have hml:=Zx k lo hi;simp only[Kd.t];rw[cs0,ZO,show (("many":Str) == "whole")=false from rfl,if_neg aE,JW];dsimp only;rw[zQ,ZT,cs0,ZO,show (("many":Str) == "pick")=false from rfl,if_neg aE,JW];dsimp only;rw[zQ,ZT,cs0,ZO,show (("many":Str) == "row")=false from rfl,if_neg aE,JW];dsimp only;have e0:y9 1 (zd) [.vl (.tup [.str "many",k.t,.int (lo:Int),.int (hi:Int)]),.un,.un]= .nx [.vl (.tup [.str "many",k.t,.int (lo:Int),.int (hi:Int)]),.ow [],.un]:=rfl;rw[zQ,e0];dsimp only;obtain⟨y,el⟩:=WB (k:=k) (lo:=lo) (H k h3) (Z2 d k h3) (a:= .str "many") (b:= .int (lo:Int)) (c:= .int (hi:Int)) (bc (hi+1 - lo)) [] .un (λj hj=>by have:=bS.mp hj;omega) (Gk hml hl)
 have e1:=vz (ca:=ca) (t:=k.t) h1 h2 el;rw[cV]at e1;rw[zc e1,Kd.all];rfl
theorem vD (d:Nat)(k:Kd)(h:k.Ok (d+1))(hl:k.all.length<=1000000)(H:∀k' :Kd,k'.Ok d->ca [k'.t]= .ok (.lst k'.all)):zf (b_9 ca f_s (en0 3 [k.t]))= .ok (.lst k.all):=by
 cases k with
 | whole lo hi=>exact qa d lo hi h hl H
 | pick cs=>exact vA d cs h hl H
 | row ks=>exact XB d ks h hl H
 | many k lo hi=>exact vC d k lo hi h hl H
theorem U3:∀(d n:Nat),d<=n->d<=3->∀k:Kd,k.Ok d->k.all.length<=1000000->S_9 n 0 [k.t]= .ok (.lst k.all)
 | 0,_,_,_,_,h,_=>h.elim
 | d+1,0,hn,_,_,_,_=>by omega
 | d+1,n+1,hn,hd,k,h,hl=>by
  have e:S_9 (n+1) 0 [k.t]=zf (b_9 (S_9 n 0) f_s (en0 3 [k.t])):=rfl;rw[e];refine vD d k h hl λk' hk' =>U3 d n (by omega) (by omega) k' hk' ?_
  have h1:=j1 d k' hk';have:mx d<=1000000:=by
   have:d=0\/d=1\/d=2:=by omega
   rcases this with rfl | rfl | rfl <;> decide
  omega
theorem in2:zk inC (zb ixT (vE 0) (cE (.int 0))) (zG (z9 (cE (.str a)) (z9 (cE (.str b)) (zd)))) (.vl (.tup (.str x :: r)) :: ρ)=inC (.str x) (.tup [.str a,.str b]):=by
 rw[zx,ze,v0,bOk,Z8,bOk,at0,bOk,Jq Z8 Z8,bOk]
theorem wI (h:g ρ= .ok true):ifS g f1 f2 ρ=f1 ρ:=by rw[ZT,h,ZO,if_pos rfl]
theorem if_f (h:g ρ= .ok false):ifS g f1 f2 ρ=f2 ρ:=by rw[ZT,h,ZO,if_neg aE]
theorem zo (h:g ρ= .ok false):ifS g f1 nxS ρ= .nx ρ:=by rw[if_f h];rfl
theorem zy (h:f ρ= .ok t):zA i f ρ= .nx (ρ.set i (.vl t)):=by rw[jL,h,ZO]
theorem zg (h:f (frz ρ)= .ok t):zi f ρ= .rt t:=by rw[Z6,h,ZO]
theorem jb {g:T->En->R En}(hg:g t ρ= .ok ρ1)(hb:fb ρ1= .nx ρ2):Za g fb (t :: ts) ρ=Za g fb ts ρ2:=by
 rw[Za,hg];dsimp only;rw[hb]
theorem setg (i:Nat)(t:T)(ρ:En):zE i t ρ= .ok (ρ.set i (.vl t)):=rfl
theorem zB (h:f ρ= .rt t):zh f g ρ= .rt t:=by rw[zQ,h]
theorem U4 {i j:Nat}(h:i < 2 ^ 60):zN (.int (i:Int)) (.int (j:Int))= .ok (.int ((i*j:Nat):Int)):=by
 rw[YU _ _ (.inl ⟨by omega,by omega⟩),ce]
theorem XD (h:n<=mx d)(hd:d<=3):n < 2 ^ 60:=by
 have:d=0\/d=1\/d=2\/d=3:=by omega
 have h3:mx 3 < 2 ^ 60:=by decide
 have h2:mx 2 < 2 ^ 60:=by decide
 have h1:mx 1 < 2 ^ 60:=by decide
 have h0:mx 0 < 2 ^ 60:=by decide
 rcases this with rfl | rfl | rfl | rfl <;> omega
theorem U5 {a b:Sl}:∀(ns:List Nat) (m:Nat) (x y:Sl),(∀n∈ns,1<=n)->m*prd ns < 2 ^ 60->∃x',Za (zE 3) (zA 2 (zb zN (vE 2) (vE 3))) (ns.map λ(n:Nat)=>T.int (n:Int)) [a,b,.vl (.int (m:Int)),x,y]= .nx [a,b,.vl (.int ((m*prd ns:Nat):Int)),x',y]
 | [],m,x,y,_,_=>⟨x,by simp[Za,prd]⟩
 | n :: ns,m,x,y,hp,hb=>by
  have hpr:=Js λk hk=>hp k (a8 _ hk);have hn:=hp n ac;have hmm:m<=m*prd (n :: ns):=cR _ (cD hn hpr);have hb2:=bm hmm hb;rw[prd,← d0]at hb;obtain⟨x',ih⟩:=U5 ns _ _ y (λk hk=>hp k (a8 _ hk)) hb;refine⟨x', ?_⟩;have es:zA 2 (zb zN (vE 2) (vE 3)) [a,b,.vl (.int (m)),.vl (.int (n)),y]= .nx [a,b,.vl (.int ((m*n):Int)),.vl (.int (n)),y]:=by
   rw[jL,ze,v2,bOk,v3,bOk,U4 hb2];rfl
  have s3:zE 3 (T.int (n)) [a,b,.vl (.int (m)),x,y]= .ok _:=rfl;rw[ay,jb s3 es,prd,← d0];exact ih
theorem U6:∀(d:Nat) (lo hi:Int),(Kd.whole lo hi).Ok (d+1)->(Kd.whole lo hi).Ok 1
 | _,_,_,h=>h
theorem vF:∀(d:Nat) (cs:List (Str×Int)),(Kd.pick cs).Ok (d+1)->(Kd.pick cs).Ok 1
 | _,_,h=>h
theorem WC (k:Kd)(h:k.Ok 1)(ht:k.t= .tup (.str x :: r))(hx:inC (.str x) (.tup [.str "whole",.str "pick"])= .ok true):zf (b_n (f_9 8) cs (en0 5 [k.t]))= .ok (.int (k.all.length:Int)):=by
 have ha:f_9 8 _= .ok _:=U3 1 8 (by omega) (by omega) k h (aq (j1 1 k h) (by decide))
 have e:zf (b_n (f_9 8) cs (en0 5 [k.t]))=zf (b_n _ cs [.vl k.t,.un,.un,.un,.un]):=rfl;have e1:zk inC (zb ixT (vE 0) (cE (.int 0))) (zG (z9 (cE (.str "whole")) (z9 (cE (.str "pick")) (zd)))) [.vl k.t,.un,.un,.un,.un]= .ok true:=by
  rw[ht,in2,hx]
 have e2:zi (ap1 Zo (za 1 (f_9 8) (z9 (vE 0) (zd)))) [.vl k.t,.un,.un,.un,.un]= .rt (.int (k.all.length)):=by
  refine zg ?_;rw[ZP,Zd,zj,v0,bOk,ha,bOk,G9]
 rw[e,b_n,zB (by rw[wI e1,e2])]
 rfl
theorem z24 (b:Bool):b2 b=(iv b:Int):=by cases b <;> rfl
theorem vG (hd:d+1<=3)(ks:List Kd)(h:(Kd.row ks).Ok (d+1))(H:∀k:Kd,k.Ok d->cs [k.t]= .ok (.int (k.all.length:Int))):zf (b_n (f_9 8) cs (en0 5 [(Kd.row ks).t]))= .ok (.int ((Kd.row ks).all.length:Int)):=by
 have hlt:=XD (j1 _ _ h) hd;rw[jC]at hlt ⊢;obtain⟨h1,h2,h3⟩:=h;simp only[Kd.t,Kd.ts_map];have e:zf (b_n (f_9 8) cs (en0 5 [.tup [.str "row",.tup (ks.map Kd.t)]]))=zf (b_n _ cs [.vl _,.un,.un,.un,.un]):=rfl;have e1:zk inC (zb ixT (vE 0) (cE (.int 0))) (zG (z9 (cE (.str "whole")) (z9 (cE (.str "pick")) (zd)))) [.vl (.tup [.str "row",.tup (ks.map Kd.t)]),.un,.un,.un,.un]= .ok false:=by
  rfl
 have ec:zF (zE 0) zW (za 1 cs (z9 (vE 0) (zd))) 1 [] [.vl (.tup [.str "row",.tup (ks.map Kd.t)]),.un,.un,.un,.un] (ks.map Kd.t)= .ok ((ks.map λk=>k.all.length).map λ(n:Nat)=>T.int (n)):=by
  unfold zF;rw[if_pos (by rw[aa];exact aq h2 (by decide))]
  have:∀(ks:List Kd) (x:Sl),(∀k∈ks,k.Ok d)->zu (zE 0) zW (za 1 cs (z9 (vE 0) (zd))) (ks.map Kd.t) [x]= .ok ((ks.map λk=>k.all.length).map λ(n:Nat)=>T.int (n)):=by
   intro ks
   induction ks with
   | nil=>intro _ _;rfl
   | cons k ks ih=>
    intro x hk;have e1:zu (zE 0) zW (za 1 cs (z9 (vE 0) (zd))) ((k :: ks).map _) [x]=(za 1 cs _ [.vl k.t]).bind λv=>(zu _ _ _ _ [.vl k.t]).bind λvs=> .ok _:=rfl;rw[e1,zj,v0,bOk,H k (hk k ac),ih _ λk' hk' =>hk k' (a8 _ hk')];rfl
  show quiet (zu _ _ _ _ [.un])=_;rw[this ks .un h3];rfl
 have e2:ifE (zk eqC (zb ixT (vE 0) (cE (.int 0))) (cE (.str "row"))) (zL (Zm (zb ixT (vE 0) (cE (.int 1)))) (zE 0) (zW) (za 1 cs (z9 (vE 0) (zd))) 1 []) (jm (zd)) [.vl (.tup [.str "row",.tup (ks.map Kd.t)]),.un,.un,.un,.un]= .ok (.lst ((ks.map λk=>k.all.length).map λ(n:Nat)=>T.int (n))):=by
  unfold ifE;rw[cs0,bOk,show (("row":Str) == "row")=true from rfl,if_pos rfl,zY,jr,ja];show ((R.ok _).bind _)=_;rw[bOk,ec,bOk]
 obtain⟨x',el⟩:=U5 (a:= .vl _) (ks.map λk=>k.all.length) 1 .un .un (λn hn=>by
  obtain⟨k,hk,rfl⟩:=au.mp hn;exact Z2 d k (h3 k hk)) (by rw[ck];exact hlt)
 rw[ck]at el;have e3:ZN (Zm (vE 1)) _ _ [.vl _,.vl (.lst ((ks.map λk=>k.all.length).map λ(n:Nat)=>T.int (n))),.vl (.int 1),.un,.un]=_:=el;rw[e,b_n,zc (zo e1),zc (zy e2)];have s1:([.vl (.tup [.str "row",.tup (ks.map Kd.t)]),.un,.un,.un,.un]:En).set 1 (.vl (.lst ((ks.map λk=>k.all.length).map λ(n:Nat)=>T.int (n))))=[.vl _,.vl (.lst ((ks.map λk=>k.all.length).map λ(n:Nat)=>T.int (n))),.un,.un,.un]:=rfl;rw[s1,zc (zy Z8)];have s2:([.vl (.tup [.str "row",.tup (ks.map Kd.t)]),.vl (.lst ((ks.map λk=>k.all.length).map λ(n:Nat)=>T.int (n))),.un,.un,.un]:En).set 2 (.vl (.int 1))=[.vl _,.vl (.lst ((ks.map λk=>k.all.length).map λ(n)=>T.int _)),.vl _,.un,.un]:=rfl;rw[s2,zc e3];rfl
theorem Gm (hf:f ρ= .ok (.int i))(hg:g ρ= .ok (.int j)):chE leC leC f (cE (.int c)) g ρ= .ok (.bl (decide (i<=c) && decide (c<=j))):=by
 rw[Xu,hf,bOk,Z8,bOk,u9,hg];cases decide (i<=c) <;> rfl
theorem jN (a b:Nat):decide ((a:Int)<=(b:Int))=decide (a<=b):=by
 by_cases h:a<=b
 ·rw[decide_eq_true h];exact decide_eq_true (by omega)
 ·rw[decide_eq_false h];exact decide_eq_false (by omega)
theorem qb (a b:Nat):((a:Int) == (b:Int))=(a == b):=by
 by_cases h:a=b
 ·subst h;simp
 ·rw[beq_eq_false_iff_ne.mpr h,beq_eq_false_iff_ne];omega
theorem z0K (h:f ρ= .ok (.bl b)):ap1 Y5 f ρ= .ok (.int ((iv b:Nat):Int)):=by
 rw[Zd,h];show R.ok _=_;rw[z24]
theorem qc (hf:f ρ= .ok (.int (i:Int)))(hg:g ρ= .ok (.int (j:Int))):zb zq f g ρ= .ok (.int ((i+j:Nat):Int)):=by
 rw[ze,hf,bOk,hg,bOk,zR,ld]
theorem jD (h:i < 2 ^ 60)(hf:f ρ= .ok (.int (i:Int)))(hg:g ρ= .ok (.int (j:Int))):zb zN f g ρ= .ok (.int ((i*j:Nat):Int)):=by
 rw[ze,hf,bOk,hg,bOk,U4 h]
theorem XF (h:n<=mx d)(hd:d+1<=3)(h0:1<=d):n*n*n < 2 ^ 60/\n*n < 2 ^ 60/\n < 2 ^ 60:=by
 have h1:n<=70644:=by
  have:d=1\/d=2:=by omega
  have h2:mx 2=70644:=by decide
  have h1:mx 1=41:=by decide
  rcases this with rfl | rfl <;> omega
 have h2:=bg h1 h1;have h3:=bg h2 h1;have h4:70644*70644*70644 < 2 ^ 60:=by decide
 have h5:70644*70644 < 2 ^ 60:=by decide
 have h6:70644 < 2 ^ 60:=by decide
 exact⟨bm h3 h4,bm h2 h5,bm h1 h6⟩
noncomputable abbrev mt (t:T)(lo hi:Nat):T:= .tup [.str "many",t,.int (lo:Int),.int (hi:Int)]
theorem v4' :vE 4 (a :: b :: c :: d :: .vl t :: ρ)= .ok t:=rfl
theorem qd {t:T}{a x:Sl}{lo hi n:Nat}(h3:n*n*n < 2 ^ 60)(h2:n*n < 2 ^ 60)(h1:n < 2 ^ 60):
  zh (zA 2 (zb zq (ap1 Y5 (JI eqC (zb ixT (vE 0) (cE (.int 2))) (cE (.int 0)))) (zb zN (vE 4) (ap1 Y5 (chE leC leC (zb ixT (vE 0) (cE (.int 2))) (cE (.int 1)) (zb ixT (vE 0) (cE (.int 3))))))))
  (zh (zA 2 (zb zq (vE 2) (zb zN (zb zN (vE 4) (vE 4)) (ap1 Y5 (chE leC leC (zb ixT (vE 0) (cE (.int 2))) (cE (.int 2)) (zb ixT (vE 0) (cE (.int 3))))))))
  (zA 2 (zb zq (vE 2) (zb zN (zb zN (zb zN (vE 4) (vE 4)) (vE 4)) (ap1 Y5 (JI eqC (zb ixT (vE 0) (cE (.int 3))) (cE (.int 3))))))))
  [.vl (mt t lo hi),a,.vl (.int 1),x,.vl (.int (n:Int))]= .nx [.vl (mt t lo hi),a,.vl (.int ((iv (lo == 0)+n*iv (decide (lo<=1) && decide (1<=hi))+n*n*iv (decide (lo<=2) && decide (2<=hi))+n*n*n*iv (hi == 3):Nat):Int)),x,.vl (.int (n:Int))]:=by
 have le1:∀{p q r s:Sl},ap1 _ (chE leC leC _ _ _) [.vl (mt t lo hi),p,q,r,s]= .ok (.int ((iv (decide (lo<=1) && decide (1<=hi))):Int)):=λ{p q r s}=>z0K (by
  rw[Gm wH UW];rw[show decide ((lo:Int)<=1)=decide _ from jN lo 1,show decide ((1:Int)<=(hi))=decide _ from jN 1 hi])
 have le2:∀{p q r s:Sl},ap1 _ (chE leC leC _ _ _) [.vl (mt t lo hi),p,q,r,s]= .ok (.int ((iv (decide (lo<=2) && decide (2<=hi))):Int)):=λ{p q r s}=>z0K (by
  rw[Gm wH UW];rw[show decide ((lo:Int)<=2)=decide _ from jN lo 2,show decide ((2:Int)<=(hi))=decide _ from jN 2 hi])
 have eq0:∀{p q r s:Sl},ap1 _ (JI eqC (zb ixT _ _) (cE _)) [.vl (mt t lo hi),p,q,r,s]= .ok _:=λ{p q r s}=>z0K (by
  rw[je,wH,bOk,Z8,bOk,eqI,bOk,show ((lo:Int) == 0)=(lo == 0) from qb lo 0])
 have eq3:∀{p q r s:Sl},ap1 _ (JI eqC (zb ixT _ _) (cE _)) [.vl (mt t lo hi),p,q,r,s]= .ok _:=λ{p q r s}=>z0K (by
  rw[je,UW,bOk,Z8,bOk,eqI,bOk,show ((hi:Int) == 3)=(hi == 3) from qb hi 3])
 have a1:=zy (i:=2) (qc (eq0 (p:=a) (q:= .vl (.int 1)) (r:=x)) (jD h1 v4' le1));have a1:zA 2 _ _= .nx [.vl _,a,.vl _,x,.vl _]:=a1;rw[zc a1];generalize iv _+n*iv _=m1;have a2:=zy (i:=2) (qc (v2 (t:= .int (m1)) (b:=a) (ρ:=[x,.vl _])) (jD h2 (jD h1 v4' v4') le2));rw[zc a2];generalize m1+n*n*iv _=m2;have a3:=zy (i:=2) (qc (v2 (t:= .int (m2)) (b:=a) (ρ:=[x,.vl _])) (jD h3 (jD h2 (jD h1 v4' v4') v4') eq3));exact a3
theorem qe {cs:List T->R T}{d:Nat}(hd:d+1<=3)(k:Kd)(lo hi:Nat)(h:(Kd.many k lo hi).Ok (d+1))(H:∀k:Kd,k.Ok d->cs [k.t]= .ok (.int (k.all.length:Int))):zf (b_n (f_9 8) cs (en0 5 [(Kd.many k lo hi).t]))= .ok (.int ((Kd.many k lo hi).all.length:Int)):=by
 obtain⟨h1,h2,h3⟩:=h;have hd0:1<=d:=by
  cases d with
  | zero=>exact h3.elim
  | succ d=>omega
 obtain⟨c3,c2,c1⟩:=XF (j1 d k h3) hd hd0;rw[Zx,Xy _ h1 h2];simp only[Kd.t];have hk:=H k h3;generalize k.all.length=n at*;generalize k.t=t at*;have e:zf (b_n (f_9 8) cs (en0 5 [mt t lo hi]))=zf (b_n _ cs [.vl _,.un,.un,.un,.un]):=rfl;have e1:zk inC (zb ixT (vE 0) (cE (.int 0))) (zG (z9 (cE (.str "whole")) (z9 (cE (.str "pick")) (zd)))) [.vl (mt t lo hi),.un,.un,.un,.un]= .ok false:=by
  rfl
 have e2:ifE (zk eqC (zb ixT (vE 0) (cE (.int 0))) (cE (.str "row"))) (zL (Zm (zb ixT (vE 0) (cE (.int 1)))) (zE 0) (zW) (za 1 cs (z9 (vE 0) (zd))) 1 []) (jm (zd)) [.vl (mt t lo hi),.un,.un,.un,.un]= .ok (.lst []):=by
  rfl
 have s1:([.vl (mt t lo hi),.un,.un,.un,.un]:En).set 1 (.vl (.lst []))=[.vl _,.vl _,.un,.un,.un]:=rfl;have s2:([.vl (mt t lo hi),.vl (.lst []),.un,.un,.un]:En).set 2 (.vl (.int 1))=[.vl _,.vl _,.vl _,.un,.un]:=rfl;have e3:ZN (Zm (vE 1)) (zE 3) (zA 2 (zb zN (vE 2) (vE 3))) [.vl (mt t lo hi),.vl (.lst []),.vl (.int 1),.un,.un]= .nx _:=rfl;have e4:zk eqC (zb ixT (vE 0) (cE (.int 0))) (cE (.str "many")) [.vl (mt t lo hi),.vl (.lst []),.vl (.int 1),.un,.un]= .ok true:=by
  rfl
 have e5:za 1 cs (z9 (zb ixT (vE 0) (cE (.int 1))) (zd)) [.vl (mt t lo hi),.vl (.lst []),.vl (.int 1),.un,.un]= .ok (.int (n)):=by
  rw[zj,ja,bOk,hk]
 have s5:([.vl (mt t lo hi),.vl (.lst []),.vl (.int 1),.un,.un]:En).set 4 (.vl (.int (n)))=[.vl _,.vl _,.vl _,.un,.vl _]:=rfl;have e6:=qd (t:=t) (a:= .vl (.lst [])) (x:= .un) (lo:=lo) (hi:=hi) c3 c2 c1;rw[e,b_n,zc (zo e1),zc (zy e2),s1,zc (zy Z8),s2,zc e3];have e7:∀(P:En->RS),ifS _ (zh _ P) nxS _=P _:=λP=>by
  rw[wI e4,zc (zy e5),s5]
 rw[zc (Eq.trans (e7 _) e6)];rfl
theorem qf:∀(d n:Nat),d<=n->d<=3->∀k:Kd,k.Ok d->S_n n 0 [k.t]= .ok (.int (k.all.length:Int))
 | 0,_,_,_,_,h=>h.elim
 | d+1,0,hn,_,_,_=>by omega
 | d+1,n+1,hn,hd,k,h=>by
  have H:=λk' hk' =>qf d n (by omega) (by omega) k' hk'
  cases k with
  | whole lo hi=>exact WC _ (U6 d lo hi h) (x:="whole") (r:=[.int lo,.int hi]) (by simp only[Kd.t]) rfl
  | pick cs=>exact WC _ (vF d cs h) (x:="pick") (r:=[.tup (cs.map ZU)]) (by simp only[Kd.t]) rfl
  | row ks=>exact vG (by omega) ks h H
  | many k lo hi=>exact qe (by omega) k lo hi h H
theorem Ok.mono:∀(d:Nat) (k:Kd),k.Ok d->k.Ok (d+1)
 | 0,_,h=>h.elim
 | d+1,.whole _ _,h=>h
 | d+1,.pick _,h=>h
 | d+1,.row ks,h=>⟨h.1,h.2.1,λk hk=>Ok.mono d k (h.2.2 k hk)⟩
 | d+1,.many k _ _,h=>⟨h.1,h.2.1,Ok.mono d k h.2.2⟩
theorem XG (j:Int):zN (.int 700) (.int j)= .ok (.int (700*j)):=YU _ _ (.inl ⟨by decide,by decide⟩)
theorem Gn (ns:List Int)(d:Nat)(h1:1<=d)(h8:d<=8)(k:Int)(h0:0<=k):∃q:Kd,f_q 8 [scr ns,.int k,.int (d:Int)]= .ok q.t/\q.Ok d:=by
 obtain⟨t,ht,hi⟩:=uc ns d 8 h8 h1 k h0;obtain⟨q,rfl,hq⟩:=ue d t hi;exact⟨q,ht,hq⟩
abbrev smB:En->RS:=zh (ifS (zk leC (za 1 (f_n 8) (z9 (vE 3) (zd))) (vB 2)) (zi (vE 3)) (nxS))
  (zA 3 (za 3 (f_q 8) (z9 (vE 0) (z9 (zb zq (zb zq (vE 1) (cE (.int 500))) (zb zN (cE (.int 700)) (vE 4))) (z9 (cE (.int 2)) (zd))))))
abbrev en5 (ns:List Int)(a:Int)(m:Nat)(k:Kd)(x:Sl):En:=[.vl (scr ns),.vl (.int a),.vl (.int (m:Int)),.vl k.t,x]
theorem qg (hk:k.Ok 3):zk leC (za 1 (f_n 8) (z9 (vE 3) (zd))) (vB 2) (en5 ns a m k x)= .ok (decide (k.all.length<=m)):=by
 have e:f_n 8 _= .ok _:=qf 3 8 (by omega) (by omega) k hk
 rw[zx,zj,v3,bOk,e,bOk,w2,bOk,u9,jN]
theorem XH (ns:List Int)(ha:0<=a)(hk:k.Ok 3)(j:Nat):(k.all.length<=m/\smB (en5 ns a m k (.vl (.int (0+(j:Int)))))= .rt k.t)\/∃k' :Kd,k'.Ok 3/\smB (en5 ns a m k (.vl (.int (0+(j:Int)))))= .nx (en5 ns a m k' (.vl (.int (0+(j:Int))))):=by
 by_cases h:k.all.length<=m
 ·refine .inl ⟨h, ?_⟩;refine zB ?_;rw[wI (by rw[qg hk,decide_eq_true h])]
  exact zg rfl
 ·obtain⟨q,hq,ho⟩:=Gn ns 2 (by omega) (by omega) (a+500+700*(0+(j))) (by omega)
  refine .inr ⟨q,Ok.mono 2 q ho, ?_⟩;unfold smB;rw[zc (zo (by rw[qg hk,decide_eq_false h]))]
  have hq:f_q 8 [scr ns,.int _,.int 2]= .ok q.t:=hq;have e:za 3 (f_q 8) (z9 (vE 0) (z9 (zb zq (zb zq (vE 1) (cE (.int 500))) (zb zN (cE (.int 700)) (vE 4))) (z9 (cE (.int 2)) (zd)))) (en5 ns a m k (.vl (.int (0+(j)))))= .ok q.t:=by
   rw[ZA,v0,bOk,ze,ze,v1,bOk,Z8,bOk,zR,bOk,ze,Z8,bOk,v4,bOk,XG,bOk,zR,bOk,Z8,bOk,hq]
  rw[zy e];rfl
theorem Go {g:T->En->R En}(hg:g t ρ= .ok ρ1)(hb:fb ρ1= .rt r):Za g fb (t :: ts) ρ= .rt r:=by
 rw[Za,hg];dsimp only;rw[hb]
theorem qh (ns:List Int)(ha:0<=a):∀(js:List Nat) (k:Kd) (x:Sl),k.Ok 3->(∃k' :Kd,k'.Ok 3/\k'.all.length<=m/\Za (zE 4) smB (js.map λ(j:Nat)=>T.int (0+(j:Int))) (en5 ns a m k x)= .rt k'.t)\/
  ∃(k' :Kd) (x' :Sl),k'.Ok 3/\Za (zE 4) smB (js.map λ(j:Nat)=>T.int (0+(j:Int))) (en5 ns a m k x)= .nx (en5 ns a m k' x')
 | [],k,x,hk=> .inr ⟨k,x,hk,rfl⟩
 | j :: js,k,x,hk=>by
  have s3:zE 4 (T.int (0+(j))) (en5 ns a m k x)= .ok _:=rfl;rw[ay];rcases XH ns ha hk j with ⟨h1,h2⟩ | ⟨k',h1,h2⟩
  ·exact .inl ⟨k,hk,h1,Go s3 h2⟩
  ·rw[jb s3 h2];exact qh ns ha js k' _ h1
theorem wJ (ns:List Int)(a:Int)(ha:0<=a)(m:Nat)(hm:4<=m):∃k:Kd,k.Ok 3/\k.all.length<=m/\Xm [scr ns,.int a,.int (m:Int)]= .ok k.t:=by
 obtain⟨q,hq,ho⟩:=Gn ns 3 (by omega) (by omega) a ha
 have hq:f_q 8 [scr ns,.int a,.int 3]= .ok q.t:=hq;have e:Xm [scr ns,.int a,.int (m)]=zf (z0a _ _ [.vl _,.vl _,.vl _,.un,.un]):=rfl;have e1:za 3 (f_q 8) (z9 (vE 0) (z9 (vE 1) (z9 (cE (.int 3)) (zd)))) [.vl (scr ns),.vl (.int a),.vl (.int (m)),.un,.un]= .ok q.t:=by
  rw[ZA,v0,bOk,v1,bOk,Z8,bOk,hq]
 have s1:([.vl _,.vl _,.vl _,.un,.un]:En).set 3 _=en5 ns a m q .un:=rfl;rw[e,z0a,zc (zy e1),s1];rcases qh ns ha _ q .un ho with ⟨k,h1,h2,h3⟩ | ⟨k,x,h1,h3⟩
 ·refine⟨k,h1,h2, ?_⟩;have e2:ZN (jo (cE (.int 3))) (zE 4) smB _= .rt k.t:=h3;rw[zB e2];rfl
 ·have e2:ZN (jo (cE (.int 3))) (zE 4) smB _= .nx _:=h3;rw[zc e2];have ec:zk leC _ _ (frz (en5 ns a m k x))= .ok _:=qg h1
  by_cases h:k.all.length<=m
  ·refine⟨k,h1,h, ?_⟩;rw[zg]
   ·rfl
   ·unfold ifE;rw[ec,decide_eq_true h];rfl
  ·refine⟨.whole (-1) 2,⟨by omega,by omega,by omega⟩,by exact hm, ?_⟩
   rw[zg]
   ·rfl
   ·unfold ifE;rw[ec,bOk,decide_eq_false h,if_neg aE];rfl
mutual
noncomputable def Kd.has:Kd->T->Bool
 | .whole lo hi=>λt=>inR lo hi t
 | .pick cs=>λt=>match t with | .str x=>cs.any λc=>c.1 == x | _=>false
 | .row ks=>λt=>match t with | .tup xs=>xs.length == ks.length && Kd.hass ks xs | _=>false
 | .many k lo hi=>λt=>match t with | .tup xs=>decide (lo<=xs.length) && decide (xs.length<=hi) && xs.all k.has | _=>false
noncomputable def Kd.hass:List Kd->List T->Bool
 | []=>λ_=>true
 | k :: ks=>λxs=>match xs with | []=>true | x :: xs=>k.has x && Kd.hass ks xs
end
theorem jt:∀(ks:List Kd) (xs:List T),Kd.hass ks xs=(ks.zip xs).all λq=>q.1.has q.2
 | [],_=>by simp[Kd.hass]
 | k :: ks,[]=>by simp[Kd.hass]
 | k :: ks,x :: xs=>by simp[Kd.hass,jt ks xs]
noncomputable def UY:List (List T)->List T->Prop
 | [],[]=>True
 | l :: ls,x :: xs=>x∈l/\UY ls xs
 | _,_=>False
theorem Jv:∀(ls made:List (List T)) (xs:List T),xs∈zJ made ls↔∃a∈made,∃b,UY ls b/\xs=a++b
 | [],made,xs=>by
  rw[zJ];constructor
  ·exact λh=>⟨xs,h,[],trivial,by simp⟩
  ·rintro⟨a,ha,b,hb,rfl⟩
   cases b with
   | nil=>simpa using ha
   | cons=>exact hb.elim
 | l :: ls,made,xs=>by
  rw[zJ,Jv ls];constructor
  ·rintro⟨a',ha',b,hb,rfl⟩
   obtain⟨a,ha,hx⟩:=cq.mp ha';obtain⟨x,hl,e⟩:=au.mp hx;exact⟨a,ha,x :: b,⟨hl,hb⟩,by rw[← e];simp⟩
  ·rintro⟨a,ha,b,hb,rfl⟩
   cases b with
   | nil=>exact hb.elim
   | cons x b=>exact⟨a++[x],cq.mpr ⟨a,ha,au.mpr ⟨x,hb.1,rfl⟩⟩,b,hb.2,by simp⟩
theorem ju (ls:List (List T))(t:T):t∈UV ls↔∃xs,UY ls xs/\t= .tup xs:=by
 rw[au];constructor
 ·rintro⟨xs,h,rfl⟩
  obtain⟨a,ha,b,hb,rfl⟩:=(Jv ls _ xs).mp h;rw[aC.mp ha];exact⟨b,hb,rfl⟩
 ·rintro⟨xs,h,rfl⟩
  exact⟨xs,(Jv ls _ xs).mpr ⟨[],aC.mpr rfl,xs,h,rfl⟩,rfl⟩
theorem jv (l:List T):∀(m:Nat) (xs:List T),UY (ae m l) xs↔xs.length=m/\∀x∈xs,x∈l
 | 0,[]=>by simp[UY]
 | 0,x :: xs=>by simp[UY]
 | m+1,[]=>by simp[UY,bF]
 | m+1,x :: xs=>by
  show x∈l/\UY _ xs↔_;rw[jv l m xs];simp;constructor
  ·rintro⟨a,b,c⟩;exact⟨b,a,c⟩
  ·rintro⟨a,b,c⟩;exact⟨b,a,c⟩
theorem WD:∀(ks:List Kd),(∀k∈ks,∀x,x∈k.all↔k.has x=true)->∀xs,UY (ks.map Kd.all) xs↔(xs.length == ks.length && Kd.hass ks xs)=true
 | [],_,[]=>by simp[UY,Kd.hass]
 | [],_,x :: xs=>by simp[UY]
 | k :: ks,h,[]=>by simp[UY]
 | k :: ks,h,x :: xs=>by
  show x∈k.all/\UY _ xs↔_;rw[WD ks (λk' hk' =>h k' (a8 _ hk')) xs,h k ac x];simp[Kd.hass];constructor
  ·rintro⟨a,b,c⟩;exact⟨b,a,c⟩
  ·rintro⟨a,b,c⟩;exact⟨b,a,c⟩
mutual
theorem Ze:∀(k:Kd) (x:T),x∈k.all↔k.has x=true
 | .whole lo hi,x=>by
  rw[Kd.all,Kd.has,au];constructor
  ·rintro⟨i,hi',rfl⟩
   rw[bS]at hi';simp[inR];omega
  ·intro h;obtain⟨i,rfl⟩:=YV h;simp[inR]at h;exact⟨(i - lo).toNat,by rw[bS];omega,by congr 1;omega⟩
 | .pick cs,x=>by
  rw[Kd.all,Kd.has,au];constructor
  ·rintro⟨c,hc,rfl⟩
   simp only[cP];exact⟨c,hc,by simp⟩
  ·intro h;dsimp only at h;split at h
   ·rw[cP]at h;obtain⟨c,hc,e⟩:=h;exact⟨c,hc,by rw[eq_of_beq e]⟩
   ·cases h
 | .row ks,x=>by
  rw[Kd.all,Kd.has,ju,Kd.alls_map];have:=WD ks (U7 ks);constructor
  ·rintro⟨xs,h,rfl⟩
   exact(this xs).mp h
  ·intro h;dsimp only at h;split at h
   ·rename_i xs;exact⟨xs,(this xs).mpr h,rfl⟩
   ·cases h
 | .many k lo hi,x=>by
  rw[Kd.all,Kd.has,cq];constructor
  ·rintro⟨i,hi',h⟩
   rw[ju]at h;obtain⟨xs,h,rfl⟩:=h;rw[jv]at h;rw[bS]at hi';simp only[ah,decide_eq_true_eq,aQ];exact⟨⟨by omega,by omega⟩,λy hy=>(Ze k y).mp (h.2 y hy)⟩
  ·intro h;dsimp only at h;split at h
   ·rename_i xs;simp only[ah,decide_eq_true_eq,aQ]at h;refine⟨xs.length - lo,by rw[bS];omega, ?_⟩
    rw[ju];exact⟨xs,(jv _ _ _).mpr ⟨by omega,λy hy=>(Ze k y).mpr (h.2 y hy)⟩,rfl⟩
   ·cases h
theorem U7:∀(ks:List Kd),∀k∈ks,∀x,x∈k.all↔k.has x=true
 | [],_,h=>nomatch h
 | k :: ks,k',h=>by
  rcases aj.mp h with e | h
  ·intro x;rw[e];exact Ze k x
  ·exact U7 ks k' h
end
theorem JX:∀(qs:List (Kd×T)) (x y:Sl),(∀q∈qs,c [q.1.t,q.2]= .ok (.bl (q.1.has q.2)))->zu (zM 0 1) zW (za 2 c (z9 (vE 0) (z9 (vE 1) (zd)))) (qs.map λq=>T.tup [q.1.t,q.2]) [x,y]= .ok (qs.map λq=>T.bl (q.1.has q.2))
 | [],_,_,_=>rfl
 | q :: qs,x,y,h=>by
  have e:za 2 c (z9 (vE 0) (z9 (vE 1) (zd))) [.vl q.1.t,.vl q.2]= .ok (.bl (q.1.has q.2)):=by
   rw[zn,v0,bOk,v1,bOk,h q ac]
  have ih:=JX qs (.vl q.1.t) (.vl q.2) λr hr=>h r (a8 _ hr);have e0:zu (zM 0 1) zW (za 2 c (z9 (vE 0) (z9 (vE 1) (zd)))) ((q :: qs).map λq=>T.tup [q.1.t,q.2]) [x,y]=
   (za 2 c _ [.vl _,.vl q.2]).bind λv=>(zu _ _ _ (qs.map λq=>T.tup _) [.vl _,.vl q.2]).bind λvs=> .ok _:=rfl
  rw[e0,e,bOk,ih,bOk,ay]
theorem U8 {α:Type}(p:α->Bool):∀qs:List α,WR (qs.map λq=>T.bl (p q))=some (qs.all p)
 | []=>rfl
 | q :: qs=>by
  have e:WR ((q :: qs).map λq=>T.bl (p q))=match WR (qs.map λq=>T.bl _) with | some j=>some _ | none=>none:=rfl
  rw[e,U8 p qs];rfl
theorem vH (ks:List Kd)(xs:List T):QX (ks.map Kd.t) xs=(ks.zip xs).map λq=>T.tup [q.1.t,q.2]:=by
 unfold QX;rw[List.zip_map_left,aO];rfl
theorem U9 (ks:List Kd)(xs:List T)(hs:Zu s= .ok (ks.map Kd.t))(hl:ks.length<=3)(H:∀q∈ks.zip xs,c [q.1.t,q.2]= .ok (.bl (q.1.has q.2))):
  zf (z0g c (en0 2 [s,.tup xs]))= .ok (.bl ((ks.zip xs).all λq=>q.1.has q.2)):=by
 have ez:uP (vE 0) (vE 1) [.vl s,.vl (.tup xs)]= .ok ((ks.zip xs).map λq=>T.tup [q.1.t,q.2]):=by
  show (Zu s).bind _=_;rw[hs,← vH];rfl
 have hb:((ks.zip xs).map λq=>T.tup [q.1.t,q.2]).length<=bnd:=by
  rw[aa,cY];exact aq (fW _ _) (aq hl (by decide))
 have ec:zF (zM 0 1) zW (za 2 c (z9 (vE 0) (z9 (vE 1) (zd)))) 2 [] [.vl s,.vl (.tup xs)] ((ks.zip xs).map λq=>T.tup [q.1.t,q.2])= .ok ((ks.zip xs).map λq=>T.bl (q.1.has q.2)):=by
  unfold zF;rw[if_pos hb];show quiet (zu _ _ _ _ [.un,.un])=_;rw[JX _ _ _ H];rfl
 rw[z0g,zg]
 ·rfl
 ·show ap1 _ _ [.vl s,.vl _]=_;rw[Zd,zY,ez,bOk,ec,bOk];show (match WR ((ks.zip xs).map λq=>T.bl _) with | some k=>_ | none=>_)=_
  rw[U8]
theorem j5 (cs:List (Str×Int))(h:cs.length<=4):f_e [(Kd.pick cs).t]= .ok (.lst (cs.map λc=>T.str c.1)):=by
 have e:f_e [(Kd.pick cs).t]=zf (b_e [.vl (.tup [.str "pick",.tup (cs.map ZU)])]):=by rfl
 have hb:(cs.map ZU).length<=bnd:=by rw[aa];exact aq h (by decide)
 have ec:zF _ _ (zb ixT (vE 0) (cE (.int 0))) 1 [] [.vl (.tup [.str "pick",.tup (cs.map ZU)])] _= .ok ((cs.map ZU).map λc=>match c with | .tup (w :: _)=>w | _=>c):=
  zH _ hb λt ht=>by
   obtain⟨c,_,rfl⟩:=au.mp ht;rfl
 rw[e,b_e,zg]
 ·rfl
 ·show zL _ _ _ _ _ _ [.vl _]=_;show ((zF _ _ _ _ _ _ _).bind _)=_;rw[ec,aO];rfl
theorem Ua (t:T):∀cs:List (Str×Int),wX (λy=>eqF 30 y t) (cs.map λc=>T.str c.1)=some ((Kd.pick cs).has t)
 | []=>by cases t <;> rfl
 | c :: cs=>by
  have ih:=Ua t cs;have e:wX (λy=>eqF 30 y t) ((c :: cs).map λc=>T.str c.1)=match eqF 30 _ t with
   | none=>none
   | some b=>match wX (λy=>eqF 30 y t) (cs.map λc=>T.str c.1) with
    | none=>none
    | some d=>some _:=rfl
  rw[e,ih];cases t <;> rfl
abbrev en2 (a b:T):En:=[.vl a,.vl b]
theorem wZ (h:(x == w)=false):ifS (zk eqC (zb ixT (vE 0) (cE (.int 0))) (cE (.str w))) f nxS (en2 (.tup (.str x :: r)) b)= .nx (en2 (.tup (.str x :: r)) b):=
 zo (by rw[cs0,h])
theorem VE:ifS (zk eqC (zb ixT (vE 0) (cE (.int 0))) (cE (.str x))) f nxS (en2 (.tup (.str x :: r)) b)=f (en2 (.tup (.str x :: r)) b):=
 wI (by rw[cs0,beq_self_eq_true])
theorem qi (lo hi:Int)(x:T):zf (b_k f_r f_m f_e cp (en0 2 [(Kd.whole lo hi).t,x]))= .ok (.bl ((Kd.whole lo hi).has x)):=by
 have e:en0 2 [(Kd.whole lo hi).t,x]=en2 (.tup [.str "whole",.int lo,.int hi]) x:=by rfl
 rw[e,b_k,zB]
 ·rfl
 ·rw[VE,zg];show Jd _ _ (en2 _ x)=_;rw[Jn,zj,v1,bOk,wA];cases x with
  | int i=>
   rw[Xu,ja,bOk,w1,bOk,u9,bOk,wH,bOk,u9];show _=R.ok (T.bl (decide _ && decide _));cases decide (lo<=i) <;> rfl
  | _=>rfl
theorem vI (cs:List (Str×Int))(h4:cs.length<=4)(x:T):zf (b_k f_r f_m f_e cp (en0 2 [(Kd.pick cs).t,x]))= .ok (.bl ((Kd.pick cs).has x)):=by
 have e:en0 2 [(Kd.pick cs).t,x]=en2 (.tup [.str "pick",.tup (cs.map ZU)]) x:=by rfl
 have hw:=j5 cs h4;rw[Kd.t]at hw;rw[e,b_k,zc (wZ (by decide)),zB]
 ·rfl
 ·rw[VE,zg];show JI _ _ _ (en2 _ x)=_;rw[je,w1,bOk,zj,v0,bOk,hw];show ((match wX (λy=>eqF 30 y x) (cs.map λ(c:Str×Int)=>T.str c.1) with | some b=>R.ok b | none=> .bad).bind _)=_
  rw[Ua];rfl
theorem XI (ks:List Kd)(h3:ks.length<=3)(x:T)(H:∀xs,x= .tup xs->cp [.tup (ks.map Kd.t),x]= .ok (.bl ((ks.zip xs).all λq=>q.1.has q.2))):zf (b_k f_r f_m f_e cp (en0 2 [(Kd.row ks).t,x]))= .ok (.bl ((Kd.row ks).has x)):=by
 have e:en0 2 [(Kd.row ks).t,x]=en2 (.tup [.str "row",.tup (ks.map Kd.t)]) x:=by rw[Kd.t,Kd.ts_map];rfl
 rw[e,b_k,zc (wZ (by decide)),zc (wZ (by decide)),zB]
 ·rfl
 ·rw[VE,zg];show Jd _ _ (en2 _ x)=_;have el:ap1 Zo (zb ixT (vE 0) (cE (.int 1))) (en2 (.tup [.str "row",.tup (ks.map Kd.t)]) x)= .ok (.int (ks.length)):=by
   rw[Zd,ja,bOk,jg,aa]
  rw[Jn,ZA,v1,bOk,el,bOk,bOk,Zs,Zk,zn,ja,bOk,v1,bOk];cases x with
  | tup xs=>
   rw[H xs rfl];show (if (decide _ && decide _)=true then _ else _)=R.ok (T.bl (xs.length == ks.length && Kd.hass ks xs))
   rw[jt]
   by_cases h:xs.length=ks.length
   ·simp[h]
   ·rw[if_neg (by simp;omega)]
    simp[h]
  | _=>rfl
theorem uh (k:Kd):∀xs:List T,((ae xs.length k).zip xs).all (λq=>q.1.has q.2)=xs.all k.has
 | []=>rfl
 | x :: xs=>by
  rw[aw,bF,eP,bR,bR,uh k xs]
theorem vJ (k:Kd)(lo hi:Nat)(h3:hi<=3)(x:T)(H:∀xs,x= .tup xs->xs.length<=3->cp [.lst ((ae xs.length k).map Kd.t),x]= .ok (.bl (((ae xs.length k).zip xs).all λq=>q.1.has q.2))):zf (b_k f_r f_m f_e cp (en0 2 [(Kd.many k lo hi).t,x]))= .ok (.bl ((Kd.many k lo hi).has x)):=by
 have e:en0 2 [(Kd.many k lo hi).t,x]=en2 (.tup [.str "many",k.t,.int (lo),.int (hi)]) x:=by rfl
 rw[e,b_k,zc (wZ (by decide)),zc (wZ (by decide)),zc (wZ (by decide)),zg]
 ·rfl
 ·show Jd _ _ (en2 _ x)=_;rw[Jn,ZA,v1,bOk,wH,bOk,UW,bOk,Zs,Zk];cases x with
  | tup xs=>
   show (if (decide _ && decide _)=true then _ else _)=R.ok (T.bl (decide _ && decide _ && xs.all _))
   cases hh:(decide (lo<=xs.length) && decide (xs.length<=hi)) with
   | false=>rfl
   | true=>
    rw[ah,decide_eq_true_eq,decide_eq_true_eq]at hh;have hx:xs.length<=3:=by omega
    have em:zb zN (jm (z9 (zb ixT (vE 0) (cE (.int 1))) (zd))) (ap1 Zo (vB 1)) (en2 (.tup [.str "many",k.t,.int (lo),.int (hi)]) (.tup xs))= .ok (.lst ((ae xs.length k).map Kd.t)):=by
     rw[ze,XA ja,bOk,Zd,w1,bOk,jg,bOk,Ju hx,Zn,aI]
    rw[zn,em,bOk,v1,bOk,H xs rfl hx,uh];rfl
  | _=>rfl
theorem VF:∀(d n:Nat),2*d<=n->∀(k:Kd) (x:T),k.Ok d->S_k n 0 [k.t,x]= .ok (.bl (k.has x))
 | 0,_,_,_,_,h=>h.elim
 | d+1,n+2,hn,k,x,h=>by
  have ih:=VF d n (by omega)
  have e:S_k (n+2) 0 [k.t,x]=zf (b_k f_r f_m f_e (S_k (n+1) 1) (en0 2 [k.t,x])):=by rw[S_k]
  have e1:∀s y,S_k (n+1) 1 [s,y]=zf _:=λs y=>by rw[S_k];intro h;cases h
  cases k with
  | whole lo hi=>exact qi lo hi x
  | pick cs=>exact vI cs h.2.1 x
  | row ks=>
   refine XI ks h.2.1 x λxs hx=> ?_;rw[e1,hx,U9 ks xs rfl h.2.1 λq hq=>ih q.1 q.2 (h.2.2 q.1 (bA hq).1)]
  | many k lo hi=>
   refine vJ k lo hi h.2.1 x λxs hx h3=> ?_;rw[e1,hx,U9 _ xs rfl (by rw[aF];exact h3) λq hq=>ih q.1 q.2 (by
    rw[aY (bA hq).1];exact h.2.2)]
theorem qj:∀(d:Nat) (k:Kd),k.Ok d->isK d k.t=true
 | 0,_,h=>h.elim
 | d+1,.whole lo hi,h=>by
  have e:isK (d+1) (Kd.whole lo hi).t=(decide (-20<=lo) && decide (lo<=hi) && decide (hi<=20)):=by rfl
  obtain⟨h1,h2,h3⟩:=h;rw[e];simp;omega
 | d+1,.pick cs,h=>by
  have e:isK (d+1) (Kd.pick cs).t=(decide (1<=(cs.map ZU).length) && decide ((cs.map ZU).length<=4) && (cs.map ZU).all zP && decide ((dd [] ((cs.map ZU).map ZF)).length=(cs.map ZU).length)):=by rfl
  obtain⟨h1,h2,h3,h4⟩:=h;have e1:(cs.map ZU).map ZF=cs.map (·.1):=by rw[aO];rfl
  have e2:=(wD _ []).mpr λk w hw=>by simpa using h4 k w hw
  rw[e,e1,e2,aa];simp only[ah,decide_eq_true_eq,aQ];refine⟨⟨⟨h1,h2⟩,λc hc=> ?_⟩,by simp⟩
  obtain⟨p,hp,rfl⟩:=au.mp hc;obtain⟨a,b,c⟩:=h3 p hp;show (Zw _ && decide _ && decide _)=true;rw[a];simp;omega
 | d+1,.row ks,h=>by
  have e:isK (d+1) (Kd.row ks).t=(decide (1<=(ks.map Kd.t).length) && decide ((ks.map Kd.t).length<=3) && (ks.map Kd.t).all (isK d)):=by rw[Kd.t,Kd.ts_map];rfl
  obtain⟨h1,h2,h3⟩:=h;rw[e,aa];simp only[ah,decide_eq_true_eq,aQ];refine⟨⟨h1,h2⟩,λc hc=> ?_⟩;obtain⟨k,hk,rfl⟩:=au.mp hc;exact qj d k (h3 k hk)
 | d+1,.many k lo hi,h=>by
  have e:isK (d+1) (Kd.many k lo hi).t=((decide ((0)<=(lo)) && decide ((lo:Int)<=(hi)) && decide ((hi:Int)<=3)) && isK d k.t):=by rfl
  obtain⟨h1,h2,h3⟩:=h;rw[e,qj d k h3];simp;omega
theorem Ub {α β:Type}(f:α->List β)(m:Nat):∀(as:List α) (i j:Nat),(∀a∈as,(f a).length=m)->j < m->(as.flatMap f)[i*m+j]? =(as[i]?).bind λa=>(f a)[j]?
 | [],i,j,_,_=>by simp
 | a :: as,0,j,h,hj=>by
  have ha:=h a ac;rw[aK,Nat.zero_mul,fP,aT (by omega)]
  rfl
 | a :: as,i+1,j,h,hj=>by
  have ha:=h a ac;have e:(i+1)*m=i*m+m:=by rw[dB,ck]
  rw[aK,aJ (by omega),ha,e,show i*m+m+j - m=i*m+j by omega,Ub f m as i j (λb hb=>h b (a8 _ hb)) hj]
  rfl
theorem WE {α β:Type}(f:α->List β):∀(as:List α) (q j:Nat) (a:α),as[q]? =some a->j < (f a).length->(as.flatMap f)[((as.take q).map λb=>(f b).length).sum+j]? =(f a)[j]?
 | [],q,j,a,h,_=>by simp at h
 | b :: as,0,j,a,h,hj=>by
  have e:=by simpa using h
  subst e;rw[aK,List.take_zero,c7,List.sum_nil,fP,aT hj]
 | b :: as,q+1,j,a,h,hj=>by
  rw[aK,List.take_succ_cons,ay,d3,Nat.add_assoc,aJ (by omega),Nat.add_sub_cancel_left]
  exact WE f as q j a (by simpa using h) hj
theorem JY:∀(ls made:List (List T)) (l:List T),zJ made (ls++[l])=(zJ made ls).flatMap λa=>l.map λx=>a++[x]
 | [],made,l=>rfl
 | _ :: ls,made,l=>by
  rw[fD,zJ,zJ,JY ls]
theorem Uc {ls:List (List T)}(h:(zJ [[]] ls)[i]? =some xs)(hx:l[j]? =some x):(zJ [[]] (ls++[l]))[i*l.length+j]? =some (xs++[x]):=by
 have hj:=(ak.mp hx).1;rw[JY,Ub _ _ _ i j (λa _=>aa ..) hj,h];show (l.map λx=>xs++[x])[j]? =_;rw[ar,hx];rfl
theorem wK:∀(ns:List Nat) (n:Nat),prd (ns++[n])=prd ns*n
 | [],n=>by simp[prd]
 | m :: ns,n=>by rw[fD,prd,prd,wK ns n,d0]
theorem ZI (ls:List (List T)):(zJ [[]] ls).length=prd (ls.map (·.length)):=by rw[Jt,aG,ck]
theorem jc {α:Type}{xs:List α}(h:i < xs.length):∃x,xs[i]? =some x:=⟨_,a9 h⟩
theorem Gp {xs:List T}{j:Nat}{v:T}(h:xs[j]? =some v):atT xs (j:Int)= .ok v:=by unfold atT;rw[jd h]
noncomputable def shr (c lo q:Nat):Nat:=((bc q).map λi=>c ^ (lo+i)).sum
theorem Ud (c lo q:Nat):shr c lo (q+1)=shr c lo q+c ^ (lo+q):=by
 unfold shr;rw[fU,bC];simp
theorem VG (c lo hi:Nat):pw c lo hi=shr c lo (hi+1 - lo):=rfl
theorem qk (hq:q < hi+1 - lo)(h:(zJ [[]] (ae (lo+q) k.all))[j]? =some xs):(Kd.many k lo hi).all[shr k.all.length lo q+j]? =some (.tup xs):=by
 have hj:=(ak.mp h).1;have e:=WE (λi=>UV (ae _ _)) _ q j q (by rw[dj hq]) (by rw[aa];exact hj)
 have e2:(((bc (hi+1 - lo)).take q).map λb=>(UV (ae (lo+b) k.all)).length).sum=shr k.all.length lo q:=by
  rw[List.take_range,Nat.min_eq_left (e9 hq),shr];congr 1
  refine br λi _=> ?_;rw[jZ,aI,ZQ]
 rw[e2]at e;rw[Kd.all,e];rw[ar,h];rfl
abbrev cpB (c:List T->R T):En->RS:=zA 1 (zb zN (vE 1) (za 1 c (z9 (vE 2) (zd))))
theorem ql:∀(ks:List Kd) (m:Nat) (x:Sl),(∀k∈ks,c [k.t]= .ok (.int (k.all.length:Int))/\1<=k.all.length)->m*prd (ks.map λk=>k.all.length) < 2 ^ 60->
  ∃y,Za (zE 2) (cpB c) (ks.map Kd.t) [S,.vl (.int (m:Int)),x]= .nx [S,.vl (.int ((m*prd (ks.map λk=>k.all.length):Nat):Int)),y]
 | [],m,x,_,_=>⟨x,by simp[Za,prd]⟩
 | k :: ks,m,x,H,hb=>by
  obtain⟨hc,h1⟩:=H k ac;have hp:=Js λn hn=>by
   obtain⟨k',hk',rfl⟩:=au.mp hn;exact(H k' (a8 _ hk')).2
  rw[ay,prd,← d0]at hb;have hm:m < 2 ^ 60:=by
   have h2:m<=m*k.all.length:=cR _ h1;have h3:m*k.all.length<=m*k.all.length*prd (ks.map λk=>k.all.length):=cR _ hp;omega
  have eb:cpB c [S,.vl (.int (m)),.vl k.t]= .nx [S,.vl (.int ((m*k.all.length:Nat))),.vl k.t]:=by
   rw[cpB,zy]
   ·rfl
   ·rw[ze,v1,bOk,zj,v2,bOk,hc,bOk,U4 hm]
  obtain⟨y,ih⟩:=ql (S:=S) ks _ _ (λk' hk' =>H k' (a8 _ hk')) hb;refine⟨y, ?_⟩;rw[ay,jb rfl eb,ih,ay,prd,d0]
theorem Jw (ks:List Kd)(hs:Jg s= .ok (ks.map Kd.t))(H:∀k∈ks,c [k.t]= .ok (.int (k.all.length:Int))/\1<=k.all.length)(hb:prd (ks.map λk=>k.all.length) < 2 ^ 60):
  zf (gU c (en0 3 [s]))= .ok (.int ((prd (ks.map λk=>k.all.length):Nat):Int)):=by
 obtain⟨y,e⟩:=ql ks 1 .un H (by rw[ck];exact hb)
 rw[ck]at e;have e0:zA 1 (cE (.int 1)) [.vl s,.un,.un]= .nx [.vl s,.vl _,.un]:=rfl;have e1:ZN (Zm (vE 0)) (zE 2) (cpB c) [.vl s,.vl (.int 1),.un]= .nx [.vl s,.vl (.int ((prd (ks.map λk=>k.all.length)):Int)),y]:=by
  show ((Jg s).s λts=>Za _ _ ts _)=_;rw[hs];exact e
 show zf (gU c [.vl s,.un,.un])=_;rw[gU,zc e0,zc e1];rfl
theorem qm {α:Type}(g:α->Nat):∀l:List α,Z5 (l.map λa=>T.int ((g a:Nat):Int))=some (l.map λa=>((g a:Nat):Int))
 | []=>rfl
 | a :: l=>by
  show (match Z5 (l.map λa=>T.int _) with | some l=>some _ | none=>none)=_
  rw[qm g l];rfl
theorem Ue {α:Type}(g:α->Nat):∀l:List α,(l.map λa=>((g a:Nat):Int)).sum=(((l.map g).sum:Nat):Int)
 | []=>rfl
 | a :: l=>by rw[ay,d3,ay,d3,Ue g l];omega
theorem Gq {α:Type}(g:α->Nat)(l:List α):Vl (.lst (l.map λa=>T.int ((g a:Nat):Int)))= .ok (.int (((l.map g).sum:Nat):Int)):=by
 unfold Vl;dsimp only;rw[qm,← Ue]
theorem jx (k:Kd)(m:Nat):((ae m k).map λk=>k.all.length)=ae m k.all.length:=by rw[aI]
theorem qo (h4:lo+q<=4)(H:∀m,m<=3->c [.lst (ae m t)]= .ok (.int ((n ^ m:Nat):Int))):
  zf (gW c (en0 2 [mt t lo hi,.int ((lo+q:Nat):Int)]))= .ok (.int ((shr n lo q:Nat):Int)):=by
 have er:jS (zb ixT (vE 0) (cE (.int 2))) (vE 1) [.vl (mt t lo hi),.vl (.int ((lo+q:Nat)))]= .ok (rng (lo) q):=by
  rw[uf rfl rfl ⟨by omega,by omega,by omega,by omega⟩]
  congr 2;omega
 have ec:zF _ _ (za 1 c (z9 (zb _ _ _) _)) 1 [0] [.vl _,.vl (.int ((lo+q:Nat)))] _= .ok ((rng (lo) q).map λx=>match x with | .int i=>T.int ((n ^ i.toNat:Nat)) | y=>y):=
  zH _ (by unfold rng;rw[aa,bw];have:bnd=16777216:=rfl;omega) λx hx=>by
   obtain⟨i,hi',rfl⟩:=au.mp hx;have hi2:=bS.mp hi';show za 1 c _ [.vl _,.vl _]=_;have e1:zb zN (jm (z9 (zb ixT (vE 1) (cE (.int 1))) (zd))) (vE 0) [.vl (.int ((lo)+(i))),.vl (mt t lo hi)]= .ok (.lst (ae (lo+i) t)):=by
    have e0:zb ixT (vE 1) (cE (.int 1)) [.vl (.int ((lo)+(i))),.vl (mt t lo hi)]= .ok t:=rfl;rw[ze,XA e0,bOk,v0,bOk,show (lo:Int)+(i)=((lo+i:Nat)) by omega,Ju (by omega),Zn]
   rw[zj,e1,bOk,H _ (by omega)]
   show _=R.ok (T.int _);rw[show ((lo:Int)+(i)).toNat=lo+i by omega]
 rw[gW,zg]
 ·rfl
 ·show ap1 _ _ [.vl _,.vl _]=_;rw[Zd,zY,er,bOk,ec,bOk,bOk];have e2:((rng (lo) q).map λx=>match x with | .int i=>T.int ((n ^ i.toNat:Nat)) | y=>y)=(bc q).map λi=>T.int ((n ^ (lo+i):Nat)):=by
   unfold rng;rw[aO];refine br λi _=> ?_;show T.int _=_;rw[show ((lo:Int)+(i)).toNat=lo+i by omega]
  rw[e2,Gq (λi=>n ^ (lo+i))];rfl
theorem VH (h:n<=mx d)(hd:d<=2)(hm:m<=3):n ^ m < 2 ^ 60:=by
 have h2:mx d<=70644:=by
  have:d=0\/d=1\/d=2:=by omega
  rcases this with rfl | rfl | rfl <;> decide
 have h3:=aq (Nat.pow_le_pow_left (aq h h2) m) (cF (by omega) hm)
 omega
theorem Uf:∀(d n:Nat),3*d<=n->d<=3->∀k:Kd,k.Ok d->S_1 n 0 [k.t]= .ok (.int (k.all.length:Int))
 | 0,_,_,_,_,h=>h.elim
 | d+1,n+3,hn,hd,k,h=>by
  have ih:=Uf d n (by omega) (by omega)
  have ih1:=Uf d (n+1) (by omega) (by omega)
  have e:S_1 (n+3) 0 [k.t]=zf (b_1 _ _ [.vl k.t]):=rfl;have e2:∀s u,S_1 (n+2) 2 [s,u]=zf _:=λs u=>rfl;rw[e,b_1];cases k with
  | whole lo hi=>
   obtain⟨h1,h2,h3⟩:=h;rw[ZH];simp only[Kd.t];rw[zB (t:= .int _)]
   ·rfl
   ·rw[wI (by rw[cs0,beq_self_eq_true]),zg]
    show R.ok _=_;congr 2;omega
  | pick cs=>
   rw[wG];simp only[Kd.t];rw[zc (zo (by rfl)),zB]
   ·rfl
   ·rw[wI (by rw[cs0,beq_self_eq_true]),zg]
    show R.ok _=_;rw[aa]
  | row ks=>
   obtain⟨h1,h2,h3⟩:=h;rw[jC];simp only[Kd.t];rw[Kd.ts_map,zc (zo (by rfl)),zc (zo (by rfl)),zB]
   ·rfl
   ·rw[wI (by rw[cs0,beq_self_eq_true]),zg]
    have hl:=j1 (d+1) (.row ks) ⟨h1,h2,h3⟩;rw[jC]at hl;exact Jw ks rfl (λk hk=>⟨ih1 k (h3 k hk),Z2 d k (h3 k hk)⟩) (XD hl hd)
  | many k lo hi=>
   obtain⟨h1,h2,h3⟩:=h;rw[Zx];simp only[Kd.t];rw[zc (zo (by rfl)),zc (zo (by rfl)),zc (zo (by rfl)),zg]
   ·rfl
   ·show za 2 _ _ [.vl _]=_;rw[zn,v0,bOk,UX UW,bOk,e2,show (hi:Int)+1=((lo+(hi+1 - lo):Nat)) by omega]
    refine qo (by omega) λm hm=> ?_
    have hp:prd ((ae m k).map λk=>k.all.length)=k.all.length ^ m:=by rw[jx,ZQ]
    rw[← hp];refine Jw _ (by rw[aI];rfl) (λk' hk' => ?_) (by rw[hp];exact VH (j1 d k h3) (by omega) hm)
    rw[aY hk'];exact⟨ih k h3,Z2 d k h3⟩
theorem Zg {d:Nat}(hd:d<=3){k:Kd}(h:k.Ok d):f_1 20 [k.t]= .ok (.int (k.all.length:Int)):=Uf d 20 (by omega) hd k h
theorem wL {d:Nat}(hd:d<=2){k:Kd}(h:k.Ok d){lo hi q:Nat}(h4:lo+q<=4):Xn 20 [mt k.t lo hi,.int ((lo+q:Nat):Int)]= .ok (.int ((shr k.all.length lo q:Nat):Int)):=by
 have e:Xn 20 [mt k.t lo hi,.int ((lo+q:Nat))]=zf (gW (S_1 19 1) (en0 2 [mt k.t lo hi,.int ((lo+q):Int)])):=rfl;rw[e];refine qo h4 λm hm=> ?_;have hp:prd ((ae m k).map λk=>k.all.length)=k.all.length ^ m:=by rw[jx,ZQ]
 rw[← hp];refine Jw _ (by rw[aI];rfl) (λk' hk' => ?_) (by rw[hp];exact VH (j1 d k h) hd hm)
 rw[aY hk'];exact⟨Uf d 18 (by omega) (by omega) k h,Z2 d k h⟩
abbrev paB (cc cw:List T->R T):En->RS:=zh (zA 5 (za 1 cc (z9 (vE 4) (zd))))
  (zh (QJ 2 (za 2 cw (z9 (vE 4) (z9 (zb Jc (vE 3) (vE 5)) (zd)))))
  (zA 3 (zb wf (vE 3) (vE 5))))
structure AtOk (cc cw:List T->R T) (k:Kd):Prop where
 cnt:cc [k.t]= .ok (.int (k.all.length:Int))
 at_:∀(i:Nat) x,k.all[i]? =some x->cw [k.t,.int (i:Int)]= .ok x
 pos:1<=k.all.length
 le:k.all.length < 1000000
theorem v5' :vE 5 (a :: b :: c :: d :: e :: .vl t :: ρ)= .ok t:=rfl
theorem VI {n c:Nat}(h:1<=c):Jc (.int (n:Int)) (.int (c:Int))= .ok (.int ((n % c:Nat):Int)):=by
 unfold Jc;dsimp only;rw[if_pos (by omega)];rfl
theorem XJ {n c:Nat}(h:1<=c)(h' :c < 1000000):wf (.int (n:Int)) (.int (c:Int))= .ok (.int ((n / c:Nat):Int)):=by
 unfold wf;dsimp only;rw[if_pos (by omega)];rfl
theorem Gr (hi:ρ[i]? =some (.ow ts))(hl:ts.length < bnd)(h:f ρ= .ok t):QJ i f ρ= .nx (ρ.set i (.ow (ts++[t]))):=by
 unfold QJ;rw[hi];dsimp only;rw[h,ZO,if_pos hl]
theorem qp {cc cw:List T->R T}{S N:Sl}:∀(rs:List Kd) (acc:List T) (n:Nat) (x y:Sl),(∀k∈rs,AtOk cc cw k)->n < prd (rs.map λk=>k.all.length)->acc.length+rs.length<=1000->
  ∃xs r x' y',(zJ [[]] (rs.reverse.map Kd.all))[n]? =some xs/\Za (zE 4) (paB cc cw) (rs.map Kd.t) [S,N,.ow acc,.vl (.int (n:Int)),x,y]= .nx [S,N,.ow (acc++xs.reverse),r,x',y']
 | [],acc,n,x,y,_,hn,_=>⟨[],.vl (.int (n)),x,y,by
   have:=by simp[prd]at hn;exact hn
   subst this;rfl,by simp[Za]⟩
 | k :: rs,acc,n,x,y,H,hn,hl=>by
  obtain⟨hc,hw,h1,hle⟩:=H k ac;rw[aw]at hl;have hb:bnd=16777216:=rfl;have hmod:n % k.all.length < k.all.length:=eJ _ h1;obtain⟨v,hv⟩:=jc hmod;have hdiv:=hZ hn;obtain⟨xs,r,x',y',e1,e2⟩:=qp rs (acc++[v]) _ _ _ (λk' hk' =>H k' (a8 _ hk')) hdiv (by rw[az,aG];omega)
  have b1:zA 5 (za 1 cc (z9 (vE 4) (zd))) [S,N,.ow acc,.vl (.int (n)),.vl k.t,y]= .nx [S,N,.ow acc,.vl (.int (n)),.vl k.t,.vl (.int (k.all.length))]:=by
   rw[zy]
   ·rfl
   ·rw[zj,v4,bOk,hc]
  have b2:QJ 2 (za 2 cw (z9 (vE 4) (z9 (zb Jc (vE 3) (vE 5)) (zd)))) [S,N,.ow acc,.vl (.int (n)),.vl k.t,.vl (.int (k.all.length))]= .nx [S,N,.ow (acc++[v]),.vl (.int (n)),.vl k.t,.vl (.int (k.all.length))]:=by
   rw[Gr rfl (by omega)]
   ·rfl
   ·rw[zn,v4,bOk,ze,v3,bOk,v5',bOk,VI h1,bOk,hw _ v hv]
  have b3:zA 3 (zb wf (vE 3) (vE 5)) [S,N,.ow (acc++[v]),.vl (.int (n)),.vl k.t,.vl (.int (k.all.length))]= .nx [S,N,.ow (acc++[v]),.vl (.int ((n / k.all.length:Nat))),.vl k.t,.vl (.int (k.all.length))]:=by
   rw[zy]
   ·rfl
   ·rw[ze,v3,bOk,v5',bOk,XJ h1 hle]
  have eb:paB cc cw [S,N,.ow acc,.vl (.int (n)),.vl k.t,y]= .nx [S,N,.ow (acc++[v]),.vl (.int ((n / k.all.length:Nat))),.vl k.t,.vl (.int (k.all.length))]:=by
   rw[paB,zc b1,zc b2,b3]
  refine⟨xs++[v],r,x',y', ?_, ?_⟩
  ·have:=Uc e1 hv;rw[c6,fX]at this;rw[bU,bC];exact this
  ·rw[ay,jb rfl eb,e2];simp
theorem qr:∀ns:List Nat,prd ns.reverse=prd ns
 | []=>rfl
 | n :: ns=>by rw[bU,wK,qr ns,prd,c6]
theorem Jx {cc cw:List T->R T}{s:T}(ks:List Kd)(hs:Zu s= .ok (ks.map Kd.t))(hl:ks.length<=3)(H:∀k∈ks,AtOk cc cw k){n:Nat}{xs:List T}(hx:(zJ [[]] (ks.map Kd.all))[n]? =some xs):
  zf (gZ cc cw (en0 6 [s,.int (n:Int)]))= .ok (.tup xs):=by
 have hn:=(ak.mp hx).1;rw[ZI,aO]at hn;have hr:(ks.reverse.map λk=>k.all.length)=(ks.map λk=>k.all.length).reverse:=by rw[bY]
 obtain⟨ys,r,x',y',e1,e2⟩:=qp _ [] n .un .un (λk hk=>H k (dP.mp hk)) (by rw[hr,qr];exact hn) (by rw[bG,bN];omega)
 rw[c8,hx]at e1;cases e1;have e0:y9 2 (zd) [.vl s,.vl (.int (n)),.un,.un,.un,.un]= .nx [.vl s,.vl _,.ow [],.un,.un,.un]:=rfl;have e3:zA 3 (vE 1) [.vl s,.vl (.int (n)),.ow [],.un,.un,.un]= .nx [.vl s,.vl _,.ow [],.vl _,.un,.un]:=rfl;have e4:ZN (Vp (vE 0)) (zE 4) (paB cc cw) [.vl s,.vl (.int (n)),.ow [],.vl (.int (n)),.un,.un]= .nx [.vl s,.vl (.int (n)),.ow xs.reverse,r,x',y']:=by
  show (((Zu s).bind λxs=>R.ok _).s λts=>Za _ _ ts _)=_;rw[hs,bOk,← bY];exact e2
 have hlen:xs.reverse.length<=bnd:=by
  have:∀(ls made:List _) (m:Nat),(∀a∈made,a.length<=m)->∀a∈zJ made ls,a.length<=m+ls.length:=by
   intro ls
   induction ls with
   | nil=>intro made m h a ha;exact h a ha
   | cons l ls ih=>
    intro made m h a ha;have:=ih (made.flatMap λa=>l.map λx=>a++[x]) (m+1) (λb hb=>by
     obtain⟨c,hc,hb⟩:=cq.mp hb;obtain⟨z,_,rfl⟩:=au.mp hb;have:=h c hc;rw[az,aG];omega) a ha
    rw[aw];omega
  have h1:=this _ _ 0 (λa ha=>by rw[aC.mp ha];exact am _) xs (aN hx)
  rw[aa]at h1;rw[bG];have hb:bnd=16777216:=rfl;omega
 show zf (gZ cc cw [.vl s,.vl _,.un,.un,.un,.un])=_;rw[gZ,zc e0,zc e3,zc e4,zg]
 ·rfl
 ·show vc (.lst _)=_;unfold vc;dsimp only;rw[if_pos hlen,c8]
abbrev mtT:En->R Bool:=zk leC (za 2 (Xn 20) (z9 (vE 0) (z9 (zb zq (vE 2) (cE (.int 1))) (zd)))) (vB 1)
abbrev mtB:En->RS:=zA 2 (zb zq (vE 2) (cE (.int 1)))
theorem w1n:vB 1 (a :: .vl t :: ρ)= .ok t:=rfl
theorem qt {d:Nat}(hd:d<=2){k:Kd}(h:k.Ok d){lo hi n:Nat}(h1:lo<=hi)(h3:hi<=3)(hn:n < shr k.all.length lo (hi+1 - lo)):∀(f q:Nat),q<=hi - lo->hi - lo - q < f->shr k.all.length lo q<=n->
  ∃q',q' <=hi - lo/\shr k.all.length lo q' <=n/\n < shr k.all.length lo (q' +1)/\Zh mtT mtB f [.vl (mt k.t lo hi),.vl (.int (n:Int)),.vl (.int ((lo+q:Nat):Int))]= .nx [.vl (mt k.t lo hi),.vl (.int (n:Int)),.vl (.int ((lo+q' :Nat):Int))]
 | 0,q,_,hf,_=>by omega
 | f+1,q,hq,hf,hs=>by
  have et:mtT [.vl (mt k.t lo hi),.vl (.int (n)),.vl (.int ((lo+q:Nat)))]= .ok (decide (shr k.all.length lo (q+1)<=n)):=by
   rw[mtT,zx,zn,v0,bOk,UX v2,bOk,show ((lo+q:Nat):Int)+1=((lo+(q+1):Nat)) by omega,wL hd h (by omega),bOk,w1n,bOk,u9,jN]
  have eu:Zh mtT mtB (f+1) [.vl (mt k.t lo hi),.vl (.int (n)),.vl (.int ((lo+q:Nat)))]=(mtT _).s λk' =>if k' =true then match mtB [.vl _,.vl _,.vl (.int _)] with
    | .nx ρ2=>Zh mtT mtB f ρ2
    | .ct ρ2=>Zh mtT mtB f ρ2
    | .bk ρ2=> .nx ρ2
    | r=>r
   else .nx _:=rfl
  rw[eu,et,ZO]
  by_cases hc:shr k.all.length lo (q+1)<=n
  ·rw[if_pos (decide_eq_true hc)];have hq2:q+1<=hi - lo:=by
    rcases Nat.lt_or_ge q _ with z | z
    ·exact z
    ·have:q=hi - lo:=by omega
     rw[this,show hi - lo+1=hi+1 - lo by omega]at hc
     omega
   have eb:mtB [.vl (mt k.t lo hi),.vl (.int (n)),.vl (.int ((lo+q:Nat)))]= .nx [.vl (mt k.t lo hi),.vl (.int (n)),.vl (.int ((lo+(q+1):Nat)))]:=by
    rw[mtB,zy]
    ·rfl
    ·rw[UX v2,show ((lo+q:Nat):Int)+1=((lo+(q+1):Nat)) by omega]
   exact qt hd h h1 h3 hn f _ hq2 (by omega) hc
  ·rw[if_neg (by simpa using hc)]
   exact⟨q,hq,hs,by omega,rfl⟩
theorem Gs {i j:Nat}(h:j<=i):Wf (.int (i:Int)) (.int (j:Int))= .ok (.int ((i - j:Nat):Int)):=by
 rw[j0];congr 2;omega
theorem UZ {d:Nat}(hd:d<=2){k:Kd}(h:k.Ok d){cp:List T->R T}{lo hi n:Nat}(h1:lo<=hi)(h3:hi<=3)(hn:n < shr k.all.length lo (hi+1 - lo))
  (H:∀(m:Nat),m<=3->∀(j:Nat) (xs:List T),(zJ [[]] (ae m k.all))[j]? =some xs->cp [.lst (ae m k.t),.int (j:Int)]= .ok (.tup xs)):
  ∃x,(Kd.many k lo hi).all[n]? =some x/\zf (gY (Xn 20) cp (en0 3 [mt k.t lo hi,.int (n:Int)]))= .ok x:=by
 obtain⟨q,hq,hs,hs',e⟩:=qt hd h h1 h3 hn 8 0 (by omega) (by omega) (by unfold shr;simp)
 rw[Ud]at hs';have hj:n - shr k.all.length lo q < (zJ [[]] (ae (lo+q) k.all)).length:=by
  rw[ZI,aI,ZQ];omega
 obtain⟨xs,hx⟩:=jc hj;have ha:=qk (hi:=hi) (by omega) hx
 rw[show shr _ lo q+(n - shr _ lo q)=n by omega]at ha
 refine⟨_,ha, ?_⟩;have e0:zA 2 (zb ixT (vE 0) (cE (.int 2))) [.vl (mt k.t lo hi),.vl (.int (n:Int)),.un]= .nx [.vl _,.vl _,.vl (.int ((lo+0:Nat)))]:=rfl;show zf (gY _ cp [.vl _,.vl _,.un])=_;rw[gY,zc e0,zc e,zg]
 ·rfl
 ·show za 2 cp _ [.vl _,.vl _,.vl _]=_;have em:zb zN (jm (z9 (zb ixT (vE 0) (cE (.int 1))) (zd))) (vE 2) [.vl (mt k.t lo hi),.vl (.int (n)),.vl (.int ((lo+q:Nat)))]= .ok (.lst (ae (lo+q) k.t)):=by
   rw[ze,XA ja,bOk,v2,bOk,Ju (by omega),Zn]
  rw[zn,em,bOk,ze,v1,bOk,zn,v0,bOk,v2,bOk,wL hd h (by omega),bOk,Gs hs,bOk,H _ (by omega) _ xs hx]
theorem qu {d:Nat}(hd:d<=2){k:Kd}(h:k.Ok d):k.all.length < 1000000:=by
 have h1:=j1 d k h;have h2:mx d<=70644:=by
  have:d=0\/d=1\/d=2:=by omega
  rcases this with rfl | rfl | rfl <;> decide
 omega
theorem jh:∀(d n:Nat),3*d<=n->d<=3->∀k:Kd,k.Ok d->∀(i:Nat) (x:T),k.all[i]? =some x->S_t n 0 [k.t,.int (i:Int)]= .ok x
 | 0,_,_,_,_,h=>h.elim
 | d+1,n+3,hn,hd,k,h=>by
  intro i x hx;have ih:=jh d n (by omega) (by omega)
  have ih1:=jh d (n+1) (by omega) (by omega)
  have e:S_t (n+3) 0 [k.t,.int (i:Int)]=zf (b_t f_e _ _ (en2 k.t (.int (i:Int)))):=rfl;have hi' :=(ak.mp hx).1;rw[e,b_t];cases k with
  | whole lo hi=>
   rw[Kd.all,ar]at hx;rw[ZH]at hi';rw[dj hi']at hx;cases hx;rw[zB]
   ·rfl
   ·rfl
  | pick cs=>
   have hw:=j5 cs h.2.1;simp only[Kd.t]at hw ⊢;rw[zc (wZ (by decide)),zB]
   ·rfl
   ·rw[VE,zg];show zb ixT _ _ (en2 _ _)=_;rw[ze,zj,v0,bOk,hw,v1];exact Gp hx
  | row ks=>
   obtain⟨h1,h2,h3⟩:=h;rw[Kd.all,Kd.alls_map,ar]at hx;cases hr:(zJ _ _)[i]? with
   | none=>rw[hr]at hx;cases hx
   | some xs=>
    rw[hr]at hx;cases hx;simp only[Kd.t];rw[Kd.ts_map,zc (wZ (by decide)),zc (wZ (by decide)),zB]
    ·rfl
    ·rw[VE,zg];refine Jx ks rfl h2 (λk hk=>⟨Zg (by omega) (h3 k hk),ih1 k (h3 k hk),Z2 d k (h3 k hk),qu (by omega) (h3 k hk)⟩) hr
  | many k lo hi=>
   obtain⟨h1,h2,h3⟩:=h;rw[Zx]at hi';obtain⟨x',hx',hv⟩:=UZ (cp:=S_t (n+1) 2) (by omega) h3 h1 h2 hi' (λm hm j xs hr=>by
    refine Jx _ (by rw[aI];rfl) (by rw[aF];exact hm) (λk' hk' => ?_) (by rw[aI];exact hr)
    rw[aY hk'];exact⟨Zg (by omega) h3,ih k h3,Z2 d k h3,qu (by omega) h3⟩)
   rw[hx]at hx';cases hx';simp only[Kd.t];rw[zc (wZ (by decide)),zc (wZ (by decide)),zc (wZ (by decide)),zg]
   ·rfl
   ·show za 2 _ _ (en2 _ _)=_;rw[zn,v0,bOk,v1,bOk];exact hv
theorem Gu {k:Kd}(h:k.Ok 3){i:Nat}{x:T}(hx:k.all[i]? =some x):f_t 20 [k.t,.int (i:Int)]= .ok x:=jh 3 20 (by omega) (by omega) k h i x hx
theorem JZ:∀(ls made:List (List T)) (m:Nat),(∀a∈made,a.length=m)->∀a∈zJ made ls,a.length=m+ls.length
 | [],made,m,h,a,ha=>h a ha
 | l :: ls,made,m,h,a,ha=>by
  have:=JZ ls (made.flatMap λa=>l.map λx=>a++[x]) _ (λb hb=>by
   obtain⟨c,hc,hb⟩:=cq.mp hb;obtain⟨z,_,rfl⟩:=au.mp hb;rw[az,aG,h c hc]) a ha
  rw[aw];omega
theorem WF {ls:List (List T)}{n:Nat}{xs:List T}(h:(zJ [[]] ls)[n]? =some xs):xs.length=ls.length:=by
 have:=JZ ls _ 0 (λa ha=>by rw[aC.mp ha];rfl) xs (aN h)
 omega
theorem y0 {ls:List (List T)}(hl:1<=l.length)(h:(zJ [[]] (ls++[l]))[n]? =some xs):∃ys y,(zJ [[]] ls)[n / l.length]? =some ys/\l[n % l.length]? =some y/\xs=ys++[y]:=by
 have hn:=(ak.mp h).1;rw[ZI,bC,List.map_singleton,wK,← ZI]at hn;obtain⟨ys,hy⟩:=jc (hZ (by rw[c6];exact hn))
 obtain⟨y,hy'⟩:=jc (eJ n hl);refine⟨ys,y,hy,hy', ?_⟩;have:=Uc hy hy';rw[c6,fX,h]at this;exact aR this
theorem ui {g:T->En->R En}(hb:∀ρ ρ',fb ρ ≠ .bk ρ'):∀(as bs:List T) (ρ ρ' :En),Za g fb as ρ= .nx ρ' ->Za g fb (as++bs) ρ=Za g fb bs ρ'
 | [],bs,ρ,ρ',h=>by cases h;rfl
 | a :: as,bs,ρ,ρ',h=>by
  have e:∀cs,Za g fb (a :: cs) ρ=match g a ρ with
   | .ok ρ1=>match fb ρ1 with
    | .nx ρ2=>Za g fb cs ρ2
    | .ct ρ2=>Za g fb cs ρ2
    | .bk ρ2=> .nx ρ2
    | r=>r
   | .ex c=> .bad
   | .bad=> .bad:=λcs=>rfl
  rw[fD,e];rw[e]at h;cases hg:g a ρ with
  | bad=>rw[hg]at h;cases h
  | ex c=>rw[hg]at h;cases h
  | ok ρ1=>
   rw[hg]at h;dsimp only at h ⊢;cases hf:fb ρ1 with
   | nx ρ2=>rw[hf]at h;exact ui hb as bs ρ2 ρ' h
   | ct ρ2=>rw[hf]at h;exact ui hb as bs ρ2 ρ' h
   | bk ρ2=>exact absurd hf (hb _ _)
   | rt t=>rw[hf]at h;cases h
   | ex c=>rw[hf]at h;cases h
   | bad=>rw[hf]at h;cases h
   | rf t=>rw[hf]at h;cases h
theorem XL (ρ ρ' :En):zA i f ρ ≠ .bk ρ' :=by
 rw[jL];cases f ρ <;> exact λh=>nomatch h
abbrev ppB (cc cl:List T->R T):En->RS:=zA 2 (zb zq (zb zN (vE 2) (za 1 cc (z9 (vE 3) (zd)))) (za 2 cl (z9 (vE 3) (z9 (vE 4) (zd)))))
structure PlOk (cc cl:List T->R T) (k:Kd):Prop where
 cnt:cc [k.t]= .ok (.int (k.all.length:Int))
 pl:∀(i:Nat) x,k.all[i]? =some x->cl [k.t,x]= .ok (.int (i:Int))
 pos:1<=k.all.length
abbrev zpT (q:Kd×T):T:=T.tup [q.1.t,q.2]
theorem qv {cc cl:List T->R T}{S P:Sl}:∀(rs:List Kd) (n:Nat) (xs:List T) (a b:Sl),(∀k∈rs,PlOk cc cl k)->n < 2 ^ 60->(zJ [[]] (rs.reverse.map Kd.all))[n]? =some xs->
  ∃x y,Za (zM 3 4) (ppB cc cl) ((rs.reverse.zip xs).map zpT) [S,P,.vl (.int 0),a,b]= .nx [S,P,.vl (.int (n:Int)),x,y]
 | [],n,xs,a,b,_,_,h=>by
  have hn:=(ak.mp h).1;have:n=0:=by
   have e:(zJ [[]] (([]).reverse.map Kd.all)).length=1:=rfl;omega
  subst this;exact⟨a,b,by simp[Za]⟩
 | k :: rs,n,xs,a,b,H,hb,h=>by
  obtain⟨hc,hp,h1⟩:=H k ac;rw[bU,bC]at h;obtain⟨ys,y,hy,hy',rfl⟩:=y0 h1 h;have hdiv:n / k.all.length<=n:=fY ..;obtain⟨x',y',e⟩:=qv rs _ ys a b (λk' hk' =>H k' (a8 _ hk')) (by omega) hy
  have hl:rs.reverse.length=ys.length:=by rw[WF hy,aa]
  refine⟨.vl k.t,.vl y, ?_⟩;rw[bU,List.zip_append hl,bC,ui XL _ _ _ _ e];have eb:ppB cc cl [S,P,.vl (.int ((n / k.all.length:Nat))),.vl k.t,.vl y]= .nx [S,P,.vl (.int (n)),.vl k.t,.vl y]:=by
   rw[ppB,zy]
   ·rfl
   ·rw[ze,ze,v2,bOk,zj,v3,bOk,hc,bOk,U4 (by omega),bOk,zn,v3,bOk,v4,bOk,hp _ y hy',bOk,zR]
    congr 2
    have:=fX n k.all.length;rw[c6]at this;omega
  show Za _ _ [T.tup _] _=_;rw[jb rfl eb];rfl
theorem WG {cc cl:List T->R T}{s:T}(ks:List Kd)(hs:Zu s= .ok (ks.map Kd.t))(H:∀k∈ks,PlOk cc cl k){n:Nat}{xs:List T}(hn:n < 2 ^ 60)(hx:(zJ [[]] (ks.map Kd.all))[n]? =some xs):
  zf (gX cc cl (en0 5 [s,.tup xs]))= .ok (.int (n:Int)):=by
 obtain⟨x,y,e⟩:=qv _ n xs .un .un (λk hk=>H k (dP.mp hk)) hn (by rw[c8];exact hx)
 rw[c8]at e;have e0:zA 2 (cE (.int 0)) [.vl s,.vl (.tup xs),.un,.un,.un]= .nx [.vl s,.vl _,.vl _,.un,.un]:=rfl;have e1:ZN (uP (vE 0) (vE 1)) (zM 3 4) (ppB cc cl) [.vl s,.vl (.tup xs),.vl (.int 0),.un,.un]= .nx [.vl s,.vl (.tup xs),.vl (.int (n)),x,y]:=by
  show (((Zu s).bind λxs' =>R.ok _).s λts=>Za _ _ ts _)=_;rw[hs,bOk,vH];exact e
 show zf (gX cc cl [.vl s,.vl _,.un,.un,.un])=_;rw[gX,zc e0,zc e1];rfl
theorem Ug (c lo:Nat):∀(m n:Nat),n < shr c lo m->∃q,q < m/\shr c lo q<=n/\n < shr c lo (q+1)
 | 0,n,h=>by simp[shr]at h
 | m+1,n,h=>by
  by_cases hc:shr c lo m<=n
  ·exact⟨m,by omega,hc,h⟩
  ·obtain⟨q,h1,h2,h3⟩:=Ug c lo m n (by omega)
   exact⟨q,by omega,h2,h3⟩
theorem qw (x:Str):∀cs:List (Str×Int),eqs (.str x) (cs.map λc=>T.str c.1)=some (cs.map λc=>c.1 == x)
 | []=>rfl
 | c :: cs=>by
  show (match eqF 30 (.str c.1) (.str x) with
   | none=>none
   | some b=>match eqs _ (cs.map λ(c:Str×Int)=>T.str c.1) with
    | none=>none
    | some bs=>some _)=_
  rw[qw x cs];rfl
theorem WH:∀(bs:List Bool) (i:Nat),bs[i]? =some true->(∀j,j < i->bs[j]? =some false)->bs.idxOf true=i
 | [],i,h,_=>by simp at h
 | b :: bs,0,h,_=>by
  have:=by simpa using h
  subst this;rfl
 | b :: bs,i+1,h,hj=>by
  have h0:=by simpa using hj 0 (by omega)
  subst h0;have:=WH bs i (by simpa using h) λj h' =>by simpa using hj (j+1) (by omega)
  rw[List.idxOf_cons,this];rfl
theorem Uh {cs:List (Str×Int)}(hd:Dst (cs.map (·.1))){i:Nat}{c:Str×Int}(h:cs[i]? =some c):xY (.str c.1) (cs.map λc=>T.str c.1)= .ok (.int (i:Int)):=by
 unfold xY;rw[qw];dsimp only;have hi:=(ak.mp h).1;have h1:(cs.map λd=>d.1 == c.1)[i]? =some true:=by rw[ar,h];simp
 rw[if_pos (aN h1),WH _ i h1 λj hj=> ?_];rw[ar];cases hc:cs[j]? with
 | none=>rw[List.getElem?_eq_none_iff]at hc;omega
 | some d=>
  have hw:=hd i c.1 (by rw[ar,h];rfl)
  have:d.1 ≠ c.1:=λe=>hw (by
   rw[← e];refine aN (i:=j) ?_;rw[eY hj,ar,hc];rfl)
  show some (d.1 == c.1)=some _;rw[beq_eq_false_iff_ne.mpr this]
abbrev en3 (a b:T)(c:Sl):En:=[.vl a,.vl b,c]
theorem kx (h:(x == w)=false):ifS (zk eqC (zb ixT (vE 0) (cE (.int 0))) (cE (.str w))) f nxS (en3 (.tup (.str x :: r)) b c)= .nx (en3 (.tup (.str x :: r)) b c):=
 zo (by rw[cs0,h])
theorem z25:ifS (zk eqC (zb ixT (vE 0) (cE (.int 0))) (cE (.str x))) f nxS (en3 (.tup (.str x :: r)) b c)=f (en3 (.tup (.str x :: r)) b c):=
 wI (by rw[cs0,beq_self_eq_true])
theorem Gv {d:Nat}(hd:d<=3){k:Kd}(h:k.Ok d):k.all.length < 2 ^ 60:=XD (j1 d k h) hd
theorem Ui:∀(d n:Nat),2*d<=n->d<=3->∀k:Kd,k.Ok d->∀(i:Nat) (x:T),k.all[i]? =some x->S_g n 0 [k.t,x]= .ok (.int (i:Int))
 | 0,_,_,_,_,h=>h.elim
 | d+1,n+2,hn,hd,k,h=>by
  intro i x hx;have ih:=Ui d n (by omega) (by omega)
  have e:S_g (n+2) 0 [k.t,x]=zf (b_g f_e _ _ (en3 k.t x .un)):=rfl;have hi' :=(ak.mp hx).1;have h60:=Gv hd h;rw[e,b_g];cases k with
  | whole lo hi=>
   rw[Kd.all,ar]at hx;rw[ZH]at hi';rw[dj hi']at hx;cases hx;simp only[Kd.t];rw[zB]
   ·rfl
   ·rw[z25,zg];show R.ok (T.int _)=_;congr 2;omega
  | pick cs=>
   have hw:=j5 cs h.2.1;rw[Kd.all,ar]at hx;cases hc:cs[i]? with
   | none=>rw[hc]at hx;cases hx
   | some c=>
    rw[hc]at hx;cases hx;simp only[Kd.t]at hw ⊢;rw[zc (kx (by decide)),zB]
    ·rfl
    ·rw[z25,zg];show ((za 1 f_e _ (en3 _ _ _)).bind _)=_;rw[zj,v0,bOk,hw,bOk];exact Uh h.2.2.2 hc
  | row ks=>
   obtain⟨h1,h2,h3⟩:=h;rw[Kd.all,Kd.alls_map,ar]at hx;cases hr:(zJ [[]] (ks.map Kd.all))[i]? with
   | none=>rw[hr]at hx;cases hx
   | some xs=>
    rw[hr]at hx;cases hx;simp only[Kd.t];rw[Kd.ts_map,zc (kx (by decide)),zc (kx (by decide)),zB]
    ·rfl
    ·rw[z25,zg];exact WG ks rfl (λk hk=>⟨Zg (by omega) (h3 k hk),ih k (h3 k hk),Z2 d k (h3 k hk)⟩) (by omega) hr
  | many k lo hi=>
   obtain⟨h1,h2,h3⟩:=h;rw[Zx,VG]at hi';obtain⟨q,hq,hs,hs'⟩:=Ug _ _ _ _ hi';rw[Ud]at hs';have hj:i - shr k.all.length lo q < (zJ [[]] (ae (lo+q) k.all)).length:=by
    rw[ZI,aI,ZQ];omega
   obtain⟨xs,hr⟩:=jc hj;have ha:=qk (k:=k) (lo:=lo) (hi:=hi) hq hr;rw[show shr k.all.length lo q+(i - shr k.all.length lo q)=i by omega,hx]at ha
   cases ha;have hl:=WF hr;rw[aF]at hl;simp only[Kd.t];have e3:zA 2 (ap1 Zo (vB 1)) (en3 (mt k.t lo hi) (.tup xs) .un)= .nx (en3 (mt k.t lo hi) (.tup xs) (.vl (.int ((lo+q:Nat))))):=by
    rw[← hl];rfl
   rw[zc (kx (by decide)),zc (kx (by decide)),zc (kx (by decide)),zc e3,zg]
   ·rfl
   ·show zb _ _ _ (en3 _ _ (.vl _))=_;have em:zb zN (jm (z9 (zb ixT (vE 0) (cE (.int 1))) (zd))) (vE 2) (en3 (mt k.t lo hi) (.tup xs) (.vl (.int ((lo+q:Nat)))))= .ok (.lst (ae (lo+q) k.t)):=by
     rw[ze,XA ja,bOk,v2,bOk,Ju (by omega),Zn]
    have ep:S_g (n+1) 1 [.lst (ae (lo+q) k.t),.tup xs]= .ok (.int ((i - shr k.all.length lo q:Nat))):=by
     refine WG _ (by rw[aI];rfl) (λk' hk' => ?_) (by
      rw[Zx,VG]at h60;omega) (by rw[aI];exact hr)
     rw[aY hk'];exact⟨Zg (by omega) h3,ih k h3,Z2 d k h3⟩
    rw[ze,zn,v0,bOk,v2,bOk,wL (by omega) h3 (by omega),bOk,zn,em,bOk,v1,bOk,ep,bOk,zR]
    have hz:((shr k.all.length lo q):Int)+((i - shr k.all.length lo q:Nat))=(i):=by omega
    rw[hz]
theorem z26 {k:Kd}(h:k.Ok 3){i:Nat}{x:T}(hx:k.all[i]? =some x):f_g 20 [k.t,x]= .ok (.int (i:Int)):=Ui 3 20 (by omega) (by omega) k h i x hx
noncomputable def Pl:Nat->T->Prop
 | 0,_=>False
 | n+1,.tup xs=>∀x∈xs,Pl n x
 | n+1,.lst xs=>∀x∈xs,Pl n x
 | _+1,.fz _=>False
 | _+1,_=>True
theorem Zf {f:T->T->Option Bool}:∀(xs:List T),(∀x∈xs,f x x=some true)->eqL f xs xs=some true
 | [],_=>rfl
 | x :: xs,h=>by
  unfold eqL;rw[h x ac,Zf xs λz hz=>h z (a8 _ hz)];rfl
theorem Z0:∀(n:Nat) (y:T),Pl n y->eqF n y y=some true
 | 0,_,h=>h.elim
 | n+1,y,h=>by
  cases y with
  | tup xs=>exact Zf xs λz hz=>Z0 n z ((h) z hz)
  | lst xs=>exact Zf xs λz hz=>Z0 n z ((h) z hz)
  | fz xs=>exact h.elim
  | non=>rfl
  | bl b=>show some _=_;simp
  | int i=>show some _=_;simp
  | str i=>show some _=_;simp
theorem Pl.up:∀(n:Nat) (y:T),Pl n y->Pl (n+1) y
 | 0,_,h=>h.elim
 | n+1,y,h=>by
  cases y with
  | tup xs=>exact λz hz=>Pl.up n z ((h) z hz)
  | lst xs=>exact λz hz=>Pl.up n z ((h) z hz)
  | fz xs=>exact h.elim
  | _=>exact trivial
theorem Pl.le (hm:n<=m)(h:Pl n y):Pl m y:=by
 obtain⟨j,rfl⟩:∃j,m=n+j:=⟨m - n,by omega⟩
 clear hm
 induction j with
 | zero=>exact h
 | succ j ih=>exact Pl.up _ _ ih
theorem jE (h:Pl 30 t):neC t t= .ok false:=by unfold neC;rw[Z0 30 t h];rfl
theorem Z9 (h:f ρ= .ok t):ZW f ρ= .nx ρ:=by unfold ZW;rw[h,ZO]
abbrev woT:En->R Bool:=orT (uH (WX (za 1 f_r (z9 (vE 1) (zd))))) (uH (chT leC ltC (cE (.int 0)) (vB 1) (za 1 (f_1 20) (z9 (vE 0) (zd)))))
theorem XM {k:Kd}(hk:k.Ok 3)(i:Int):woT (en2 k.t (.int i))= .ok (!(decide (0<=i) && decide (i < (k.all.length:Int)))):=by
 have e:chT leC ltC (cE (.int 0)) (vB 1) (za 1 (f_1 20) (z9 (vE 0) (zd))) (en2 k.t (.int i))= .ok (decide (0<=i) && decide (i < (k.all.length))):=by
  have e0:chT leC ltC (cE (.int 0)) (vB 1) (za 1 (f_1 20) (z9 (vE 0) (zd))) (en2 k.t (.int i))=(if decide _=true then (za 1 _ _ _).bind λz=>ltC _ z else .ok _):=rfl
  rw[e0,zj,v0,bOk,Zg (by omega) hk]
  cases decide (0<=i) <;> rfl
 rw[woT,YO,JU,Jo,zj,v1,bOk,wA];show (R.ok (!true)).bind _=_;rw[bOk,if_neg (by simp),JU,e,bOk]
theorem vK (h:g ρ= .ok true):ifE g f f' ρ=f ρ:=by unfold ifE;rw[h];rfl
theorem vL (h:g ρ= .ok false):ifE g f f' ρ=f' ρ:=by unfold ifE;rw[h];rfl
theorem qx:neC (.int i) (.int i)= .ok false:=by show R.ok (!(i == i))=_;simp
theorem uj {ws:List Str}(h:Dst ws){i j:Nat}{w:Str}(hi:ws[i]? =some w)(hj:ws[j]? =some w):i=j:=by
 rcases Nat.lt_trichotomy i j with z | z | z
 ·exact absurd (aN (by rw[ip,if_pos z];exact hi)) (h j w hj)
 ·exact z
 ·exact absurd (aN (by rw[ip,if_pos z];exact hj)) (h i w hi)
theorem vM {ws:List Str}(h:Dst ws):(ws.map T.str).Pairwise (λa b=>a ≠ b):=by
 rw[dI,bX];intro i j hi hj hij e;have e:=by injection e
 have:=uj h (by rw[a9 hi,e]) (a9 hj)
 omega
theorem qy (cs:List (Str×Int)):(Kd.pick cs).all=(cs.map (·.1)).map T.str:=by rw[aO];rfl
theorem Uj:∀(ls made:List (List T)) (m:Nat),(∀l∈ls,l.Pairwise (λa b=>a ≠ b))->made.Pairwise (λa b=>a ≠ b)->(∀a∈made,a.length=m)->(zJ made ls).Pairwise (λa b=>a ≠ b)
 | [],made,m,_,h,_=>by exact h
 | l :: ls,made,m,hl,h,hm=>by
  refine Uj ls _ (m+1) (λq hq=>hl q (a8 _ hq)) ?_ ?_
  ·rw[g7];refine⟨λa ha=> ?_,List.Pairwise.imp_of_mem (λ{a b} ha hb hab=> ?_) h⟩
   ·rw[dI];exact dJ (λhxy e=>hxy (by have:=List.append_cancel_left e;injection this)) (hl l ac)
   ·intro x hx y hy e;obtain⟨u,_,rfl⟩:=au.mp hx;obtain⟨v,_,rfl⟩:=au.mp hy;exact hab (List.append_inj e (by rw[hm a ha,hm b hb])).1
  ·intro a ha;obtain⟨b,hb,hx⟩:=cq.mp ha;obtain⟨u,_,rfl⟩:=au.mp hx;rw[az,hm b hb];rfl
theorem qz {ls:List (List T)}(h:∀l∈ls,l.Pairwise (λa b=>a ≠ b)):(UV ls).Pairwise (λa b=>a ≠ b):=by
 rw[dI];refine dJ (λhab e=>hab (by injection e)) (Uj ls _ 0 h (by simp) (by simp))
theorem WI:∀(d:Nat) (k:Kd),k.Ok d->k.all.Pairwise (λa b=>a ≠ b)
 | 0,_,h=>h.elim
 | d+1,.whole lo hi,h=>by
  rw[Kd.all,dI];exact dJ (λ{i j} hab e=>hab (by injection e with e;omega)) (fB)
 | d+1,.pick cs,h=>by rw[qy];exact vM h.2.2.2
 | d+1,.row ks,h=>by
  rw[Kd.all,Kd.alls_map];refine qz λl hl=> ?_;obtain⟨k,hk,rfl⟩:=au.mp hl;exact WI d k (h.2.2 k hk)
 | d+1,.many k lo hi,h=>by
  rw[Kd.all,g7];refine⟨λi hi=>qz λl hl=> ?_,dJ (λ{i j} hij=> ?_) (fB)⟩
  ·obtain rfl:=(iq.mp hl).2;exact WI d k h.2.2
  ·intro x hx y hy e;obtain⟨xs,h1,rfl⟩:=(ju _ _).mp hx;obtain⟨ys,h2,rfl⟩:=(ju _ _).mp hy;have e:=by injection e
   subst e;have a:=((jv _ _ _).mp h1).1;have b:=((jv _ _ _).mp h2).1;omega
theorem XN {α:Type}:∀(l m:List α),l.Pairwise (λa b=>a ≠ b)->(∀x∈l,x∈m)->l.length<=m.length
 | [],_,_,_=>b6 _
 | x :: l,m,h,hs=>by
  obtain⟨a,b,rfl⟩:=List.append_of_mem (hs x ac);have h' :=a_.mp h;have:=XN l _ h'.2 λy hy=>by
   have hy' :=hs y (a8 _ hy);rw[cy,aj]at hy';rw[cy];rcases hy' with z | z | z
   ·exact .inl z
   ·exact absurd z.symm (h'.1 y hy)
   ·exact .inr z
  simp at this ⊢;omega
theorem z27 {α:Type}:∀(l m:List α),l.Pairwise (λa b=>a ≠ b)->m.Pairwise (λa b=>a ≠ b)->(∀x∈l,x∈m)->l.length=m.length->∀x∈m,x∈l:=λl m h hm hs e x hx=>by
 refine Classical.byContradiction λhn=> ?_;have:=XN (x :: l) m (a_.mpr ⟨λy hy z=>hn (z ▸ hy),h⟩) λy hy=>by
  rcases aj.mp hy with rfl | hy
  ·exact hx
  ·exact hs y hy
 simp at this;omega
theorem uk {k l:Kd}{d:Nat}(hk:k.Ok d)(hl:l.Ok d)(h:∀x,k.has x=true->l.has x=true):k.all.length<=l.all.length/\(k.all.length=l.all.length->∀x,l.has x=true->k.has x=true):=by
 have hs:=λx hx=>(Ze l x).mpr (h x ((Ze k x).mp hx));exact⟨XN _ _ (WI d k hk) hs,λe x hx=>(Ze k x).mp (z27 _ _ (WI d k hk) (WI d l hl) hs e x ((Ze l x).mpr hx))⟩
abbrev Cm (k l:Kd)(d:Nat)(r:R T):Prop:=(∃c:Kd,r= .ok c.t/\c.Ok d/\∀x,c.has x=(k.has x && l.has x))\/(r= .ok .non/\∀x,(k.has x && l.has x)=false)
theorem Gw (hf:f ρ= .ok (.int i))(hg:g ρ= .ok (.int j)):zb Jh f g ρ= .ok (.int (max i j)):=by
 rw[ze,hf,hg];show R.ok _=_;congr 2;split <;> omega
theorem Gx (hf:f ρ= .ok (.int i))(hg:g ρ= .ok (.int j)):zb jQ f g ρ= .ok (.int (min i j)):=by
 rw[ze,hf,hg];show R.ok _=_;congr 2;split <;> omega
theorem jx1:zb ixT (vE 1) (cE (.int 1)) (.vl x :: .vl (.tup (a :: b :: r)) :: ρ)= .ok b:=by rw[ze,v1,bOk,Z8,bOk,at1]
theorem jx2:zb ixT (vE 1) (cE (.int 2)) (.vl x :: .vl (.tup (a :: b :: c :: r)) :: ρ)= .ok c:=by rw[ze,v1,bOk,Z8,bOk,at2]
theorem jx3:zb ixT (vE 1) (cE (.int 3)) (.vl x :: .vl (.tup (a :: b :: c :: d :: r)) :: ρ)= .ok d:=by rw[ze,v1,bOk,Z8,bOk,at3]
theorem qH (a b c e:Int)(h1:(Kd.whole a b).Ok (d+1))(h2:(Kd.whole c e).Ok (d+1)):Cm (.whole a b) (.whole c e) (d+1) (G6 [(Kd.whole a b).t,(Kd.whole c e).t]):=by
 have ex:G6 [(Kd.whole a b).t,(Kd.whole c e).t]=if max a c<=min b e then .ok (.tup [.str "whole",.int (max a c),.int (min b e)]) else .ok .non:=by
  show zf (z0y [.vl _,.vl _,.un,.un])=_;unfold z0y;have e1:zA 2 (zb Jh (zb ixT (vE 0) (cE (.int 1))) (zb ixT (vE 1) (cE (.int 1)))) [.vl (Kd.whole a b).t,.vl (Kd.whole c e).t,.un,.un]= .nx [.vl (Kd.whole a b).t,.vl (Kd.whole c e).t,.vl (.int (max a c)),.un]:=by
   rw[zy]
   ·rfl
   ·exact Gw (by exact ja) (by rw[Kd.t];exact jx1)
  have e2:zA 3 (zb jQ (zb ixT (vE 0) (cE (.int 2))) (zb ixT (vE 1) (cE (.int 2)))) [.vl (Kd.whole a b).t,.vl (Kd.whole c e).t,.vl (.int (max a c)),.un]= .nx [.vl (Kd.whole a b).t,.vl (Kd.whole c e).t,.vl (.int (max a c)),.vl (.int (min b e))]:=by
   rw[zy]
   ·rfl
   ·exact Gx (by exact wH) (by exact jx2)
  rw[zc e1,zc e2];have et:zk leC (vB 2) (vB 3) [.vl (Kd.whole a b).t,.vl (Kd.whole c e).t,.vl (.int (max a c)),.vl (.int (min b e))]= .ok _:=rfl
  by_cases h:max a c<=min b e
  ·rw[if_pos h,zg (by show ifE _ _ _ [.vl _,.vl _,.vl _,.vl _]=_;rw[vK (by rw[et,decide_eq_true h])];exact z0F rfl rfl rfl)];rfl
  ·rw[if_neg h,zg (by show ifE _ _ _ [.vl _,.vl _,.vl _,.vl _]=_;rw[vL (by rw[et,decide_eq_false h])];rfl)];rfl
 have hh:∀x,((Kd.whole a b).has x && (Kd.whole c e).has x)=inR (max a c) (min b e) x:=λx=>by
  cases x with
  | int i=>
   show ((decide _ && decide _) && (decide _ && decide _))=(decide _ && decide _);rw[dX];simp only[ah,decide_eq_true_eq];omega
  | _=>rfl
 rw[ex]
 by_cases h:max a c<=min b e
 ·rw[if_pos h];refine .inl ⟨.whole _ _,by rw[Kd.t],⟨?_,h, ?_⟩,λx=>by rw[hh];rw[Kd.has]⟩
  ·have:=h1.1;omega
  ·have:=h1.2.2;omega
 ·rw[if_neg h];refine .inr ⟨rfl,λx=> ?_⟩;rw[hh];cases x with
  | int i=>
   show (decide _ && decide _)=false;rw[cb];simp only[ne_eq,ah,decide_eq_true_eq];omega
  | _=>rfl
theorem vN {d:Nat}(cs es:List (Str×Int))(h1:(Kd.pick cs).Ok (d+1))(h2:(Kd.pick es).Ok (d+1)):Cm (.pick cs) (.pick es) (d+1) (G7 [(Kd.pick cs).t,(Kd.pick es).t]):=by
 obtain⟨_,h14,hcs,hds⟩:=h1;have hw:=j5 es h2.2.1
 let fs:=cs.filter λc=>decide (c.1∈es.map (·.1))
 have hlen:fs.length<=cs.length:=List.length_filter_le _ _;have ex:G7 [(Kd.pick cs).t,(Kd.pick es).t]=if 0 < fs.length then .ok (.tup [.str "pick",.tup (fs.map ZU)]) else .ok .non:=by
  show zf (z0z f_e [.vl (Kd.pick cs).t,.vl (Kd.pick es).t,.un,.un])=_;unfold z0z;have e1:zA 2 (za 1 f_e (z9 (vE 1) (zd))) [.vl (Kd.pick cs).t,.vl (Kd.pick es).t,.un,.un]= .nx [.vl (Kd.pick cs).t,.vl (Kd.pick es).t,.vl (.lst (es.map λc=>T.str c.1)),.un]:=by
   rw[zy]
   ·rfl
   ·rw[zj,v1,bOk,hw]
  have ec:zL (Zm (zb ixT (vE 0) (cE (.int 1)))) (zE 0) (zk inC (zb ixT (vE 0) (cE (.int 0))) (vB 1)) (vE 0) 1 [2] [.vl (Kd.pick cs).t,.vl (Kd.pick es).t,.vl (.lst (es.map λc=>T.str c.1)),.un]= .ok (.lst (fs.map ZU)):=by
   have ei:Zm (zb ixT (vE 0) (cE (.int 1))) [.vl (Kd.pick cs).t,.vl (Kd.pick es).t,.vl (.lst (es.map λc=>T.str c.1)),.un]= .ok (cs.map ZU):=by
    rfl
   rw[zY,ei,bOk];unfold zF;rw[if_pos (by rw[aa];exact aq h14 (by decide))]
   have eL:zu (zE 0) (zk inC (zb ixT (vE 0) (cE (.int 0))) (vB 1)) (vE 0) (cs.map ZU) (wY 1 [2] [.vl (Kd.pick cs).t,.vl (Kd.pick es).t,.vl (.lst (es.map λc=>T.str c.1)),.un])= .ok (((cs.map ZU).filter λt=>match t with | .tup [.str w,_]=>decide (w∈es.map (·.1)) | _=>false).map λt=>t):=by
    refine ZY (h:=λt=>t) _ _ λt ht=> ?_;obtain⟨c,hc,rfl⟩:=au.mp ht;refine⟨?_,λ_=>rfl⟩;show zk inC _ (vB 1) [.vl (ZU c),.vl (.lst (es.map λc=>T.str c.1))]= .ok (decide _);show (match wX (λy=>eqF 30 y (.str c.1)) (es.map λc=>T.str c.1) with | some b=>R.ok b | none=> .bad)=_
    have em:(es.map λc=>T.str c.1)=(es.map (·.1)).map T.str:=by rw[aO];rfl
    rw[em,wE]
   have eF:(((cs.map ZU).filter λt=>match t with | .tup [.str w,_]=>decide (w∈es.map (·.1)) | _=>false).map λt=>t)=fs.map ZU:=by
    rw[List.map_id',List.filter_map];rfl
   rw[eL,eF];rfl
  have e2:zA 3 (zL (Zm (zb ixT (vE 0) (cE (.int 1)))) (zE 0) (zk inC (zb ixT (vE 0) (cE (.int 0))) (vB 1)) (vE 0) 1 [2]) [.vl (Kd.pick cs).t,.vl (Kd.pick es).t,.vl (.lst (es.map λc=>T.str c.1)),.un]= .nx [.vl (Kd.pick cs).t,.vl (Kd.pick es).t,.vl (.lst (es.map λc=>T.str c.1)),.vl (.lst (fs.map ZU))]:=by
   rw[zy ec];rfl
  rw[zc e1,zc e2];have et:zk gtC (ap1 Zo (vB 3)) (cE (.int 0)) [.vl (Kd.pick cs).t,.vl (Kd.pick es).t,.vl (.lst (es.map λc=>T.str c.1)),.vl (.lst (fs.map ZU))]= .ok (decide (0 < fs.length)):=by
   show R.ok (decide _)=_;rw[aa]
   by_cases hz:0 < fs.length
   ·rw[decide_eq_true hz,decide_eq_true (by omega)]
   ·rw[decide_eq_false hz,decide_eq_false (by omega)]
  by_cases h:0 < fs.length
  ·rw[if_pos h,zg (t:= .tup _) (by show ifE _ _ _ [.vl (Kd.pick cs).t,.vl (Kd.pick es).t,.vl (.lst (es.map λc=>T.str c.1)),.vl _]=_;rw[vK (by rw[et,decide_eq_true h])];exact Jq rfl rfl)];rfl
  ·rw[if_neg h,zg (t:= .non) (by show ifE _ _ _ [.vl (Kd.pick cs).t,.vl (Kd.pick es).t,.vl (.lst (es.map λc=>T.str c.1)),.vl _]=_;rw[vL (by rw[et,decide_eq_false h])];rfl)];rfl
 have hh:∀y:Str,((Kd.pick cs).has (.str y) && (Kd.pick es).has (.str y))=fs.any λc=>c.1 == y:=λy=>by
  rw[Kd.has,Kd.has];rw[dX];simp only[ah,cP,beq_iff_eq];constructor
  ·rintro⟨⟨c,hc,rfl⟩,⟨e,he,e1⟩⟩
   exact⟨c,dr.mpr ⟨hc,decide_eq_true (au.mpr ⟨e,he,e1⟩)⟩,rfl⟩
  ·rintro⟨c,hc,rfl⟩
   obtain⟨a1,a2⟩:=dr.mp hc;obtain⟨e,he,e1⟩:=au.mp (of_decide_eq_true a2);exact⟨⟨c,a1,rfl⟩,⟨e,he,e1⟩⟩
 have hn:∀x,(∀y,x ≠ .str y)->((Kd.pick cs).has x && (Kd.pick es).has x)=false:=λx hx=>by
  cases x with
  | str y=>exact absurd rfl (hx y)
  | _=>rfl
 rw[ex]
 by_cases h:0 < fs.length
 ·rw[if_pos h];refine .inl ⟨.pick fs,by rw[Kd.t],⟨h,by omega,λc hc=>hcs c (dr.mp hc).1, ?_⟩,λx=> ?_⟩
  ·have hp:(cs.map (·.1)).Pairwise (λa b=>a ≠ b):=by
    rw[bX];intro i j hi hj hij e;have:=uj hds (by rw[a9 hi,e]) (a9 hj)
    omega
   have hp2:(fs.map _).Pairwise (λa b=>a ≠ b):=List.Pairwise.sublist (List.Sublist.map _ List.filter_sublist) hp;intro j w hj hm;obtain⟨i,hi,e⟩:=cC.mp hm;rw[cL]at hi;rw[eX]at e;obtain⟨hj',ej⟩:=ak.mp hj;exact(bX.mp hp2) i j (by omega) hj' (by omega) (by rw[e,ej])
  ·cases x with
   | str y=>rw[hh];rw[Kd.has]
   | _=>rw[hn _ (λy z=>by cases z)];rw[Kd.has]
 ·rw[if_neg h];refine .inr ⟨rfl,λx=> ?_⟩;cases x with
  | str y=>
   rw[hh];have:fs=[]:=cM.mp (by omega)
   rw[this];rfl
  | _=>exact hn _ (λy z=>by cases z)
theorem zt (hg:g ρ= .ok true):zf (zh (ifS g (zi f) nxS) h ρ)=f (frz ρ):=by
 rw[zQ,wI hg,Z6];cases f _ <;> rfl
theorem zT:zf (zi f ρ)=f (frz ρ):=by rw[Z6,jK]
theorem z28 (k:Kd):∃x r,k.t= .tup (.str x :: r):=by
 cases k <;> exact⟨_,_,by rw[Kd.t]⟩
def qI:Option Kd->T
 | some c=>c.t
 | none=> .non
theorem qJ:∀os:List (Option Kd),wX (λy=>eqF 30 y .non) (os.map qI)=some (os.any f8)
 | []=>rfl
 | o :: os=>by
  have e:wX (λy=>eqF 30 y .non) ((o :: os).map qI)=match eqF 30 _ _ with | none=>none | some b=>match wX (λy=>eqF 30 y _) _ with | none=>none | some c=>some _:=rfl
  rw[e,qJ os];cases o with
  | none=>rfl
  | some c=>
   obtain⟨x,r,h⟩:=z28 c;have:eqF 30 (qI (some c)) .non=some false:=by show eqF 30 c.t _=_;rw[h];rfl
   rw[this];rfl
theorem Uk:∀os:List (Option Kd),os.any f8=false->∃cs:List Kd,os=cs.map some
 | [],_=>⟨[],rfl⟩
 | o :: os,h=>by
  rw[i8,Bool.or_eq_false_iff]at h;obtain⟨cs,rfl⟩:=Uk os h.2;cases o with
  | none=>cases h.1
  | some c=>exact⟨c :: cs,rfl⟩
def Ck (d:Nat)(q:Kd×Kd):Option Kd->Prop
 | some c=>c.Ok d/\∀x,c.has x=(q.1.has x && q.2.has x)
 | none=>∀x,(q.1.has x && q.2.has x)=false
abbrev ckE (c:List T->R T):En->R T:=za 2 c (z9 (vE 0) (z9 (vE 1) (zd)))
theorem qK:∀(qs:List (Kd×Kd)) (x y:Sl),(∀q∈qs,∃o,c [q.1.t,q.2.t]= .ok (qI o)/\Ck d q o)->
  ∃os:List (Option Kd),zu (zM 0 1) zW (ckE c) (qs.map λq=>T.tup [q.1.t,q.2.t]) [x,y]= .ok (os.map qI)/\os.length=qs.length/\∀(i:Nat) (q:Kd×Kd) (o:Option Kd),qs[i]? =some q->os[i]? =some o->Ck d q o
 | [],_,_,_=>⟨[],rfl,rfl,λi q o h=>by simp at h⟩
 | q :: qs,x,y,h=>by
  obtain⟨o,e1,hc⟩:=h q ac;obtain⟨os,e2,e3,e4⟩:=qK qs _ _ λr hr=>h r (a8 _ hr);have e0:zu (zM 0 1) zW _ ((q :: qs).map λq=>T.tup [q.1.t,q.2.t]) [x,y]=(ckE c [.vl _,.vl _]).bind λv=>(zu _ _ _ (qs.map λq=>T.tup _) [.vl _,.vl _]).bind λvs=> .ok _:=rfl;have e5:ckE c [.vl q.1.t,.vl q.2.t]=c [q.1.t,q.2.t]:=by unfold ckE;rw[zn,v0,bOk,v1,bOk]
  refine⟨o :: os,by rw[e0,e5,e1,bOk,e2,bOk,ay],by rw[aw,aw,e3],λi q' o' h1 h2=> ?_⟩
  cases i with
  | zero=>cases h1;cases h2;exact hc
  | succ i=>exact e4 i q' o' (by simpa using h1) (by simpa using h2)
theorem jF:∀(ks:List Kd) (xs:List T),Kd.hass ks xs=true↔∀(i:Nat) (k:Kd) (x:T),ks[i]? =some k->xs[i]? =some x->k.has x=true
 | [],_=>by simp[Kd.hass]
 | k :: ks,[]=>by simp[Kd.hass]
 | k :: ks,x :: xs=>by
  rw[Kd.hass];simp only[ah];rw[jF ks xs];constructor
  ·rintro⟨h1,h2⟩ i k' x' e1 e2
   cases i with
   | zero=>cases e1;cases e2;exact h1
   | succ i=>exact h2 i k' x' (by simpa using e1) (by simpa using e2)
  ·intro h;exact⟨h 0 k x rfl rfl,λi k' x' e1 e2=>h (i+1) k' x' (by simpa using e1) (by simpa using e2)⟩
theorem XO (ks ls:List Kd)(hs:Zu s= .ok (ks.map Kd.t))(hs' :Zu s' = .ok (ls.map Kd.t))(hl:Zo s= .ok (.int (ks.length:Int)))(hl' :Zo s' = .ok (.int (ls.length:Int)))(h3:ks.length<=3)(H:∀k∈ks,∀l∈ls,Cm k l d (S_7 n 0 [k.t,l.t])):
  (∃cs:List Kd,S_7 (n+1) 1 [s,s']= .ok (.tup [.str "row",.tup (cs.map Kd.t)])/\cs.length=ks.length/\ks.length=ls.length/\(∀c∈cs,c.Ok d)/\∀xs:List T,xs.length=ks.length->Kd.hass cs xs=(Kd.hass ks xs && Kd.hass ls xs))\/
  (S_7 (n+1) 1 [s,s']= .ok .non/\∀xs:List T,xs.length=ks.length->xs.length=ls.length->(Kd.hass ks xs && Kd.hass ls xs)=false):=by
 have e:S_7 (n+1) 1 [s,s']=zf (z0A (S_7 n 0) [.vl s,.vl s',.un]):=by
  rw[S_7];rfl
 have et:zk neC (ap1 Zo (vB 0)) (ap1 Zo (vB 1)) [.vl s,.vl s',.un]= .ok (!((ks.length:Int) == (ls.length:Int))):=by
  rw[zx,Zd,w0,bOk,hl,bOk,Zd,w1,bOk,hl',bOk];rfl
 rw[e];unfold z0A
 by_cases hkl:ks.length=ls.length
 ·have ez:uP (vE 0) (vE 1) [.vl s,.vl s',.un]= .ok ((ks.zip ls).map λq=>T.tup [q.1.t,q.2.t]):=by
   show (Zu s).bind _=_;rw[hs,bOk,hs',bOk];unfold QX;rw[List.zip_map,aO];rfl
  obtain⟨os,e1,e2,e3⟩:=qK (d:=d) (ks.zip ls) .un .un λq hq=>by
   rcases H q.1 (bA hq).1 q.2 (bA hq).2 with ⟨c,a1,a2,a3⟩ | ⟨a1,a2⟩
   ·exact⟨some c,a1,a2,a3⟩
   ·exact⟨none,a1,a2⟩
  have hol:os.length=ks.length:=by rw[e2,cY];omega
  have ec:zL (uP (vE 0) (vE 1)) (zM 0 1) zW (ckE (S_7 n 0)) 2 [] [.vl s,.vl s',.un]= .ok (.lst (os.map qI)):=by
   rw[zY,ez,bOk];unfold zF;rw[if_pos (by rw[aa,cY];exact aq (fW _ _) (aq h3 (by decide)))]
   show (quiet (zu _ _ _ _ [.un,.un])).bind _=_;rw[e1];rfl
  have es:zA 2 (zL (uP (vE 0) (vE 1)) (zM 0 1) zW (ckE (S_7 n 0)) 2 []) [.vl s,.vl s',.un]= .nx [.vl s,.vl s',.vl (.lst (os.map qI))]:=by rw[zy ec];rfl
  have ei:zk inC (cE .non) (vB 2) [.vl s,.vl s',.vl (.lst (os.map qI))]= .ok (os.any f8):=by
   show (match wX (λy=>eqF 30 y .non) (os.map qI) with | some b=>R.ok b | none=> .bad)=_
   rw[qJ]
  rw[zc (zo (by rw[et,hkl,beq_self_eq_true];rfl)),zc es]
  have zat:∀(i:Nat) (k l:Kd),ks[i]? =some k->ls[i]? =some l->(ks.zip ls)[i]? =some (k,l):=λi k l h1 h2=>by
   rw[bV];exact⟨h1,h2⟩
  cases hn:os.any f8 with
  | true=>
   right
   rw[zt (by rw[ei,hn])]
   refine⟨rfl,λxs hx hx' => ?_⟩;obtain⟨o,ho,hio⟩:=cP.mp hn;obtain⟨i,hi,rfl⟩:=cC.mp ho;have hik:i < ks.length:=by omega
   have hil:i < ls.length:=by omega
   have hix:i < xs.length:=by omega
   have hc:=e3 i (ks[i],ls[i]) _ (zat i _ _ (a9 hik) (a9 hil)) (a9 hi);have ho' :os[i]=none:=by cases q:os[i] with | none=>rfl | some c=>rw[q]at hio;cases hio
   rw[ho']at hc;rw[cb];intro z;rw[ah,jF,jF]at z;have z1:=z.1 i _ _ (a9 hik) (a9 hix);have z2:=z.2 i _ _ (a9 hil) (a9 hix);have:=hc xs[i];rw[z1,z2]at this;cases this
  | false=>
   left
   obtain⟨cs,rfl⟩:=Uk os hn;have hcl:=by rw[aa]at hol;exact hol
   have em:(cs.map some).map qI=cs.map Kd.t:=by rw[aO];rfl
   rw[em]at ei ⊢;rw[zc (zo (by rw[ei,hn])),zT]
   have cat:∀(i:Nat) (c k l:Kd),cs[i]? =some c->ks[i]? =some k->ls[i]? =some l->c.Ok d/\∀x,c.has x=(k.has x && l.has x):=λi c k l h1 h2 h3=>e3 i _ (some c) (zat i k l h2 h3) (by rw[ar,h1];rfl)
   refine⟨cs,Jq rfl rfl,hcl,hkl,λc hc=> ?_,λxs hx=> ?_⟩
   ·obtain⟨i,hi,rfl⟩:=cC.mp hc;exact(cat i _ _ _ (a9 hi) (a9 (by omega)) (a9 (by omega))).1
   ·rw[dX,ah,jF,jF,jF];constructor
    ·intro h;refine⟨λi k x h1 h2=> ?_,λi l x h1 h2=> ?_⟩
     ·have hi:=(ak.mp h1).1;have hic:i < cs.length:=by omega
      have hil:i < ls.length:=by omega
      have q:=(cat i _ _ _ (a9 hic) h1 (a9 hil)).2 x;rw[h i _ x (a9 hic) h2]at q;exact(bQ.mp q.symm).1
     ·have hi:=(ak.mp h1).1;have hic:i < cs.length:=by omega
      have hik:i < ks.length:=by omega
      have q:=(cat i _ _ _ (a9 hic) (a9 hik) h1).2 x;rw[h i _ x (a9 hic) h2]at q;exact(bQ.mp q.symm).2
    ·rintro⟨h1,h2⟩ i c x q1 q2
     have hi:=(ak.mp q1).1;have hik:i < ks.length:=by omega
     have hil:i < ls.length:=by omega
     rw[(cat i _ _ _ q1 (a9 hik) (a9 hil)).2 x,h1 i _ x (a9 hik) q2,h2 i _ x (a9 hil) q2];rfl
 ·right
  rw[zt (by rw[et,beq_eq_false_iff_ne.mpr (by omega)];rfl)]
  exact⟨rfl,λxs h1 h2=>by omega⟩
noncomputable def kop:Kd->Nat->List Kd
 | .row ks,_=>ks
 | .many k lo hi,n=>if lo<=n/\n<=hi then ae n k else []
 | _,_=>[]
theorem Gy {x:T}{m:Nat}(h1:1<=m)(h:m<=3):vo (.tup [x]) (.int (m:Int))= .ok (.tup (ae m x)):=by
 by_cases e:m=1
 ·subst e;have c:((1:Nat):Int)=1/\[x] ≠ []:=⟨rfl,by simp⟩
  unfold vo;dsimp only;rw[if_pos c];rfl
 ·have:vo (.tup [x]) (.int (m:Int))=zN (.tup [x]) (.int (m:Int)):=if_neg (λz=>e (by omega))
  have c:2<=(m:Int)/\(m:Int) < 1000000/\[x] ≠ []/\[x].length*(m:Int).toNat<=bnd:=⟨by omega,by omega,by simp,by rw[aG,c9];exact aq (show 1*m<=3 by omega) (by decide)⟩
  rw[this,show zN (.tup [x]) (.int (m:Int))= .ok (.tup (ae (m:Int).toNat [x]).flatten) from if_pos c,c9,Zn]
theorem VJ (k:Kd)(n:Nat)(hn:1<=n)(h3:∀l lo hi,k= .many l lo hi->hi<=3):kv [k.t,.int (n:Int)]= .ok (.tup ((kop k n).map Kd.t)):=by
 show zf (z0x (en2 k.t (.int (n:Int))))=_;unfold z0x;cases k with
 | row ks=>rw[zt (by rw[Kd.t];exact cs0),show frz (en2 (Kd.row ks).t (.int (n:Int)))=en2 (Kd.row ks).t (.int (n:Int)) from rfl,Kd.t,Kd.ts_map,ja];rfl
 | whole a b=>
  have e0:zk eqC (zb ixT (vE 0) (cE (.int 0))) (cE (.str "many")) (en2 (Kd.whole a b).t (.int (n:Int)))= .ok false:=by rw[Kd.t];exact cs0
  rw[zc (zo (by rw[Kd.t];exact cs0)),zc (zo (by rw[ub,e0,bOk];rfl)),zT];rfl
 | pick cs=>
  have e0:zk eqC (zb ixT (vE 0) (cE (.int 0))) (cE (.str "many")) (en2 (Kd.pick cs).t (.int (n:Int)))= .ok false:=by rw[Kd.t];exact cs0
  rw[zc (zo (by rw[Kd.t];exact cs0)),zc (zo (by rw[ub,e0,bOk];rfl)),zT];rfl
 | many k lo hi=>
  have h3' :=h3 k lo hi rfl;have e0:zk eqC (zb ixT (vE 0) (cE (.int 0))) (cE (.str "many")) (en2 (Kd.many k lo hi).t (.int (n:Int)))= .ok true:=by rw[Kd.t];exact cs0
  have et:z01 (zk eqC (zb ixT (vE 0) (cE (.int 0))) (cE (.str "many"))) (chT leC leC (zb ixT (vE 0) (cE (.int 2))) (vB 1) (zb ixT (vE 0) (cE (.int 3)))) (en2 (Kd.many k lo hi).t (.int (n:Int)))= .ok (decide (lo<=n) && decide (n<=hi)):=by
   rw[ub,e0,bOk,if_pos rfl,Gc,Kd.t,wH,bOk,w1,bOk,u9,bOk,UW,bOk,u9,jN,jN];cases decide (lo<=n) <;> rfl
  rw[zc (zo (by rw[Kd.t];exact cs0))]
  have ek:kop (.many k lo hi) n=if lo<=n/\n<=hi then ae n k else []:=rfl
  rw[ek]
  by_cases h:lo<=n/\n<=hi
  ·rw[if_pos h,zt (by rw[et,decide_eq_true h.1,decide_eq_true h.2];rfl)]
   show zb vo _ _ (en2 (Kd.many k lo hi).t (.int (n:Int)))=_;rw[ze,tup1 (x:=k.t) (by rw[Kd.t];exact ja),bOk,v1,bOk]
   rw[Gy hn (by omega),aI]
  ·rw[if_neg h,zc (zo (by rw[et];congr 1;rw[cb];intro z;rw[ah,decide_eq_true_eq,decide_eq_true_eq]at z;exact h z)),zT];rfl
theorem j6 (k:Kd)(lo hi:Nat)(xs:List T):(Kd.many k lo hi).has (.tup xs)=(decide (lo<=xs.length) && decide (xs.length<=hi) && xs.all k.has):=by rw[Kd.has]
theorem Jy (ks:List Kd)(xs:List T):(Kd.row ks).has (.tup xs)=(xs.length == ks.length && Kd.hass ks xs):=by rw[Kd.has]
theorem qL {α:Type}(p q:α->Bool):∀l:List α,l.all (λx=>p x && q x)=(l.all p && l.all q)
 | []=>rfl
 | x :: l=>by
  rw[bR,bR,bR,qL p q l];cases p x <;> cases q x <;> cases l.all p <;> rfl
abbrev cmE (a b x y z:Sl):En:=[a,b,x,y,z]
theorem vO (k l:Kd)(lo hi lo' hi' :Nat)(h1:(Kd.many k lo hi).Ok (d+1))(h2:(Kd.many l lo' hi').Ok (d+1))(H:Cm k l d (S_7 n 0 [k.t,l.t])):
  Cm (.many k lo hi) (.many l lo' hi') (d+1) (S_7 (n+1) 2 [(Kd.many k lo hi).t,(Kd.many l lo' hi').t]):=by
 have e:S_7 (n+1) 2 [(Kd.many k lo hi).t,(Kd.many l lo' hi').t]=zf (z0B (S_7 n 0) (cmE (.vl (mt k.t lo hi)) (.vl (mt l.t lo' hi')) .un .un .un)):=by
  rw[S_7]
  ·rw[Kd.t,Kd.t];rfl
  ·intro h;cases h
  ·intro h;cases h
 have c1:((max lo lo' :Nat):Int)=max (lo:Int) (lo' :Int):=by omega
 have c2:((min hi hi' :Nat):Int)=min (hi:Int) (hi' :Int):=by omega
 have e1:zA 2 (zb Jh (zb ixT (vE 0) (cE (.int 2))) (zb ixT (vE 1) (cE (.int 2)))) (cmE (.vl (mt k.t lo hi)) (.vl (mt l.t lo' hi')) .un .un .un)= .nx (cmE (.vl (mt k.t lo hi)) (.vl (mt l.t lo' hi')) (.vl (.int ((max lo lo' :Nat):Int))) .un .un):=by
  rw[zy (Gw wH jx2),c1];rfl
 have e2:zA 3 (zb jQ (zb ixT (vE 0) (cE (.int 3))) (zb ixT (vE 1) (cE (.int 3)))) (cmE (.vl (mt k.t lo hi)) (.vl (mt l.t lo' hi')) (.vl (.int ((max lo lo' :Nat):Int))) .un .un)= .nx (cmE (.vl (mt k.t lo hi)) (.vl (mt l.t lo' hi')) (.vl (.int ((max lo lo' :Nat):Int))) (.vl (.int ((min hi hi' :Nat):Int))) .un):=by
  rw[zy (Gx UW jx3),c2];rfl
 have et:zk gtC (vB 2) (vB 3) (cmE (.vl (mt k.t lo hi)) (.vl (mt l.t lo' hi')) (.vl (.int ((max lo lo' :Nat):Int))) (.vl (.int ((min hi hi' :Nat):Int))) .un)= .ok (decide (min hi hi' < max lo lo')):=by
  show R.ok (decide (((min hi hi' :Nat):Int) < ((max lo lo' :Nat):Int)))=_
  by_cases hz:min hi hi' < max lo lo'
  ·rw[decide_eq_true hz,decide_eq_true (by omega)]
  ·rw[decide_eq_false hz,decide_eq_false (by omega)]
 have hnt:∀x,(∀xs,x ≠ .tup xs)->((Kd.many k lo hi).has x && (Kd.many l lo' hi').has x)=false:=λx hx=>by
  rw[Kd.has];cases x with
  | tup xs=>exact absurd rfl (hx xs)
  | _=>rfl
 have hht:∀xs,((Kd.many k lo hi).has (.tup xs) && (Kd.many l lo' hi').has (.tup xs))=(decide (max lo lo' <=xs.length) && decide (xs.length<=min hi hi') && xs.all λx=>k.has x && l.has x):=λxs=>by
  rw[j6,j6,qL,dX];simp only[ah,decide_eq_true_eq];constructor
  ·rintro⟨⟨⟨a1,a2⟩,a3⟩,⟨⟨b1,b2⟩,b3⟩⟩
   exact⟨⟨by omega,by omega⟩,a3,b3⟩
  ·rintro⟨⟨a1,a2⟩,a3,b3⟩
   exact⟨⟨⟨by omega,by omega⟩,a3⟩,⟨⟨by omega,by omega⟩,b3⟩⟩
 rw[e];unfold z0B;rw[zc e1,zc e2]
 by_cases hgt:min hi hi' < max lo lo'
 ·rw[zt (by rw[et,decide_eq_true hgt])]
  refine .inr ⟨rfl,λx=> ?_⟩;cases x with
  | tup xs=>
   rw[hht,cb];intro z;simp only[ah,decide_eq_true_eq]at z;omega
  | _=>exact hnt _ (λy z=>by cases z)
 ·rw[zc (zo (by rw[et,decide_eq_false hgt]))]
  have ec:∀t,S_7 n 0 [k.t,l.t]= .ok t->zA 4 (za 2 (S_7 n 0) (z9 (zb ixT (vE 0) (cE (.int 1))) (z9 (zb ixT (vE 1) (cE (.int 1))) (zd)))) (cmE (.vl (mt k.t lo hi)) (.vl (mt l.t lo' hi')) (.vl (.int ((max lo lo' :Nat):Int))) (.vl (.int ((min hi hi' :Nat):Int))) .un)= .nx (cmE (.vl (mt k.t lo hi)) (.vl (mt l.t lo' hi')) (.vl (.int ((max lo lo' :Nat):Int))) (.vl (.int ((min hi hi' :Nat):Int))) (.vl t)):=λt ht=>by
   rw[zy (t:=t)]
   ·rfl
   ·rw[zn,show zb ixT (vE 0) (cE (.int 1)) (cmE (.vl (mt k.t lo hi)) (.vl (mt l.t lo' hi')) (.vl (.int ((max lo lo' :Nat):Int))) (.vl (.int ((min hi hi' :Nat):Int))) .un)= .ok k.t from ja,bOk,show zb ixT (vE 1) (cE (.int 1)) (cmE (.vl (mt k.t lo hi)) (.vl (mt l.t lo' hi')) (.vl (.int ((max lo lo' :Nat):Int))) (.vl (.int ((min hi hi' :Nat):Int))) .un)= .ok l.t from jx1,bOk,ht]
  rcases H with ⟨c,a1,a2,a3⟩ | ⟨a1,a2⟩
  ·obtain⟨x,r,hct⟩:=z28 c;rw[zc (ec _ a1),zt (by rw[hct];rfl)]
   refine .inl ⟨.many c (max lo lo') (min hi hi'),by rw[Kd.t];exact z0G rfl rfl rfl rfl,⟨by omega,by have:=h1.2.1;omega,a2⟩,λx=> ?_⟩
   cases x with
   | tup xs=>
    rw[hht,j6];congr 1
    exact congrArg xs.all (funext a3)
   | _=>rw[hnt _ (λy z=>by cases z)];rw[Kd.has]
  ·rw[zc (ec _ a1),zc (zo rfl),zT];have et2:zk eqC (vB 2) (cE (.int 0)) (cmE (.vl (mt k.t lo hi)) (.vl (mt l.t lo' hi')) (.vl (.int ((max lo lo' :Nat):Int))) (.vl (.int ((min hi hi' :Nat):Int))) (.vl .non))= .ok (decide (max lo lo' =0)):=by
    show R.ok (((max lo lo' :Nat):Int) == 0)=_
    by_cases hz:max lo lo' =0
    ·rw[hz,decide_eq_true rfl];rfl
    ·rw[decide_eq_false hz,beq_eq_false_iff_ne.mpr (by omega)]
   have hall:∀xs:List T,(xs.all λx=>k.has x && l.has x)=xs.isEmpty:=λxs=>by
    cases xs with
    | nil=>rfl
    | cons x xs=>rw[bR,a2 x];rfl
   show Cm _ _ _ (ifE _ _ _ (cmE (.vl (mt k.t lo hi)) (.vl (mt l.t lo' hi')) (.vl (.int ((max lo lo' :Nat):Int))) (.vl (.int ((min hi hi' :Nat):Int))) (.vl .non)))
   by_cases hz:max lo lo' =0
   ·rw[vK (by rw[et2,decide_eq_true hz])]
    refine .inl ⟨.many k 0 0,by rw[Kd.t];exact z0G rfl ja rfl rfl,⟨am _,by omega,h1.2.2⟩,λx=> ?_⟩
    cases x with
    | tup xs=>
     rw[hht,j6,hall,hz];cases xs with
     | nil=>simp
     | cons x xs=>simp
    | _=>rw[hnt _ (λy z=>by cases z)];rw[Kd.has]
   ·rw[vL (by rw[et2,decide_eq_false hz])]
    refine .inr ⟨rfl,λx=> ?_⟩;cases x with
    | tup xs=>
     rw[hht,hall];cases xs with
     | nil=>simp;omega
     | cons x xs=>simp
    | _=>exact hnt _ (λy z=>by cases z)
theorem qM (l:Kd)(hl:l.Ok (d+1))(n:Nat)(hn:1<=n):(∀m∈kop l n,m.Ok d)/\((kop l n).length=n->∀xs:List T,xs.length=n->l.has (.tup xs)=Kd.hass (kop l n) xs)/\((kop l n).length ≠ n->∀xs:List T,xs.length=n->l.has (.tup xs)=false):=by
 cases l with
 | whole a b=>exact⟨(λm hm=>by cases hm),λz=>absurd z (by show 0 ≠ n;omega),λ_ xs _=>by rw[Kd.has];rfl⟩
 | pick cs=>exact⟨(λm hm=>by cases hm),λz=>absurd z (by show 0 ≠ n;omega),λ_ xs _=>by rw[Kd.has]⟩
 | row ls=>
  refine⟨hl.2.2,λz xs hx=> ?_,λz xs hx=> ?_⟩
  ·have z:ls.length=n:=z;rw[Jy,hx,z,beq_self_eq_true,cI];rfl
  ·have z:ls.length ≠ n:=z;rw[Jy,hx,beq_eq_false_iff_ne.mpr (bb z)];rfl
 | many m lo hi=>
  have ek:kop (.many m lo hi) n=if lo<=n/\n<=hi then ae n m else []:=rfl
  rw[ek]
  by_cases h:lo<=n/\n<=hi
  ·rw[if_pos h];refine⟨λq hq=>by rw[aY hq];exact hl.2.2,λz xs hx=> ?_,λz=>absurd (by rw[aF]) z⟩
   rw[j6,hx,decide_eq_true h.1,decide_eq_true h.2,cI,cI,jt,← hx,uh]
  ·rw[if_neg h];refine⟨(λq hq=>by cases hq),λz=>absurd z (by show 0 ≠ n;omega),λz xs hx=> ?_⟩
   rw[j6,hx,cb];intro q;simp only[ah,decide_eq_true_eq]at q;exact h q.1
theorem vP (ks:List Kd)(x:T)(h:(Kd.row ks).has x=true):∃xs,x= .tup xs/\xs.length=ks.length/\Kd.hass ks xs=true:=by
 rw[Kd.has]at h;cases x with
 | tup xs=>
  have h:(xs.length == ks.length && Kd.hass ks xs)=true:=h;rw[ah,beq_iff_eq]at h;exact⟨xs,rfl,h.1,h.2⟩
 | _=>cases h
theorem VL (ks ls:List Kd)(m:Nat)(hm1:1<=m)(hm3:m<=3)(hs:Zu s= .ok (ks.map Kd.t))(hs' :Zu s' = .ok (ls.map Kd.t))(hl:Zo s= .ok (.int (ks.length:Int)))(hl' :Zo s' = .ok (.int (ls.length:Int)))(h3:ks.length<=3)
  (H:∀k∈ks,∀l∈ls,Cm k l d (S_7 n 0 [k.t,l.t]))
  (hx:∀x,(k.has x && l.has x)=true->∃xs,x= .tup xs/\xs.length=m)
  (hk:ks.length=m->∀xs:List T,xs.length=m->k.has (.tup xs)=Kd.hass ks xs) (hk0:ks.length ≠ m->∀xs:List T,xs.length=m->k.has (.tup xs)=false)
  (hl1:ls.length=m->∀xs:List T,xs.length=m->l.has (.tup xs)=Kd.hass ls xs) (hl0:ls.length ≠ m->∀xs:List T,xs.length=m->l.has (.tup xs)=false) (hone:ks.length=m\/ls.length=m):
  Cm k l (d+1) (S_7 (n+1) 1 [s,s']):=by
 rcases XO ks ls hs hs' hl hl' h3 H with ⟨cs,a1,a2,a3,a4,a5⟩ | ⟨a1,a2⟩
 ·have hkm:ks.length=m:=by rcases hone with z | z <;> omega
  have hlm:ls.length=m:=by omega
  refine .inl ⟨.row cs,by rw[a1,Kd.t,Kd.ts_map],⟨by omega,by omega,a4⟩,λx=> ?_⟩
  cases hh:(k.has x && l.has x) with
  | true=>
   obtain⟨xs,rfl,hxl⟩:=hx x hh;rw[hk hkm xs hxl,hl1 hlm xs hxl]at hh;rw[Jy,a5 xs (by omega),hh,show (xs.length == cs.length)=true from by rw[beq_iff_eq];omega];rfl
  | false=>
   rw[cb];intro z;obtain⟨xs,rfl,hxl,hc⟩:=vP cs x z;rw[hk hkm xs (by omega),hl1 hlm xs (by omega),← a5 xs (by omega),hc]at hh
   cases hh
 ·refine .inr ⟨a1,λx=> ?_⟩;rw[cb];intro z;obtain⟨xs,rfl,hxl⟩:=hx x z
  by_cases hkm:ks.length=m
  ·by_cases hlm:ls.length=m
   ·rw[hk hkm xs hxl,hl1 hlm xs hxl,a2 xs (by omega) (by omega)]at z
    cases z
   ·rw[hl0 hlm xs hxl,Bool.and_false]at z;cases z
  ·rw[hk0 hkm xs hxl]at z;cases z
theorem z29 (hn:3*(d+1)<=n+3)(ih:∀k l:Kd,k.Ok d->l.Ok d->Cm k l d (S_7 (n+1) 0 [k.t,l.t]))(k:Kd)(ls:List Kd)(hk:k.Ok (d+1))(hl:(Kd.row ls).Ok (d+1))(hbigk:∀m lo hi,k= .many m lo hi->hi<=3):
  Cm k (.row ls) (d+1) (zf (zh (ifS (zk eqC (zb ixT (vE 1) (cE (.int 0))) (cE (.str "row"))) (zi (za 2 (S_7 (n+2) 1) (z9 (za 2 kv (z9 (vE 0) (z9 (ap1 Zo (zb ixT (vE 1) (cE (.int 1)))) (zd)))) (z9 (zb ixT (vE 1) (cE (.int 1))) (zd))))) (nxS)) g (en2 k.t (Kd.row ls).t))):=by
 obtain⟨h1,h3,h4⟩:=hl;have i1:zb ixT (vE 1) (cE (.int 1)) (en2 k.t (Kd.row ls).t)= .ok (.tup (ls.map Kd.t)):=by rw[ze,v1,bOk,Z8,bOk,Kd.t,Kd.ts_map,at1]
 have i0:zk eqC (zb ixT (vE 1) (cE (.int 0))) (cE (.str "row")) (en2 k.t (Kd.row ls).t)= .ok true:=by
  rw[zx,ze,v1,bOk,Z8,bOk,Kd.t,at0,bOk,Z8,bOk];rfl
 rw[zt i0];show Cm _ _ _ (za 2 _ _ (en2 k.t (Kd.row ls).t));rw[zn,zn,v0,bOk,Zd,i1,bOk,jg,aa,bOk,VJ k ls.length h1 hbigk,bOk,bOk];obtain⟨o1,o2,o3⟩:=qM k hk ls.length h1;have hk3:(kop k ls.length).length<=3:=by
  cases k with
  | row ks=>exact hk.2.1
  | many m lo hi=>
   have ek:kop (.many m lo hi) ls.length=if lo<=ls.length/\ls.length<=hi then ae ls.length m else []:=rfl
   rw[ek];split
   ·rw[aF];exact h3
   ·simp
  | _=>exact b6 _
 refine VL (d:=d) (kop k ls.length) ls ls.length h1 h3 rfl rfl (by rw[jg,aa]) (by rw[jg,aa]) hk3 (λa ha b hb=>ih a b (o1 a ha) (h4 b hb)) (λx hx=> ?_) o2 o3 (λ_ xs hxl=> ?_) (λz=>absurd rfl z) (.inr rfl)
 ·obtain⟨xs,a,b,_⟩:=vP ls x (bQ.mp hx).2;exact⟨xs,a,b⟩
 ·rw[Jy,hxl,beq_self_eq_true,cI]
theorem VM:∀(d n:Nat),3*d<=n->∀k l:Kd,k.Ok d->l.Ok d->Cm k l d (S_7 n 0 [k.t,l.t])
 | 0,_,_,_,_,h,_=>h.elim
 | d+1,n+3,hn,k,l,hk,hl=>by
  have ih:=VM d (n+1) (by omega)
  have e:S_7 (n+3) 0 [k.t,l.t]=zf (b_7 kv (S_7 (n+2) 1) G6 G7 (S_7 (n+2) 2) (en2 k.t l.t)):=by rw[S_7];rfl
  rw[e];unfold b_7;have r0:∀(x w:Str) (r:List T),l.t= .tup (.str x :: r)->zk eqC (zb ixT (vE 1) (cE (.int 0))) (cE (.str w)) (en2 k.t l.t)= .ok (x == w):=λx w r h=>by
   rw[zx,ze,v1,bOk,Z8,bOk,h,at0,bOk,Z8,bOk];rfl
  have n0:∀(x y:Str) (r q:List T),k.t= .tup (.str x :: r)->l.t= .tup (.str y :: q)->zk neC (zb ixT (vE 0) (cE (.int 0))) (zb ixT (vE 1) (cE (.int 0))) (en2 k.t l.t)= .ok (!(x == y)):=λx y r q h1 h2=>by
   rw[zx,ze,v0,bOk,Z8,bOk,h1,at0,bOk,ze,v1,bOk,Z8,bOk,h2,at0,bOk];rfl
  have c0:∀(x w:Str) (r:List T),k.t= .tup (.str x :: r)->zk eqC (zb ixT (vE 0) (cE (.int 0))) (cE (.str w)) (en2 k.t l.t)= .ok (x == w):=λx w r h=>by rw[h];exact cs0
  have hbig:∀m lo hi,l= .many m lo hi->hi<=3:=λm lo hi h=>by rw[h]at hl;exact hl.2.1
  have hbigk:∀m lo hi,k= .many m lo hi->hi<=3:=λm lo hi h=>by rw[h]at hk;exact hk.2.1
  cases k with
  | row ks=>
   rw[zt (by rw[Kd.t];exact cs0)]
   have hko:=hk;obtain⟨h1,h3,h4⟩:=hk;have el:za 2 (S_7 (n+2) 1) (z9 (zb ixT (vE 0) (cE (.int 1))) (z9 (za 2 kv (z9 (vE 1) (z9 (ap1 Zo (zb ixT (vE 0) (cE (.int 1)))) (zd)))) (zd))) (frz (en2 (Kd.row ks).t l.t))=S_7 (n+2) 1 [.tup (ks.map Kd.t),.tup ((kop l ks.length).map Kd.t)]:=by
    show za 2 _ _ (en2 (Kd.row ks).t l.t)=_;have i1:zb ixT (vE 0) (cE (.int 1)) (en2 (Kd.row ks).t l.t)= .ok (.tup (ks.map Kd.t)):=by rw[Kd.t,Kd.ts_map];exact ja
    rw[zn,i1,bOk,zn,v1,bOk,Zd,i1,bOk,jg,aa,bOk,VJ l ks.length h1 hbig,bOk]
   rw[el];obtain⟨o1,o2,o3⟩:=qM l hl ks.length h1;refine VL (d:=d) ks (kop l ks.length) ks.length h1 h3 rfl rfl (by rw[jg,aa]) (by rw[jg,aa]) h3 (λa ha b hb=>ih a b (h4 a ha) (o1 b hb)) (λx hx=> ?_) (λ_ xs hxl=> ?_) (λz=>absurd rfl z) o2 o3 (.inl rfl)
   ·obtain⟨xs,a,b,_⟩:=vP ks x (bQ.mp hx).1;exact⟨xs,a,b⟩
   ·rw[Jy,hxl,beq_self_eq_true,cI]
  | whole a b=>
   rw[zc (zo (by rw[Kd.t];exact cs0))]
   cases l with
   | row ls=>exact z29 hn ih (.whole a b) ls hk hl hbigk
   | whole c c' =>
    rw[zc (zo (r0 _ _ _ (by rw[Kd.t]))),zc (zo ((n0 _ _ _ _ (by rw[Kd.t]) (by rw[Kd.t])).trans rfl)),zt (c0 _ _ _ (by rw[Kd.t]))]
    show Cm _ _ _ (za 2 _ _ (en2 (Kd.whole a b).t (Kd.whole c c').t));rw[zn,v0,bOk,v1,bOk];exact qH a b c c' hk hl
   | pick cs=>
    rw[zc (zo (r0 _ _ _ (by rw[Kd.t]))),zt ((n0 _ _ _ _ (by rw[Kd.t]) (by rw[Kd.t])).trans rfl)]
    exact .inr ⟨rfl,λx=>by rw[Kd.has,Kd.has];cases x <;> simp[inR]⟩
   | many m lo hi=>
    rw[zc (zo (r0 _ _ _ (by rw[Kd.t]))),zt ((n0 _ _ _ _ (by rw[Kd.t]) (by rw[Kd.t])).trans rfl)]
    exact .inr ⟨rfl,λx=>by rw[Kd.has,Kd.has];cases x <;> simp[inR]⟩
  | pick cs=>
   rw[zc (zo (by rw[Kd.t];exact cs0))]
   cases l with
   | row ls=>exact z29 hn ih (.pick cs) ls hk hl hbigk
   | whole c c' =>
    rw[zc (zo (r0 _ _ _ (by rw[Kd.t]))),zt ((n0 _ _ _ _ (by rw[Kd.t]) (by rw[Kd.t])).trans rfl)]
    exact .inr ⟨rfl,λx=>by rw[Kd.has,Kd.has];cases x <;> simp[inR]⟩
   | pick es=>
    rw[zc (zo (r0 _ _ _ (by rw[Kd.t]))),zc (zo ((n0 _ _ _ _ (by rw[Kd.t]) (by rw[Kd.t])).trans rfl)),zc (zo (c0 _ _ _ (by rw[Kd.t]))),zt (c0 _ _ _ (by rw[Kd.t]))]
    show Cm _ _ _ (za 2 _ _ (en2 (Kd.pick cs).t (Kd.pick es).t));rw[zn,v0,bOk,v1,bOk];exact vN cs es hk hl
   | many m lo hi=>
    rw[zc (zo (r0 _ _ _ (by rw[Kd.t]))),zt ((n0 _ _ _ _ (by rw[Kd.t]) (by rw[Kd.t])).trans rfl)]
    exact .inr ⟨rfl,λx=>by rw[Kd.has,Kd.has];cases x <;> simp⟩
  | many q lo hi=>
   rw[zc (zo (by rw[Kd.t];exact cs0))]
   cases l with
   | row ls=>exact z29 hn ih (.many q lo hi) ls hk hl hbigk
   | whole c c' =>
    rw[zc (zo (r0 _ _ _ (by rw[Kd.t]))),zt ((n0 _ _ _ _ (by rw[Kd.t]) (by rw[Kd.t])).trans rfl)]
    exact .inr ⟨rfl,λx=>by rw[Kd.has,Kd.has];cases x <;> simp[inR]⟩
   | pick es=>
    rw[zc (zo (r0 _ _ _ (by rw[Kd.t]))),zt ((n0 _ _ _ _ (by rw[Kd.t]) (by rw[Kd.t])).trans rfl)]
    exact .inr ⟨rfl,λx=>by rw[Kd.has,Kd.has];cases x <;> simp⟩
   | many m lo' hi' =>
    rw[zc (zo (r0 _ _ _ (by rw[Kd.t]))),zc (zo ((n0 _ _ _ _ (by rw[Kd.t]) (by rw[Kd.t])).trans rfl)),zc (zo (c0 _ _ _ (by rw[Kd.t]))),zc (zo (c0 _ _ _ (by rw[Kd.t]))),zT]
    show Cm _ _ _ (za 2 _ _ (en2 (Kd.many q lo hi).t (Kd.many m lo' hi').t));rw[zn,v0,bOk,v1,bOk];exact vO q m lo hi lo' hi' hk hl (ih q m hk.2.2 hl.2.2)
theorem ZB {k:Kd}(hk:k.Ok 3):f_8 [k.t]= .ok .non:=by
 have hi:=qj 3 k hk;have e:f_8 [k.t]=zf (b_8 _ [.vl k.t]):=rfl;have ec:uH (WX (za 1 f_5 (z9 (vE 0) (zd)))) [.vl k.t]= .ok false:=by
  rw[JU,Jo,zj,v0,bOk,US k.t (wF 3 _ hi).so,hi];rfl
 rw[e,b_8,zo ec];rfl
theorem qN {k:Kd}(hk:k.Ok 3):Xo [k.t]= .ok (.int (k.all.length:Int)):=by
 show zf (z0f _ _ [.vl k.t])=_;rw[z0f,zc (Z9 (by rw[zj,v0,bOk,ZB hk])),zT]
 show za 1 _ _ [.vl k.t]=_;rw[zj,v0,bOk,Zg (by omega) hk]
def hasO:Option Kd->T->Bool
 | some c=>c.has
 | none=>λ_=>false
def okO (m:Nat):Option Kd->Prop
 | some c=>c.Ok 3/\c.all.length<=m
 | none=>True
theorem XQ {k l:Kd}(hk:k.Ok 3)(hl:l.Ok 3):Vy [k.t,l.t]=S_7 20 0 [k.t,l.t]:=by
 show zf (z0C _ _ (en2 k.t l.t))=_;unfold z0C;rw[zc (Z9 (by rw[zj,v0,bOk,ZB hk])),zc (Z9 (by rw[zj,v1,bOk,ZB hl])),zT]
 show za 2 _ _ (en2 k.t l.t)=_;rw[zn,v0,bOk,v1,bOk]
theorem com {k l:Kd}(hk:k.Ok 3)(hl:l.Ok 3):∃o:Option Kd,Vy [k.t,l.t]= .ok (qI o)/\okO k.all.length o/\(∀x,hasO o x=(k.has x && l.has x))/\
  ye [k.t,l.t]= .ok (.bl (match o with | some c=>c.all.length == k.all.length | none=>false))/\Xq [k.t,l.t]= .ok (.bl o.isNone):=by
 have hb:=XQ hk hl;have ew:∀t,Vy _= .ok t->ye [k.t,l.t]=Jd _ _ [.vl k.t,.vl l.t,.vl t]:=λt ht=>by
  have e1:zA 2 (za 2 Vy (z9 (vE 0) (z9 (vE 1) (zd)))) [.vl k.t,.vl l.t,.un]= .nx [.vl k.t,.vl l.t,.vl t]:=by
   rw[zy]
   ·rfl
   ·rw[zn,v0,bOk,v1,bOk,ht]
  show zf (z0D _ _ [.vl k.t,.vl l.t,.un])=_;unfold z0D;rw[zc e1,zT];rfl
 have ea:∀t,Vy _= .ok t->Xq [k.t,l.t]=JI _ (cE t) (cE _) []:=λt ht=>by
  show zf _=_;unfold z20;rw[zT];show JI _ _ _ (en2 k.t l.t)=_;rw[je,zn,v0,bOk,v1,bOk,ht];rfl
 rcases VM 3 20 (by omega) k l hk hl with ⟨c,a1,a2,a3⟩ | ⟨a1,a2⟩
 ·have hs:∀x,c.has x=true->k.has x=true:=λx hx=>by rw[a3]at hx;exact(bQ.mp hx).1
  obtain⟨y,r,hct⟩:=z28 c;refine⟨some c,hb.trans a1,⟨a2,(uk a2 hk hs).1⟩,a3, ?_, ?_⟩
  ·rw[ew _ (hb.trans a1)];have e0:JI wj (vB 2) (cE .non) [.vl k.t,.vl l.t,.vl c.t]= .ok (.bl true):=by rw[hct];rfl
   rw[Jn,e0,Zk,if_pos rfl,je,zj,v2,bOk,Zg (by omega) a2,bOk,zj,v0,bOk,Zg (by omega) hk,bOk,eqI,bOk,qb]
  ·rw[ea _ (hb.trans a1),hct];rfl
 ·refine⟨none,hb.trans a1,trivial,λx=>(a2 x).symm, ?_, ?_⟩
  ·rw[ew _ (hb.trans a1)];rfl
  ·rw[ea _ (hb.trans a1)];rfl
theorem ul {k l:Kd}(hk:k.Ok 3)(hl:l.Ok 3)(h:∀x,k.has x=true->l.has x=true):ye [k.t,l.t]= .ok (.bl true):=by
 obtain⟨o,b1,b2,b3,b4,b5⟩:=com hk hl;rw[b4];cases o with
 | none=>
  obtain⟨x,hx⟩:=jc (Z2 3 k hk);have h1:=(Ze k x).mp (aN hx);have:=b3 x;rw[h1,h x h1]at this;cases this
 | some c=>
  have b3:∀x,c.has x=(k.has x && l.has x):=b3;have h1:=(uk hk b2.1 λx hx=>by rw[b3,hx,h x hx];rfl).1
  have:=Nat.le_antisymm b2.2 h1;show R.ok (T.bl (c.all.length == k.all.length))=_;rw[this,beq_self_eq_true]
theorem y3 {k l:Kd}(hk:k.Ok 3)(hl:l.Ok 3)(h:ye [k.t,l.t]= .ok (.bl true)):∀x,k.has x=true->l.has x=true:=by
 obtain⟨o,b1,b2,b3,b4,b5⟩:=com hk hl;rw[b4]at h;cases o with
 | none=>cases h
 | some c=>
  have b3:∀x,c.has x=(k.has x && l.has x):=b3;have h:(c.all.length == k.all.length)=true:=by injection h with h;injection h
  intro x hx;have:=(uk b2.1 hk λx hx=>by rw[b3]at hx;exact(bQ.mp hx).1).2 (eq_of_beq h) x hx
  rw[b3]at this;exact(bQ.mp this).2
theorem qQ {k l:Kd}(hk:k.Ok 3)(hl:l.Ok 3):∃b,ye [k.t,l.t]= .ok (.bl b):=by
 obtain⟨o,_,_,_,b4,_⟩:=com hk hl;exact⟨_,b4⟩
theorem nb:neC (.bl b) (.bl b)= .ok false:=by cases b <;> rfl
noncomputable def near (lo hi:Int):Int:=if hi < (if lo > 0 then lo else 0) then hi else (if lo > 0 then lo else 0)
noncomputable def z2a (i:Int):Int:=if i < 0 then -i else i
noncomputable def wtz:List (T->Int)->List T->Int
 | f :: fs,x :: xs=>f x+wtz fs xs
 | _,_=>0
mutual
noncomputable def Kd.wt:Kd->T->Int
 | .whole lo hi=>λt=>match t with | .int i=>z2a (i - near lo hi) | _=>0
 | .pick cs=>λt=>match t with | .str x=>((cs.map (·.1)).idxOf x:Nat) | _=>0
 | .row ks=>λt=>match t with | .tup xs=>wtz (Kd.wtF ks) xs | _=>0
 | .many k lo hi=>λt=>match t with | .tup xs=>wtz (ae xs.length k.wt) xs+(xs.length:Int) - (lo:Int) | _=>0
noncomputable def Kd.wtF:List Kd->List (T->Int)
 | []=>[]
 | k :: ks=>k.wt :: Kd.wtF ks
end
theorem Kd.wtF_map:∀ks:List Kd,Kd.wtF ks=ks.map Kd.wt
 | []=>by simp only[Kd.wtF,c7]
 | k :: ks=>by simp only[Kd.wtF,ay,Kd.wtF_map ks]
theorem wM:inR lo hi x=true↔∃i,x= .int i/\lo<=i/\i<=hi:=by
 constructor
 ·intro h;obtain⟨i,rfl⟩:=YV h;simp[inR]at h;exact⟨i,rfl,h⟩
 ·rintro⟨i,rfl,h⟩
  simp[inR];exact h
theorem J0 {cs:List (Str×Int)}:(Kd.pick cs).has x=true↔∃w,x= .str w/\w∈cs.map (·.1):=by
 have key:∀w,(cs.any λc=>c.1 == w)=true↔w∈cs.map _:=λw=>by
  rw[cP,au];exact⟨λ⟨c,a,b⟩=>⟨c,a,beq_iff_eq.mp b⟩,λ⟨c,a,b⟩=>⟨c,a,beq_iff_eq.mpr b⟩⟩
 constructor
 ·intro h;cases x with
  | str w=>exact⟨w,rfl,(key w).mp h⟩
  | _=>cases h
 ·rintro⟨w,rfl,h⟩
  exact(key w).mpr h
theorem Gz {ws:List Str}{w:Str}(h:w∈ws):ws.idxOf w < ws.length:=eZ.mpr h
theorem GA {ws:List Str}{w:Str}(h:w∈ws):ws[ws.idxOf w]? =some w:=by
 rw[a9 (Gz h),ij _]
theorem GB {ws:List Str}(h:Dst ws){i:Nat}{w:Str}(hi:ws[i]? =some w):ws.idxOf w=i:=uj h (GA (aN hi)) hi
def Hs (ks:List Kd)(xs:List T):Prop:=xs.length=ks.length/\∀(i:Nat) (k:Kd) (x:T),ks[i]? =some k->xs[i]? =some x->k.has x=true
theorem Jz {α:Type}{l:List α}{i:Nat}{a:α}(h:l[i]? =some a):a∈l:=aN h
theorem VN {ks:List Kd}:(xs.length == ks.length && Kd.hass ks xs)=true↔Hs ks xs:=by
 rw[ah,beq_iff_eq,jt,aQ];constructor
 ·rintro⟨h1,h2⟩
  refine⟨h1,λi k x a b=>h2 (k,x) (aN (i:=i) ?_)⟩;rw[bV];exact⟨a,b⟩
 ·rintro⟨h1,h2⟩
  refine⟨h1,λq hq=> ?_⟩;obtain⟨i,hi⟩:=bK.mp hq;obtain⟨a,b⟩:=bV.mp hi;exact h2 i q.1 q.2 a b
theorem qR {k:Kd}{xs:List T}:xs.all k.has=true↔Hs (ae xs.length k) xs:=by
 rw[aQ];constructor
 ·intro h;refine⟨by simp,λi k' x a b=> ?_⟩
  obtain rfl:k=k' :=(iq.mp (Jz a)).2.symm;exact h x (Jz b)
 ·rintro⟨_,h⟩ x hx
  obtain⟨i,hi⟩:=bK.mp hx;have hl:=(ak.mp hi).1;exact h i k x (by rw[aU,if_pos hl]) hi
theorem um {ks:List Kd}(h:(Kd.row ks).has t=true):∃xs,t= .tup xs/\Hs ks xs:=by
 simp only[Kd.has]at h;split at h
 ·exact⟨_,rfl,VN.mp h⟩
 ·cases h
theorem wN (h:(Kd.many k lo hi).has t=true):∃xs,t= .tup xs/\lo<=xs.length/\xs.length<=hi/\Hs (ae xs.length k) xs:=by
 simp only[Kd.has]at h;split at h
 ·rw[ah,ah,decide_eq_true_eq,decide_eq_true_eq]at h;exact⟨_,rfl,h.1.1,h.1.2,qR.mp h.2⟩
 ·cases h
theorem XR {ks:List Kd}(h:Hs ks xs):(Kd.row ks).has (.tup xs)=true:=by exact VN.mpr h
theorem vQ (h1:lo<=xs.length)(h2:xs.length<=hi)(h:Hs (ae xs.length k) xs):(Kd.many k lo hi).has (.tup xs)=true:=by
 simp only[Kd.has];rw[ah,ah,decide_eq_true_eq,decide_eq_true_eq];exact⟨⟨h1,h2⟩,qR.mpr h⟩
theorem XS {α β:Type}(f:α->β)(n:Nat)(a:α):ae n (f a)=(ae n a).map f:=by rw[aI]
theorem XT {cs:List (Str×Int)}(hd:Dst (cs.map (·.1)))(h:w∈cs.map (·.1)):xY (.str w) (cs.map λc=>T.str c.1)= .ok (.int (((cs.map (·.1)).idxOf w:Nat):Int)):=by
 obtain⟨c,hc,rfl⟩:=au.mp h;obtain⟨i,hi⟩:=bK.mp hc;rw[Uh hd hi,GB hd (by rw[ar,hi];rfl)]
theorem XU (lo hi:Int):G5 [(Kd.whole lo hi).t]= .ok (.int (near lo hi)):=by
 have e:G5 [(Kd.whole lo hi).t]=zf (z0o [.vl (.tup [.str "whole",.int lo,.int hi])]):=by rfl
 rw[e,z0o,zg]
 ·rfl
 ·rfl
theorem qS:∀(ks:List Kd) (xs:List T),wtz (ks.map Kd.wt) xs=((ks.zip xs).map λq=>q.1.wt q.2).sum
 | [],xs=>by simp[wtz]
 | _ :: _,[]=>by simp[wtz]
 | k :: ks,x :: xs=>by simp only[ay,wtz,eP,d3,qS ks xs]
theorem J4 {α:Type}(g:α->Int):∀l:List α,Z5 (l.map λa=>T.int (g a))=some (l.map g)
 | []=>rfl
 | a :: l=>by
  show (match Z5 (l.map λa=>T.int _) with | some l' =>some _ | none=>none)=_
  rw[J4 g l];rfl
theorem uo {α:Type}(g:α->Int)(l:List α):Vl (.lst (l.map λa=>T.int (g a)))= .ok (.int (l.map g).sum):=by
 show (match Z5 (l.map λa=>T.int _) with | some l=>_ | none=>_)=_
 rw[J4]
theorem JA:∀(qs:List (Kd×T)) (x y:Sl),(∀q∈qs,c [q.1.t,q.2]= .ok (.int (q.1.wt q.2)))->zu (zM 0 1) zW (za 2 c (z9 (vE 0) (z9 (vE 1) (zd)))) (qs.map λq=>T.tup [q.1.t,q.2]) [x,y]= .ok (qs.map λq=>T.int (q.1.wt q.2))
 | [],_,_,_=>rfl
 | q :: qs,x,y,h=>by
  have e:za 2 c (z9 (vE 0) (z9 (vE 1) (zd))) [.vl q.1.t,.vl q.2]= .ok (.int (q.1.wt q.2)):=by
   rw[zn,v0,bOk,v1,bOk,h q ac]
  have ih:=JA qs (.vl q.1.t) (.vl q.2) λr hr=>h r (a8 _ hr);have e0:zu (zM 0 1) zW (za 2 c (z9 (vE 0) (z9 (vE 1) (zd)))) ((q :: qs).map λq=>T.tup [q.1.t,q.2]) [x,y]=
   (za 2 c _ [.vl _,.vl q.2]).bind λv=>(zu _ _ _ (qs.map λq=>T.tup _) [.vl _,.vl q.2]).bind λvs=> .ok _:=rfl
  rw[e0,e,bOk,ih,bOk,ay]
theorem WJ (ks:List Kd)(xs:List T)(hs:Zu s= .ok (ks.map Kd.t))(hl:ks.length<=3)(H:∀q∈ks.zip xs,c [q.1.t,q.2]= .ok (.int (q.1.wt q.2))):
  zf (z0p c (en0 2 [s,.tup xs]))= .ok (.int (wtz (ks.map Kd.wt) xs)):=by
 have ez:uP (vE 0) (vE 1) [.vl s,.vl (.tup xs)]= .ok ((ks.zip xs).map λq=>T.tup [q.1.t,q.2]):=by
  show (Zu s).bind _=_;rw[hs,← vH];rfl
 have hb:((ks.zip xs).map λq=>T.tup [q.1.t,q.2]).length<=bnd:=by
  rw[aa,cY];exact aq (fW _ _) (aq hl (by decide))
 have ec:zF (zM 0 1) zW (za 2 c (z9 (vE 0) (z9 (vE 1) (zd)))) 2 [] [.vl s,.vl (.tup xs)] ((ks.zip xs).map λq=>T.tup [q.1.t,q.2])= .ok ((ks.zip xs).map λq=>T.int (q.1.wt q.2)):=by
  unfold zF;rw[if_pos hb];show quiet (zu _ _ _ _ [.un,.un])=_;rw[JA _ _ _ H];rfl
 rw[z0p,zg]
 ·rfl
 ·show ap1 _ _ [.vl s,.vl _]=_;rw[Zd,zY,ez,bOk,ec,bOk,bOk,uo,qS]
theorem qT {ks:List Kd}(h:Hs ks xs):∀q∈ks.zip xs,q.1.has q.2=true:=λq hq=>by
 obtain⟨i,hi⟩:=bK.mp hq;obtain⟨a,b⟩:=bV.mp hi;exact h.2 i q.1 q.2 a b
theorem GC:kr (.int i)= .ok (.int (z2a i)):=rfl
theorem GD:∀(d n:Nat),2*d<=n->∀(k:Kd) (x:T),k.Ok d->k.has x=true->S_p n 0 [k.t,x]= .ok (.int (k.wt x))
 | 0,_,_,_,_,h,_=>h.elim
 | d+1,n+2,hn,k,x,h,hx=>by
  have ih:=GD d n (by omega)
  have e:S_p (n+2) 0 [k.t,x]=zf (b_p f_e G5 (S_p (n+1) 1) (en0 2 [k.t,x])):=by rw[S_p]
  have e1:∀s y,S_p (n+1) 1 [s,y]=zf _:=λs y=>by rw[S_p];intro h;cases h
  rw[e];cases k with
  | whole lo hi=>
   obtain⟨i,rfl,hi'⟩:=wM.mp hx;have e:en0 2 [(Kd.whole lo hi).t,.int i]=en2 (.tup [.str "whole",.int lo,.int hi]) (.int i):=by rw[Kd.t];rfl
   have hn:=XU lo hi;rw[Kd.t]at hn;rw[e,b_p,zB (t:= .int (z2a _))]
   ·rfl
   ·rw[VE,zg];show ap1 _ _ (en2 _ _)=_;rw[Zd,ze,v1,bOk,zj,v0,bOk,hn,bOk,j0,bOk,GC]
  | pick cs=>
   obtain⟨w,rfl,hw⟩:=J0.mp hx;have e:en0 2 [(Kd.pick cs).t,.str w]=en2 (.tup [.str "pick",.tup (cs.map ZU)]) (.str w):=by rfl
   have hw' :=j5 cs h.2.1;rw[Kd.t]at hw';rw[e,b_p,zc (wZ (by decide)),zB (t:= .int (((cs.map _).idxOf w:Nat):Int))]
   ·rfl
   ·rw[VE,zg];show KW _ _ _ (en2 _ _)=_;unfold KW;rw[zj,v0,bOk,hw',bOk];dsimp only;rw[w1,bOk,XT h.2.2.2 hw]
  | row ks=>
   obtain⟨xs,rfl,hs⟩:=um hx;have e:en0 2 [(Kd.row ks).t,.tup xs]=en2 (.tup [.str "row",.tup (ks.map Kd.t)]) (.tup xs):=by rw[Kd.t,Kd.ts_map];rfl
   rw[e,b_p,zc (wZ (by decide)),zc (wZ (by decide)),zB]
   ·simp only[Kd.wt,Kd.wtF_map];rfl
   ·rw[VE,zg];show za _ _ _ (en2 _ _)=_;rw[zn,ja,bOk,v1,bOk,e1,WJ ks xs rfl h.2.1 λq hq=>ih q.1 q.2 (h.2.2 q.1 (bA hq).1) (qT hs q hq)]
  | many k lo hi=>
   obtain⟨xs,rfl,h1,h2,hs⟩:=wN hx;have h3:=aq h2 h.2.1;have e:en0 2 [(Kd.many k lo hi).t,.tup xs]=en2 (.tup [.str "many",k.t,.int (lo),.int (hi)]) (.tup xs):=by rfl
   have em:zb zN (jm (z9 (zb ixT (vE 0) (cE (.int 1))) (zd))) (ap1 Zo (vB 1)) (en2 (.tup [.str "many",k.t,.int (lo),.int (hi)]) (.tup xs))= .ok (.lst ((ae xs.length k).map Kd.t)):=by
    rw[ze,XA ja,bOk,Zd,w1,bOk,jg,bOk,Ju h3,Zn,aI]
   rw[e,b_p,zc (wZ (by decide)),zc (wZ (by decide)),zc (wZ (by decide)),zg]
   ·simp only[Kd.wt,XS];rfl
   ·show zb _ _ _ (en2 _ _)=_;have ec:=WJ (s:= .lst _) _ xs rfl (by rw[aF];exact h3) λq hq=>ih q.1 q.2 (by
     rw[aY (bA hq).1];exact h.2.2) (qT hs q hq)
    rw[ze,ze,zn,em,bOk,v1,bOk,e1,ec,bOk,Zd,w1,bOk,jg,bOk,zR,bOk,wH,bOk,j0]
theorem GE (h:xs.length+ys.length<=bnd):zq (.lst xs) (.lst ys)= .ok (.lst (xs++ys)):=if_pos h
theorem uq:∀(l:List Int) (i:Int),ZE (λa b=>decide (a < b)) i l∈i :: l/\∀x∈i :: l,ZE (λa b=>decide (a < b)) i l<=x
 | [],i=>⟨ac,λx h=>by simp at h;subst h;exact j_ _⟩
 | j :: r,i=>by
  unfold ZE
  by_cases hj:j < i
  ·simp only[hj,decide_true,if_true];obtain⟨h1,h2⟩:=uq r j;refine⟨a8 _ h1,λx hx=> ?_⟩;rcases aj.mp hx with rfl | hx
   ·exact di (h2 j ac) (iG hj)
   ·exact h2 x hx
  ·simp only[hj,decide_false,aB,if_false];obtain⟨h1,h2⟩:=uq r i;refine⟨?_,λx hx=> ?_⟩
   ·rcases aj.mp h1 with h | h
    ·rw[h];exact ac
    ·exact a8 _ (a8 _ h)
   ·rcases aj.mp hx with rfl | hx
    ·exact h2 x ac
    ·rcases aj.mp hx with rfl | hx
     ·exact di (h2 i ac) (lg.mp hj)
     ·exact h2 x (a8 _ hx)
theorem ur:∀(l:List Int) (i:Int),ZE (λa b=>decide (b < a)) i l∈i :: l/\∀x∈i :: l,x<=ZE (λa b=>decide (b < a)) i l
 | [],i=>⟨ac,λx h=>by simp at h;subst h;exact j_ _⟩
 | j :: r,i=>by
  unfold ZE
  by_cases hj:i < j
  ·simp only[hj,decide_true,if_true];obtain⟨h1,h2⟩:=ur r j;refine⟨a8 _ h1,λx hx=> ?_⟩;rcases aj.mp hx with rfl | hx
   ·exact di (iG hj) (h2 j ac)
   ·exact h2 x hx
  ·simp only[hj,decide_false,aB,if_false];obtain⟨h1,h2⟩:=ur r i;refine⟨?_,λx hx=> ?_⟩
   ·rcases aj.mp h1 with h | h
    ·rw[h];exact ac
    ·exact a8 _ (a8 _ h)
   ·rcases aj.mp hx with rfl | hx
    ·exact h2 x ac
    ·rcases aj.mp hx with rfl | hx
     ·exact di (lg.mp hj) (h2 i ac)
     ·exact h2 x (a8 _ hx)
theorem z2b {α:Type}{g:α->Int}{l:List α}(h:∃a∈l,g a=m)(hm:∀a∈l,m<=g a):z1T (.lst (l.map λa=>T.int (g a)))= .ok (.int m):=by
 show (match Z5 (l.map λa=>T.int _) with | some (i :: l)=>_ | _=>_)=_
 rw[J4];cases l with
 | nil=>obtain⟨a,ha,_⟩:=h;cases ha
 | cons b l=>
  obtain⟨h1,h2⟩:=uq _ _;have e:ZE (λa b=>decide (a < b)) (g b) (l.map g)=m:=by
   obtain⟨a,ha,e⟩:=h;refine fT ?_ ?_
   ·rw[← e];refine h2 _ ?_;exact au.mpr ⟨a,ha,rfl⟩
   ·rw[← ay]at h1;obtain⟨c,hc,ec⟩:=au.mp h1;rw[← ec];exact hm c hc
  show R.ok _=_;rw[e]
theorem XV {α:Type}{g:α->Int}{l:List α}(h:∃a∈l,g a=m)(hm:∀a∈l,g a<=m):z1S (.lst (l.map λa=>T.int (g a)))= .ok (.int m):=by
 show (match Z5 (l.map λa=>T.int _) with | some (i :: l)=>_ | _=>_)=_
 rw[J4];cases l with
 | nil=>obtain⟨a,ha,_⟩:=h;cases ha
 | cons b l=>
  obtain⟨h1,h2⟩:=ur _ _;have e:ZE (λa b=>decide (b < a)) (g b) (l.map g)=m:=by
   obtain⟨a,ha,e⟩:=h;refine fT ?_ ?_
   ·rw[← ay]at h1;obtain⟨c,hc,ec⟩:=au.mp h1;rw[← ec];exact hm c hc
   ·rw[← e];refine h2 _ ?_;exact au.mpr ⟨a,ha,rfl⟩
  show R.ok _=_;rw[e]
mutual
noncomputable def Kd.dp:Kd->Int
 | .whole _ _=>1
 | .pick _=>1
 | .row ks=>1+Kd.dpm ks
 | .many k _ _=>1+k.dp
noncomputable def Kd.dpm:List Kd->Int
 | []=>0
 | k :: ks=>if Kd.dpm ks < k.dp then k.dp else Kd.dpm ks
end
mutual
noncomputable def Kd.wds:Kd->List Str
 | .whole _ _=>[]
 | .pick cs=>cs.map (·.1)
 | .row ks=>Kd.wdss ks
 | .many k _ _=>k.wds
noncomputable def Kd.wdss:List Kd->List Str
 | []=>[]
 | k :: ks=>k.wds++Kd.wdss ks
end
mutual
noncomputable def Kd.rlo:Kd->Int
 | .whole lo _=>lo
 | .pick _=>0
 | .row ks=>Kd.rlos ks
 | .many k lo hi=>if (hi:Int)*k.rlo < (lo:Int)*k.rlo then (hi:Int)*k.rlo else (lo:Int)*k.rlo
noncomputable def Kd.rlos:List Kd->Int
 | []=>0
 | k :: ks=>k.rlo+Kd.rlos ks
end
mutual
noncomputable def Kd.rhi:Kd->Int
 | .whole _ hi=>hi
 | .pick _=>0
 | .row ks=>Kd.rhis ks
 | .many k lo hi=>if (hi:Int)*k.rhi > (lo:Int)*k.rhi then (hi:Int)*k.rhi else (lo:Int)*k.rhi
noncomputable def Kd.rhis:List Kd->Int
 | []=>0
 | k :: ks=>k.rhi+Kd.rhis ks
end
theorem Ul:∀ks:List Kd,Kd.rlos ks=(ks.map Kd.rlo).sum
 | []=>by simp[Kd.rlos]
 | k :: ks=>by simp only[Kd.rlos,ay,d3,Ul ks]
theorem Um:∀ks:List Kd,Kd.rhis ks=(ks.map Kd.rhi).sum
 | []=>by simp[Kd.rhis]
 | k :: ks=>by simp only[Kd.rhis,ay,d3,Um ks]
theorem JB:∀ks:List Kd,Kd.wdss ks=ks.flatMap Kd.wds
 | []=>by simp[Kd.wdss]
 | k :: ks=>by simp only[Kd.wdss,aK,JB ks]
theorem wO:∀ks:List Kd,(∀k∈ks,1<=k.dp)->0<=Kd.dpm ks/\(∀k∈ks,k.dp<=Kd.dpm ks)/\(ks ≠ []->∃k∈ks,k.dp=Kd.dpm ks)
 | [],_=>⟨by simp[Kd.dpm],λk h=>(by cases h),λh=>absurd rfl h⟩
 | k :: ks,h=>by
  obtain⟨h0,h1,h2⟩:=wO ks λq hq=>h q (a8 _ hq);have hk:=h k ac;simp only[Kd.dpm]
  by_cases e:Kd.dpm ks < k.dp
  ·rw[if_pos e];refine⟨by omega,λq hq=> ?_,λ_=>⟨k,ac,rfl⟩⟩
   rcases aj.mp hq with rfl | hq
   ·omega
   ·have:=h1 q hq;omega
  ·rw[if_neg e];refine⟨h0,λq hq=> ?_,λ_=> ?_⟩
   ·rcases aj.mp hq with rfl | hq
    ·omega
    ·exact h1 q hq
   ·by_cases hn:ks=[]
    ·subst hn;simp only[Kd.dpm]at e;omega
    ·obtain⟨q,hq,e'⟩:=h2 hn;exact⟨q,a8 _ hq,e'⟩
theorem jO:∀(d:Nat) (k:Kd),k.Ok d->1<=k.dp
 | 0,_,h=>h.elim
 | d+1,.whole lo hi,_=>by simp[Kd.dp]
 | d+1,.pick cs,_=>by simp[Kd.dp]
 | d+1,.row ks,h=>by
  have:=(wO ks λk hk=>jO d k (h.2.2 k hk)).1;simp only[Kd.dp];omega
 | d+1,.many k lo hi,h=>by
  have:=jO d k h.2.2;simp only[Kd.dp];omega
theorem qU:∀(d:Nat) (k:Kd),k.Ok d->∀m:Nat,k.dp<=(m:Int)->k.Ok m
 | 0,_,h,_,_=>h.elim
 | d+1,k,h,0,hm=>by have:=jO _ k h;omega
 | d+1,.whole lo hi,h,m+1,_=>h
 | d+1,.pick cs,h,m+1,_=>h
 | d+1,.row ks,h,m+1,hm=>by
  refine⟨h.1,h.2.1,λk hk=>qU d k (h.2.2 k hk) m ?_⟩;have:=(wO ks λk hk=>jO d k (h.2.2 k hk)).2.1 k hk;simp only[Kd.dp]at hm;omega
 | d+1,.many k lo hi,h,m+1,hm=>by
  refine⟨h.1,h.2.1,qU d k h.2.2 m ?_⟩;simp only[Kd.dp]at hm;omega
theorem Uo {t:T}{x:Str}{r:List T}(ht:t= .tup (.str x :: r))(h1:(x == "row")=false)(h2:(x == "many")=false):f_f [t]= .ok (.tup []):=by
 subst ht;show zf (b_f [.vl _])=_;rw[b_f,zc (zo (by rw[cs0,h1])),zc (zo (by rw[cs0,h2])),zg]
 ·rfl
 ·rfl
noncomputable def w4:Kd->List Kd
 | .row ks=>ks
 | .many k _ _=>[k]
 | _=>[]
theorem VO (k:Kd):f_f [k.t]= .ok (.tup ((w4 k).map Kd.t)):=by
 cases k with
 | whole lo hi=>exact Uo (by rw[Kd.t]) rfl rfl
 | pick cs=>exact Uo (by rw[Kd.t]) rfl rfl
 | row ks=>
  have e:f_f [(Kd.row ks).t]=zf (b_f [.vl (.tup [.str "row",.tup (ks.map Kd.t)])]):=by rw[Kd.t,Kd.ts_map];rfl
  rw[e,b_f,zB (t:= .tup (ks.map _))]
  ·rfl
  ·rw[wI (by rw[cs0,beq_self_eq_true]),zg]
   show zb _ _ _ [.vl _]=_;rw[ja]
 | many k lo hi=>
  have e:f_f [(Kd.many k lo hi).t]=zf (b_f [.vl (mt k.t lo hi)]):=by rfl
  rw[e,b_f,zc (zo (by rfl)),zB (t:= .tup [k.t])]
  ·rfl
  ·rw[wI (by rw[cs0,beq_self_eq_true]),zg]
   show zG _ [.vl _]=_;rw[tup1 ja]
theorem qV (h:k.Ok (d+1)):(w4 k).length<=3/\∀q∈w4 k,q.Ok d:=by
 cases k with
 | whole lo hi=>exact⟨by simp[w4],λq hq=>by cases hq⟩
 | pick cs=>exact⟨by simp[w4],λq hq=>by cases hq⟩
 | row ks=>exact⟨h.2.1,h.2.2⟩
 | many k lo hi=>exact⟨by simp[w4],λq hq=>by rw[aC.mp hq];exact h.2.2⟩
theorem XW (h:k.Ok (d+1)):k.dp=1+Kd.dpm (w4 k):=by
 cases k with
 | whole lo hi=>simp[Kd.dp,w4,Kd.dpm]
 | pick cs=>simp[Kd.dp,w4,Kd.dpm]
 | row ks=>simp[Kd.dp,w4]
 | many k lo hi=>
  have h1:=jO d k h.2.2;have h0:Kd.dpm []=0:=by simp only[Kd.dpm]
  have e:Kd.dpm [k]=k.dp:=by rw[Kd.dpm,if_pos (by omega)]
  show (Kd.many k lo hi).dp=1+Kd.dpm [k];rw[e,Kd.dp]
theorem XX {ks:List Kd}(h:∀k∈ks,1<=k.dp)(hf:f ρ= .ok (.lst (ks.map λk=>T.int k.dp)))(hg:g ρ= .ok (.int 0)):vd f g ρ= .ok (.int (Kd.dpm ks)):=by
 unfold vd;rw[hf,hg];cases ks with
 | nil=>rfl
 | cons k r=>
  obtain⟨h0,h1,h2⟩:=wO _ h;obtain⟨q,hq,e⟩:=h2 (by simp)
  exact XV ⟨q,hq,e⟩ h1
theorem qW:∀(d n:Nat),d<=n->∀k:Kd,k.Ok d->S_w n 0 [k.t]= .ok (.int k.dp)
 | 0,_,_,_,h=>h.elim
 | d+1,n+1,hn,k,h=>by
  obtain⟨h3,hk⟩:=qV h;have e:S_w (n+1) 0 [k.t]=zf (b_w f_f (S_w n 0) [.vl k.t]):=by rw[S_w];rfl
  have ec:zF (zE 0) zW (za 1 (S_w n 0) (z9 (vE 0) (zd))) 1 [] [.vl k.t] ((w4 k).map Kd.t)= .ok ((w4 k).map λq=>T.int q.dp):=by
   have:=zH (fe:=za 1 (S_w n 0) (z9 (vE 0) _)) (k:=1) (js:=[]) (ρ:=[.vl k.t]) (h:=λt=>match S_w n 0 [t] with | .ok u=>u | _=> .non) ((w4 k).map Kd.t) (by rw[aa];exact aq h3 (by decide)) λt ht=>by
    obtain⟨q,hq,rfl⟩:=au.mp ht;show za 1 _ _ [.vl q.t]=_;rw[zj,v0,bOk,qW d n (by omega) q (hk q hq)]
   rw[this,aO];exact congrArg _ (br λq hq=>by
    show (match S_w n 0 _ with | .ok u=>u | _=> .non)=_
    rw[qW d n (by omega) q (hk q hq)])
  rw[e,b_w,zg]
  ·rw[XW h];rfl
  ·show zb _ _ _ [.vl k.t]=_;rw[ze,Z8,bOk,XX (λq hq=>jO d q (hk q hq)),bOk,zR]
   ·rw[zY,jr,zj,v0,bOk,VO];show (R.bind (R.ok _) _)=_;rw[bOk];exact(by rw[ec,bOk])
   ·rfl
theorem Up (h:∀cs,k ≠ .pick cs):k.wds=(w4 k).flatMap Kd.wds:=by
 cases k with
 | whole lo hi=>simp[Kd.wds,w4]
 | pick cs=>exact absurd rfl (h cs)
 | row ks=>simp only[Kd.wds,w4,JB]
 | many k lo hi=>simp[Kd.wds,w4]
theorem qY {α β:Type}{f:α->List β}:∀{l:List α},(∀a∈l,(f a).length<=m)->(l.flatMap f).length<=l.length*m
 | [],_=>by simp
 | a :: l,h=>by
  have x:=h a ac;have y:=qY λb hb=>h b (a8 _ hb);rw[aK,az,aw,eh];omega
theorem JC:∀(d:Nat) (k:Kd),k.Ok (d+1)->k.wds.length<=4*3 ^ d
 | d,.whole lo hi,_=>by simp[Kd.wds]
 | d,.pick cs,h=>by
  have:1<=3 ^ d:=eK (by simp)
  have:=h.2.1;simp only[Kd.wds,aa];omega
 | 0,.row ks,h=>by
  have h1:=h.1;obtain⟨k,hk⟩:=jc (h1);exact(h.2.2 k (Jz hk)).elim
 | d+1,.row ks,h=>by
  simp only[Kd.wds,JB];have a:=qY λk hk=>JC d k (h.2.2 k hk);have b:ks.length*(4*3 ^ d)<=3*(4*3 ^ d):=dg _ h.2.1;omega
 | 0,.many k lo hi,h=>h.2.2.elim
 | d+1,.many k lo hi,h=>by
  have:=JC d k h.2.2;simp only[Kd.wds];omega
theorem GF (hi:ρ[i]? =some (.ow ts))(h:f ρ= .ok (.lst us))(hl:ts.length+us.length<=bnd):ya i f ρ= .nx (ρ.set i (.ow (ts++us))):=by
 unfold ya;rw[hi];dsimp only;rw[h,ZO];dsimp only;rw[if_pos hl]
theorem qZ:∀(ks:List Kd) (acc:List T) (x:Sl),(∀k∈ks,c [k.t]= .ok (.lst (k.wds.map T.str)))->acc.length+(ks.flatMap Kd.wds).length<=bnd->∃x',Za (zE 2) (ya 1 (za 1 c (z9 (vE 2) (zd)))) (ks.map Kd.t) [K,.ow acc,x]= .nx [K,.ow (acc++(ks.flatMap Kd.wds).map T.str),x']
 | [],acc,x,_,_=>⟨x,by show RS.nx _=RS.nx _;rw[fE,c7,bz]⟩
 | k :: ks,acc,x,h,hb=>by
  rw[aK,az]at hb;obtain⟨x',ih⟩:=qZ ks (acc++k.wds.map T.str) _ (λq hq=>h q (a8 _ hq)) (by rw[az,aa];omega)
  refine⟨x', ?_⟩;have e:ya 1 (za 1 c (z9 (vE 2) _)) [K,.ow acc,.vl k.t]= .nx [K,.ow _,.vl k.t]:=
   GF rfl (by rw[zj,v2,bOk,h k ac]) (by simp;omega)
  rw[ay,jb rfl e,ih,aK,bC,bI]
theorem JD:∀(d n:Nat),d<=n->d<=3->∀k:Kd,k.Ok d->S_2 n 0 [k.t]= .ok (.lst (k.wds.map T.str))
 | 0,_,_,_,_,h=>h.elim
 | d+1,n+1,hn,hd,k,h=>by
  have hb1:bnd=16777216:=rfl;obtain⟨h3,hk⟩:=qV h;have e:S_2 (n+1) 0 [k.t]=zf (b_2 f_e f_f (S_2 n 0) [.vl k.t,.un,.un]):=by rw[S_2];rfl
  rw[e,b_2]
  by_cases hp:∃cs,k= .pick cs
  ·obtain⟨cs,rfl⟩:=hp;rw[zB (t:= .lst (cs.map λc=>T.str c.1))]
   ·simp only[Kd.wds,aO];rfl
   ·rw[wI (by rw[Kd.t,cs0,beq_self_eq_true]),zg]
    show za 1 _ _ [.vl _,.un,.un]=_;rw[zj,v0,bOk,j5 cs h.2.1]
  ·have hp' :=λcs e=>hp ⟨cs,e⟩;have hf:zk eqC (zb ixT (vE 0) (cE (.int 0))) (cE (.str "pick")) [.vl k.t,.un,.un]= .ok false:=by
    cases k with
    | pick cs=>exact absurd rfl (hp' cs)
    | whole lo hi=>rfl
    | row ks=>rfl
    | many k lo hi=>rfl
   have hlen:((w4 k).flatMap Kd.wds).length<=36:=by
    rw[← Up hp'];have:=JC d k h;have:3 ^ d<=3 ^ 2:=cF (by omega) (by omega)
    omega
   obtain⟨x',hL⟩:=qZ _ [] .un (λq hq=>JD d n (by omega) (by omega) q (hk q hq)) (by rw[bN];omega)
   have e1:y9 1 zd [.vl k.t,.un,.un]= .nx [.vl k.t,.ow [],.un]:=rfl;have e2:ZN (Zm (za 1 f_f (z9 (vE 0) (zd)))) (zE 2) (ya 1 (za 1 (S_2 n 0) (z9 (vE 2) (zd)))) [.vl k.t,.ow [],.un]= .nx [.vl k.t,.ow ([]++((w4 k).flatMap Kd.wds).map T.str),x']:=by
    have ei:Zm (za 1 f_f (z9 (vE 0) (zd))) [.vl k.t,.ow [],.un]= .ok ((w4 k).map Kd.t):=by
     rw[jr,zj,v0,bOk,VO];rfl
    unfold ZN;rw[ei];exact hL
   rw[zc (zo hf),zc e1,zc e2,zg]
   ·rfl
   ·rw[Up hp'];rfl
theorem cmap {ks:List Kd}{h:Kd->T}{js:List Nat}(hl:ks.length<=3)(H:∀k∈ks,c [k.t]= .ok (h k))(hρ:∀t,(wY 1 js ρ).set 0 (.vl t)= .vl t :: (wY 1 js ρ).tail):zF (zE 0) zW (za 1 c (z9 (vE 0) (zd))) 1 js ρ (ks.map Kd.t)= .ok (ks.map h):=by
 have:=zH (fe:=za 1 c (z9 (vE 0) _)) (h:=λt=>match c [t] with | .ok u=>u | _=> .non) (ks.map Kd.t) (by rw[aa];exact aq hl (by decide)) λt ht=>by
  obtain⟨q,hq,rfl⟩:=au.mp ht;rw[hρ,zj,v0,bOk,H q hq]
 rw[this,aO];exact congrArg _ (br λq hq=>by
  show (match c _ with | .ok u=>u | _=> .non)=_
  rw[H q hq])
theorem pr0 {α:Type}{a b:α->T}:∀(qs:List α) (x y:Sl),zu (zM 0 1) zW (vE 0) (qs.map λq=>T.tup [a q,b q]) [x,y]= .ok (qs.map a)
 | [],_,_=>rfl
 | q :: qs,x,y=>by
  have e:zu (zM 0 1) zW (vE 0) ((q :: qs).map λq=>T.tup [a q,b q]) [x,y]=(zu _ _ _ (qs.map λq=>T.tup _) [.vl _,.vl _]).bind λvs=> .ok _:=rfl;rw[e,pr0 qs];rfl
theorem pr1 {α:Type}{a b:α->T}:∀(qs:List α) (x y:Sl),zu (zM 0 1) zW (vE 1) (qs.map λq=>T.tup [a q,b q]) [x,y]= .ok (qs.map b)
 | [],_,_=>rfl
 | q :: qs,x,y=>by
  have e:zu (zM 0 1) zW (vE 1) ((q :: qs).map λq=>T.tup [a q,b q]) [x,y]=(zu _ _ _ (qs.map λq=>T.tup _) [.vl _,.vl _]).bind λvs=> .ok _:=rfl;rw[e,pr1 qs];rfl
theorem pr0R {α:Type}{a b:α->T}{qs:List α}(hl:qs.length<=1000):zF (zM 0 1) zW (vE 0) 2 [] ρ (qs.map λq=>T.tup [a q,b q])= .ok (qs.map a):=by
 unfold zF;rw[if_pos (by rw[aa];exact aq hl (by decide))]
 show quiet (zu _ _ _ _ [.un,.un])=_;rw[pr0];rfl
theorem pr1R {α:Type}{a b:α->T}{qs:List α}(hl:qs.length<=1000):zF (zM 0 1) zW (vE 1) 2 [] ρ (qs.map λq=>T.tup [a q,b q])= .ok (qs.map b):=by
 unfold zF;rw[if_pos (by rw[aa];exact aq hl (by decide))]
 show quiet (zu _ _ _ _ [.un,.un])=_;rw[pr1];rfl
abbrev rT (k:Kd):T:= .tup [.int k.rlo,.int k.rhi]
theorem vR (h1:0<=i)(h2:i<=3):zN (.int i) (.int j)= .ok (.int (i*j)):=YU _ _ (.inl ⟨by omega,by omega⟩)
theorem VP (i j:Int):Jh (.int i) (.int j)= .ok (.int (if j > i then j else i)):=rfl
theorem vS (h:lo<=hi)(h3:hi<=3)(hc:c [k.t]= .ok (rT k)):zf (z0v c (en0 2 [(Kd.many k lo hi).t]))= .ok (rT (.many k lo hi)):=by
 have e:en0 2 [(Kd.many k lo hi).t]=[.vl (mt k.t lo hi),.un]:=by rfl
 have e1:zA 1 (za 1 c (z9 (zb ixT (vE 0) (cE (.int 1))) (zd))) [.vl (mt k.t lo hi),.un]= .nx [.vl (mt k.t lo hi),.vl (rT k)]:=by
  rw[zy]
  ·rfl
  ·rw[zj,ja,bOk,hc]
 have a0:zb ixT (vE 1) (cE (.int 0)) [.vl (mt k.t lo hi),.vl (rT k)]= .ok (.int k.rlo):=by rw[ze,v1,bOk,Z8,bOk,at0]
 have a1:zb ixT (vE 1) (cE (.int 1)) [.vl (mt k.t lo hi),.vl (rT k)]= .ok (.int k.rhi):=by rw[ze,v1,bOk,Z8,bOk,at1]
 rw[e,z0v,zc e1,zg]
 ·rfl
 ·show zG _ [.vl _,.vl _]=_;rw[Jq]
  ·rw[ze,ze,wH,bOk,a0,bOk,vR (by omega) (by omega),bOk,ze,UW,bOk,a0,bOk,vR (by omega) (by omega),bOk,YT]
   simp only[Kd.rlo]
  ·rw[ze,ze,wH,bOk,a1,bOk,vR (by omega) (by omega),bOk,ze,UW,bOk,a1,bOk,vR (by omega) (by omega),bOk,VP]
   simp only[Kd.rhi]
theorem JE:∀(d n:Nat),2*d<=n->∀k:Kd,k.Ok d->S_a n 0 [k.t]= .ok (rT k)
 | 0,_,_,_,h=>h.elim
 | d+1,n+2,hn,k,h=>by
  have ih:=JE d;have e:S_a (n+2) 0 [k.t]=zf (b_a (S_a (n+1) 0) (S_a (n+1) 1) (en0 2 [k.t])):=by rw[S_a]
  have e1:∀s,S_a (n+1) 1 [s]=zf _:=λs=>by rw[S_a];intro h;cases h
  rw[e];cases k with
  | whole lo hi=>
   have e:en0 2 [(Kd.whole lo hi).t]=[.vl (.tup [.str "whole",.int lo,.int hi]),.un]:=by rw[Kd.t];rfl
   rw[e,b_a,zB]
   ·rfl
   ·rw[wI (by rw[cs0,beq_self_eq_true]),zg]
    show zG _ [.vl (.tup _),.un]=_;rw[Jq ja wH];simp only[rT,Kd.rlo,Kd.rhi]
  | pick cs=>
   rw[b_a,zc (zo (by rfl)),zB]
   ·rfl
   ·rfl
  | row ks=>
   have e:en0 2 [(Kd.row ks).t]=[.vl (.tup [.str "row",.tup (ks.map Kd.t)]),.un]:=by rw[Kd.t,Kd.ts_map];rfl
   have ec:zF _ _ (za 1 (S_a (n+1) 0) _) 1 [] [.vl (.tup [.str "row",.tup (ks.map Kd.t)]),.un] _= .ok _:=cmap h.2.1 (λk hk=>ih _ (by omega) k (h.2.2 k hk)) λt=>rfl
   have e1:zA 1 (zL (Zm (zb ixT (vE 0) (cE (.int 1)))) (zE 0) (zW) (za 1 (S_a (n+1) 0) (z9 (vE 0) (zd))) 1 []) [.vl (.tup [.str "row",.tup (ks.map Kd.t)]),.un]= .nx [.vl (.tup [.str "row",.tup (ks.map Kd.t)]),.vl (.lst (ks.map rT))]:=by
    rw[zy]
    ·rfl
    ·show (R.bind (R.ok _) _)=_;rw[bOk,ec,bOk]
   have hl:ks.length<=1000:=aq h.2.1 (by decide)
   rw[e,b_a,zc (zo (by rfl)),zc (zo (by rfl)),zB]
   ·rfl
   ·rw[wI (by rw[cs0,beq_self_eq_true]),zc e1,zg]
    rw[Jq]
    ·show (R.bind (R.bind (R.ok (ks.map λk=>T.tup _)) _) _)=_;rw[bOk,pr0R hl,bOk,bOk,uo];simp only[Kd.rlo,Ul]
    ·show (R.bind (R.bind (R.ok (ks.map λk=>T.tup _)) _) _)=_;rw[bOk,pr1R hl,bOk,bOk,uo];simp only[Kd.rhi,Um]
  | many k lo hi=>
   have hm:=vS h.1 h.2.1 (ih n (by omega) k h.2.2)
   rw[← e1]at hm;have e:en0 2 [(Kd.many k lo hi).t]=[.vl (mt k.t lo hi),.un]:=by rfl
   rw[Kd.t]at hm;rw[e,b_a,zc (zo (by rfl)),zc (zo (by rfl)),zc (zo (by rfl)),zg]
   ·rfl
   ·show za 1 _ _ [.vl _,.un]=_;rw[zj,v0,bOk,hm]
theorem j7 {k:Kd}(hk:k.Ok 3):f_b [k.t]= .ok (.int k.dp):=by
 have h:f_w 8 _= .ok _:=qW 3 8 (by omega) k hk
 show zf (b_b _ _ [.vl k.t])=_;rw[b_b,zc (Z9 (by rw[zj,v0,bOk,ZB hk])),zg]
 ·rfl
 ·show za _ _ _ [.vl k.t]=_;rw[zj,v0,bOk,h]
theorem wP (hk:k.Ok 3):f_3 [k.t]= .ok (rT k):=by
 have h:f_a 8 _= .ok _:=JE 3 8 (by omega) k hk
 show zf (b_3 _ _ [.vl k.t])=_;rw[b_3,zc (Z9 (by rw[zj,v0,bOk,ZB hk])),zg]
 ·rfl
 ·show za _ _ _ [.vl k.t]=_;rw[zj,v0,bOk,h]
theorem wQ:∀ws:List Str,wo (ws.map T.str)=some ws
 | []=>rfl
 | w :: ws=>by
  show (match wo _ with | some r=>some _ | none=>none)=_
  rw[wQ ws]
abbrev ssW (k:Kd):T:= .lst ((WS (dd [] k.wds)).map T.str)
theorem XY (hk:k.Ok 3):Wn (.lst (k.wds.map T.str))= .ok (ssW k):=by
 have hl:=JC 2 k hk;unfold Wn;dsimp only;rw[wQ];dsimp only;rw[if_pos (by rw[aa];omega)]
theorem ji (hk:k.Ok 3):Vx [k.t]= .ok (ssW k):=by
 have h:f_2 8 _= .ok _:=JD 3 8 (by omega) (by omega) k hk
 show zf (z0w _ _ [.vl k.t])=_;rw[z0w,zc (Z9 (by rw[zj,v0,bOk,ZB hk])),zg]
 ·rfl
 ·show ap1 _ _ [.vl k.t]=_;rw[Zd,zj,v0,bOk,h,bOk,XY hk]
theorem z2c (k:Kd):neC (ssW k) (ssW k)= .ok false:=jE (Pl.le (n:=4) (by omega) (λy hy=>by
 obtain⟨w,_,rfl⟩:=au.mp hy;trivial))
theorem ne_2 (a b:Int):neC (.tup [.int a,.int b]) (.tup [.int a,.int b])= .ok false:=jE (Pl.le (n:=4) (by omega) (λy hy=>by
 rcases aj.mp hy with rfl | hy
 ·trivial
 ·rw[aC.mp hy];trivial))
noncomputable def frT (q:Rat):T:= .tup [.int q.num,.int q.den]
theorem GG {b:Nat}:neC (.int (b:Int)) (.int 0)= .ok (!(b == 0)):=by
 show R.ok _=_;congr 2
 cases b with
 | zero=>rfl
 | succ n=>
  rw[show ((n+1 == 0)=false) from rfl,beq_eq_false_iff_ne];omega
theorem wR (h:g ρ= .ok true)(hb:fb ρ= .nx ρ'):Zh g fb (n+1) ρ=Zh g fb n ρ' :=by
 show (g ρ).s _=_;rw[h,ZO,if_pos rfl,hb]
theorem modn {a b:Nat}(h:1<=b):Jc (.int (a:Int)) (.int (b:Int))= .ok (.int ((a % b:Nat):Int)):=VI h
abbrev gdB:En->RS:=zh (zA 2 (zb Jc (vE 0) (vE 1))) (zh (zA 0 (vE 1)) (zA 1 (vE 2)))
theorem Q0:∀(n b a:Nat) (x:Sl),b < n->∃x',Zh (zk neC (vB 1) (cE (.int 0))) gdB n [.vl (.int (a:Int)),.vl (.int (b:Int)),x]= .nx [.vl (.int ((d7 a b:Nat):Int)),.vl (.int 0),x']
 | 0,b,a,x,h=>by omega
 | n+1,0,a,x,h=>⟨x,by
  rw[ir];rfl⟩
 | n+1,b+1,a,x,h=>by
  have e:gdB [.vl (.int (a)),.vl (.int ((b+1:Nat))),x]= .nx [.vl (.int ((b+1:Nat))),.vl (.int ((a % (b+1):Nat))),.vl (.int ((a % (b+1)):Int))]:=by
   have e1:zA 2 (zb Jc (vE 0) (vE 1)) [.vl (.int (a)),.vl (.int ((b+1:Nat))),x]= .nx [.vl (.int (a)),.vl (.int ((b+1):Int)),.vl (.int ((a % (b+1):Nat)))]:=by
    rw[zy]
    ·rfl
    ·rw[ze,v0,bOk,v1,bOk,modn (by omega)]
   show zh _ _ _=_;rw[zc e1];rfl
  have hlt:a % (b+1) < n:=by have:=eJ a (show b+1 > 0 by omega);omega
  obtain⟨x',hx⟩:=Q0 n _ _ _ hlt;refine⟨x', ?_⟩;rw[wR (show zk neC (vB 1) (cE (.int 0)) [.vl _,.vl (.int ((b+1:Nat))),x]= .ok _ from GG) e,hx,dL _,← Nat.gcd_rec,dL]
theorem XZ {a b:Nat}(h:b < 2 ^ 9000):z0l [.int (a:Int),.int (b:Int)]= .ok (.int ((d7 a b:Nat):Int)):=by
 obtain⟨x',hx⟩:=Q0 _ b a .un h;show zf (z0k [.vl _,.vl _,.un])=_;unfold z0k;rw[zc hx];rfl
theorem GH (u:Int):kr (.int u)= .ok (.int (u.natAbs:Int)):=by
 show R.ok _=_;congr 2
 split <;> omega
theorem Uq {u:Int}{g:Nat}(h0:1<=g)(h:g < 2 ^ 9000):Vu (.int u) (.int (g:Int))= .ok (.int (u / (g:Int))):=by
 show (if _ then _ else _)=_
 rw[if_pos];refine⟨by omega, ?_⟩
 exact(Nat.log2_lt (by omega)).mpr h
theorem GI (u:Int)(d:Nat)(h:1<=d):(mkRat u d).num=u / ((d7 u.natAbs d:Nat):Int)/\(((mkRat u d).den:Nat):Int)=(d:Int) / ((d7 u.natAbs d:Nat):Int):=by
 rw[f9,ff,if_neg (by omega),if_neg (by omega),dL d]
 exact⟨rfl,Int.natCast_ediv _ _⟩
theorem k0 {u:Int}{d:Nat}(h:1<=d):1<=d7 u.natAbs d/\d7 u.natAbs d<=d:=⟨fg _ h,iY _ h⟩
theorem Zt {u:Int}{d:Nat}(h:1<=d)(hd:d < 2 ^ 9000):f_u [.int u,.int (d:Int)]= .ok (frT (mkRat u d)):=by
 obtain⟨g1,g2⟩:=k0 h;have hg:=bm g2 hd;obtain⟨m1,m2⟩:=GI u d h;show zf (b_u _ [.vl _,.vl _,.un])=_;unfold b_u;have e1:zA 2 (za 2 z0l (z9 (ap1 kr (vB 0)) (z9 (vE 1) (zd)))) [.vl (.int u),.vl (.int (d)),.un]= .nx [.vl (.int u),.vl (.int (d)),.vl (.int ((d7 u.natAbs d):Int))]:=by
  rw[zy]
  ·rfl
  ·rw[zn,Zd,w0,bOk,GH,bOk,v1,bOk,XZ hd]
 rw[zc e1,zg]
 ·rfl
 ·unfold frT;rw[m1,m2];exact Jq (Uq g1 hg) (Uq g1 hg)
structure Bd (q:Rat) (m:Nat):Prop where
 num:q.num.natAbs<=2 ^ m
 den:q.den<=2 ^ m
theorem Bd.le (h:Bd q m)(hm:m<=n):Bd q n:=⟨aq h.num (cF (by decide) hm),aq h.den (cF (by decide) hm)⟩
theorem Bd.mk' (h:1<=d)(h1:u.natAbs<=2 ^ m)(h2:d<=2 ^ m):Bd (mkRat u d) m:=by
 constructor
 ·rw[f9,if_neg (by omega),Int.natAbs_ediv_of_dvd]
  ·exact aq (fY _ _) h1
  ·exact Int.natAbs_dvd_natAbs.mp (by simpa using Nat.gcd_dvd_right d _)
 ·rw[ff,if_neg (by omega)]
  exact aq (fY _ _) h2
theorem Qm (q:Rat):1<=q.den:=eK q.den_nz
theorem Bd.mul (h:Bd p m)(k:Bd q n):Bd (p*q) (m+n):=by
 rw[iM];refine Bd.mk' (cD (Qm p) (Qm q)) ?_ ?_
 ·rw[eQ,dh];exact bg h.num k.num
 ·rw[dh];exact bg h.den k.den
theorem k6 (h:Bd p m)(k:Bd q n):(p.num*(q.den:Int)+q.num*(p.den:Int)).natAbs<=2 ^ (m+n+1):=by
 refine aq (Int.natAbs_add_le _ _) ?_;rw[eQ,eQ,du,du];have e1:=bg h.num k.den;have e2:=bg k.num h.den;rw[fO,dh];have e3:2 ^ n*2 ^ m=2 ^ m*2 ^ n:=c6 _ _;omega
theorem Bd.add (h:Bd p m)(k:Bd q n):Bd (p+q) (m+n+1):=by
 rw[iN];refine Bd.mk' (cD (Qm p) (Qm q)) (k6 h k) ?_;refine aq (bg h.den k.den) ?_;rw[← dh];exact cF (by decide) (by omega)
theorem lt9 (h:n<=2 ^ m)(hm:m < 9000):n < 2 ^ 9000:=bm h (h_ (by decide) hm)
theorem ltb (h:n<=2 ^ m)(hm:m < 8000):n < big:=by
 exact bm h (h_ (by decide) hm)
theorem z2d (h:i.natAbs<=2 ^ m)(k:j.natAbs<=2 ^ n)(hm:m < 8000)(hn:n < 8000):mlT (.int i) (.int j)= .ok (.int (i*j)):=by
 show (if _ then _ else _)=_
 rw[if_pos ⟨ltb h hm,ltb k hn⟩]
theorem nd (d:Nat)(h:d<=2 ^ m):((d:Int)).natAbs<=2 ^ m:=by exact h
theorem ix0 (h:vE i ρ= .ok (.tup [a,b])):zb ixT (vE i) (cE (.int 0)) ρ= .ok a:=by rw[ze,h,bOk,Z8,bOk,at0]
theorem ix1 (h:vE i ρ= .ok (.tup [a,b])):zb ixT (vE i) (cE (.int 1)) ρ= .ok b:=by rw[ze,h,bOk,Z8,bOk,at1]
theorem jw (hf:f ρ= .ok (.int i))(hg:g ρ= .ok (.int j))(h:i.natAbs<=2 ^ m)(k:j.natAbs<=2 ^ n)(hm:m < 8000)(hn:n < 8000):zb mlT f g ρ= .ok (.int (i*j)):=by
 rw[ze,hf,bOk,hg,bOk,z2d h k hm hn]
theorem Q1 (hf:f ρ= .ok (.int i))(hg:g ρ= .ok (.int j)):zb zq f g ρ= .ok (.int (i+j)):=by
 rw[ze,hf,bOk,hg,bOk,zR]
theorem wS (h:Bd p m)(k:Bd q n)(hm:m+n < 8000):f_z [frT p,frT q]= .ok (frT (p*q)):=by
 show zf (b_z _ [.vl _,.vl _])=_;unfold b_z;rw[zg]
 ·rfl
 ·rw[zn];have e0:vE 0 (frz [.vl (frT p),.vl (frT q)])= .ok _:=rfl;have e1:vE 1 (frz [.vl (frT p),.vl (frT q)])= .ok _:=rfl;rw[jw (ix0 e0) (ix0 e1) h.num k.num (by omega) (by omega),bOk,jw (ix1 e0) (ix1 e1) (nd _ h.den) (nd _ k.den) (by omega) (by omega),bOk,← ce,
   Zt (cD (Qm p) (Qm q)) (lt9 (by rw[dh];exact bg h.den k.den) (by omega)),← iM]
theorem k7 (h:Bd p m)(k:Bd q n)(hm:m+n < 8000):f_o [frT p,frT q]= .ok (frT (p+q)):=by
 show zf (b_o _ [.vl _,.vl _])=_;unfold b_o;rw[zg]
 ·rfl
 ·rw[zn];have e0:vE 0 (frz [.vl (frT p),.vl (frT q)])= .ok _:=rfl;have e1:vE 1 (frz [.vl (frT p),.vl (frT q)])= .ok _:=rfl;rw[Q1 (jw (ix0 e0) (ix1 e1) h.num (nd _ k.den) (by omega) (by omega)) (jw (ix0 e1) (ix1 e0) k.num (nd _ h.den) (by omega) (by omega)),bOk,jw (ix1 e0) (ix1 e1) (nd _ h.den) (nd _ k.den) (by omega) (by omega),bOk,← ce,
   Zt (cD (Qm p) (Qm q)) (lt9 (by rw[dh];exact bg h.den k.den) (by omega)),← iN]
noncomputable def vT:List Rat->Rat
 | []=>0
 | q :: r=>q+vT r
abbrev tgB:En->RS:=zA 1 (za 2 f_o (z9 (vE 1) (z9 (vE 2) (zd))))
theorem Q2:∀(qs:List Rat) (p:Rat) (n:Nat) (x:Sl),(∀q∈qs,Bd q m)->Bd p n->n+qs.length*(m+1) < 8000->
  ∃x',Za (zE 2) tgB (qs.map frT) [s,.vl (frT p),x]= .nx [s,.vl (frT (p+vT qs)),x']
 | [],p,n,x,_,_,_=>⟨x,by rw[vT,Rat.add_zero];rfl⟩
 | q :: r,p,n,x,hq,hp,hl=>by
  rw[aw,dB]at hl;have kq:=hq q ac;obtain⟨x',e⟩:=Q2 r _ _ _ (λa ha=>hq a (a8 _ ha)) (hp.add kq) (by omega)
  refine⟨x', ?_⟩;rw[ay,jb (setg 2 _ _),e,vT,Rat.add_assoc];show zA 1 _ [s,.vl _,.vl _]=_;rw[zy]
  ·rfl
  ·rw[zn,v1,bOk,show vE 2 _= .ok _ from rfl,bOk,k7 hp kq (by omega)]
theorem bd0:Bd 0 0:=⟨by decide,by decide⟩
theorem bd1:Bd 1 0:=⟨by decide,by decide⟩
theorem ut {qs:List Rat}(h:∀q∈qs,Bd q m)(hl:qs.length*(m+1) < 8000):z0s [.lst (qs.map frT)]= .ok (frT (vT qs)):=by
 show zf (z0r _ [.vl _,.un,.un])=_;unfold z0r;have e1:zA 1 (zG (z9 (cE (.int 0)) (z9 (cE (.int 1)) (zd)))) [.vl (.lst (qs.map frT)),.un,.un]= .nx [.vl (.lst (qs.map frT)),.vl (frT 0),.un]:=by
  rfl
 obtain⟨x',e⟩:=Q2 qs 0 0 .un h bd0 (by omega)
 have e2:ZN (Zm (vE 0)) (zE 2) tgB [.vl (.lst (qs.map frT)),.vl (frT 0),.un]= .nx [.vl (.lst (qs.map frT)),.vl (frT (vT qs)),x']:=by
  rw[Rat.zero_add]at e;exact e
 rw[zc e1,zc e2];rfl
noncomputable def ZR:List Rat->Rat
 | []=>1
 | q :: r=>q*ZR r
noncomputable def y6 (cs:List (Str×Int)):Int:=(cs.map (·.2)).sum
mutual
noncomputable def Kd.sh:Kd->T->Rat
 | .whole lo hi=>λ_=>mkRat 1 (hi+1 - lo).toNat
 | .pick cs=>λt=>match t with | .str x=>mkRat ((cs.lookup x).getD 0) (y6 cs).toNat | _=>0
 | .row ks=>λt=>match t with | .tup xs=>Kd.shs ks xs | _=>0
 | .many k lo hi=>λt=>match t with | .tup xs=>mkRat 1 (hi+1 - lo)*ZR (xs.map k.sh) | _=>0
noncomputable def Kd.shs:List Kd->List T->Rat
 | []=>λ_=>1
 | k :: ks=>λxs=>match xs with | []=>1 | x :: xs=>k.sh x*Kd.shs ks xs
end
theorem Q3:∀(ks:List Kd) (xs:List T),Kd.shs ks xs=ZR ((ks.zip xs).map λq=>q.1.sh q.2)
 | [],_=>by simp[Kd.shs,ZR]
 | k :: ks,[]=>by simp[Kd.shs,ZR]
 | k :: ks,x :: xs=>by simp[Kd.shs,ZR,Q3 ks xs]
theorem Q4 (k:Kd):∀xs:List T,((ae xs.length k).zip xs).map (λq=>q.1.sh q.2)=xs.map k.sh
 | []=>rfl
 | x :: xs=>by rw[aw,bF,eP,ay,ay,Q4 k xs]
theorem Bd.prod:∀{qs:List Rat},(∀q∈qs,Bd q m)->Bd (ZR qs) (qs.length*m)
 | [],_=>by rw[ZR];exact bd1.le (b6 _)
 | q :: r,h=>by
  rw[ZR,aw,dB,ck,fK];exact(h q ac).mul (Bd.prod λa ha=>h a (a8 _ ha))
theorem Q5:∀cs:List (Str×Int),jz (cs.map ZU)=some cs
 | []=>rfl
 | c :: cs=>by
  show (match jz (cs.map ZU) with | some l=>some ((c.1,c.2) :: l) | none=>none)=_
  rw[Q5 cs]
theorem Dst.nd (h:Dst ws):ws.Nodup:=by
 rw[List.Nodup,bX];intro i j hi hj hij e;refine h j _ (a9 hj) ?_;rw[← e];rw[List.mem_take_iff_getElem];exact⟨i,by omega,rfl⟩
theorem w8:∀(cs:List (Str×Int)) (x:Str),(cs.any λc=>c.1 == x)=true->∃i,cs.lookup x=some i/\(x,i)∈cs
 | [],x,h=>by simp at h
 | c :: cs,x,h=>by
  rw[i8,l6]at h
  by_cases e:c.1=x
  ·refine⟨c.2, ?_, ?_⟩
   ·rw[aP];simp[e]
   ·rw[← e];exact ac
  ·have h:(cs.any λc=>c.1 == x)=true:=h.resolve_left (by simp[e])
   obtain⟨i,h1,h2⟩:=w8 cs x h;refine⟨i, ?_,a8 _ h2⟩;rw[aP];have:(x == c.1)=false:=beq_eq_false_iff_ne.mpr (bb e);rw[this];exact h1
theorem VQ:∀{cs:List (Str×Int)},(∀c∈cs,1<=c.2/\c.2<=20)->(cs.length:Int)<=y6 cs/\y6 cs<=20*cs.length
 | [],_=>by simp[y6]
 | c :: cs,h=>by
  have ih:=VQ (cs:=cs) λa ha=>h a (a8 _ ha);have h0:=h c ac;have e:y6 (c :: cs)=c.2+y6 cs:=by simp[y6]
  rw[e,aw];omega
theorem VR {cs:List (Str×Int)}(h:(Kd.pick cs).Ok (d+1)):1<=y6 cs/\y6 cs<=80/\∀c∈cs,1<=c.2/\c.2<=20:=by
 have hb:∀c∈cs,1<=c.2/\c.2<=20:=λc hc=>(h.2.2.1 c hc).2;have:=VQ hb;have h1:=h.1;have h2:=h.2.1;exact⟨by omega,by omega,hb⟩
theorem Q6 (cs:List (Str×Int))(x:Str):(Kd.pick cs).sh (.str x)=mkRat ((cs.lookup x).getD 0) (y6 cs).toNat:=by rw[Kd.sh]
theorem GJ {cs:List (Str×Int)}(hd:Dst (cs.map (·.1)))(h:cs.lookup x=some i):Yf (.tup (cs.map ZU)) (.str x)= .ok (.int i):=by
 unfold Yf;dsimp only;rw[Q5];dsimp only;rw[if_pos hd.nd,h]
theorem k8 {cs:List (Str×Int)}(hd:Dst (cs.map (·.1))):Wo (.tup (cs.map ZU))= .ok (.int (y6 cs)):=by
 unfold Wo;dsimp only;rw[Q5];dsimp only;rw[if_pos hd.nd];rfl
theorem vU {cs:List (Str×Int)}(h:(Kd.pick cs).Ok (d+1))(hx:cs.lookup x=some i):z0n [(Kd.pick cs).t,.str x]= .ok (frT ((Kd.pick cs).sh (.str x))):=by
 obtain⟨w1',w2',_⟩:=VR h;show zf (z0m f_u [.vl (Kd.pick cs).t,.vl (.str x),.un])=_;unfold z0m;have e1:zb ixT (vE 0) (cE (.int 1)) [.vl (Kd.pick cs).t,.vl (.str x),.un]= .ok (.tup (cs.map ZU)):=by rw[Kd.t];exact ja
 have en:y6 cs=(((y6 cs).toNat:Nat):Int):=by omega
 show zf ((R.bind _ _).s _)=_;rw[e1,bOk,v1,bOk,GJ h.2.2.2 hx,bOk,k8 h.2.2.2,bOk,en,Zt (by omega) (lt9 (m:=7) (by omega) (by decide)),ZO,Q6,hx]
 rfl
abbrev spB (c:List T->R T):En->RS:=zA 2 (za 2 f_z (z9 (vE 2) (z9 (za 2 c (z9 (vE 3) (z9 (vE 4) (zd)))) (zd))))
theorem Q7:∀(qs:List (Kd×T)) (p:Rat) (n:Nat) (x y:Sl),(∀q∈qs,c [q.1.t,q.2]= .ok (frT (q.1.sh q.2))/\Bd (q.1.sh q.2) m)->Bd p n->n+qs.length*m < 8000->
  ∃x' y',Za (zM 3 4) (spB c) (qs.map λq=>T.tup [q.1.t,q.2]) [s,t,.vl (frT p),x,y]= .nx [s,t,.vl (frT (p*ZR (qs.map λq=>q.1.sh q.2))),x',y']
 | [],p,n,x,y,_,_,_=>⟨x,y,by simp only[c7,ZR,Rat.mul_one];rfl⟩
 | q :: r,p,n,x,y,h,hp,hl=>by
  rw[aw,dB]at hl;obtain⟨k1,k2⟩:=h q ac;obtain⟨x',y',e⟩:=Q7 r (p*q.1.sh q.2) (n+m) (.vl q.1.t) (.vl q.2) (λa ha=>h a (a8 _ ha)) (hp.mul k2) (by omega)
  refine⟨x',y', ?_⟩;rw[ay,ay,jb (ρ1:=[s,t,.vl (frT p),.vl q.1.t,.vl q.2]) (ρ2:=[s,t,.vl (frT (p*q.1.sh q.2)),.vl q.1.t,.vl q.2]) rfl,e,ZR,Rat.mul_assoc];show zA 2 _ [s,t,.vl (frT p),.vl q.1.t,.vl q.2]=_;rw[zy (t:=frT (p*q.1.sh q.2))]
  ·rfl
  ·rw[zn,show vE 2 [s,t,.vl (frT p),.vl q.1.t,.vl q.2]= .ok (frT p) from rfl,bOk,zn,show vE 3 [s,t,.vl (frT p),.vl q.1.t,.vl q.2]= .ok q.1.t from rfl,bOk,show vE 4 [s,t,.vl (frT p),.vl q.1.t,.vl q.2]= .ok q.2 from rfl,bOk,k1,bOk,wS hp k2 (by omega)]
theorem WK (ks:List Kd)(xs:List T)(hs:Zu s= .ok (ks.map Kd.t))(hl:ks.length<=3)(hm:m<=1000)(H:∀q∈ks.zip xs,c [q.1.t,q.2]= .ok (frT (q.1.sh q.2))/\Bd (q.1.sh q.2) m):
  zf (G4 f_z c (en0 5 [s,.tup xs]))= .ok (frT (ZR ((ks.zip xs).map λq=>q.1.sh q.2))):=by
 have e:en0 5 [s,.tup xs]=[.vl s,.vl (.tup xs),.un,.un,.un]:=rfl;have hz:(ks.zip xs).length*m < 8000:=by
  have h1:(ks.zip xs).length<=3:=by rw[cY];omega
  have:=bg h1 hm;omega
 obtain⟨x',y',el⟩:=Q7 (c:=c) (s:= .vl s) (t:= .vl (.tup xs)) (ks.zip xs) 1 0 .un .un H bd1 (by omega)
 have e1:zA 2 (zG (z9 (cE (.int 1)) (z9 (cE (.int 1)) (zd)))) [.vl s,.vl (.tup xs),.un,.un,.un]= .nx [.vl s,.vl (.tup xs),.vl (frT 1),.un,.un]:=by
  rw[zy (Jq rfl rfl)];rfl
 have ez:uP (vE 0) (vE 1) [.vl s,.vl (.tup xs),.vl (frT 1),.un,.un]= .ok ((ks.zip xs).map λq=>T.tup [q.1.t,q.2]):=by
  show (Zu s).bind _=_;rw[hs,bOk,← vH];rfl
 have e2:ZN (uP (vE 0) (vE 1)) (zM 3 4) (spB c) [.vl s,.vl (.tup xs),.vl (frT 1),.un,.un]= .nx [.vl s,.vl (.tup xs),.vl (frT (ZR ((ks.zip xs).map λq=>q.1.sh q.2))),x',y']:=by
  unfold ZN;rw[ez,ZO,el,Rat.one_mul]
 rw[e,G4,zc e1,zc e2];rfl
noncomputable def sb:Nat->Nat
 | 0=>0
 | d+1=>7+3*sb d
theorem z0L (d:Nat):sb (d+1)=7+3*sb d:=rfl
abbrev Q8 (a b:T):En:=[.vl a,.vl b,.un]
theorem ky (h:(x == w)=false):ifS (zk eqC (zb ixT (vE 0) (cE (.int 0))) (cE (.str w))) f nxS (Q8 (.tup (.str x :: r)) b)= .nx (Q8 (.tup (.str x :: r)) b):=
 zo (by rw[show zk eqC (zb ixT (vE 0) (cE (.int 0))) (cE (.str w)) (Q8 (.tup (.str x :: r)) b)= .ok (x == w) from cs0,h])
theorem z2e:ifS (zk eqC (zb ixT (vE 0) (cE (.int 0))) (cE (.str x))) f nxS (Q8 (.tup (.str x :: r)) b)=f (Q8 (.tup (.str x :: r)) b):=
 wI (by rw[show zk eqC (zb ixT (vE 0) (cE (.int 0))) (cE (.str x)) (Q8 (.tup (.str x :: r)) b)= .ok (x == x) from cs0,beq_self_eq_true])
theorem wT:∀(d n:Nat),2*d<=n->d<=3->∀(k:Kd) (x:T),k.Ok d->k.has x=true->S_l n 0 [k.t,x]= .ok (frT (k.sh x))/\Bd (k.sh x) (sb d)
 | 0,_,_,_,_,_,h,_=>h.elim
 | d+1,n+2,hn,hd3,k,x,h,hx=>by
  have ih:=wT d n (by omega) (by omega)
  have hsb:sb d<=1000:=by
   have h2:d<=2:=by omega
   rcases(show d=0\/d=1\/d=2 by omega) with rfl | rfl | rfl <;> decide
  have e:S_l (n+2) 0 [k.t,x]=zf (b_l (f_1 20) f_z z0n (S_l (n+1) 1) (Q8 k.t x)):=by rw[S_l];rfl
  have e1:∀s y,S_l (n+1) 1 [s,y]=zf (G4 f_z (S_l n 0) (en0 5 [s,y])):=λs y=>by rw[S_l];intro h;cases h
  rw[e];cases k with
  | whole lo hi=>
   obtain⟨a1,a2,a3⟩:=h;have hc:=Zg (d:=1) (by omega) (U6 d lo hi ⟨a1,a2,a3⟩)
   rw[ZH]at hc;constructor
   ·rw[show (Kd.whole lo hi).t= .tup [.str "whole",.int lo,.int hi] from by rw[Kd.t]]at hc ⊢
    rw[b_l,zB (t:=frT (mkRat 1 (hi+1 - lo).toNat)),Kd.sh]
    ·rfl
    ·rw[z2e,zg (t:=frT (mkRat 1 (hi+1 - lo).toNat))];show zG _ (Q8 _ x)=_;have ez:frT (mkRat 1 (hi+1 - lo).toNat)= .tup [.int 1,.int (((hi+1 - lo).toNat:Nat):Int)]:=by
      unfold frT;rw[f9,ff,if_neg (by omega),if_neg (by omega),show (1:Int).natAbs=1 from rfl,iO,Nat.div_one]
      rfl
     rw[ez];exact Jq rfl (by rw[zj,v0,bOk,hc])
   ·rw[Kd.sh];refine(Bd.mk' (m:=7) (by omega) (by decide) (by omega)).le ?_
    rw[z0L];omega
  | pick cs=>
   cases x with
   | str y=>
    have hx' :(cs.any λc=>c.1 == y)=true:=by rw[Kd.has]at hx;exact hx
    obtain⟨i,hi,hm⟩:=w8 cs y hx';obtain⟨w1',w2',w3'⟩:=VR h;have hw:=w3' _ hm;constructor
    ·have hs:=vU h hi;rw[show (Kd.pick cs).t= .tup [.str "pick",.tup (cs.map ZU)] from by rw[Kd.t]]at hs ⊢
     rw[b_l,zc (ky (by decide)),zB (t:=frT ((Kd.pick cs).sh (.str y)))]
     ·rfl
     ·rw[z2e,zg (t:=frT ((Kd.pick cs).sh (.str y)))];show za 2 _ _ (Q8 _ _)=_;rw[zn,v0,bOk,v1,bOk,hs]
    ·rw[Q6,hi];refine(Bd.mk' (m:=7) (by omega) ?_ (by omega)).le ?_
     ·show i.natAbs<=128;omega
     ·rw[z0L];omega
   | _=>rw[Kd.has]at hx;cases hx
  | row ks=>
   cases x with
   | tup xs=>
    have hx' :(xs.length == ks.length && Kd.hass ks xs)=true:=by rw[Kd.has]at hx;exact hx
    rw[ah,beq_iff_eq,jt,aQ]at hx';have H:∀q∈ks.zip xs,S_l n 0 [q.1.t,q.2]= .ok (frT (q.1.sh q.2))/\Bd (q.1.sh q.2) (sb d):=λq hq=>ih q.1 q.2 (h.2.2 q.1 (bA hq).1) (hx'.2 q hq);have hp:=WK (s:= .tup (ks.map Kd.t)) ks xs rfl h.2.1 hsb H;have es:(Kd.row ks).sh (.tup xs)=ZR ((ks.zip xs).map λq=>q.1.sh q.2):=by rw[Kd.sh,← Q3]
    rw[es];constructor
    ·rw[show (Kd.row ks).t= .tup [.str "row",.tup (ks.map Kd.t)] from by rw[Kd.t,Kd.ts_map]]
     rw[b_l,zc (ky (by decide)),zc (ky (by decide)),zB (t:=frT (ZR ((ks.zip xs).map λq=>q.1.sh q.2)))]
     ·rfl
     ·rw[z2e,zg (t:=frT (ZR ((ks.zip xs).map λq=>q.1.sh q.2)))];show za 2 _ _ (Q8 _ _)=_;rw[zn,ja,bOk,v1,bOk,e1,hp]
    ·have hb:=Bd.prod (qs:=(ks.zip xs).map λq=>q.1.sh q.2) (m:=sb d) (λq hq=>by
      obtain⟨a,ha,rfl⟩:=au.mp hq;exact(H a ha).2)
     refine hb.le ?_;have h3:=h.2.1;have hz:((ks.zip xs).map λq=>q.1.sh q.2).length<=3:=by rw[aa,cY];omega
     have:=dg (sb d) hz;rw[z0L];omega
   | _=>rw[Kd.has]at hx;cases hx
  | many k lo hi=>
   cases x with
   | tup xs=>
    have hx' :(decide (lo<=xs.length) && decide (xs.length<=hi) && xs.all k.has)=true:=by rw[Kd.has]at hx;exact hx
    rw[ah,ah,decide_eq_true_eq,decide_eq_true_eq,aQ]at hx';obtain⟨⟨l1,l2⟩,hx'⟩:=hx';have h1:=h.1;have h3:=h.2.1;have hx3:xs.length<=3:=by omega
    have H:∀q∈(ae xs.length k).zip xs,S_l n 0 [q.1.t,q.2]= .ok (frT (q.1.sh q.2))/\Bd (q.1.sh q.2) (sb d):=λq hq=>by
     have:=bA hq;have e:=aY this.1;refine ih q.1 q.2 ?_ ?_
     ·rw[e];exact h.2.2
     ·rw[e];exact hx' q.2 this.2
    have hp:=WK (s:= .lst ((ae xs.length k).map Kd.t)) (ae xs.length k) xs rfl (by rw[aF];exact hx3) hsb H
    rw[Q4]at hp;have es:(Kd.many k lo hi).sh (.tup xs)=mkRat 1 (hi+1 - lo)*ZR (xs.map k.sh):=by rw[Kd.sh]
    have hb:=Bd.prod (qs:=xs.map k.sh) (m:=sb d) (λq hq=>by
      rw[← Q4]at hq;obtain⟨a,ha,rfl⟩:=au.mp hq;exact(H a ha).2)
    rw[aa]at hb;have hb0:Bd (mkRat 1 (hi+1 - lo)) 2:=Bd.mk' (by omega) (by decide) (by show hi+1 - lo<=4;omega)
    have hz:=dg (sb d) hx3;rw[es];constructor
    ·rw[show (Kd.many k lo hi).t= .tup [.str "many",k.t,.int (lo:Int),.int (hi:Int)] from by rw[Kd.t]]
     have em:zb zN (jm (z9 (zb ixT (vE 0) (cE (.int 1))) (zd))) (ap1 Zo (vB 1)) [.vl (.tup [.str "many",k.t,.int (lo:Int),.int (hi:Int)]),.vl (.tup xs),.vl (frT (mkRat 1 (hi+1 - lo)))]= .ok (.lst ((ae xs.length k).map Kd.t)):=by
      rw[ze,XA ja,bOk,Zd,w1,bOk,jg,bOk,Ju hx3,Zn,aI]
     have ez:frT (mkRat 1 (hi+1 - lo))= .tup [.int 1,.int ((hi:Int) - (lo:Int)+1)]:=by
      unfold frT;rw[f9,ff,if_neg (by omega),if_neg (by omega),show (1:Int).natAbs=1 from rfl,iO,Nat.div_one,show ((hi+1 - lo:Nat):Int)=(hi:Int) - (lo:Int)+1 by omega]
      rfl
     have eq:zA 2 (zG (z9 (cE (.int 1)) (z9 (zb zq (zb Wf (zb ixT (vE 0) (cE (.int 3))) (zb ixT (vE 0) (cE (.int 2)))) (cE (.int 1))) (zd)))) (Q8 (.tup [.str "many",k.t,.int (lo:Int),.int (hi:Int)]) (.tup xs))= .nx [.vl (.tup [.str "many",k.t,.int (lo:Int),.int (hi:Int)]),.vl (.tup xs),.vl (frT (mkRat 1 (hi+1 - lo)))]:=by
      rw[ez,zy (Jq rfl (y:= .int ((hi:Int) - (lo:Int)+1)) (UX (by rw[ze,UW,bOk,wH,bOk,j0])))]
      rfl
     rw[b_l,zc (ky (by decide)),zc (ky (by decide)),zc (ky (by decide)),zc eq,zg (t:=frT (mkRat 1 (hi+1 - lo)*ZR (xs.map k.sh)))]
     ·rfl
     ·show za 2 _ _ [.vl (.tup [.str "many",k.t,.int (lo:Int),.int (hi:Int)]),.vl (.tup xs),.vl (frT (mkRat 1 (hi+1 - lo)))]=_;rw[zn,show vE 2 [.vl (.tup [.str "many",k.t,.int (lo:Int),.int (hi:Int)]),.vl (.tup xs),.vl (frT (mkRat 1 (hi+1 - lo)))]= .ok (frT (mkRat 1 (hi+1 - lo))) from rfl,bOk,zn,em,bOk,v1,bOk,e1,hp,bOk,wS hb0 hb (by omega)]
    ·refine(hb0.mul hb).le ?_;rw[z0L];omega
   | _=>rw[Kd.has]at hx;cases hx
theorem jG:∀(ls made:List (List T)),zJ made ls=made.flatMap λa=>(zJ [[]] ls).map λb=>a++b
 | [],made=>by
  simp only[zJ,ay,c7,bz]
  induction made with
  | nil=>rfl
  | cons a as ih=>rw[aK,← ih];rfl
 | l :: ls,made=>by
  rw[zJ,jG ls,zJ,jG ls (List.flatMap _ _)]
  induction made with
  | nil=>rfl
  | cons a as ih=>
   rw[aK,List.flatMap_append,ih,aK];congr 1
   simp only[fE,bz,cV];rw[fF,fG,fG];congr 1
   funext x
   rw[aO];congr 1
   funext b
   simp[bI]
theorem WL (l:List T)(ls:List (List T)):zJ [[]] (l :: ls)=l.flatMap λx=>(zJ [[]] ls).map λb=>x :: b:=by
 rw[zJ,jG,aK,fE,bz,fG];rfl
mutual
noncomputable def Kd.tot:Kd->T->Int
 | .whole _ _=>λt=>match t with | .int i=>i | _=>0
 | .pick _=>λ_=>0
 | .row ks=>λt=>match t with | .tup xs=>Kd.tots ks xs | _=>0
 | .many k _ _=>λt=>match t with | .tup xs=>(xs.map k.tot).sum | _=>0
noncomputable def Kd.tots:List Kd->List T->Int
 | []=>λ_=>0
 | k :: ks=>λxs=>match xs with | []=>0 | x :: xs=>k.tot x+Kd.tots ks xs
end
mutual
noncomputable def Kd.mn:Kd->Rat
 | .whole lo hi=>mkRat (lo+hi) 2
 | .pick _=>0
 | .row ks=>Kd.mns ks
 | .many k lo hi=>mkRat ((lo:Int)+(hi:Int)) 2*k.mn
noncomputable def Kd.mns:List Kd->Rat
 | []=>0
 | k :: ks=>k.mn+Kd.mns ks
end
noncomputable def mb:Nat->Nat
 | 0=>0
 | d+1=>12+3*(mb d+1)
theorem z2f (d:Nat):mb (d+1)=12+3*(mb d+1):=rfl
abbrev enM (a:T):En:=[.vl a,.un]
theorem kz (h:(x == w)=false):ifS (zk eqC (zb ixT (vE 0) (cE (.int 0))) (cE (.str w))) f nxS (enM (.tup (.str x :: r)))= .nx (enM (.tup (.str x :: r))):=
 zo (by rw[show zk eqC _ _ _= .ok _ from cs0,h])
theorem z2g:ifS (zk eqC (zb ixT (vE 0) (cE (.int 0))) (cE (.str x))) f nxS (enM (.tup (.str x :: r)))=f (enM (.tup (.str x :: r))):=
 wI (by rw[show zk eqC _ _ _= .ok _ from cs0,beq_self_eq_true])
theorem Q9:∀ks:List Kd,Kd.mns ks=vT (ks.map Kd.mn)
 | []=>by rfl
 | k :: ks=>by rw[Kd.mns,Q9 ks];rfl
theorem Bd.sum:∀{qs:List Rat},(∀q∈qs,Bd q m)->Bd (vT qs) (qs.length*(m+1))
 | [],_=>by exact bd0.le (b6 _)
 | q :: r,h=>by
  rw[aw,dB];exact((h q ac).add (Bd.sum λa ha=>h a (a8 _ ha))).le (by omega)
theorem wU:∀(d n:Nat),d<=n->d<=3->∀k:Kd,k.Ok d->S_v n 0 [k.t]= .ok (frT k.mn)/\Bd k.mn (mb d)
 | 0,_,_,_,_,h=>h.elim
 | d+1,n+1,hn,hd3,k,h=>by
  have ih:=wU d n (by omega) (by omega)
  have hmb:mb d<=1000:=by
   rcases(show d=0\/d=1\/d=2 by omega) with rfl | rfl | rfl <;> decide
  have e:S_v (n+1) 0 [k.t]=zf (b_v f_u f_z z0s (S_v n 0) (enM k.t)):=by rw[S_v];rfl
  rw[e];cases k with
  | whole lo hi=>
   obtain⟨a1,a2,a3⟩:=h;constructor
   ·rw[show (Kd.whole lo hi).t= .tup _ from by rw[Kd.t],b_v,zB,Kd.mn]
    ·rfl
    ·rw[z2g,zg];show za 2 _ _ (enM _)=_;rw[zn,Q1 ja wH,bOk,Z8,bOk];exact Zt (u:=lo+hi) (d:=2) (by decide) (lt9 (m:=1) (by decide) (by decide))
   ·rw[Kd.mn];exact(Bd.mk' (m:=6) (by decide) (by omega) (by decide)).le (by rw[z2f];omega)
  | pick cs=>
   constructor
   ·rw[show (Kd.pick cs).t= .tup _ from by rw[Kd.t],b_v,zc (kz (by decide)),zB (t:=frT 0),Kd.mn]
    ·rfl
    ·rw[z2g];rfl
   ·rw[Kd.mn];exact bd0.le (b6 _)
  | row ks=>
   have h3:=h.2.1;have hb:∀q∈ks.map Kd.mn,Bd q (mb d):=λq hq=>by
    obtain⟨k,hk,rfl⟩:=au.mp hq;exact(ih k (h.2.2 k hk)).2
   have hz:(ks.map Kd.mn).length*(mb d+1)<=3*(mb d+1):=dg _ (by rw[aa];exact h3)
   have em:(Kd.row ks).mn=vT (ks.map Kd.mn):=by rw[Kd.mn,Q9]
   rw[em];constructor
   ·rw[show (Kd.row ks).t= .tup _ from by rw[Kd.t,Kd.ts_map],b_v,zc (kz (by decide)),zc (kz (by decide)),zB (t:=frT _)]
    ·rfl
    ·rw[z2g,zg (t:=frT _)];show za 1 _ _ (enM _)=_;have ec:zL (Zm (zb ixT (vE 0) (cE (.int 1)))) (zE 0) (zW) (za 1 (S_v n 0) (z9 (vE 0) (zd))) 1 [] (enM (.tup [.str "row",.tup (ks.map Kd.t)]))= .ok (.lst ((ks.map Kd.mn).map frT)):=by
      rw[zY,show Zm _ (enM (.tup _))= .ok (ks.map Kd.t) from by unfold Zm;rw[ja];rfl,bOk]
      rw[zH (h:=λt=>match S_v n 0 [t] with | .ok v=>v | _=> .non) (ks.map Kd.t) (by rw[aa];exact aq h3 (by decide)) (λt ht=>by
       obtain⟨k,hk,rfl⟩:=au.mp ht;show za 1 _ _ [.vl k.t]=_;rw[zj,v0,bOk,(ih k (h.2.2 k hk)).1]),bOk,aO,aO]
      congr 2
      refine br λk hk=> ?_;show (match S_v n 0 _ with | .ok v=>v | _=> .non)=frT _
      rw[(ih k (h.2.2 k hk)).1]
     rw[zj,ec,bOk,ut hb (by omega)]
   ·exact(Bd.sum hb).le (by rw[z2f];omega)
  | many k lo hi=>
   have h1:=h.1;have h3:=h.2.1;obtain⟨i1,i2⟩:=ih k h.2.2;have hb0:Bd (mkRat ((lo)+(hi)) 2) 3:=Bd.mk' (by decide) (by omega) (by decide)
   rw[show (Kd.many k lo hi).mn=mkRat _ 2*k.mn from by rw[Kd.mn]]
   constructor
   ·rw[show (Kd.many k lo hi).t= .tup _ from by rw[Kd.t]]
    have eq:zA 1 (za 2 f_u (z9 (zb zq (zb ixT (vE 0) (cE (.int 2))) (zb ixT (vE 0) (cE (.int 3)))) (z9 (cE (.int 2)) (zd)))) (enM (.tup [.str "many",k.t,.int (lo),.int (hi)]))= .nx [.vl (.tup [.str "many",k.t,.int (lo),.int (hi)]),.vl (frT (mkRat ((lo)+(hi)) 2))]:=by
     rw[zy]
     ·rfl
     ·rw[zn,Q1 wH UW,bOk,Z8,bOk];exact Zt (by decide) (lt9 (m:=1) (by decide) (by decide))
    rw[b_v,zc (kz (by decide)),zc (kz (by decide)),zc (kz (by decide)),zc eq,zg]
    ·rfl
    ·show za 2 _ _ [.vl _,.vl _]=_;rw[zn,v1,bOk,zj,ja,bOk,i1,bOk,wS hb0 i2 (by omega)]
   ·exact(hb0.mul i2).le (by rw[z2f];omega)
theorem uu {k:Kd}(hk:k.Ok 3):f_d [k.t]= .ok (frT k.mn):=by
 show zf (b_d _ _ [.vl k.t])=_;unfold b_d;rw[zc (Z9 (by rw[zj,v0,bOk,ZB hk])),zg]
 ·rfl
 ·exact(wU 3 20 (by omega) (by omega) k hk).1
mutual
noncomputable def Kd.mir:Kd->Kd
 | .whole lo hi=> .whole (-hi) (-lo)
 | .pick cs=> .pick cs.reverse
 | .row ks=> .row (Kd.mirs ks).reverse
 | .many k lo hi=> .many k.mir lo hi
noncomputable def Kd.mirs:List Kd->List Kd
 | []=>[]
 | k :: ks=>k.mir :: Kd.mirs ks
end
theorem Ur:∀ks:List Kd,Kd.mirs ks=ks.map Kd.mir
 | []=>by simp[Kd.mirs]
 | k :: ks=>by simp[Kd.mirs,Ur ks]
mutual
noncomputable def mw:T->T
 | .int i=> .int (-i)
 | .tup xs=> .tup (mws xs).reverse
 | t=>t
noncomputable def mws:List T->List T
 | []=>[]
 | x :: xs=>mw x :: mws xs
end
theorem Qa:∀xs:List T,mws xs=xs.map mw
 | []=>by simp[mws]
 | x :: xs=>by simp[mws,Qa xs]
theorem z2h (i:Int):mw (.int i)= .int (-i):=by rw[mw]
theorem mw_s (x:Str):mw (.str x)= .str x:=by rw[mw] <;> simp
theorem GK (xs:List T):mw (.tup xs)= .tup (xs.map mw).reverse:=by rw[mw,Qa]
mutual
theorem GL:∀t:T,mw (mw t)=t
 | .int i=>by rw[z2h,z2h,Int.neg_neg]
 | .tup xs=>by rw[GK,GK,bY,c8,aO,Qb xs]
 | .non=>by simp[mw]
 | .bl _=>by simp[mw]
 | .str _=>by simp[mw]
 | .lst _=>by simp[mw]
 | .fz _=>by simp[mw]
theorem Qb:∀xs:List T,xs.map (mw ∘ mw)=xs
 | []=>rfl
 | x :: xs=>by rw[ay,Qb xs];show mw _ :: xs=_;rw[GL x]
end
theorem GM:Dst ws↔ws.Nodup:=by
 refine⟨Dst.nd,λh k w hw hm=> ?_⟩;obtain⟨j,hj,e⟩:=List.getElem_of_mem hm;rw[cL]at hj;rw[eX]at e;have e2:=(ak.mp hw).2;have:=(fh h).mp (e.trans e2.symm);omega
theorem JF (ks:List Kd):(Kd.row ks).mir= .row (ks.map Kd.mir).reverse:=by rw[Kd.mir,Ur]
theorem WM:∀(d:Nat) (k:Kd),k.Ok d->k.mir.Ok d
 | 0,_,h=>h.elim
 | d+1,.whole lo hi,h=>by
  have h: -20<=lo/\lo<=hi/\hi<=20:=h;exact(show -20<= -hi/\ -hi<= -lo/\ -lo<=20 by omega)
 | d+1,.pick cs,h=>by
  obtain⟨h1,h2,h3,h4⟩:=h;refine⟨by simpa using h1,by simpa using h2,λc hc=>h3 c (by simpa using hc), ?_⟩
  rw[GM]at h4 ⊢;rw[bY];exact List.pairwise_reverse.mpr (h4.imp bb)
 | d+1,.row ks,h=>by
  rw[JF];obtain⟨h1,h2,h3⟩:=h;refine⟨by simpa using h1,by simpa using h2,λc hc=> ?_⟩
  rw[dP]at hc;obtain⟨k,hk,rfl⟩:=au.mp hc;exact WM d k (h3 k hk)
 | d+1,.many k lo hi,h=>by
  obtain⟨h1,h2,h3⟩:=h;exact⟨h1,h2,WM d k h3⟩
theorem uv:∀(d:Nat) (k:Kd),k.Ok d->k.mir.mir=k
 | 0,_,h=>h.elim
 | d+1,.whole lo hi,h=>by simp[Kd.mir]
 | d+1,.pick cs,h=>by simp[Kd.mir]
 | d+1,.row ks,h=>by
  rw[JF,JF,bY,c8,aO];congr 1
  exact(br λk hk=>uv d k (h.2.2 k hk)).trans (List.map_id _)
 | d+1,.many k lo hi,h=>by rw[Kd.mir,Kd.mir,uv d k h.2.2]
theorem VS {ks:List Kd}(H:∀k∈ks,∀x,k.has x=true->k.mir.has (mw x)=true)(h:Hs ks xs):Hs (ks.map Kd.mir).reverse (xs.map mw).reverse:=by
 obtain⟨hl,h⟩:=h;refine⟨by simpa using hl,λi k x hk hx=> ?_⟩
 have hi:=by have:=(ak.mp hk).1;simpa using this
 rw[d5 (by simpa using hi),aa,ar]at hk
 rw[d5 (by simpa[hl] using hi),aa,ar,hl]at hx
 obtain⟨k',e1,rfl⟩:=fQ.mp hk;obtain⟨x',e2,rfl⟩:=fQ.mp hx;exact H k' (Jz e1) x' (h _ _ _ e1 e2)
theorem J6:∀(d:Nat) (k:Kd) (x:T),k.Ok d->k.has x=true->k.mir.has (mw x)=true
 | 0,_,_,h,_=>h.elim
 | d+1,.whole lo hi,x,h,hx=>by
  obtain⟨i,rfl,a,b⟩:=wM.mp hx;exact wM.mpr ⟨_,rfl,by omega,by omega⟩
 | d+1,.pick cs,x,h,hx=>by
  obtain⟨w,rfl,hw⟩:=J0.mp hx;exact J0.mpr ⟨w,rfl,by simpa using hw⟩
 | d+1,.row ks,x,h,hx=>by
  obtain⟨xs,rfl,hs⟩:=um hx;rw[JF,GK];exact XR (VS (λk hk x hx=>J6 d k x (h.2.2 k hk) hx) hs)
 | d+1,.many k lo hi,x,h,hx=>by
  obtain⟨xs,rfl,a,b,hs⟩:=wN hx;rw[GK];refine vQ (by simpa using a) (by simpa using b) ?_
  have:=VS (λk' hk x hx=>by rw[aY hk]at hx ⊢;exact J6 d k x h.2.2 hx) hs
  simpa using this
theorem k9 {k:Kd}(hk:k.Ok 3)(x:T):k.mir.has (mw x)=k.has x:=by
 cases e:k.has x with
 | true=>exact J6 3 k x hk e
 | false=>
  cases e2:k.mir.has _ with
  | false=>rfl
  | true=>
   have:=J6 3 _ _ (WM 3 k hk) e2;rw[uv 3 k hk,GL,e]at this;cases this
theorem kA (h:(x == w)=false):ifS (zk eqC (zb ixT (vE 0) (cE (.int 0))) (cE (.str w))) f nxS [.vl (.tup (.str x :: r))]= .nx [.vl (.tup (.str x :: r))]:=
 zo (by rw[cs0,h])
theorem z2i:ifS (zk eqC (zb ixT (vE 0) (cE (.int 0))) (cE (.str x))) f nxS [.vl (.tup (.str x :: r))]=f [.vl (.tup (.str x :: r))]:=
 wI (by rw[cs0,beq_self_eq_true])
theorem Us {c:List T->R T}{xs:List T}{h:T->T}{f:En->R T}{ρ:En}(hf:f ρ= .ok (.tup xs))(hl:xs.length<=3)(H:∀x∈xs,c [x]= .ok (h x)):
  zL (Vp f) (zE 0) (zW) (za 1 c (z9 (vE 0) (zd))) 1 [] ρ= .ok (.lst (xs.map h).reverse):=by
 have e1:Vp f ρ= .ok xs.reverse:=by unfold Vp;rw[hf];rfl
 rw[zY,e1,bOk,zH _ (by rw[bG];exact aq hl (by decide)) λt ht=>by
  show za 1 c _ [.vl t]=_;rw[zj,v0,bOk,H t (dP.mp ht)],bOk,bY]
theorem ka {f:En->R T}{ρ:En}{xs:List T}(h:f ρ= .ok (.lst xs)):ap1 yP f ρ= .ok (.tup xs):=by rw[Zd,h];rfl
theorem kb {f:En->R T}{ρ:En}{i:Int}(h:f ρ= .ok (.int i)):y7 f ρ= .ok (.int (-i)):=by rw[VB,h,bOk]
theorem WN:∀(d n:Nat),d<=n->∀k:Kd,k.Ok d->S_6 n 0 [k.t]= .ok k.mir.t
 | 0,_,_,_,h=>h.elim
 | d+1,0,h,_,_=>by omega
 | d+1,n+1,hn,k,h=>by
  have ih:=WN d n (by omega)
  show zf (b_6 _ [.vl k.t])=_;unfold b_6;cases k with
  | whole lo hi=>
   rw[Kd.t,zB]
   ·rfl
   ·rw[z2i,zg];exact z0F rfl (kb wH) (kb ja)
  | pick cs=>
   rw[Kd.t,zc (kA (by decide)),zB]
   ·rfl
   ·rw[z2i,zg];refine Jq rfl ?_;rw[bY];exact if_pos (by rw[aa];exact aq h.2.1 (by decide))
  | row ks=>
   rw[JF,Kd.t,Kd.t,Kd.ts_map,Kd.ts_map,zc (kA (by decide)),zc (kA (by decide)),zB]
   ·rfl
   ·rw[z2i,zg];refine Jq rfl (ka ?_);have:= @Us (S_6 n 0) (ks.map Kd.t) (λt=>match S_6 n 0 [t] with | .ok u=>u | _=>t) _ [.vl (.tup [.str "row",.tup _])] ja (by rw[aa];exact h.2.1) λt ht=>by
     obtain⟨k,hk,rfl⟩:=au.mp ht;rw[ih k (h.2.2 k hk)]
    refine this.trans ?_;rw[aO,bY,aO];congr 3
    refine br λk hk=> ?_;show (match S_6 n 0 _ with | .ok u=>u | _=>k.t)=k.mir.t
    rw[ih k (h.2.2 k hk)]
  | many k lo hi=>
   rw[Kd.t,zc (kA (by decide)),zc (kA (by decide)),zc (kA (by decide)),zT]
   refine z0G rfl ?_ wH UW;show za 1 _ _ [.vl _]=_;rw[zj,ja,bOk,ih k h.2.2]
theorem jj {k:Kd}(hk:k.Ok 3):f_i [k.t]= .ok k.mir.t:=by
 show zf (b_i _ _ [.vl k.t])=_;unfold b_i;rw[zc (Z9 (by rw[zj,v0,bOk,ZB hk])),zT]
 exact WN 3 8 (by omega) k hk
theorem GN {k:Kd}(hk:k.Ok 3)(x:T):z1Z [k.t,x]= .ok (.bl (k.has x)):=by
 show zf (z0h _ _ (en2 k.t x))=_;unfold z0h;rw[zc (Z9 (by rw[zj,v0,bOk,ZB hk])),zT]
 exact VF 3 20 (by omega) k x hk
theorem J7 {k:Kd}(hk:k.Ok 3){x:T}(hx:k.has x=true):f_x [k.t,x]= .ok .non:=by
 show zf (b_x _ (en2 k.t x))=_;rw[b_x,zo (by rw[JU,Jo,zn,v0,bOk,v1,bOk,GN hk,hx];rfl)];rfl
theorem vV {k:Kd}(hk:k.Ok 3){x:T}(hx:k.has x=true):f_c [k.t,x]= .ok (frT (k.sh x)):=by
 show zf (b_c _ _ (en2 k.t x))=_;unfold b_c;rw[zc (Z9 (by rw[zn,v0,bOk,v1,bOk,J7 hk hx])),zT]
 exact(wT 3 20 (by omega) (by omega) k x hk hx).1
noncomputable def Ws:Nat->T->Prop
 | _,.int _=>True
 | _,.str _=>True
 | d+1,.tup xs=>xs.length<=3/\∀x∈xs,Ws d x
 | _,_=>False
theorem vW:∀(d:Nat) (k:Kd) (x:T),k.Ok d->k.has x=true->Ws d x
 | 0,_,_,h,_=>h.elim
 | d+1,.whole lo hi,x,h,hx=>by
  obtain⟨i,rfl,a,b⟩:=wM.mp hx;trivial
 | d+1,.pick cs,x,h,hx=>by
  obtain⟨w,rfl,hw⟩:=J0.mp hx;trivial
 | d+1,.row ks,x,h,hx=>by
  obtain⟨xs,rfl,hs⟩:=um hx;refine⟨hs.1 ▸ h.2.1,λx hx=> ?_⟩;obtain⟨i,hi⟩:=bK.mp hx;have hl:=by have:=(ak.mp hi).1;rw[hs.1]at this;exact this
  obtain⟨k,hk⟩:=jc hl;exact vW d k x (h.2.2 k (Jz hk)) (hs.2 i k x hk hi)
 | d+1,.many k lo hi,x,h,hx=>by
  obtain⟨xs,rfl,a,b,hs⟩:=wN hx;exact⟨aq b h.2.1,λy hy=>vW d k y h.2.2 (aQ.mp (qR.mpr hs) y hy)⟩
theorem Qc (t:T)(b:Bool)(h:isT "tuple" t=b):WX (ap1 (UC "tuple") (vB 0)) [.vl t]= .ok b:=by
 rw[Jo,Zd,w0,bOk,UC,h];rfl
theorem VT (t:T)(b:Bool)(h:isT "str" t=b):WX (ap1 (UC "str") (vB 0)) [.vl t]= .ok b:=by
 rw[Jo,Zd,w0,bOk,UC,h];rfl
theorem VU:∀(d n:Nat),d<=n->∀x:T,Ws d x->S_y (n+1) 0 [x]= .ok (mw x)
 | d,n,hn,.int i,h=>by
  show zf (b_y (S_y n 0) [.vl (.int i)])=_;unfold b_y;rw[zc (zo (Qc _ _ rfl)),zT,z2h,ZP,ZZ,vL (VT _ _ rfl),kb v0]
 | d,n,hn,.str i,h=>by
  show zf (b_y (S_y n 0) [.vl (.str i)])=_;unfold b_y;rw[zc (zo (Qc _ _ rfl)),zT,mw_s,ZP,ZZ,vK (VT _ _ rfl),v0]
 | d+1,n+1,hn,.tup xs,h=>by
  show zf (b_y _ [.vl _])=_;unfold b_y;rw[zB]
  ·rfl
  ·rw[wI (Qc _ _ rfl),zg];rw[GK];exact ka (Us v0 h.1 λx hx=>VU d n (by omega) x (h.2 x hx))
 | d+1,0,hn,.tup xs,h=>by omega
 | 0,_,_,.tup _,h=>h.elim
 | 0,_,_,.non,h=>h.elim
 | 0,_,_,.bl _,h=>h.elim
 | 0,_,_,.lst _,h=>h.elim
 | 0,_,_,.fz _,h=>h.elim
 | _+1,_,_,.non,h=>h.elim
 | _+1,_,_,.bl _,h=>h.elim
 | _+1,_,_,.lst _,h=>h.elim
 | _+1,_,_,.fz _,h=>h.elim
theorem uw {k:Kd}(hk:k.Ok 3){x:T}(hx:k.has x=true):Xp [k.t,x]= .ok (mw x):=by
 show zf (z0q _ _ (en2 k.t x))=_;unfold z0q;rw[zc (Z9 (by rw[zn,v0,bOk,v1,bOk,J7 hk hx])),zT]
 exact VU 3 7 (by omega) x (vW 3 k x hk hx)
theorem vX:∀(ws acc:List Str),acc.Nodup->(dd acc ws).Nodup
 | [],acc,h=>h
 | w :: ws,acc,h=>by
  unfold dd
  by_cases e:w∈acc
  ·rw[if_pos e];exact vX ws acc h
  ·rw[if_neg e];exact vX ws _ (List.nodup_append.mpr ⟨h,by simp,λa ha b hb=>by rw[aC.mp hb];rintro rfl;exact e ha⟩)
theorem w9:∀(ws acc:List Str) (x:Str),x∈dd acc ws↔x∈acc\/x∈ws
 | [],acc,x=>by simp[dd]
 | w :: ws,acc,x=>by
  unfold dd
  by_cases e:w∈acc
  ·rw[if_pos e,w9 ws acc,aj];constructor
   ·rintro(h | h)
    ·exact .inl h
    ·exact .inr (.inr h)
   ·rintro(h | rfl | h)
    ·exact .inl h
    ·exact .inl e
    ·exact .inr h
  ·rw[if_neg e,w9 ws _,cy,aC,aj];constructor
   ·rintro((h | h) | h)
    ·exact .inl h
    ·exact .inr (.inl h)
    ·exact .inr (.inr h)
   ·rintro(h | h | h)
    ·exact .inl (.inl h)
    ·exact .inl (.inr h)
    ·exact .inr h
theorem wV (x:Str):∀l:List Str,(yc x l).Perm (x :: l)
 | []=> .refl _
 | y :: r=>by
  unfold yc;split
  ·exact((wV x r).cons y).trans (.swap x y r)
  ·exact .refl _
theorem zZ:∀l:List Str,(WS l).Perm l
 | []=> .refl _
 | x :: r=>(wV x _).trans ((zZ r).cons x)
theorem GO:ltS a b=false↔b.cps.toList<=a.cps.toList:=by
 unfold ltS;rw[decide_eq_false_iff_not,k_]
theorem kd (h:ltS a b=true):a.cps.toList<=b.cps.toList:=List.le_of_lt (of_decide_eq_true h)
theorem VV (x:Str):∀l:List Str,l.Pairwise (λa b=>a.cps.toList<=b.cps.toList)->(yc x l).Pairwise λa b=>a.cps.toList<=b.cps.toList
 | [],_=>by simp[yc]
 | y :: r,h=>by
  unfold yc;rw[a_]at h;split
  ·rename_i e;refine a_.mpr ⟨λz hz=> ?_,VV x r h.2⟩;rcases aj.mp ((wV x r).mem_iff.mp hz) with rfl | hz
   ·exact kd e
   ·exact h.1 z hz
  ·rename_i e;have e:=GO.mp (by simpa using e)
   refine a_.mpr ⟨λz hz=> ?_,a_.mpr h⟩;rcases aj.mp hz with rfl | hz
   ·exact e
   ·exact List.le_trans e (h.1 z hz)
theorem ux:∀l:List Str,(WS l).Pairwise λa b=>a.cps.toList<=b.cps.toList
 | []=> .nil
 | x :: r=>VV x _ (ux r)
theorem ke {l m:List Str}(hl:l.Nodup)(hm:m.Nodup)(h:∀x,x∈l↔x∈m):l.Perm m:=by
 rw[List.perm_iff_count];intro a
 by_cases e:a∈l
 ·have h1:=i4.mp hl a;have h2:=i4.mp hm a;have h3:=iu.mpr e;have h4:=iu.mpr ((h a).mp e);omega
 ·rw[dU e,dU λx=>e ((h a).mpr x)]
theorem Qd {a b:List Str}(h:∀w,w∈a↔w∈b):WS (dd [] a)=WS (dd [] b):=by
 refine List.Perm.eq_of_pairwise (λa b _ _ h1 h2=>Str.ext' (Array.toList_inj.mp (iW h1 h2))) (ux _) (ux _) (((zZ _).trans (ke (vX _ _ .nil) (vX _ _ .nil) λx=> ?_)).trans (zZ _).symm);rw[w9,w9,h]
theorem wa {k l:Kd}(hk:k.Ok 3)(hl:l.Ok 3):∃b,ye [k.t,l.t]= .ok (.bl b)/\(b=true↔∀x,k.has x=true->l.has x=true):=by
 obtain⟨b,hb⟩:=qQ hk hl;refine⟨b,hb,λe=>y3 hk hl (by rw[hb,e]),λh=> ?_⟩
 have:=ul hk hl h;rw[hb]at this;injection this with h;injection h
theorem WO {k l:Kd}(hk:k.Ok 3)(hl:l.Ok 3):∃b,Xq [k.t,l.t]= .ok (.bl b)/\(b=true↔∀x,(k.has x && l.has x)=false):=by
 obtain⟨o,_,b2,b3,_,b5⟩:=com hk hl;refine⟨_,b5, ?_⟩;cases o with
 | none=>exact⟨λ_ x=>(b3 x).symm,λ_=>rfl⟩
 | some c=>
  refine⟨(λh=>nomatch h),λh=> ?_⟩;obtain⟨x,hx⟩:=jc (Z2 3 c b2.1);have h1:=(Ze c x).mp (aN hx);have h2:c.has x=(k.has x && l.has x):=b3 x;rw[h1,h x]at h2;cases h2
theorem Qe (h:a=true↔b=true):a=b:=by cases a <;> cases b <;> simp_all
noncomputable abbrev r2 (a b:Kd):Kd:= .row [a,b]
section
theorem wW (ha:a.Ok 2)(hb:b.Ok 2):(r2 a b).Ok 3:=⟨by simp,by simp,λk hk=>by
 simp only[aj,be,or_false]at hk;rcases hk with rfl | rfl
 ·exact ha
 ·exact hb⟩
theorem jP:(r2 a b).has (.tup [x,y])=(a.has x && b.has y):=by
 show (true && (a.has x && (b.has y && true)))=_;rw[cI,dR]
theorem VW (h:(r2 a b).has t=true):∃x y,t= .tup [x,y]/\a.has x=true/\b.has y=true:=by
 obtain⟨xs,rfl,hl,hh⟩:=vP _ t h
 match xs,hl with
 | [x,y],_=>
  have:=h;rw[jP,ah]at this;exact⟨x,y,rfl,this.1,this.2⟩
theorem VX:(r2 a b).all=a.all.flatMap λx=>b.all.map λy=>T.tup [x,y]:=by
 show (zJ _ [a.all,b.all]).map _=_;rw[WL,WL];rw[fF];congr 1;funext x
 rw[aO,fF]
 induction b.all with
 | nil=>rfl
 | cons y ys ih=>rw[aK,ih];rfl
theorem VY {α β:Type}(f:α->β->T)(m:List β):∀l:List α,(l.flatMap λx=>m.map (f x)).length=l.length*m.length
 | []=>by simp
 | x :: l=>by rw[aK,az,aa,VY f m l,aw,eh,fK]
theorem GP {α β:Type}(f:α->β->T)(m:List β){y:β}(hj:m[j]? =some y):∀(l:List α) (i:Nat) (x:α),l[i]? =some x->(l.flatMap λx=>m.map (f x))[i*m.length+j]? =some (f x y)
 | [],i,x,h=>by simp at h
 | z :: l,0,x,h=>by
  obtain rfl:z=x:=by simpa using h
  have hl:j < (m.map (f z)).length:=by rw[aa];exact(ak.mp hj).1
  rw[aK,Nat.zero_mul,fP,aT hl,ar,hj];rfl
 | z :: l,i+1,x,h=>by
  rw[aK,aJ (by rw[aa,eh];omega),aa,show (i+1)*m.length+j - m.length=i*m.length+j by rw[eh];omega]
  exact GP f m hj l i x (by simpa using h)
theorem GQ:(r2 a b).all.length=a.all.length*b.all.length:=by rw[VX,VY]
theorem z2j (hi:a.all[i]? =some x)(hj:b.all[j]? =some y):(r2 a b).all[i*b.all.length+j]? =some (.tup [x,y]):=by
 rw[VX];exact GP (λx y=>T.tup _) _ hj _ i x hi
theorem z2k (ha:1<=a.dp)(hb:1<=b.dp):(r2 a b).dp=1+(if b.dp > a.dp then b.dp else a.dp):=by
 rw[Kd.dp,Kd.dpm,Kd.dpm,Kd.dpm];split <;> split <;> split at* <;> omega
theorem z2l:(r2 a b).sh (.tup [x,y])=a.sh x*b.sh y:=by
 show a.sh x*(b.sh y*1)=_;rw[Rat.mul_one]
theorem z2m:(r2 a b).wt (.tup [x,y])=a.wt x+b.wt y:=by
 show a.wt x+(b.wt y+0)=_;omega
theorem z2n:(r2 a b).mn=a.mn+b.mn:=by
 show a.mn+(b.mn+0)=_;rw[Rat.add_zero]
theorem z2o:mw (.tup [x,y])= .tup [mw y,mw x]:=by rfl
theorem GR:(r2 a b).rlo=a.rlo+b.rlo:=by rw[Kd.rlo,Kd.rlos,Kd.rlos,Kd.rlos];omega
theorem GS:(r2 a b).rhi=a.rhi+b.rhi:=by rw[Kd.rhi,Kd.rhis,Kd.rhis,Kd.rhis];omega
theorem GT:(r2 a b).wds=a.wds++b.wds:=by rw[Kd.wds,Kd.wdss,Kd.wdss,Kd.wdss,bz]
theorem kf {k:Kd}(hk:k.Ok 3):∃x,k.has x=true:=by
 obtain⟨x,hx⟩:=jc (Z2 3 k hk);exact⟨x,(Ze k x).mp (aN hx)⟩
theorem z2p:∀(d:Nat) (k:Kd),k.Ok d->k.Ok (d+1)
 | 0,_,h=>h.elim
 | d+1,.whole lo hi,h=>h
 | d+1,.pick cs,h=>h
 | d+1,.row ks,h=>⟨h.1,h.2.1,λk hk=>z2p d k (h.2.2 k hk)⟩
 | d+1,.many k lo hi,h=>⟨h.1,h.2.1,z2p d k h.2.2⟩
theorem up3 {k:Kd}(h:k.Ok 2):k.Ok 3:=z2p 2 k h
theorem kg (u:Int)(d:Nat)(hd:1<=d):∃m:Nat,u % (d:Int)=(m:Int)/\d7 d m=d7 u.natAbs d:=by
 obtain⟨m,hm⟩:=cQ (fV u (show (d:Int) ≠ 0 by omega))
 refine⟨m,hm, ?_⟩;have h1:lh (u % (d)) (d)=lh u (d):=by rw[Int.emod_def,Int.mul_comm,Int.gcd_sub_mul_right_left]
 rw[hm]at h1;have h2:lh (m) (d)=d7 m d:=rfl;have h3:lh u (d)=d7 _ d:=rfl;rw[dL,← h2,h1,h3]
end
theorem Qf (hf:f ρ= .ok x)(hg:g ρ= .ok y):z9 f (z9 g zd) ρ= .ok [x,y]:=by
 show ((f ρ).bind λt=>((z9 g _) ρ).bind λts=> .ok _)=_;rw[hf];show ((g ρ).bind λt=>(R.ok []).bind λts=>R.ok _).bind _=_;rw[hg];rfl
theorem uy {k:Kd}(hk:k.Ok 3){i:Nat}{x:T}(hx:k.all[i]? =some x):G1 [k.t,.int (i:Int)]= .ok x:=by
 have hi:=(ak.mp hx).1;show zf (z0j _ _ _ _ (en2 k.t _))=_;rw[z0j,zc (Z9 (by rw[zj,v0,bOk,ZB hk])),zc (zo ((XM hk _).trans (by rw[decide_eq_true (by omega:(i:Int) < (k.all.length))];rfl))),zg]
 ·rfl
 ·show za 2 _ _ (en2 _ _)=_;rw[zn,v0,bOk,v1,bOk,Gu hk hx]
theorem JG {k:Kd}(hk:k.Ok 3){i:Nat}{x:T}(hx:k.all[i]? =some x):vw [k.t,x]= .ok (.int (i:Int)):=by
 have hh:=(Ze k x).mp (aN hx);show zf (z0i _ _ (en2 k.t x))=_;rw[z0i,zc (Z9 (by rw[zn,v0,bOk,v1,bOk,J7 hk hh])),zg]
 ·rfl
 ·show za 2 _ _ (en2 _ _)=_;rw[zn,v0,bOk,v1,bOk,z26 hk hx]
theorem fww {k:Kd}(h:k.Ok 3){x:T}(hx:k.has x=true):f_p 20 [k.t,x]= .ok (.int (k.wt x)):=GD 3 20 (by omega) k x h hx
theorem JH {k:Kd}(hk:k.Ok 3){x:T}(hx:k.has x=true):f_4 [k.t,x]= .ok (.int (k.wt x)):=by
 show zf (b_4 _ _ (en2 k.t x))=_;rw[b_4,zc (Z9 (by rw[zn,v0,bOk,v1,bOk,J7 hk hx])),zg]
 ·rfl
 ·show za _ _ _ (en2 k.t x)=_;rw[zn,v0,bOk,v1,bOk,fww hk hx]
abbrev lqB:En->RS:=JQ 4 5 (z9 (vE 5) (z9 (zb Jc (vE 4) (vE 5)) (zd)))
theorem Qg:∀(n y x:Nat),y < n->Zh (zk neC (vB 5) (cE (.int 0))) lqB n [a,b,c,d,.vl (.int (x:Int)),.vl (.int (y:Int))]= .nx [a,b,c,d,.vl (.int ((d7 x y:Nat):Int)),.vl (.int 0)]
 | 0,y,x,h=>by omega
 | n+1,0,x,h=>by
  rw[ir];rfl
 | n+1,y+1,x,h=>by
  have e:lqB [a,b,c,d,.vl (.int (x)),.vl (.int ((y+1:Nat)))]= .nx [a,b,c,d,.vl (.int ((y+1:Nat))),.vl (.int ((x % (y+1):Nat)))]:=by
   show JQ 4 5 _ _=_;unfold JQ;rw[Qf rfl (by rw[ze,v4',bOk,v5',bOk,modn (by omega)])];rfl
  have hlt:x % (y+1) < n:=by have:=eJ x (show y+1 > 0 by omega);omega
  rw[wR (show zk neC (vB 5) (cE (.int 0)) [a,b,c,d,.vl _,.vl (.int ((y+1:Nat)))]= .ok _ from GG) e,Qg n _ _ hlt,dL _,← Nat.gcd_rec,dL]
theorem vY (h:Bd p m)(k:Bd q n)(hm:m+n < 8000):z0u [frT p,frT q]= .ok (frT (p+q)):=by
 obtain⟨u,hu⟩:∃u:Int,p.num*(q.den:Int)+q.num*(p.den:Int)=u:=⟨_,rfl⟩;have hd:=cD (Qm p) (Qm q);have h9:=lt9 (m:=m+n) (by rw[dh];exact bg h.den k.den) (by omega)
 have g1:1<=d7 u.natAbs _:=fg _ hd;have g9:d7 u.natAbs _ < 2 ^ 9000:=bm (iY _ hd) h9;obtain⟨m1,m2⟩:=GI u _ hd;have hs:p+q=mkRat u (p.den*q.den):=by rw[← hu];exact iN p q
 obtain⟨z,hz,hg⟩:=kg u _ hd;have hzl:=by
  have:=eO u (show (0:Int) < ((p.den*q.den:Nat)) by omega)
  omega
 show zf (z0t [.vl _,.vl _,.un,.un,.un,.un])=_;have e0:∀{a b c d:Sl},vE 0 [.vl (frT p),.vl (frT q),a,b,c,d]= .ok _:=rfl;have e1:∀{a b c d:Sl},vE 1 [.vl (frT p),.vl (frT q),a,b,c,d]= .ok _:=rfl;have r1:JQ 2 3 (z9 (zb zq (zb mlT (zb ixT (vE 0) (cE (.int 0))) (zb ixT (vE 1) (cE (.int 1)))) (zb mlT (zb ixT (vE 1) (cE (.int 0))) (zb ixT (vE 0) (cE (.int 1))))) (z9 (zb mlT (zb ixT (vE 0) (cE (.int 1))) (zb ixT (vE 1) (cE (.int 1)))) (zd))) [.vl (frT p),.vl (frT q),.un,.un,.un,.un]= .nx [.vl (frT p),.vl (frT q),.vl (.int u),.vl (.int ((p.den*q.den:Nat))),.un,.un]:=by
  unfold JQ;rw[Qf (by
   rw[Q1 (jw (ix0 e0) (ix1 e1) h.num (nd _ k.den) (by omega) (by omega)) (jw (ix0 e1) (ix1 e0) k.num (nd _ h.den) (by omega) (by omega)),hu]) (by
   rw[jw (ix1 e0) (ix1 e1) (nd _ h.den) (nd _ k.den) (by omega) (by omega),← ce])];rfl
 have r3:Zh (zk neC (vB 5) (cE (.int 0))) lqB (2 ^ 9000) [.vl (frT p),.vl (frT q),.vl (.int u),.vl (.int ((p.den*q.den:Nat))),.vl (.int u),.vl (.int ((p.den*q.den:Nat)))]= .nx [.vl (frT p),.vl (frT q),.vl (.int u),.vl (.int ((p.den*q.den:Nat))),.vl (.int ((d7 u.natAbs (p.den*q.den)):Int)),.vl (.int 0)]:=by
  obtain⟨f,hf⟩:∃f,2 ^ 9000=f+1:=⟨2 ^ 9000 - 1,by omega⟩
  rw[hf];have e:lqB [.vl (frT p),.vl (frT q),.vl (.int u),.vl (.int ((p.den*q.den:Nat))),.vl (.int u),.vl (.int ((p.den*q.den:Nat)))]= .nx [.vl (frT p),.vl (frT q),.vl (.int u),.vl (.int ((p.den*q.den:Nat))),.vl (.int ((p.den*q.den:Nat))),.vl (.int (z))]:=by
   show JQ 4 5 _ _=_;unfold JQ;rw[Qf rfl (by
    show (if 0 < ((p.den*q.den):Int) then R.ok _ else .bad)=_
    rw[if_pos (by omega),hz])];rfl
  rw[wR (show zk neC _ _ _= .ok _ by
   show R.ok _=_;rw[beq_eq_false_iff_ne.mpr (by omega)];rfl) e,Qg f z _ (by omega),hg]
 unfold z0t;rw[zc r1,zc (show JQ 4 5 _ _= .nx [.vl _,.vl _,.vl _,.vl _,.vl _,.vl _] from rfl),zc r3,zg]
 ·rfl
 ·rw[hs];unfold frT;rw[m1,m2];exact Jq (Uq g1 g9) (Uq g1 g9)
theorem z2q (h:f ρ= .ok false)(h' :g ρ= .ok b):orT f g ρ= .ok b:=by rw[YO,h,bOk,if_neg aE,h']
theorem GU:∀(d:Nat) (x:T),Ws d x->Pl (d+1) x
 | _,.int _,_=>trivial
 | _,.str _,_=>trivial
 | d+1,.tup xs,h=>λy hy=>GU d y (h.2 y hy)
 | 0,.tup _,h=>h.elim
 | 0,.non,h=>h.elim
 | 0,.bl _,h=>h.elim
 | 0,.lst _,h=>h.elim
 | 0,.fz _,h=>h.elim
 | _+1,.non,h=>h.elim
 | _+1,.bl _,h=>h.elim
 | _+1,.lst _,h=>h.elim
 | _+1,.fz _,h=>h.elim
theorem wpl {k:Kd}(hk:k.Ok 3){x:T}(hx:k.has x=true):Pl 30 x:=(GU 3 x (vW 3 k x hk hx)).le (by decide)
theorem z2r (q:Rat):Pl 30 (frT q):=λx hx=>by
 simp only[aj,be,or_false]at hx;rcases hx with rfl | rfl <;> trivial
abbrev lr4 (ns:List Int)(a b c:Kd)(p q r s t u v:Sl):En:=[.vl (scr ns),.vl a.t,.vl b.t,.vl c.t,.vl (r2 a b).t,.vl (.int (b.all.length:Int)),p,q,r,s,t,u,v]
section
variable {ns:List Int}{a b c:Kd}{x y:T}{p q r s t u v:Sl}
abbrev qA:En->RS:=JQ 8 9 (z9 (zG (z9 (vE 6) (z9 (vE 7) (zd)))) (z9 (zb zq (zb mlT (za 2 vw (z9 (vE 1) (z9 (vE 6) (zd)))) (vE 5)) (za 2 vw (z9 (vE 2) (z9 (vE 7) (zd))))) (zd)))
abbrev qB:En->RS:=ifS (orT (zk neC (za 2 vw (z9 (vE 4) (z9 (vE 8) (zd)))) (vB 9)) (zk neC (za 2 G1 (z9 (vE 4) (z9 (vE 9) (zd)))) (vB 8))) (zi (cE (.bl false))) (nxS)
abbrev qC:En->RS:=JQ 10 11 (z9 (za 2 f_c (z9 (vE 1) (z9 (vE 6) (zd)))) (z9 (za 2 f_c (z9 (vE 2) (z9 (vE 7) (zd)))) (zd)))
abbrev qD:En->RS:=zA 12 (za 2 f_c (z9 (vE 4) (z9 (vE 8) (zd))))
abbrev qE:En->RS:=ifS (zk neC (zb mlT (zb mlT (zb ixT (vE 12) (cE (.int 0))) (zb ixT (vE 10) (cE (.int 1)))) (zb ixT (vE 11) (cE (.int 1)))) (zb mlT (zb mlT (zb ixT (vE 12) (cE (.int 1))) (zb ixT (vE 10) (cE (.int 0)))) (zb ixT (vE 11) (cE (.int 0))))) (zi (cE (.bl false))) (nxS)
abbrev qF:En->RS:=ifS (zk neC (za 2 f_4 (z9 (vE 4) (z9 (vE 8) (zd)))) (zb zq (za 2 f_4 (z9 (vE 1) (z9 (vE 6) (zd)))) (za 2 f_4 (z9 (vE 2) (z9 (vE 7) (zd)))))) (zi (cE (.bl false))) (nxS)
abbrev qG:En->RS:=ifS (zk neC (za 2 Xp (z9 (vE 4) (z9 (vE 8) (zd)))) (zG (z9 (za 2 Xp (z9 (vE 2) (z9 (vE 7) (zd)))) (z9 (za 2 Xp (z9 (vE 1) (z9 (vE 6) (zd)))) (zd))))) (zi (cE (.bl false))) (nxS)
abbrev qX:En->RS:=zh qA (zh qB (zh qC (zh qD (zh qE (zh qF qG)))))
theorem z2s (p q:Rat):(p*q).num*(p.den:Int)*(q.den:Int)=((p*q).den:Int)*p.num*q.num:=by
 have h1:p*q=mkRat (p.num*q.num) (p.den*q.den):=iM p q;have h2:mkRat (p*q).num (p*q).den=mkRat (p.num*q.num) (p.den*q.den):=by rw[Rat.mkRat_self];exact h1
 rw[Rat.mkRat_eq_iff (bT (p*q).den_pos) (Nat.mul_ne_zero (bT p.den_pos) (bT q.den_pos))]at h2;rw[ce]at h2;rw[Int.mul_assoc,h2,Int.mul_comm,Int.mul_assoc]
theorem shb {k:Kd}(hk:k.Ok 3){x:T}(hx:k.has x=true):f_c [k.t,x]= .ok (frT (k.sh x))/\Bd (k.sh x) 91:=⟨vV hk hx,(wT 3 20 (by omega) (by omega) k x hk hx).2⟩
theorem z2t (ha:a.Ok 2)(hb:b.Ok 2)(la:a.all.length<=9)(lb:b.all.length<=9)(hx:x∈a.all)(hy:y∈b.all):∃r' s' t' u' v',qX (lr4 ns a b c (.vl x) (.vl y) r s t u v)= .nx (lr4 ns a b c (.vl x) (.vl y) r' s' t' u' v'):=by
 have ha3:=up3 ha;have hb3:=up3 hb;have hR:=wW ha hb;obtain⟨i,hi⟩:=bK.mp hx;obtain⟨j,hj⟩:=bK.mp hy;have hxa:=(Ze a x).mp hx;have hyb:=(Ze b y).mp hy;have hi9:=(ak.mp hi).1;have hj9:=(ak.mp hj).1;have hat:=z2j hi hj;have hxy:(r2 a b).has (.tup [x,y])=true:=by rw[jP,hxa,hyb];rfl
 obtain⟨s1,b1⟩:=shb ha3 hxa;obtain⟨s2,b2⟩:=shb hb3 hyb;obtain⟨s3,b3⟩:=shb hR hxy;rw[z2l]at s3 b3;refine⟨.vl (.tup [x,y]),.vl (.int ((i*b.all.length+j:Nat):Int)),.vl (frT (a.sh x)),.vl (frT (b.sh y)),.vl (frT (a.sh x*b.sh y)), ?_⟩;have e1:qA (lr4 ns a b c (.vl x) (.vl y) r s t u v)= .nx (lr4 ns a b c (.vl x) (.vl y) (.vl (.tup [x,y])) (.vl (.int ((i*b.all.length+j:Nat):Int))) t u v):=by
  show JQ 8 9 _ _=_;unfold JQ;have n1:za 2 vw (z9 (vE 1) (z9 (vE 6) (zd))) (lr4 ns a b c (.vl x) (.vl y) r s t u v)= .ok (.int (i:Int)):=by
   rw[zn,v1,bOk];exact JG ha3 hi
  have n2:za 2 vw (z9 (vE 2) (z9 (vE 7) (zd))) (lr4 ns a b c (.vl x) (.vl y) r s t u v)= .ok (.int (j:Int)):=by
   rw[zn,v2,bOk];exact JG hb3 hj
  rw[Qf (x:= .tup [x,y]) (y:= .int ((i*b.all.length+j:Nat):Int)) (Jq rfl rfl) (by
   rw[Q1 (jw (m:=4) (n:=4) n1 (show vE 5 (lr4 ns a b c (.vl x) (.vl y) r s t u v)= .ok (.int (b.all.length:Int)) from rfl) (by rw[du];omega) (by rw[du];omega) (by decide) (by decide)) n2,ld,ce])]
  rfl
 have e2:qB (lr4 ns a b c (.vl x) (.vl y) (.vl (.tup [x,y])) (.vl (.int ((i*b.all.length+j:Nat):Int))) t u v)= .nx (lr4 ns a b c (.vl x) (.vl y) (.vl (.tup [x,y])) (.vl (.int ((i*b.all.length+j:Nat):Int))) t u v):=by
  refine zo (z2q ?_ ?_)
  ·rw[zx,zn,v4,bOk];show (vw [(r2 a b).t,.tup [x,y]]).bind _=_;rw[JG hR hat,bOk];exact qx
  ·rw[zx,zn,v4,bOk];show (G1 [(r2 a b).t,.int ((i*b.all.length+j:Nat):Int)]).bind _=_;rw[uy hR hat,bOk];exact jE (wpl hR hxy)
 have e3:qC (lr4 ns a b c (.vl x) (.vl y) (.vl (.tup [x,y])) (.vl (.int ((i*b.all.length+j:Nat):Int))) t u v)= .nx (lr4 ns a b c (.vl x) (.vl y) (.vl (.tup [x,y])) (.vl (.int ((i*b.all.length+j:Nat):Int))) (.vl (frT (a.sh x))) (.vl (frT (b.sh y))) v):=by
  show JQ 10 11 _ _=_;unfold JQ;rw[Qf (x:=frT (a.sh x)) (y:=frT (b.sh y)) (by rw[zn,v1,bOk];exact s1) (by rw[zn,v2,bOk];exact s2)]
  rfl
 have e4:qD (lr4 ns a b c (.vl x) (.vl y) (.vl (.tup [x,y])) (.vl (.int ((i*b.all.length+j:Nat):Int))) (.vl (frT (a.sh x))) (.vl (frT (b.sh y))) v)= .nx (lr4 ns a b c (.vl x) (.vl y) (.vl (.tup [x,y])) (.vl (.int ((i*b.all.length+j:Nat):Int))) (.vl (frT (a.sh x))) (.vl (frT (b.sh y))) (.vl (frT (a.sh x*b.sh y)))):=by
  show zA 12 _ _=_;rw[zy (t:=frT (a.sh x*b.sh y))]
  ·rfl
  ·rw[zn,v4,bOk];exact s3
 have e5:qE (lr4 ns a b c (.vl x) (.vl y) (.vl (.tup [x,y])) (.vl (.int ((i*b.all.length+j:Nat):Int))) (.vl (frT (a.sh x))) (.vl (frT (b.sh y))) (.vl (frT (a.sh x*b.sh y))))= .nx (lr4 ns a b c (.vl x) (.vl y) (.vl (.tup [x,y])) (.vl (.int ((i*b.all.length+j:Nat):Int))) (.vl (frT (a.sh x))) (.vl (frT (b.sh y))) (.vl (frT (a.sh x*b.sh y)))):=by
  generalize hρ:lr4 ns a b c (.vl x) (.vl y) (.vl (.tup [x,y])) (.vl (.int ((i*b.all.length+j:Nat):Int))) (.vl (frT (a.sh x))) (.vl (frT (b.sh y))) (.vl (frT (a.sh x*b.sh y)))=ρ;have w12:vE 12 ρ= .ok (.tup [.int (a.sh x*b.sh y).num,.int (a.sh x*b.sh y).den]):=by rw[← hρ];rfl
  have w10:vE 10 ρ= .ok (.tup [.int (a.sh x).num,.int (a.sh x).den]):=by rw[← hρ];rfl
  have w11:vE 11 ρ= .ok (.tup [.int (b.sh y).num,.int (b.sh y).den]):=by rw[← hρ];rfl
  have two:∀{i j:Int} {m n:Nat},i.natAbs<=2 ^ m->j.natAbs<=2 ^ n->(i*j).natAbs<=2 ^ (m+n):=λh k=>by rw[eQ,dh];exact bg h k
  refine zo ?_;rw[zx,jw (jw (ix0 w12) (ix1 w10) b3.num (nd _ b1.den) (by decide) (by decide)) (ix1 w11) (two b3.num (nd _ b1.den)) (nd _ b2.den) (by decide) (by decide),bOk,
   jw (jw (ix1 w12) (ix0 w10) (nd _ b3.den) b1.num (by decide) (by decide)) (ix0 w11) (two (nd _ b3.den) b1.num) b2.num (by decide) (by decide),bOk,z2s,qx]
 have e6:qF (lr4 ns a b c (.vl x) (.vl y) (.vl (.tup [x,y])) (.vl (.int ((i*b.all.length+j:Nat):Int))) (.vl (frT (a.sh x))) (.vl (frT (b.sh y))) (.vl (frT (a.sh x*b.sh y))))= .nx (lr4 ns a b c (.vl x) (.vl y) (.vl (.tup [x,y])) (.vl (.int ((i*b.all.length+j:Nat):Int))) (.vl (frT (a.sh x))) (.vl (frT (b.sh y))) (.vl (frT (a.sh x*b.sh y)))):=by
  refine zo ?_;rw[zx,zn,v4,bOk];show (f_4 [(r2 a b).t,.tup [x,y]]).bind _=_;rw[JH hR hxy,bOk,ze,zn,v1,bOk];show ((f_4 [a.t,x]).bind _).bind _=_;rw[JH ha3 hxa,bOk,zn,v2,bOk];show ((f_4 [b.t,y]).bind _).bind _=_;rw[JH hb3 hyb,bOk,zR,bOk,z2m,qx]
 have e7:qG (lr4 ns a b c (.vl x) (.vl y) (.vl (.tup [x,y])) (.vl (.int ((i*b.all.length+j:Nat):Int))) (.vl (frT (a.sh x))) (.vl (frT (b.sh y))) (.vl (frT (a.sh x*b.sh y))))= .nx (lr4 ns a b c (.vl x) (.vl y) (.vl (.tup [x,y])) (.vl (.int ((i*b.all.length+j:Nat):Int))) (.vl (frT (a.sh x))) (.vl (frT (b.sh y))) (.vl (frT (a.sh x*b.sh y)))):=by
  refine zo ?_;rw[zx,zn,v4,bOk];show (Xp [(r2 a b).t,.tup [x,y]]).bind _=_;rw[uw hR hxy,bOk,Jq (x:=mw y) (y:=mw x) (by rw[zn,v2,bOk];exact uw hb3 hyb) (by rw[zn,v1,bOk];exact uw ha3 hxa),bOk,← z2o]
  exact jE (wpl (WM 3 _ hR) (by rw[k9 hR];exact hxy))
 show zh _ _ _=_;rw[show _=_ from zc e1,show _=_ from zc e2,show _=_ from zc e3,show _=_ from zc e4,show _=_ from zc e5,show _=_ from zc e6];exact e7
theorem GV (ha:a.Ok 2)(hb:b.Ok 2)(la:a.all.length<=9)(lb:b.all.length<=9)(hx:x∈a.all):∀(ys:List T) (q r s t u v:Sl),(∀y∈ys,y∈b.all)->∃q' r' s' t' u' v',Za (zE 7) qX ys (lr4 ns a b c (.vl x) q r s t u v)= .nx (lr4 ns a b c (.vl x) q' r' s' t' u' v')
 | [],q,r,s,t,u,v,_=>⟨q,r,s,t,u,v,rfl⟩
 | y :: ys,q,r,s,t,u,v,h=>by
  obtain⟨r1,s1,t1,u1,v1,h1⟩:=z2t (ns:=ns) (c:=c) (r:=r) (s:=s) (t:=t) (u:=u) (v:=v) ha hb la lb hx (h y ac);obtain⟨q2,r2',s2,t2,u2,v2,h2⟩:=GV ha hb la lb hx ys (.vl y) r1 s1 t1 u1 v1 λz hz=>h z (a8 _ hz);refine⟨q2,r2',s2,t2,u2,v2, ?_⟩;rw[jb (ρ1:=lr4 ns a b c (.vl x) (.vl y) r s t u v) rfl h1];exact h2
abbrev qO:En->RS:=ZN (Zm (za 1 (f_9 8) (z9 (vE 2) (zd)))) (zE 7) qX
theorem outer (ha:a.Ok 2)(hb:b.Ok 2)(la:a.all.length<=9)(lb:b.all.length<=9):∀(xs:List T) (p q r s t u v:Sl),(∀x∈xs,x∈a.all)->∃p' q' r' s' t' u' v',Za (zE 6) qO xs (lr4 ns a b c p q r s t u v)= .nx (lr4 ns a b c p' q' r' s' t' u' v')
 | [],p,q,r,s,t,u,v,_=>⟨p,q,r,s,t,u,v,rfl⟩
 | x :: xs,p,q,r,s,t,u,v,h=>by
  obtain⟨q1,r1,s1,t1,u1,v1,h1⟩:=GV (ns:=ns) (c:=c) ha hb la lb (h x ac) b.all q r s t u v λ_ z=>z;obtain⟨p2,q2,r2',s2,t2,u2,v2,h2⟩:=outer ha hb la lb xs (.vl x) q1 r1 s1 t1 u1 v1 λz hz=>h z (a8 _ hz);refine⟨p2,q2,r2',s2,t2,u2,v2, ?_⟩;have eb:f_9 8 [b.t]= .ok (.lst b.all):=U3 3 8 (by omega) (by omega) b (up3 hb) (by omega)
  have e1:qO (lr4 ns a b c (.vl x) q r s t u v)= .nx (lr4 ns a b c (.vl x) q1 r1 s1 t1 u1 v1):=by
   show ZN _ _ _ _=_;unfold ZN;rw[jr,zj,G.v2,bOk,eb];exact h1
  rw[jb (ρ1:=lr4 ns a b c (.vl x) q r s t u v) rfl e1];exact h2
end
theorem kh:∀(d:Nat) (k:Kd),k.Ok d->Pl (2*d+2) k.t
 | 0,_,h=>h.elim
 | d+1,.whole lo hi,h=>λx hx=>by
  simp only[aj,be,or_false]at hx;rcases hx with rfl | rfl | rfl <;> trivial
 | d+1,.pick cs,h=>λx hx=>by
  simp only[aj,be,or_false]at hx;rcases hx with rfl | rfl
  ·trivial
  ·intro y hy;obtain⟨c,_,rfl⟩:=au.mp hy;intro z hz;simp only[aj,be,or_false]at hz;rcases hz with rfl | rfl <;> trivial
 | d+1,.row ks,h=>λx hx=>by
  have hx:=by simpa using hx
  rcases hx with rfl | rfl
  ·trivial
  ·intro y hy;rw[Kd.ts_map]at hy;obtain⟨q,hq,rfl⟩:=au.mp hy;exact(kh d q (h.2.2 q hq)).le (by omega)
 | d+1,.many k lo hi,h=>λx hx=>by
  have hx:=by simpa using hx
  rcases hx with rfl | rfl | rfl | rfl
  ·trivial
  ·exact(kh d k h.2.2).le (by omega)
  ·trivial
  ·trivial
section
variable {ns:List Int}{a b c:Kd}{x y:T}{p q r s t u v:Sl}
theorem tk (i j:Nat)(hi:vE i ρ= .ok a.t)(hj:vE j ρ= .ok b.t):zG (z9 (cE (.str "row")) (z9 (zG (z9 (vE i) (z9 (vE j) (zd)))) (zd))) ρ= .ok (r2 a b).t:=by
 exact Jq rfl (Jq hi hj)
abbrev z1:En->RS:=ifS (orT (zk neC (za 1 Xo (z9 (vE 4) (zd))) (zb mlT (za 1 Xo (z9 (vE 1) (zd))) (vE 5))) (zk neC (za 1 f_b (z9 (vE 4) (zd))) (zb zq (cE (.int 1)) (zb Jh (za 1 f_b (z9 (vE 1) (zd))) (za 1 f_b (z9 (vE 2) (zd))))))) (zi (cE (.bl false))) (nxS)
theorem z2u (ha:a.Ok 2)(hb:b.Ok 2)(la:a.all.length<=9)(lb:b.all.length<=9):z1 (lr4 ns a b c p q r s t u v)= .nx (lr4 ns a b c p q r s t u v):=by
 have ha3:=up3 ha;have hb3:=up3 hb;have hR:=wW ha hb;refine zo (z2q ?_ ?_)
 ·have h1:za 1 Xo (z9 (vE 1) (zd)) (lr4 ns a b c p q r s t u v)= .ok (.int (a.all.length)):=by rw[zj,v1,bOk,qN ha3]
  rw[zx,zj,v4,bOk,qN hR,bOk,jw (m:=4) (n:=4) h1 (show vE 5 _= .ok _ from rfl) (by omega) (by omega) (by decide) (by decide),bOk,GQ,ce,qx]
 ·rw[zx,zj,v4,bOk,j7 hR,bOk,ze,Z8,bOk,ze,zj,v1,bOk,j7 ha3,bOk,zj,v2,bOk,j7 hb3,bOk,VP,bOk,zR,bOk,z2k (jO 2 a ha) (jO 2 b hb),qx]
abbrev z2:En->RS:=ifS (orT (zk neC (za 1 f_d (z9 (vE 4) (zd))) (za 2 z0u (z9 (za 1 f_d (z9 (vE 1) (zd))) (z9 (za 1 f_d (z9 (vE 2) (zd))) (zd))))) (zk neC (za 1 f_i (z9 (vE 4) (zd))) (zG (z9 (cE (.str "row")) (z9 (zG (z9 (za 1 f_i (z9 (vE 2) (zd))) (z9 (za 1 f_i (z9 (vE 1) (zd))) (zd)))) (zd)))))) (zi (cE (.bl false))) (nxS)
theorem z2v (ha:a.Ok 2)(hb:b.Ok 2):z2 (lr4 ns a b c p q r s t u v)= .nx (lr4 ns a b c p q r s t u v):=by
 have ha3:=up3 ha;have hb3:=up3 hb;have hR:=wW ha hb;refine zo (z2q ?_ ?_)
 ·have m1:=(wU 3 20 (by omega) (by omega) a ha3).2
  have m2:=(wU 3 20 (by omega) (by omega) b hb3).2
  rw[zx,zj,v4,bOk,uu hR,bOk,zn,zj,v1,bOk,uu ha3,bOk,zj,v2,bOk,uu hb3,bOk,vY m1 m2 (by decide),z2n]
  exact jE (z2r _)
 ·rw[zx,zj,v4,bOk,jj hR];have e:zG (z9 (cE (.str "row")) (z9 (zG (z9 (za 1 f_i (z9 (vE 2) (zd))) (z9 (za 1 f_i (z9 (vE 1) (zd))) (zd)))) (zd))) (lr4 ns a b c p q r s t u v)= .ok (r2 b.mir a.mir).t:=by
   exact Jq rfl (Jq (by rw[zj,v2,bOk,jj hb3]) (by rw[zj,v1,bOk,jj ha3]))
  rw[e,bOk];have:=WM 3 _ hR;exact jE ((kh 3 _ this).le (by decide))
abbrev z3:En->RS:=ifS (zk neC (za 1 f_3 (z9 (vE 4) (zd))) (ap1 yP (zL (Zm (zG (z9 (cE (.int 0)) (z9 (cE (.int 1)) (zd))))) (zE 0) (zW) (zb zq (zb ixT (za 1 f_3 (z9 (vE 1) (zd))) (vE 0)) (zb ixT (za 1 f_3 (z9 (vE 2) (zd))) (vE 0))) 1 [1,2]))) (zi (cE (.bl false))) (nxS)
theorem z2w (ha:a.Ok 2)(hb:b.Ok 2):z3 (lr4 ns a b c p q r s t u v)= .nx (lr4 ns a b c p q r s t u v):=by
 have ha3:=up3 ha;have hb3:=up3 hb;have hR:=wW ha hb;refine zo ?_;have ec:zL (Zm (zG (z9 (cE (.int 0)) (z9 (cE (.int 1)) (zd))))) (zE 0) (zW) (zb zq (zb ixT (za 1 f_3 (z9 (vE 1) (zd))) (vE 0)) (zb ixT (za 1 f_3 (z9 (vE 2) (zd))) (vE 0))) 1 [1,2] (lr4 ns a b c p q r s t u v)= .ok (.lst [.int (a.rlo+b.rlo),.int (a.rhi+b.rhi)]):=by
  show ((zF _ _ _ _ _ _ _).bind _)=_;rw[zH (h:=λt=>match t with | .int 0=> .int _ | _=> .int _) _ (by decide) λw hw=> ?_]
  ·rfl
  ·show zb _ _ _ [.vl w,.vl a.t,.vl b.t]=_;rw[ze,ze,zj,v1,bOk,wP ha3,bOk,v0,bOk,ze,zj,v2,bOk,wP hb3,v0];simp only[aj,be,or_false]at hw;rcases hw with rfl | rfl <;> rfl
 rw[zx,zj,v4,bOk,wP hR,bOk,ka ec,bOk];show neC (.tup _) _=_;rw[GR,GS,ne_2]
abbrev z4:En->RS:=ifS (zk neC (za 1 Vx (z9 (vE 4) (zd))) (ap1 Wn (zb zq (za 1 Vx (z9 (vE 1) (zd))) (za 1 Vx (z9 (vE 2) (zd)))))) (zi (cE (.bl false))) (nxS)
theorem ki:∀(ws acc:List Str),(dd acc ws).length<=acc.length+ws.length
 | [],acc=>am _
 | w :: ws,acc=>by
  unfold dd;split
  ·exact aq (ki ws acc) (by simp)
  ·exact aq (ki ws _) (by simp;omega)
theorem Qh {k:Kd}(hk:k.Ok 2):(WS (dd [] k.wds)).length<=12:=by
 rw[(zZ _).length_eq];exact aq (ki _ _) (by have:=JC 1 k hk;simp;omega)
theorem z2x (ha:a.Ok 2)(hb:b.Ok 2):z4 (lr4 ns a b c p q r s t u v)= .nx (lr4 ns a b c p q r s t u v):=by
 have ha3:=up3 ha;have hb3:=up3 hb;have hR:=wW ha hb;have hb' :bnd=16777216:=rfl;have l1:=Qh ha;have l2:=Qh hb;refine zo ?_;have ea:zb zq (za 1 Vx (z9 (vE 1) (zd))) (za 1 Vx (z9 (vE 2) (zd))) (lr4 ns a b c p q r s t u v)= .ok (.lst ((WS (dd [] a.wds)++WS (dd [] b.wds)).map T.str)):=by
  rw[ze,zj,v1,bOk,ji ha3,bOk,zj,v2,bOk,ji hb3,bOk,GE (by rw[aa,aa];omega),bC]
 rw[zx,zj,v4,bOk,ji hR,bOk,Zd,ea,bOk];have es:Wn (.lst ((WS (dd [] a.wds)++WS (dd [] b.wds)).map T.str))= .ok (ssW (r2 a b)):=by
  unfold Wn;dsimp only;rw[wQ];dsimp only;rw[if_pos (by rw[aa,az];omega)]
  rw[Qd λw=> ?_];rw[GT,cy,(zZ _).mem_iff,(zZ _).mem_iff,w9,w9];simp
 rw[es,bOk,z2c]
theorem VZ (hb:b.Ok 2):∃y,b.has y=true:=kf (up3 hb)
theorem w_eq (ha:a.Ok 2)(hb:b.Ok 2)(hc:c.Ok 2):∃w,ye [(r2 a b).t,(r2 c b).t]= .ok (.bl w)/\ye [a.t,c.t]= .ok (.bl w):=by
 obtain⟨w,h1,h2⟩:=wa (wW ha hb) (wW hc hb);obtain⟨w',g1,g2⟩:=wa (up3 ha) (up3 hc);have:w=w' :=Qe (by
  rw[h2,g2];obtain⟨y,hy⟩:=VZ hb;refine⟨λh x hx=> ?_,λh t ht=> ?_⟩
  ·have:=h _ (by rw[jP,hx,hy];rfl)
   rw[jP,ah]at this;exact this.1
  ·obtain⟨x,y,rfl,hx,hy⟩:=VW ht;rw[jP,h x hx,hy];rfl)
 exact⟨w,h1,this ▸ g1⟩
theorem a_eq (ha:a.Ok 2)(hb:b.Ok 2)(hc:c.Ok 2):∃w,Xq [(r2 a b).t,(r2 c b).t]= .ok (.bl w)/\Xq [a.t,c.t]= .ok (.bl w):=by
 obtain⟨w,h1,h2⟩:=WO (wW ha hb) (wW hc hb);obtain⟨w',g1,g2⟩:=WO (up3 ha) (up3 hc);have:w=w' :=Qe (by
  rw[h2,g2];obtain⟨y,hy⟩:=VZ hb;refine⟨λh x=> ?_,λh t=> ?_⟩
  ·have:=h (.tup [x,y]);rw[jP,jP,hy,dR,dR]at this;exact this
  ·cases e:(r2 a b).has t with
   | false=>rfl
   | true=>
    obtain⟨x,y,rfl,hx,hy⟩:=VW e;have:=h x;rw[hx,cI]at this;rw[jP,this];rfl)
 exact⟨w,h1,this ▸ g1⟩
end
theorem law_ok (ns:List Int)(h:ns.length<=63):f_0 [.fz (ns.map T.int)]= .ok (.bl true):=by
 obtain⟨a,ha3,la,sa⟩:=wJ ns 0 (by omega) 9 (by omega)
 obtain⟨b,hb3,lb,sb⟩:=wJ ns 20000 (by omega) 9 (by omega)
 obtain⟨c,hc3,lc,sc⟩:=wJ ns 40000 (by omega) 9 (by omega)
 have e0:z06 (zG (z9 (za 3 Xm (z9 (vE 0) (z9 (cE (.int 0)) (z9 (cE (.int 9)) (zd))))) (z9 (za 3 Xm (z9 (vE 0) (z9 (cE (.int 20000)) (z9 (cE (.int 9)) (zd))))) (z9 (za 3 Xm (z9 (vE 0) (z9 (cE (.int 40000)) (z9 (cE (.int 9)) (zd))))) (zd))))) (Xl 1 2 3) [.vl (scr ns),.un,.un,.un,.un,.un,.un,.un,.un,.un,.un,.un,.un]= .nx [.vl (scr ns),.vl a.t,.vl b.t,.vl c.t,.un,.un,.un,.un,.un,.un,.un,.un,.un]:=by
  unfold z06;rw[z0F (x:=a.t) (y:=b.t) (z:=c.t) (by exact sa) (by exact sb) (by exact sc)]
  rfl
 have e1:zk gtC (vv (za 1 f_b (z9 (vE 1) (zd))) (za 1 f_b (z9 (vE 2) (zd))) (za 1 f_b (z9 (vE 3) (zd)))) (cE (.int 2)) [.vl (scr ns),.vl a.t,.vl b.t,.vl c.t,.un,.un,.un,.un,.un,.un,.un,.un,.un]= .ok (decide (PV.mx2 (PV.mx2 a.dp b.dp) c.dp > 2)):=by
  rw[zx];unfold vv;rw[zj,v1,bOk,j7 ha3,bOk,zj,v2,bOk,j7 hb3,bOk,zj,v3,bOk,j7 hc3,bOk];rfl
 show zf (b_0 _ _ _ _ _ _ _ _ _ _ _ _ _ _ _ _ [.vl (scr ns),.un,.un,.un,.un,.un,.un,.un,.un,.un,.un,.un,.un])=_;rw[b_0,zc e0]
 by_cases hd:PV.mx2 (PV.mx2 a.dp b.dp) c.dp > 2
 ·rw[decide_eq_true hd]at e1;rw[zB (t:= .bl true)]
  ·rfl
  ·rw[wI e1];rfl
 ·rw[decide_eq_false hd]at e1;unfold PV.mx2 at hd;have ha:a.Ok 2:=qU 3 a ha3 2 (by split at hd <;> split at hd <;> omega)
  have hb:b.Ok 2:=qU 3 b hb3 2 (by split at hd <;> split at hd <;> omega)
  have hc:c.Ok 2:=qU 3 c hc3 2 (by split at hd <;> split at hd <;> omega)
  have e2:zA 4 (zG (z9 (cE (.str "row")) (z9 (zG (z9 (vE 1) (z9 (vE 2) (zd)))) (zd)))) [.vl (scr ns),.vl a.t,.vl b.t,.vl c.t,.un,.un,.un,.un,.un,.un,.un,.un,.un]= .nx [.vl (scr ns),.vl a.t,.vl b.t,.vl c.t,.vl (r2 a b).t,.un,.un,.un,.un,.un,.un,.un,.un]:=by
   rw[zy (t:=(r2 a b).t)]
   ·rfl
   ·exact tk 1 2 rfl rfl
  have e3:zA 5 (za 1 Xo (z9 (vE 2) (zd))) [.vl (scr ns),.vl a.t,.vl b.t,.vl c.t,.vl (r2 a b).t,.un,.un,.un,.un,.un,.un,.un,.un]= .nx (lr4 ns a b c .un .un .un .un .un .un .un):=by
   rw[zy]
   ·rfl
   ·rw[zj,v2,bOk,qN hb3]
  obtain⟨p,q,r,s,t,u,v,ho⟩:=outer ha hb la lb _ .un .un .un .un .un .un .un λ_ z=>z;have ea:f_9 8 _= .ok _:=U3 3 8 (by omega) (by omega) a ha3 (by omega)
  have e5:ZN (Zm (za 1 (f_9 8) (z9 (vE 1) (zd)))) (zE 6) qO (lr4 ns a b c .un .un .un .un .un .un .un)= .nx (lr4 ns a b c p q r s t u v):=by
   unfold ZN;rw[jr,zj,v1,bOk,ea];exact ho
  obtain⟨w,w1,w2⟩:=w_eq ha hb hc;obtain⟨w',x1,x2⟩:=a_eq ha hb hc;have e6:zk neC (za 2 ye (z9 (vE 4) (z9 (zG (z9 (cE (.str "row")) (z9 (zG (z9 (vE 3) (z9 (vE 2) (zd)))) (zd)))) (zd)))) (za 2 ye (z9 (vE 1) (z9 (vE 3) (zd)))) (lr4 ns a b c p q r s t u v)= .ok false:=by
   rw[zx,zn,v4,bOk,tk 3 2 rfl rfl,bOk,w1,bOk,zn,v1,bOk,v3,bOk,w2,bOk,nb]
  rw[zc (zo e1),zc e2,zc e3,zc (z2u ha hb la lb),zc e5,zc (z2v ha hb),zc (z2w ha hb),zc (z2x ha hb),zc (zo e6),zT];generalize hρ:frz _=ρ;have g1:vE 1 ρ= .ok a.t:=by rw[← hρ];rfl
  have g2:vE 2 ρ= .ok b.t:=by rw[← hρ];rfl
  have g3:vE 3 ρ= .ok c.t:=by rw[← hρ];rfl
  have g4:vE 4 ρ= .ok (r2 a b).t:=by rw[← hρ];rfl
  rw[je,zn,g4,bOk,tk 3 2 g3 g2,bOk,x1,bOk,zn,g1,bOk,g3,bOk,x2];cases w' <;> rfl
end G
namespace G
open PySem PySem.Spec PyProof.Rows L2 PV
noncomputable def top (i:Nat):Stmt:=PySem.Challenge.pw_worthkinds_k46_whole_kinds_in_rows.main.body.getD i (.Pass ⟨0,0,0,0⟩)
set_option genInjectivity false in
set_option genSizeOf false in
structure Tx (K:ai) (mg:Str->Option Value):Prop where
 C_1q:FE K mg "_law_cell" (top 74) ["_law_script","_law_k"]
 C_h:FE K mg "_law_pick" (top 75) ["_law_script","_law_k","_law_many"]
 C_1b:FE K mg "_law_word_of" (top 76) ["_law_script","_law_at"]
 C_1e:FE K mg "_law_leaf_kind" (top 77) ["_law_script","_law_at"]
 C_q:FE K mg "_law_kind" (top 78) ["_law_script","_law_at","_law_deep"]
 C_s:FE K mg "_law_rows_of" (top 80) ["_law_lists"]
 C_9:FE K mg "_law_all" (top 79) ["_law_kind_here"]
 C_n:FE K mg "_law_size" (top 81) ["_law_kind_here"]
 C_16:FE K mg "_law_small" (top 82) ["_law_script","_law_at","_law_most"]
 C_r:FE K mg "is_whole" (top 10) ["thing"]
 C_1s:FE K mg "is_span" (top 13) ["low","high","least","most"]
 C_m:FE K mg "is_tuple_of" (top 11) ["thing","least","most"]
 C_1t:FE K mg "is_word" (top 12) ["thing"]
 C_1i:FE K mg "is_choice" (top 16) ["thing"]
 C_1g:FE K mg "are_choices" (top 15) ["thing"]
 C_j:FE K mg "is_kind_within" (top 14) ["thing","levels"]
 C_1y:FE K mg "are_kinds_within" (top 17) ["thing","levels"]
 C_5:FE K mg "is_kind" (top 6) ["thing"]
 C_8:FE K mg "need_kind" (top 8) ["kind"]
 C_f:FE K mg "kinds_within" (top 66) ["kind"]
 C_w:FE K mg "depth_of" (top 67) ["kind"]
 C_b:FE K mg "depth" (top 61) ["kind"]
 C_1:FE K mg "count_of" (top 25) ["kind"]
 C_1a:FE K mg "count_of_parts" (top 26) ["kinds"]
 C_10:FE K mg "count_shorter" (top 27) ["kind","length"]
 C_17:FE K mg "how_many" (top 22) ["kind"]
 C_e:FE K mg "words_of_pick" (top 18) ["kind"]
 C_k:FE K mg "has_worth" (top 19) ["kind","thing"]
 C_1w:FE K mg "have_parts" (top 20) ["kinds","parts"]
 C_1r:FE K mg "is_worth" (top 7) ["kind","thing"]
 C_x:FE K mg "need_worth" (top 9) ["kind","worth"]
 C_g:FE K mg "place_of" (top 31) ["kind","worth"]
 C_1o:FE K mg "place_of_parts" (top 32) ["kinds","parts"]
 C_13:FE K mg "number_of" (top 24) ["kind","worth"]
 C_t:FE K mg "worth_at" (top 28) ["kind","number"]
 C_1x:FE K mg "many_at" (top 29) ["kind","number"]
 C_1c:FE K mg "parts_at" (top 30) ["kinds","number"]
 C_1j:FE K mg "worth_of" (top 23) ["kind","number"]
 C_1k:FE K mg "greatest_divisor" (top 47) ["one","other"]
 C_u:FE K mg "fraction" (top 46) ["up","down"]
 C_1l:FE K mg "share_of_word" (top 52) ["kind","word"]
 C_z:FE K mg "times" (top 48) ["one","other"]
 C_l:FE K mg "share_within" (top 51) ["kind","worth"]
 C_1p:FE K mg "share_of_parts" (top 53) ["kinds","parts"]
 C_c:FE K mg "share_of" (top 44) ["kind","worth"]
 C_1d:FE K mg "nearest_to_nought" (top 57) ["kind"]
 C_p:FE K mg "weight_within" (top 58) ["kind","worth"]
 C_1u:FE K mg "weight_of_parts" (top 59) ["kinds","parts"]
 C_4:FE K mg "weight" (top 56) ["kind","worth"]
 C_y:FE K mg "mirror_of_worth" (top 72) ["worth"]
 C_15:FE K mg "mirrored_worth" (top 65) ["kind","worth"]
 C_o:FE K mg "plus" (top 49) ["one","other"]
 C_1n:FE K mg "together" (top 50) ["fractions"]
 C_v:FE K mg "mean_within" (top 54) ["kind"]
 C_d:FE K mg "mean" (top 45) ["kind"]
 C_1m:FE K mg "_law_plus" (top 83) ["_law_one","_law_other"]
 C_6:FE K mg "mirror_of" (top 71) ["kind"]
 C_i:FE K mg "mirrored" (top 64) ["kind"]
 C_a:FE K mg "reach_of" (top 69) ["kind"]
 C_1z:FE K mg "reach_of_many" (top 70) ["kind"]
 C_3:FE K mg "reach" (top 63) ["kind"]
 C_2:FE K mg "words_of" (top 68) ["kind"]
 C_14:FE K mg "words_in" (top 62) ["kind"]
 C_18:FE K mg "kinds_of_parts" (top 38) ["kind","length"]
 C_1f:FE K mg "common_whole" (top 40) ["one","other"]
 C_1h:FE K mg "common_pick" (top 41) ["one","other"]
 C_7:FE K mg "common_kind" (top 37) ["one","other"]
 C_1v:FE K mg "common_row" (top 39) ["one_kinds","other_kinds"]
 C_20:FE K mg "common_many" (top 42) ["one","other"]
 C_11:FE K mg "both" (top 34) ["one","other"]
 C_12:FE K mg "is_within" (top 35) ["one","other"]
 C_19:FE K mg "are_apart" (top 36) ["one","other"]
 C_0:FE K mg "law" (top 84) ["_law_script"]
 z:∀x,(["abs","all","bool","dict","enumerate","int","isinstance","len","list","max","min","range","reversed","set","sorted","str","sum","tuple","zip"]:List Str).contains x=true->mg x=none
 c_DEEPEST:∃u,mg "DEEPEST"=some u/\∃t,u=Value.int 3 t
section
variable {Z:Zz}(tx:Tx Z.K Z.mg)
include tx
set_option hygiene false
local macro_rules | `(tactic| gp_on)=> `(tactic| first
  | (show UA _ _ _ _;first
   | refine Kf ?_ ?_
   | exact z1e)
  | (show Snd _ _ (.Name ..) _;first
   | exact z1a _ (pv _)
   | exact tx.c_DEEPEST.elim λ_ h=>xN (by rfl) h.1 h.2)
  | (show Snd _ _ (.Constant ..) _;first
   | exact z1b
   | exact z1d
   | exact s_bl
   | exact z1c)
  | (show WY _ _ _ _;first
   | refine Kq ?_ ?_
   | exact z1A
   | refine z1B ?_)
  | (show wk _ _ _ _;first
   | refine z1C ?_
   | refine z1D ?_ ?_ ?_
   | refine Kr nd (by rfl) (.inl (by rfl)) ?_
   | refine z1G fZ (by rfl) ?_ ?_ ?_
   | refine Kt ?_
   | refine Ks nd (by rfl) (.inl (by rfl)) ?_
   | refine z1K (by rfl) nd (by rfl) (by rfl) (by decide) (by rfl) (by rfl) ?_ (by rfl)
   | refine Vi (cr1 hy (by kernel_rfl) (by kernel_rfl) (by rfl) ?_ (λ_ hy _ _ _ _ _ _=> ?_) (λ_ hy _ _ _ _ _ _ _ hp=> ?_)) nd (by rfl) (.inl (by rfl)) (by rfl)
   | refine z1F (pv _) ?_
   | exact z1N
   | refine Kr nd (by rfl) (.inr (by rfl)) ?_
   | refine z1E (pv _) ?_
   | refine yV (n:=_ ^ _) fZ ?_ ?_
   | exact s_mv (pv _) nd (by rfl) (.inl (by rfl))
   | refine yV (n:=_) fZ ?_ ?_
   | refine Vi (cr2 hy (by kernel_rfl) (by kernel_rfl) (by rfl) ?_ (λ_ hy _ _ _ _ _ _=> ?_) (λ_ hy _ _ _ _ _ _ _ hp=> ?_)) nd (by rfl) (.inl (by rfl)) (by rfl)
   | refine gu ?_ (gK (l:=_) (by rfl) nd (by rfl) (by rfl) (by rfl) (.inr (by rfl)) (.inr (by rfl)) (.inl (by rfl))))
  | (show j8 _ _ _ _;first
   | exact Ke _ (pv _)
   | refine Snd.b ?_)
  | (show Snd _ _ (.Call ..) _;first
   | refine z1w (by rfl) (tx.z _ (by kernel_rfl)) ?_
   | refine xB (by rfl) (tx.z _ (by kernel_rfl)) ?_
   | refine Kp (by rfl) (by rfl) (tx.z _ (by kernel_rfl)) ?_ ?_
   | refine gx (by rfl) (by rfl) (tx.z _ (by kernel_rfl)) ?_ ?_
   | refine KU (by rfl) (tx.z _ (by kernel_rfl)) ?_
   | refine z1z hr.hd (by rfl) (tx.z _ (by kernel_rfl)) ?_
   | refine z1O hr.hd (by rfl) (tx.z _ (by kernel_rfl)) ?_
   | refine QI (n:="tuple") (yQ _) (by rfl) (tx.z _ (by kernel_rfl)) (by rfl) (tx.z _ (by kernel_rfl)) PyProof.Rows.Boot.«tuple» ?_
   | refine QI (n:="str") (xD _) (by rfl) (tx.z _ (by kernel_rfl)) (by rfl) (tx.z _ (by kernel_rfl)) PyProof.Rows.Boot.«str» ?_
   | refine xZ hr.units ?_ ?_
   | refine z1U (by rfl) (tx.z _ (by kernel_rfl)) ?_
   | refine gB hr.hd (by rfl) (tx.z _ (by kernel_rfl)) (by rfl) (tx.z _ (by kernel_rfl)) ?_
   | refine KL ?_
   | refine xX hr.hd (by rfl) (tx.z _ (by kernel_rfl)) (by rfl) (tx.z _ (by kernel_rfl)) ?_ ?_
   | refine QI (n:="int") (xC _) (by rfl) (tx.z _ (by kernel_rfl)) (by rfl) (tx.z _ (by kernel_rfl)) PyProof.Rows.Boot.«int» ?_
   | refine QI (n:="bool") (QH _) (by rfl) (tx.z _ (by kernel_rfl)) (by rfl) (tx.z _ (by kernel_rfl)) PyProof.Rows.Boot.«bool» ?_
   | refine KM hr.hd (by rfl) (tx.z _ (by kernel_rfl)) (by rfl) (tx.z _ (by kernel_rfl)) ?_
   | refine gy hr.hd (by rfl) (tx.z _ (by kernel_rfl)) ?_ ?_
   | refine gr hr.hd (by rfl) (tx.z _ (by kernel_rfl)) (by rfl) (tx.z _ (by kernel_rfl)) ?_
   | refine Xj hr.hd (by rfl) (tx.z _ (by kernel_rfl)) (by rfl) (tx.z _ (by kernel_rfl)) ?_
   | refine gM hr.hd (by rfl) (tx.z _ (by kernel_rfl)) ?_ ?_ ?_
   | refine cZ hy (by assumption) hr ?_)
  | (show Snd _ _ (.Subscript ..) _;first
   | refine s_ix ?_ ?_)
  | (show Snd _ _ (.BinOp ..) _;first
   | refine z1h ?_ ?_
   | refine z1k ?_ ?_
   | refine s_ml ?_ ?_
   | refine z1i ?_ ?_
   | refine z1j ?_ ?_
   | refine z1V ?_ ?_
   | refine Kh ?_ ?_
   | refine z1Y ?_ ?_)
  | (show Wd _ _ _ _;first
   | refine Wg Ki (V6 hr.units) ?_ ?_ (jk _)
   | refine Wg z1m (Kj hr.units) ?_ ?_ (jk _)
   | refine z1t ?_
   | refine Wg z1n Kl ?_ ?_ (jk _)
   | refine Wg wg jn ?_ ?_ (jk _)
   | refine Wg Kk V7 ?_ ?_ (jk _)
   | refine Wg QD (V8 hr.units) ?_ ?_ (by rfl)
   | refine yN wg wg jn jn ?_ ?_ ?_
   | refine Wg Km (xx hr.units) ?_ ?_ (by rfl)
   | refine yN wg Kk jn V7 ?_ ?_ ?_
   | refine Wg V9 yM ?_ ?_ (jk _)
   | refine z1u ?_
   | refine y8.t ?_)
  | (show Snd _ _ (.Tuple ..) _;first
   | refine z1f ?_)
  | (show uK _ _ _ _ _;first
   | refine z1L (by rfl) (tx.z _ (by kernel_rfl)) ?_ ?_
   | refine Kz (by rfl) (tx.z _ (by kernel_rfl)) ?_
   | refine z1R (by rfl) (tx.z _ (by kernel_rfl)) ?_
   | refine KA (by rfl) (tx.z _ (by kernel_rfl)) ?_ ?_
   | refine KJ (by rfl) (tx.z _ (by kernel_rfl)) ?_
   | refine z1J ?_)
  | (show Snd _ _ (.BoolOp ..) _;first
   | refine z1p ?_ ?_
   | refine z1o ?_)
  | (show wm _ _ _ _;first
   | exact KG
   | refine KH ?_)
  | (show Snd _ _ (.ListComp ..) _;first
   | refine Vh (cr1 hy (by kernel_rfl) (by kernel_rfl) (by rfl) ?_ (λ_ hy _ _ _ _ _ _=> ?_) (λ_ hy _ _ _ _ _ _ _ hp=> ?_))
   | refine Vh (cr2 hy (by kernel_rfl) (by kernel_rfl) (by rfl) ?_ (λ_ hy _ _ _ _ _ _=> ?_) (λ_ hy _ _ _ _ _ _ _ hp=> ?_)))
  | (show y8 _ _ _ _;first
   | refine w_or ?_ ?_
   | refine z1s ?_ ?_
   | refine z1r ?_
   | refine Ko ?_)
  | (show Snd _ _ (.Compare ..) _;first
   | refine QB Ki (V6 hr.units) ?_ ?_ (jk _)
   | refine xz wg wg jn jn ?_ ?_ ?_
   | refine QF wg wg wg jn jn jn ?_ ?_ ?_ ?_
   | refine QB QD (V8 hr.units) ?_ ?_ (by rfl)
   | refine QB V9 yM ?_ ?_ (jk _)
   | refine QB xy Kn ?_ ?_ (jk _))
  | (show kn _ _ _ _;first
   | exact Vf nd (by rfl) (.inl (by rfl))
   | exact KC (by rfl) nd (by rfl) (by rfl) (.inl (by rfl)) (.inl (by rfl))
   | exact Vf nd (by rfl) (.inr (by rfl)))
  | (show Snd _ _ (.List ..) _;first
   | refine z1g ?_)
  | (show Snd _ _ (.UnaryOp ..) _;first
   | refine z1l ?_
   | refine z1q ?_)
  | (show Snd _ _ (.IfExp ..) _;first
   | refine s_if ?_ ?_ ?_)
  )
local macro_rules | `(tactic| kd_all)=> `(tactic| (intro cdv A outer s H E Y hy hE hr nd hp;repeat' gp_on))
theorem z2y:qP Z "_law_cell" 2 1 (oP 2 b_1q):=by
 refine okP tx.C_1q ["_law_script","_law_k"] λ_=> ?_
 kd_all
theorem ok_h (_:qP Z "_law_cell" 2 1 c_1q):qP Z "_law_pick" 3 2 (oP 4 (b_h c_1q)):=by
 refine okP tx.C_h ["_law_script","_law_k","_law_many","_law_drawn"] λ_=> ?_
 kd_all
theorem z2z (_:qP Z "_law_pick" 3 2 c_h):qP Z "_law_word_of" 2 3 (oP 3 (z08 c_h)):=by
 refine okP tx.C_1b ["_law_script","_law_at","_law_letters"] λ_=> ?_
 kd_all
theorem z2A (_:qP Z "_law_pick" 3 2 c_h)(_:qP Z "_law_word_of" 2 3 c_1b):qP Z "_law_leaf_kind" 2 4 (oP 6 (z09 c_h c_1b)):=by
 refine okP tx.C_1e ["_law_script","_law_at","_law_low","_law_words","_law_k","_law_word"] λ_=> ?_
 kd_all
theorem ok_q {j:Nat}(hj:4<=j)(_:qP Z "_law_pick" 3 2 c_h)(_:qP Z "_law_leaf_kind" 2 4 c_1e)(_:qP Z "_law_kind" 3 j c_q):qP Z "_law_kind" 3 (j+1) (oP 6 (b_q c_h c_1e c_q)):=by
 refine okP tx.C_q ["_law_script","_law_at","_law_deep","_law_way","_law_some","_law_low"] λ_=> ?_
 kd_all
theorem ok_s:qP Z "_law_rows_of" 1 1 (oP 5 b_s):=by
 refine okP tx.C_s ["_law_lists","_law_made","_law_some","_law_longer","_law_ahead"] λ_=> ?_
 kd_all
theorem ok_9 {j:Nat}(hj:1<=j)(_:qP Z "_law_all" 1 j c_9)(_:qP Z "_law_rows_of" 1 1 c_s):qP Z "_law_all" 1 (j+1) (oP 3 (b_9 c_9 c_s)):=by
 refine okP tx.C_9 ["_law_kind_here","_law_made","_law_size_here"] λ_=> ?_
 kd_all
theorem ok_n {j:Nat}(hj:9<=j)(_:qP Z "_law_all" 1 9 c_9)(_:qP Z "_law_size" 1 j c_n):qP Z "_law_size" 1 (j+1) (oP 5 (b_n c_9 c_n)):=by
 refine okP tx.C_n ["_law_kind_here","_law_sizes","_law_made","_law_size_here","_law_inner"] λ_=> ?_
 kd_all
theorem z2B (_:qP Z "_law_kind" 3 12 c_q)(_:qP Z "_law_size" 1 17 c_n):qP Z "_law_small" 3 18 (oP 5 (z0a c_q c_n)):=by
 refine okP tx.C_16 ["_law_script","_law_at","_law_most","_law_kind_here","_law_k"] λ_=> ?_
 kd_all
theorem ok_r:qP Z "is_whole" 1 1 (oP 1 b_r):=by
 refine okP tx.C_r ["thing"] λ_=> ?_
 kd_all
theorem z2C (_:qP Z "is_whole" 1 1 c_r):qP Z "is_span" 4 2 (oP 4 (b_1s c_r)):=by
 refine okP tx.C_1s ["low","high","least","most"] λ_=> ?_
 kd_all
theorem ok_m:qP Z "is_tuple_of" 3 1 (oP 3 b_m):=by
 refine okP tx.C_m ["thing","least","most"] λ_=> ?_
 kd_all
theorem z2D:qP Z "is_word" 1 1 (oP 1 b_1t):=by
 refine okP tx.C_1t ["thing"] λ_=> ?_
 kd_all
theorem z2E (_:qP Z "is_whole" 1 1 c_r)(_:qP Z "is_tuple_of" 3 1 c_m)(_:qP Z "is_word" 1 1 c_1t):qP Z "is_choice" 1 2 (oP 1 (z0c c_r c_m c_1t)):=by
 refine okP tx.C_1i ["thing"] λ_=> ?_
 kd_all
theorem z2F (_:qP Z "is_tuple_of" 3 1 c_m)(_:qP Z "is_choice" 1 2 c_1i):qP Z "are_choices" 1 3 (oP 2 (z0d c_m c_1i)):=by
 refine okP tx.C_1g ["thing","words"] λ_=> ?_
 kd_all
theorem ok_j {j:Nat}(hj:3<=j)(_:qP Z "is_span" 4 2 c_1s)(_:qP Z "is_kind_within" 2 j c_j)(_:qP Z "are_choices" 1 3 c_1g)(_:qP Z "are_kinds_within" 2 j c_1y):qP Z "is_kind_within" 2 (j+1) (oP 2 (b_j c_1s c_j c_1g c_1y)):=by
 refine okP tx.C_j ["thing","levels"] λ_=> ?_
 kd_all
theorem z2G {j:Nat}(hj:3<=j)(_:qP Z "is_tuple_of" 3 1 c_m)(_:qP Z "is_kind_within" 2 j c_j):qP Z "are_kinds_within" 2 (j+1) (oP 2 (z0e c_m c_j)):=by
 refine okP tx.C_1y ["thing","levels"] λ_=> ?_
 kd_all
theorem ok_5 (_:qP Z "is_kind_within" 2 23 c_j):qP Z "is_kind" 1 24 (oP 1 (b_5 c_j)):=by
 refine okP tx.C_5 ["thing"] λ_=> ?_
 kd_all
theorem ok_8 (_:qP Z "is_kind" 1 24 c_5):qP Z "need_kind" 1 25 (oP 1 (b_8 c_5)):=by
 refine okP tx.C_8 ["kind"] λ_=> ?_
 kd_all
theorem ok_f:qP Z "kinds_within" 1 1 (oP 1 b_f):=by
 refine okP tx.C_f ["kind"] λ_=> ?_
 kd_all
theorem ok_w {j:Nat}(hj:1<=j)(_:qP Z "kinds_within" 1 1 c_f)(_:qP Z "depth_of" 1 j c_w):qP Z "depth_of" 1 (j+1) (oP 1 (b_w c_f c_w)):=by
 refine okP tx.C_w ["kind"] λ_=> ?_
 kd_all
theorem ok_b (_:qP Z "need_kind" 1 25 c_8)(_:qP Z "depth_of" 1 9 c_w):qP Z "depth" 1 26 (oP 1 (b_b c_8 c_w)):=by
 refine okP tx.C_b ["kind"] λ_=> ?_
 kd_all
theorem ok_1 {j:Nat}(hj:0<=j)(_:qP Z "count_of_parts" 1 j c_1a)(_:qP Z "count_shorter" 2 j c_10):qP Z "count_of" 1 (j+1) (oP 1 (b_1 c_1a c_10)):=by
 refine okP tx.C_1 ["kind"] λ_=> ?_
 kd_all
theorem z2H {j:Nat}(hj:0<=j)(_:qP Z "count_of" 1 j c_1):qP Z "count_of_parts" 1 (j+1) (oP 3 (gU c_1)):=by
 refine okP tx.C_1a ["kinds","count","kind"] λ_=> ?_
 kd_all
theorem z2I {j:Nat}(hj:0<=j)(_:qP Z "count_of_parts" 1 j c_1a):qP Z "count_shorter" 2 (j+1) (oP 2 (gW c_1a)):=by
 refine okP tx.C_10 ["kind","length"] λ_=> ?_
 kd_all
theorem z2J (_:qP Z "need_kind" 1 25 c_8)(_:qP Z "count_of" 1 20 c_1):qP Z "how_many" 1 26 (oP 1 (z0f c_8 c_1)):=by
 refine okP tx.C_17 ["kind"] λ_=> ?_
 kd_all
theorem ok_e:qP Z "words_of_pick" 1 1 (oP 1 b_e):=by
 refine okP tx.C_e ["kind"] λ_=> ?_
 kd_all
theorem ok_k {j:Nat}(hj:1<=j)(_:qP Z "is_whole" 1 1 c_r)(_:qP Z "is_tuple_of" 3 1 c_m)(_:qP Z "words_of_pick" 1 1 c_e)(_:qP Z "have_parts" 2 j c_1w):qP Z "has_worth" 2 (j+1) (oP 2 (b_k c_r c_m c_e c_1w)):=by
 refine okP tx.C_k ["kind","thing"] λ_=> ?_
 kd_all
theorem z2K {j:Nat}(hj:1<=j)(_:qP Z "has_worth" 2 j c_k):qP Z "have_parts" 2 (j+1) (oP 2 (z0g c_k)):=by
 refine okP tx.C_1w ["kinds","parts"] λ_=> ?_
 kd_all
theorem z2L (_:qP Z "need_kind" 1 25 c_8)(_:qP Z "has_worth" 2 21 c_k):qP Z "is_worth" 2 26 (oP 2 (z0h c_8 c_k)):=by
 refine okP tx.C_1r ["kind","thing"] λ_=> ?_
 kd_all
theorem ok_x (_:qP Z "is_worth" 2 26 c_1r):qP Z "need_worth" 2 27 (oP 2 (b_x c_1r)):=by
 refine okP tx.C_x ["kind","worth"] λ_=> ?_
 kd_all
theorem ok_g {j:Nat}(hj:20<=j)(_:qP Z "words_of_pick" 1 1 c_e)(_:qP Z "count_shorter" 2 20 c_10)(_:qP Z "place_of_parts" 2 j c_1o):qP Z "place_of" 2 (j+1) (oP 3 (b_g c_e c_10 c_1o)):=by
 refine okP tx.C_g ["kind","worth","length"] λ_=> ?_
 kd_all
theorem z2M {j:Nat}(hj:20<=j)(_:qP Z "count_of" 1 20 c_1)(_:qP Z "place_of" 2 j c_g):qP Z "place_of_parts" 2 (j+1) (oP 5 (gX c_1 c_g)):=by
 refine okP tx.C_1o ["kinds","parts","place","kind","part"] λ_=> ?_
 kd_all
theorem z2N (_:qP Z "need_worth" 2 27 c_x)(_:qP Z "place_of" 2 40 c_g):qP Z "number_of" 2 41 (oP 2 (z0i c_x c_g)):=by
 refine okP tx.C_13 ["kind","worth"] λ_=> ?_
 kd_all
theorem ok_t {j:Nat}(hj:20<=j)(_:qP Z "words_of_pick" 1 1 c_e)(_:qP Z "many_at" 2 j c_1x)(_:qP Z "parts_at" 2 j c_1c):qP Z "worth_at" 2 (j+1) (oP 2 (b_t c_e c_1x c_1c)):=by
 refine okP tx.C_t ["kind","number"] λ_=> ?_
 kd_all
theorem z2O {j:Nat}(hj:20<=j)(_:qP Z "count_shorter" 2 20 c_10)(_:qP Z "parts_at" 2 j c_1c):qP Z "many_at" 2 (j+1) (oP 3 (gY c_10 c_1c)):=by
 refine okP tx.C_1x ["kind","number","length"] λ_=> ?_
 kd_all
theorem z2P {j:Nat}(hj:20<=j)(_:qP Z "count_of" 1 20 c_1)(_:qP Z "worth_at" 2 j c_t):qP Z "parts_at" 2 (j+1) (oP 6 (gZ c_1 c_t)):=by
 refine okP tx.C_1c ["kinds","number","parts","rest","kind","count"] λ_=> ?_
 kd_all
theorem z2Q (_:qP Z "need_kind" 1 25 c_8)(_:qP Z "is_whole" 1 1 c_r)(_:qP Z "count_of" 1 20 c_1)(_:qP Z "worth_at" 2 40 c_t):qP Z "worth_of" 2 41 (oP 2 (z0j c_8 c_r c_1 c_t)):=by
 refine okP tx.C_1j ["kind","number"] λ_=> ?_
 kd_all
theorem z2R:qP Z "greatest_divisor" 2 1 (oP 3 z0k):=by
 refine okP tx.C_1k ["one","other","rest"] λ_=> ?_
 kd_all
theorem ok_u (_:qP Z "greatest_divisor" 2 1 c_1k):qP Z "fraction" 2 2 (oP 3 (b_u c_1k)):=by
 refine okP tx.C_u ["up","down","divisor"] λ_=> ?_
 kd_all
theorem z2S (_:qP Z "fraction" 2 2 c_u):qP Z "share_of_word" 2 3 (oP 3 (z0m c_u)):=by
 refine okP tx.C_1l ["kind","word","weights"] λ_=> ?_
 kd_all
 refine QQ.go (by assumption) λ_ _ _ _ C F=>Xe (i:=2) (j:=1) (by decide) hy F hr (by omega) (by rfl) C.m C.F.kp C.b nd (by rfl) (.inl (by rfl)) (by rfl) (tx.z _ (by kernel_rfl)) (by rfl) (tx.z _ (by kernel_rfl)) (pv 2) (pv 1) ?_ (pi' :=pv 2)
 repeat' gp_on
theorem ok_z (_:qP Z "fraction" 2 2 c_u):qP Z "times" 2 3 (oP 2 (b_z c_u)):=by
 refine okP tx.C_z ["one","other"] λ_=> ?_
 kd_all
theorem ok_l {j:Nat}(hj:20<=j)(_:qP Z "count_of" 1 20 c_1)(_:qP Z "times" 2 3 c_z)(_:qP Z "share_of_word" 2 3 c_1l)(_:qP Z "share_of_parts" 2 j c_1p):qP Z "share_within" 2 (j+1) (oP 3 (b_l c_1 c_z c_1l c_1p)):=by
 refine okP tx.C_l ["kind","worth","one_length"] λ_=> ?_
 kd_all
theorem z2T {j:Nat}(hj:20<=j)(_:qP Z "times" 2 3 c_z)(_:qP Z "share_within" 2 j c_l):qP Z "share_of_parts" 2 (j+1) (oP 5 (G4 c_z c_l)):=by
 refine okP tx.C_1p ["kinds","parts","share","kind","part"] λ_=> ?_
 kd_all
theorem ok_c (_:qP Z "need_worth" 2 27 c_x)(_:qP Z "share_within" 2 40 c_l):qP Z "share_of" 2 41 (oP 2 (b_c c_x c_l)):=by
 refine okP tx.C_c ["kind","worth"] λ_=> ?_
 kd_all
theorem z2U:qP Z "nearest_to_nought" 1 1 (oP 1 z0o):=by
 refine okP tx.C_1d ["kind"] λ_=> ?_
 kd_all
theorem ok_p {j:Nat}(hj:1<=j)(_:qP Z "words_of_pick" 1 1 c_e)(_:qP Z "nearest_to_nought" 1 1 c_1d)(_:qP Z "weight_of_parts" 2 j c_1u):qP Z "weight_within" 2 (j+1) (oP 2 (b_p c_e c_1d c_1u)):=by
 refine okP tx.C_p ["kind","worth"] λ_=> ?_
 kd_all
theorem z2V {j:Nat}(hj:1<=j)(_:qP Z "weight_within" 2 j c_p):qP Z "weight_of_parts" 2 (j+1) (oP 2 (z0p c_p)):=by
 refine okP tx.C_1u ["kinds","parts"] λ_=> ?_
 kd_all
theorem ok_4 (_:qP Z "need_worth" 2 27 c_x)(_:qP Z "weight_within" 2 21 c_p):qP Z "weight" 2 28 (oP 2 (b_4 c_x c_p)):=by
 refine okP tx.C_4 ["kind","worth"] λ_=> ?_
 kd_all
theorem ok_y {j:Nat}(hj:0<=j)(_:qP Z "mirror_of_worth" 1 j c_y):qP Z "mirror_of_worth" 1 (j+1) (oP 1 (b_y c_y)):=by
 refine okP tx.C_y ["worth"] λ_=> ?_
 kd_all
theorem z2W (_:qP Z "need_worth" 2 27 c_x)(_:qP Z "mirror_of_worth" 1 8 c_y):qP Z "mirrored_worth" 2 28 (oP 2 (z0q c_x c_y)):=by
 refine okP tx.C_15 ["kind","worth"] λ_=> ?_
 kd_all
theorem ok_o (_:qP Z "fraction" 2 2 c_u):qP Z "plus" 2 3 (oP 2 (b_o c_u)):=by
 refine okP tx.C_o ["one","other"] λ_=> ?_
 kd_all
theorem z2X (_:qP Z "plus" 2 3 c_o):qP Z "together" 1 4 (oP 3 (z0r c_o)):=by
 refine okP tx.C_1n ["fractions","total","each"] λ_=> ?_
 kd_all
theorem ok_v {j:Nat}(hj:4<=j)(_:qP Z "fraction" 2 2 c_u)(_:qP Z "times" 2 3 c_z)(_:qP Z "together" 1 4 c_1n)(_:qP Z "mean_within" 1 j c_v):qP Z "mean_within" 1 (j+1) (oP 2 (b_v c_u c_z c_1n c_v)):=by
 refine okP tx.C_v ["kind","mean_length"] λ_=> ?_
 kd_all
theorem ok_d (_:qP Z "need_kind" 1 25 c_8)(_:qP Z "mean_within" 1 24 c_v):qP Z "mean" 1 26 (oP 1 (b_d c_8 c_v)):=by
 refine okP tx.C_d ["kind"] λ_=> ?_
 kd_all
theorem z2Y:qP Z "_law_plus" 2 1 (oP 6 z0t):=by
 refine okP tx.C_1m ["_law_one","_law_other","_law_up","_law_down","_law_high","_law_low"] λ_=> ?_
 kd_all
theorem ok_6 {j:Nat}(hj:0<=j)(_:qP Z "mirror_of" 1 j c_6):qP Z "mirror_of" 1 (j+1) (oP 1 (b_6 c_6)):=by
 refine okP tx.C_6 ["kind"] λ_=> ?_
 kd_all
theorem ok_i (_:qP Z "need_kind" 1 25 c_8)(_:qP Z "mirror_of" 1 8 c_6):qP Z "mirrored" 1 26 (oP 1 (b_i c_8 c_6)):=by
 refine okP tx.C_i ["kind"] λ_=> ?_
 kd_all
theorem ok_a {j:Nat}(hj:0<=j)(_:qP Z "reach_of" 1 j c_a)(_:qP Z "reach_of_many" 1 j c_1z):qP Z "reach_of" 1 (j+1) (oP 2 (b_a c_a c_1z)):=by
 refine okP tx.C_a ["kind","reaches"] λ_=> ?_
 kd_all
theorem z2Z {j:Nat}(hj:0<=j)(_:qP Z "reach_of" 1 j c_a):qP Z "reach_of_many" 1 (j+1) (oP 2 (z0v c_a)):=by
 refine okP tx.C_1z ["kind","part"] λ_=> ?_
 kd_all
theorem ok_3 (_:qP Z "need_kind" 1 25 c_8)(_:qP Z "reach_of" 1 8 c_a):qP Z "reach" 1 26 (oP 1 (b_3 c_8 c_a)):=by
 refine okP tx.C_3 ["kind"] λ_=> ?_
 kd_all
theorem ok_2 {j:Nat}(hj:1<=j)(_:qP Z "words_of_pick" 1 1 c_e)(_:qP Z "kinds_within" 1 1 c_f)(_:qP Z "words_of" 1 j c_2):qP Z "words_of" 1 (j+1) (oP 3 (b_2 c_e c_f c_2)):=by
 refine okP tx.C_2 ["kind","words","part"] λ_=> ?_
 kd_all
theorem z30 (_:qP Z "need_kind" 1 25 c_8)(_:qP Z "words_of" 1 9 c_2):qP Z "words_in" 1 26 (oP 1 (z0w c_8 c_2)):=by
 refine okP tx.C_14 ["kind"] λ_=> ?_
 kd_all
theorem z31:qP Z "kinds_of_parts" 2 1 (oP 2 z0x):=by
 refine okP tx.C_18 ["kind","length"] λ_=> ?_
 kd_all
theorem z32:qP Z "common_whole" 2 1 (oP 4 z0y):=by
 refine okP tx.C_1f ["one","other","low","high"] λ_=> ?_
 kd_all
theorem z33 (_:qP Z "words_of_pick" 1 1 c_e):qP Z "common_pick" 2 2 (oP 4 (z0z c_e)):=by
 refine okP tx.C_1h ["one","other","words","choices"] λ_=> ?_
 kd_all
theorem ok_7 {j:Nat}(hj:2<=j)(_:qP Z "kinds_of_parts" 2 1 c_18)(_:qP Z "common_row" 2 j c_1v)(_:qP Z "common_whole" 2 1 c_1f)(_:qP Z "common_pick" 2 2 c_1h)(_:qP Z "common_many" 2 j c_20):qP Z "common_kind" 2 (j+1) (oP 2 (b_7 c_18 c_1v c_1f c_1h c_20)):=by
 refine okP tx.C_7 ["one","other"] λ_=> ?_
 kd_all
theorem z34 {j:Nat}(hj:2<=j)(_:qP Z "common_kind" 2 j c_7):qP Z "common_row" 2 (j+1) (oP 3 (z0A c_7)):=by
 refine okP tx.C_1v ["one_kinds","other_kinds","shared"] λ_=> ?_
 kd_all
theorem z35 {j:Nat}(hj:2<=j)(_:qP Z "common_kind" 2 j c_7):qP Z "common_many" 2 (j+1) (oP 5 (z0B c_7)):=by
 refine okP tx.C_20 ["one","other","low","high","part"] λ_=> ?_
 kd_all
theorem z36 (_:qP Z "need_kind" 1 25 c_8)(_:qP Z "common_kind" 2 22 c_7):qP Z "both" 2 26 (oP 2 (z0C c_8 c_7)):=by
 refine okP tx.C_11 ["one","other"] λ_=> ?_
 kd_all
theorem z37 (_:qP Z "count_of" 1 20 c_1)(_:qP Z "both" 2 26 c_11):qP Z "is_within" 2 27 (oP 3 (z0D c_1 c_11)):=by
 refine okP tx.C_12 ["one","other","shared"] λ_=> ?_
 kd_all
theorem z38 (_:qP Z "both" 2 26 c_11):qP Z "are_apart" 2 27 (oP 2 (z20 c_11)):=by
 refine okP tx.C_19 ["one","other"] λ_=> ?_
 kd_all
theorem ok_0 {f:Addr}{fd:FuncData}(C:Fn Z.K Z.mg "law" (top 84) ["_law_script"] f fd)(_:qP Z "how_many" 1 26 c_17)(_:qP Z "worth_of" 2 41 c_1j)(_:qP Z "number_of" 2 41 c_13)(_:qP Z "_law_all" 1 9 c_9)(_:qP Z "_law_small" 3 18 c_16)(_:qP Z "depth" 1 26 c_b)(_:qP Z "words_in" 1 26 c_14)(_:qP Z "reach" 1 26 c_3)(_:qP Z "mirrored" 1 26 c_i)(_:qP Z "mirrored_worth" 2 28 c_15)(_:qP Z "is_within" 2 27 c_12)(_:qP Z "are_apart" 2 27 c_19)(_:qP Z "share_of" 2 41 c_c)(_:qP Z "mean" 1 26 c_d)(_:qP Z "_law_plus" 2 1 c_1m)(_:qP Z "weight" 2 28 c_4):W2 Z.P Z.w Z.K Z.mg Z.base CX0 42 f fd ["_law_script"] (spP Z.cl 1 (oP 13 (b_0 c_17 c_1j c_13 c_9 c_16 c_b c_14 c_3 c_i c_15 c_12 c_19 c_c c_d c_1m c_4))):=by
 refine okLP C ["_law_script","_law_one","_law_other","_law_third","_law_row","_law_many","_law_first","_law_last","_law_worth","_law_number","_law_up","_law_down","_law_told"] ?_
 kd_all
end
section
variable {Z:Zz}(tx:Tx Z.K Z.mg)
include tx
theorem GW {f:Addr}{fd:FuncData}(C:Fn Z.K Z.mg "law" (top 84) ["_law_script"] f fd):W2 Z.P Z.w Z.K Z.mg Z.base CX0 42 f fd ["_law_script"] (spP Z.cl 1 f_0):=by
 have O_1q:qP Z "_law_cell" 2 1 gN:=z2y tx;have O_h:qP Z "_law_pick" 3 2 f_h:=ok_h tx O_1q;have O_1b:qP Z "_law_word_of" 2 3 ku:=z2z tx O_h;have O_1e:qP Z "_law_leaf_kind" 2 4 gO:=z2A tx O_h O_1b;have R_q:∀n:Nat,qP Z "_law_kind" 3 (4+n) (S_q n 0):=by
  intro n
  induction n with
  | zero=>exact okB tx.C_q
  | succ n ih=>exact ok_q tx (av _ _) O_h O_1e ih
 have O_q:qP Z "_law_kind" 3 12 (f_q 8):=(R_q 8);have O_s:qP Z "_law_rows_of" 1 1 f_s:=ok_s tx;have R_9:∀n:Nat,qP Z "_law_all" 1 (1+n) (S_9 n 0):=by
  intro n
  induction n with
  | zero=>exact okB tx.C_9
  | succ n ih=>exact ok_9 tx (av _ _) ih O_s
 have O_9:qP Z "_law_all" 1 9 (f_9 8):=(R_9 8);have R_n:∀n:Nat,qP Z "_law_size" 1 (9+n) (S_n n 0):=by
  intro n
  induction n with
  | zero=>exact okB tx.C_n
  | succ n ih=>exact ok_n tx (av _ _) O_9 ih
 have O_n:qP Z "_law_size" 1 17 (f_n 8):=(R_n 8);have O_16:qP Z "_law_small" 3 18 Xm:=z2B tx O_q O_n;have O_r:qP Z "is_whole" 1 1 f_r:=ok_r tx;have O_1s:qP Z "is_span" 4 2 z0b:=z2C tx O_r;have O_m:qP Z "is_tuple_of" 3 1 f_m:=ok_m tx;have O_1t:qP Z "is_word" 1 1 gP:=z2D tx;have O_1i:qP Z "is_choice" 1 2 gQ:=z2E tx O_r O_m O_1t;have O_1g:qP Z "are_choices" 1 3 gR:=z2F tx O_m O_1i;have R_j:∀n:Nat,qP Z "is_kind_within" 2 (3+n) (S_j n 0)/\qP Z "are_kinds_within" 2 (3+n) (S_j n 1):=by
  intro n
  induction n with
  | zero=>exact⟨okB tx.C_j,okB tx.C_1y⟩
  | succ n ih=>exact⟨ok_j tx (av _ _) O_1s ih.1 O_1g ih.2,z2G tx (av _ _) O_m ih.1⟩
 have O_j:qP Z "is_kind_within" 2 23 (f_j 20):=(R_j 20).1;have O_1y:qP Z "are_kinds_within" 2 23 (f_1y 20):=(R_j 20).2;have O_5:qP Z "is_kind" 1 24 f_5:=ok_5 tx O_j;have O_8:qP Z "need_kind" 1 25 f_8:=ok_8 tx O_5;have O_f:qP Z "kinds_within" 1 1 f_f:=ok_f tx;have R_w:∀n:Nat,qP Z "depth_of" 1 (1+n) (S_w n 0):=by
  intro n
  induction n with
  | zero=>exact okB tx.C_w
  | succ n ih=>exact ok_w tx (av _ _) O_f ih
 have O_w:qP Z "depth_of" 1 9 (f_w 8):=(R_w 8);have O_b:qP Z "depth" 1 26 f_b:=ok_b tx O_8 O_w;have R_1:∀n:Nat,qP Z "count_of" 1 (0+n) (S_1 n 0)/\qP Z "count_of_parts" 1 (0+n) (S_1 n 1)/\qP Z "count_shorter" 2 (0+n) (S_1 n 2):=by
  intro n
  induction n with
  | zero=>exact⟨okB tx.C_1,okB tx.C_1a,okB tx.C_10⟩
  | succ n ih=>exact⟨ok_1 tx (av _ _) ih.2.1 ih.2.2,z2H tx (av _ _) ih.1,z2I tx (av _ _) ih.2.1⟩
 have O_1:qP Z "count_of" 1 20 (f_1 20):=(R_1 20).1;have O_1a:qP Z "count_of_parts" 1 20 (f_1a 20):=(R_1 20).2.1;have O_10:qP Z "count_shorter" 2 20 (Xn 20):=(R_1 20).2.2;have O_17:qP Z "how_many" 1 26 Xo:=z2J tx O_8 O_1;have O_e:qP Z "words_of_pick" 1 1 f_e:=ok_e tx;have R_k:∀n:Nat,qP Z "has_worth" 2 (1+n) (S_k n 0)/\qP Z "have_parts" 2 (1+n) (S_k n 1):=by
  intro n
  induction n with
  | zero=>exact⟨okB tx.C_k,okB tx.C_1w⟩
  | succ n ih=>exact⟨ok_k tx (av _ _) O_r O_m O_e ih.2,z2K tx (av _ _) ih.1⟩
 have O_k:qP Z "has_worth" 2 21 (f_k 20):=(R_k 20).1;have O_1w:qP Z "have_parts" 2 21 (f_1w 20):=(R_k 20).2;have O_1r:qP Z "is_worth" 2 26 z1Z:=z2L tx O_8 O_k;have O_x:qP Z "need_worth" 2 27 f_x:=ok_x tx O_1r;have R_g:∀n:Nat,qP Z "place_of" 2 (20+n) (S_g n 0)/\qP Z "place_of_parts" 2 (20+n) (S_g n 1):=by
  intro n
  induction n with
  | zero=>exact⟨okB tx.C_g,okB tx.C_1o⟩
  | succ n ih=>exact⟨ok_g tx (av _ _) O_e O_10 ih.2,z2M tx (av _ _) O_1 ih.1⟩
 have O_g:qP Z "place_of" 2 40 (f_g 20):=(R_g 20).1;have O_1o:qP Z "place_of_parts" 2 40 (f_1o 20):=(R_g 20).2;have O_13:qP Z "number_of" 2 41 vw:=z2N tx O_x O_g;have R_t:∀n:Nat,qP Z "worth_at" 2 (20+n) (S_t n 0)/\qP Z "many_at" 2 (20+n) (S_t n 1)/\qP Z "parts_at" 2 (20+n) (S_t n 2):=by
  intro n
  induction n with
  | zero=>exact⟨okB tx.C_t,okB tx.C_1x,okB tx.C_1c⟩
  | succ n ih=>exact⟨ok_t tx (av _ _) O_e ih.2.1 ih.2.2,z2O tx (av _ _) O_10 ih.2.2,z2P tx (av _ _) O_1 ih.1⟩
 have O_t:qP Z "worth_at" 2 40 (f_t 20):=(R_t 20).1;have O_1x:qP Z "many_at" 2 40 (f_1x 20):=(R_t 20).2.1;have O_1c:qP Z "parts_at" 2 40 (f_1c 20):=(R_t 20).2.2;have O_1j:qP Z "worth_of" 2 41 G1:=z2Q tx O_8 O_r O_1 O_t;have O_1k:qP Z "greatest_divisor" 2 1 z0l:=z2R tx;have O_u:qP Z "fraction" 2 2 f_u:=ok_u tx O_1k;have O_1l:qP Z "share_of_word" 2 3 z0n:=z2S tx O_u;have O_z:qP Z "times" 2 3 f_z:=ok_z tx O_u;have R_l:∀n:Nat,qP Z "share_within" 2 (20+n) (S_l n 0)/\qP Z "share_of_parts" 2 (20+n) (S_l n 1):=by
  intro n
  induction n with
  | zero=>exact⟨okB tx.C_l,okB tx.C_1p⟩
  | succ n ih=>exact⟨ok_l tx (av _ _) O_1 O_z O_1l ih.2,z2T tx (av _ _) O_z ih.1⟩
 have O_l:qP Z "share_within" 2 40 (f_l 20):=(R_l 20).1;have O_1p:qP Z "share_of_parts" 2 40 (f_1p 20):=(R_l 20).2;have O_c:qP Z "share_of" 2 41 f_c:=ok_c tx O_x O_l;have O_1d:qP Z "nearest_to_nought" 1 1 G5:=z2U tx;have R_p:∀n:Nat,qP Z "weight_within" 2 (1+n) (S_p n 0)/\qP Z "weight_of_parts" 2 (1+n) (S_p n 1):=by
  intro n
  induction n with
  | zero=>exact⟨okB tx.C_p,okB tx.C_1u⟩
  | succ n ih=>exact⟨ok_p tx (av _ _) O_e O_1d ih.2,z2V tx (av _ _) ih.1⟩
 have O_p:qP Z "weight_within" 2 21 (f_p 20):=(R_p 20).1;have O_1u:qP Z "weight_of_parts" 2 21 (f_1u 20):=(R_p 20).2;have O_4:qP Z "weight" 2 28 f_4:=ok_4 tx O_x O_p;have R_y:∀n:Nat,qP Z "mirror_of_worth" 1 (0+n) (S_y n 0):=by
  intro n
  induction n with
  | zero=>exact okB tx.C_y
  | succ n ih=>exact ok_y tx (av _ _) ih
 have O_y:qP Z "mirror_of_worth" 1 8 (f_y 8):=(R_y 8);have O_15:qP Z "mirrored_worth" 2 28 Xp:=z2W tx O_x O_y;have O_o:qP Z "plus" 2 3 f_o:=ok_o tx O_u;have O_1n:qP Z "together" 1 4 z0s:=z2X tx O_o;have R_v:∀n:Nat,qP Z "mean_within" 1 (4+n) (S_v n 0):=by
  intro n
  induction n with
  | zero=>exact okB tx.C_v
  | succ n ih=>exact ok_v tx (av _ _) O_u O_z O_1n ih
 have O_v:qP Z "mean_within" 1 24 (f_v 20):=(R_v 20);have O_d:qP Z "mean" 1 26 f_d:=ok_d tx O_8 O_v;have O_1m:qP Z "_law_plus" 2 1 z0u:=z2Y tx;have R_6:∀n:Nat,qP Z "mirror_of" 1 (0+n) (S_6 n 0):=by
  intro n
  induction n with
  | zero=>exact okB tx.C_6
  | succ n ih=>exact ok_6 tx (av _ _) ih
 have O_6:qP Z "mirror_of" 1 8 (f_6 8):=(R_6 8);have O_i:qP Z "mirrored" 1 26 f_i:=ok_i tx O_8 O_6;have R_a:∀n:Nat,qP Z "reach_of" 1 (0+n) (S_a n 0)/\qP Z "reach_of_many" 1 (0+n) (S_a n 1):=by
  intro n
  induction n with
  | zero=>exact⟨okB tx.C_a,okB tx.C_1z⟩
  | succ n ih=>exact⟨ok_a tx (av _ _) ih.1 ih.2,z2Z tx (av _ _) ih.1⟩
 have O_a:qP Z "reach_of" 1 8 (f_a 8):=(R_a 8).1;have O_1z:qP Z "reach_of_many" 1 8 (f_1z 8):=(R_a 8).2;have O_3:qP Z "reach" 1 26 f_3:=ok_3 tx O_8 O_a;have R_2:∀n:Nat,qP Z "words_of" 1 (1+n) (S_2 n 0):=by
  intro n
  induction n with
  | zero=>exact okB tx.C_2
  | succ n ih=>exact ok_2 tx (av _ _) O_e O_f ih
 have O_2:qP Z "words_of" 1 9 (f_2 8):=(R_2 8);have O_14:qP Z "words_in" 1 26 Vx:=z30 tx O_8 O_2;have O_18:qP Z "kinds_of_parts" 2 1 kv:=z31 tx;have O_1f:qP Z "common_whole" 2 1 G6:=z32 tx;have O_1h:qP Z "common_pick" 2 2 G7:=z33 tx O_e;have R_7:∀n:Nat,qP Z "common_kind" 2 (2+n) (S_7 n 0)/\qP Z "common_row" 2 (2+n) (S_7 n 1)/\qP Z "common_many" 2 (2+n) (S_7 n 2):=by
  intro n
  induction n with
  | zero=>exact⟨okB tx.C_7,okB tx.C_1v,okB tx.C_20⟩
  | succ n ih=>exact⟨ok_7 tx (av _ _) O_18 ih.2.1 O_1f O_1h ih.2.2,z34 tx (av _ _) ih.1,z35 tx (av _ _) ih.1⟩
 have O_7:qP Z "common_kind" 2 22 (f_7 20):=(R_7 20).1;have O_1v:qP Z "common_row" 2 22 (f_1v 20):=(R_7 20).2.1;have O_20:qP Z "common_many" 2 22 (f_20 20):=(R_7 20).2.2;have O_11:qP Z "both" 2 26 Vy:=z36 tx O_8 O_7;have O_12:qP Z "is_within" 2 27 ye:=z37 tx O_1 O_11;have O_19:qP Z "are_apart" 2 27 Xq:=z38 tx O_11;exact ok_0 tx C O_17 O_1j O_13 O_9 O_16 O_b O_14 O_3 O_i O_15 O_12 O_19 O_c O_d O_1m O_4
end
theorem lz1 {fd:FuncData}{p0:Str}(us:List Value)(hl:us.length=1)(h:∀a0,bindArgs fd ⟨[a0],[]⟩=pure ([p0].zip [a0])):bindArgs fd ⟨us,[]⟩=pure ([p0].zip us):=match us,hl with | [a0],_=>h a0
theorem lz2 {fd:FuncData}{p0 p1:Str}(us:List Value)(hl:us.length=2)(h:∀a0 a1,bindArgs fd ⟨[a0,a1],[]⟩=pure ([p0,p1].zip [a0,a1])):bindArgs fd ⟨us,[]⟩=pure ([p0,p1].zip us):=match us,hl with | [a0,a1],_=>h a0 a1
theorem lz3 {fd:FuncData}{p0 p1 p2:Str}(us:List Value)(hl:us.length=3)(h:∀a0 a1 a2,bindArgs fd ⟨[a0,a1,a2],[]⟩=pure ([p0,p1,p2].zip [a0,a1,a2])):bindArgs fd ⟨us,[]⟩=pure ([p0,p1,p2].zip us):=match us,hl with | [a0,a1,a2],_=>h a0 a1 a2
theorem lz4 {fd:FuncData}{p0 p1 p2 p3:Str}(us:List Value)(hl:us.length=4)(h:∀a0 a1 a2 a3,bindArgs fd ⟨[a0,a1,a2,a3],[]⟩=pure ([p0,p1,p2,p3].zip [a0,a1,a2,a3])):bindArgs fd ⟨us,[]⟩=pure ([p0,p1,p2,p3].zip us):=match us,hl with | [a0,a1,a2,a3],_=>h a0 a1 a2 a3
theorem fn1 {K:ai}{h:Heap}{mg:Str->Option Value}{f:Addr}{od an:Option Addr}{sl:Array (Option Value)}{oc kV dc pm cd ct:Value}{x:Str}{st:Stmt}{ps:List Str}(X:K.In h)(G:h.Ns mainGlobals mg)(e:PySem.W.nsIn K mainGlobals x=some (some (.ref f)))(l:K.lookup f=some ⟨oc,od,.func (cj x x (ZV st) (Zj st) (zD st) .none kV dc pm an cd ct),sl⟩)(g:eG K cd x=true)(k:cK K (.ref f)=true)
  (hb:∀F:Fun K x x st f (cj x x (ZV st) (Zj st) (zD st) .none kV dc pm an cd ct),L2.Binds K (cj x x (ZV st) (Zj st) (zD st) .none kV dc pm an cd ct) ps []):Fn K mg x st ps f (cj x x (ZV st) (Zj st) (zD st) .none kV dc pm an cd ct):=
 have F:=Kb (st:=st) l g k
 ⟨F,hb F,PySem.W.mg_of X G e⟩
theorem zs_of {K:ai}{h:Heap}{mg:Str->Option Value}{zs:List Str}(X:K.In h)(G:h.Ns mainGlobals mg)(hz:(zs.all λx=>PySem.W.nsIn K mainGlobals x == some none)=true):∀x,zs.contains x=true->mg x=none:=λx hx=>PySem.W.mg_none_of X G (beq_iff_eq.mp (aQ.mp hz x (List.contains_iff_mem.mp hx)))
noncomputable abbrev Tx' {K:ai}{h:Heap}(_:K.In h)(mg:Str->Option Value):Prop:=Tx K mg
theorem fin_ {l:PySem.W.OpenLaw}{w:World}{K:ai}{h:Heap}{mg:Str->Option Value}{fa:Addr}(X:K.In h)(G:h.Ns mainGlobals mg)(hfa:mg "law"=some (.ref fa))(tx:Tx K mg):∃fd:FuncData,(∀(s:Shared) (v:Value),BindsTo s fd ⟨[v],[]⟩ [("_law_script",v)])/\∀base:Heap,K.In base->base.Ns mainGlobals mg->W2 l.prog w K mg base CX0 42 fa fd ["_law_script"] (spP (λ_=> .none) 1 f_0):=by
 obtain⟨f,fd,C⟩:=tx.C_0;have e:=hfa.symm.trans C.m;cases e;obtain⟨oc,od,kV,doc,pm,an,cdv,ct,osl,rfl,lk,hcd⟩:=C.F.ex;exact⟨_,λs v=> .of_eq rfl,λbase KB _=>GW (Z:=⟨l.prog,w,K,mg,base,(λ_=> .none)⟩) tx C⟩
def uz (K:ai):Bool:=K.all λp=> !(p.2.cls == Value.type "list")
theorem kl {K:ai}(h:uz K=true){a:Addr}{o:Obj}(e:K.lookup a=some o)(c:o.cls=Value.type "list"):False:=by
 have hm:(a,o)∈K:=by
  clear h
  induction K with
  | nil=>cases e
  | cons p r ih=>
   obtain⟨b,u⟩:=p
   by_cases hb:a=b
   ·subst hb;have e' :some u=some o:=by simpa[aP] using e
    cases e';exact ac
   ·have e' :r.lookup a=some o:=by rw[aP,(beq_eq_false_iff_ne.mpr hb)]at e;exact e
    exact a8 _ (ih e')
 have:=aQ.mp h _ hm;rw[c]at this;simp at this
theorem GX {cl:Nat->Value}{K:ai}{H:Hp}{a:Addr}{ns:List Int}(hL:f_0 [.fz (ns.map T.int)]= .ok (.bl true))(hK:uz K=true)(hO:GZ H)(hS:SqL K H a (ns.map V.int)):spP cl 1 f_0 [.ref a] H (λv _=>v= .bl true) λ_ _ _=>False:=by
 have scrR:∀ns:List Int,zC H (ns.map V.int) (ns.map T.int):=λns=>by
  induction ns with
  | nil=>exact .nil
  | cons n r ih=>exact .cons (.int n) ih
 rcases hS with (h | ⟨o,h⟩) | ⟨o,its,n,e,c,_⟩
 ·rcases hO a with z | ⟨ob,xs,z⟩ <;> (rw[h]at z;cases z)
 ·refine⟨H,[.fz (ns.map T.int)],rfl,zp.refl H,.cons (.fz h (scrR ns)) .nil, ?_⟩;rw[hL];intro v H' _ r;cases r;rfl
 ·exact(kl hK e c).elim
theorem walk {l:PySem.W.OpenLaw}{q:Program}{loose:List Str}{XP:(Str->Option Value)->Heap->Prop}{YP:World->Heap->Prop}{d:DefRec}{K:Params->ai}(hn:l.most=some 63)(hdf:d.params.defaults=[])
  (hL:∀ns:List Int,ns.length<=63->f_0 [.fz (ns.map T.int)]= .ok (.bl true)) (hK:∀p,uz (K p)=true)
  (hY:∀(w:World) (h:Heap),YP w h->(K w.params).In h)
  (F:∀(w:World) (mg:Str->Option Value) (fa:Addr) (h:Heap),(K w.params).In h->h.Ns mainGlobals mg->mg d.name=some (.ref fa)->
   ∃fd:FuncData,(∀(s:Shared) (u:Value),BindsTo s fd ⟨[u],[]⟩ [("_law_script",u)])/\∀base:Heap,(K w.params).In base->base.Ns mainGlobals mg->W2 l.prog w (K w.params) mg base CX0 42 fa fd ["_law_script"] (spP (λ_=> .none) 1 f_0)):
  PySem.W.WalkO q loose XP YP l.row.toRowW d [] (λf vs=>lf f vs):=
 L2.walk_of (n:=63) (k:=42) (x:="_law_script") (CX:=λw=>CX0) (sp:=λw=>spP (λ_=> .none) 1 f_0) hn (by decide) hdf ⟨rfl,by decide,by decide,rfl⟩ hY F (λw H a ns hl hO hS=>GX (hL ns hl) (hK w.params) hO hS) λ_ _ _ _ _ z=>z
end G
namespace PySem.W.Fast
noncomputable def tw827131908340530213:=0
noncomputable def tw13094169514074756470:=0
noncomputable def tw13943804316647941136:=0
noncomputable def tw17392765637264155722:=0
noncomputable def tw13858686218317408395:=0
noncomputable def tw3529366625987366747:=0
noncomputable def tw17058367699835180367:=0
noncomputable def tw16697731467107011275:=0
noncomputable def tw11836076842748582387:=0
noncomputable def tw2011136407270257385:=0
noncomputable def tw56940775322199880:=0
noncomputable def tw5636825242390606427:=0
noncomputable def tw3567412591670719862:=0
noncomputable def tw9022467373146489040:=0
noncomputable def tw14981780381214573147:=0
noncomputable def tw7330632223925070344:=0
noncomputable def tw15152772628066611438:=0
noncomputable def tw6650385634584365167:=0
noncomputable def tw7556495513205522231:=0
noncomputable def tw9250575116706359156:=0
noncomputable def tw7761322182706863392:=0
noncomputable def tw980893135618150837:=0
noncomputable def tw14502235524882090012:=0
noncomputable def tw1128770829361512767:=0
noncomputable def tw8198030982169117619:=0
noncomputable def tw7793821512287874883:=0
noncomputable def tw15998775213599687097:=0
noncomputable def tw9969378764292084664:=0
noncomputable def tw5126941257112750607:=0
noncomputable def tw2016303816901358437:=0
noncomputable def tw12340557954824256162:=0
noncomputable def tw1421556730552339571:=0
noncomputable def tw18047992251508428488:=0
noncomputable def tw1943059569166898125:=0
noncomputable def tw8998481052448346807:=0
noncomputable def tw16878997962454669385:=0
noncomputable def tw2225584792946090496:=0
noncomputable def tw6589054122984855717:=0
noncomputable def tw5064440769601531970:=0
noncomputable def tw16732394958556812301:=0
noncomputable def tw4553610018600939733:=0
noncomputable def tw7887294379901361212:=0
noncomputable def tw10638640544746652132:=0
noncomputable def tw5263651675039399347:=0
noncomputable def tw12295868635257472202:=0
noncomputable def tw1946052330516178035:=0
noncomputable def tw10627470846368330593:=0
noncomputable def tw4899970001959198770:=0
noncomputable def tw285493200849883515:=0
noncomputable def tw7577478719649368055:=0
noncomputable def tw10479740771018279370:=0
noncomputable def tw15745843426857797216:=0
noncomputable def tw503542359600487262:=0
noncomputable def tw6674291539565690:=0
noncomputable def tw15157313436072373255:=0
noncomputable def tw11662408840133895992:=0
noncomputable def tw11690696696959899147:=0
noncomputable def tw14629232941792641882:=0
noncomputable def tw9428493248093920696:=0
noncomputable def tw6274130959361376125:=0
noncomputable def tw1453172850859361354:=0
noncomputable def tw17349554092313914635:=0
noncomputable def tw14743927037312699194:=0
noncomputable def tw21086983821200190:=0
noncomputable def tw12369853951139150410:=0
noncomputable def tw17334727564427988105:=0
noncomputable def tw17589194370916401570:=0
noncomputable def tw11588573053391456709:=0
noncomputable def tw11094035521911078409:=0
noncomputable def tw12512402280864506179:=0
noncomputable def tw17491453286740368338:=0
noncomputable def tw10518321010048634034:=0
noncomputable def tw12015577067792588559:=0
noncomputable def tw1255073578188272590:=0
noncomputable def tw8145562346730639130:=0
noncomputable def tw8678715230073992083:=0
noncomputable def tw13268822392512371636:=0
noncomputable def tw5184885752659903171:=0
noncomputable def tw9034712601676234598:=0
noncomputable def tw8393218161123897730:=0
noncomputable def tw10163700913230808889:=0
noncomputable def tw5337848749702660278:=0
noncomputable def tw5931697298746577889:=0
noncomputable def tw7649683771509865929:=0
noncomputable def tw7496291050424712939:=0
noncomputable def tw9596885032935899986:=0
noncomputable def tw18424513026226873237:=0
noncomputable def tw4425587653050024447:=0
noncomputable def tw1734256294795367033:=0
noncomputable def tw14730015614587638620:=0
noncomputable def tw15553036791719186791:=0
noncomputable def tw9859513425222693231:=0
noncomputable def tw10265284209108734989:=0
noncomputable def tw4474658253605839174:=0
noncomputable def tw8243485176412065047:=0
noncomputable def tw13749429619295809931:=0
noncomputable def tw6728572900043791745:=0
noncomputable def tw15713638725675364840:=0
noncomputable def tw13977489618381646889:=0
noncomputable def tw10429429004102364331:=0
noncomputable def tw5357226137191321050:=0
noncomputable def tw14063997230638086397:=0
noncomputable def tw601138746556895902:=0
noncomputable def tw7433497249662469355:=0
noncomputable def tw4875851184623612187:=0
noncomputable def tw13673827567553570435:=0
noncomputable def tw792913874106242360:=0
noncomputable def tw16469260191012551070:=0
noncomputable def tw4352546051609980548:=0
noncomputable def tw7340019303266671521:=0
noncomputable def tw11072582644794729538:=0
noncomputable def tw6179558470472896850:=0
noncomputable def tw6655045941908743230:=0
noncomputable def tw13226498833737012166:=0
noncomputable def tw17389504086707618679:=0
noncomputable def tw11424226146735411878:=0
noncomputable def tw14926588467864481819:=0
noncomputable def tw12860771982823615890:=0
noncomputable def tw1465444246419386298:=0
noncomputable def tw12430341887734668008:=0
noncomputable def tw1594998701360805524:=0
noncomputable def tw13812449718198815576:=0
noncomputable def tw16839647982883032966:=0
noncomputable def tw13689908418444768029:=0
noncomputable def tw6665365968316569269:=0
noncomputable def tw9599807308307272306:=0
noncomputable def tw17674411205364451243:=0
noncomputable def tw8422001420565934192:=0
noncomputable def tw5432334867722126918:=0
noncomputable def tw9572235021971164941:=0
noncomputable def tw15244854134748667395:=0
noncomputable def tw8752964775089904892:=0
noncomputable def tw9540847732893950624:=0
noncomputable def tw15746452315963187800:=0
noncomputable def tw11569511853493077695:=0
noncomputable def tw12274894427300886:=0
noncomputable def tw7794017676111328425:=0
noncomputable def tw6417714220250424914:=0
noncomputable def tw4522539748600337745:=0
noncomputable def tw11605569220753918133:=0
noncomputable def tw2702847865700517193:=0
noncomputable def tw4326569928986077058:=0
noncomputable def tw7842495377684067914:=0
noncomputable def tw9014973190803524682:=0
noncomputable def tw13918656848368173873:=0
noncomputable def tw15094718674793276151:=0
noncomputable def tw447176319231960204:=0
noncomputable def tw15313815208656953691:=0
noncomputable def tw11727236457170896253:=0
noncomputable def tw10507492760888673132:=0
noncomputable def tw1073606139616960752:=0
noncomputable def tw11137391364833236413:=0
noncomputable def tw3719950936442033595:=0
noncomputable def tw6129951565784852610:=0
noncomputable def tw4682338208706813052:=0
noncomputable def tw12161121172465293369:=0
noncomputable def tw3499091368295343746:=0
noncomputable def tw9643364619658660773:=0
noncomputable def tw12416096636067754078:=0
noncomputable def tw8931227099992935202:=0
noncomputable def tw11090559218394924967:=0
noncomputable def tw2800849692582576663:=0
noncomputable def tw13906662744608068250:=0
noncomputable def tw1103375165952103432:=0
noncomputable def tw13663990080002135699:=0
noncomputable def tw3804276815374845326:=0
noncomputable def tw16642493965042363140:=0
noncomputable def tw7095033304833254426:=0
noncomputable def tw4007837386870103119:=0
noncomputable def tw1151110325627218249:=0
noncomputable def tw6206517846300466942:=0
noncomputable def tw14146219748941159911:=0
noncomputable def tw15939350850766604345:=0
noncomputable def tw3204829447686807675:=0
noncomputable def tw16472448998910509114:=0
noncomputable def tw10480869646581982823:=0
noncomputable def tw10028621229253873154:=0
noncomputable def tw4858605027315333980:=0
noncomputable def tw4514648084250995899:=0
noncomputable def tw10146251358929323185:=0
noncomputable def tw1623569028283302155:=0
noncomputable def tw3151522543814684963:=0
noncomputable def tw7483305634801675328:=0
end PySem.W.Fast
open PySem PySem.W PyProof.Rows
set_option maxRecDepth 100000 in
set_option maxHeartbeats 0 in
theorem PySem.Challenge.cw_worthkinds_k46_whole_kinds_in_rows_holds : PySem.Challenge.rw_worthkinds_k46_whole_kinds_in_rows.Holds := by
 w_on; o_law; k_head; (case hw=>w_witness2)
 k_fill
 refine G.walk (l:=PySem.Challenge.rw_worthkinds_k46_whole_kinds_in_rows) rfl rfl G.law_ok ?nl (fun w h Y=>PySem.W.kIn_of Y) ?F
 case nl=>intro p; kernel_rfl
 case F=>
  intro w mg fa h KX G0 hmg
  have tx:G.Tx' KX mg:=by
   constructor
   all_goals first
    | (refine' ⟨_,_,G.fn1 KX G0 ?e ?l ?g ?k (fun F=>F.binds fun _ _ _ _ _ _ us hl=>by first | exact G.lz1 us hl fun _=>rfl | exact G.lz2 us hl fun _ _=>rfl | exact G.lz3 us hl fun _ _ _=>rfl | exact G.lz4 us hl fun _ _ _ _=>rfl)⟩; (case e | l | g | k=>k_is))
    | exact ⟨_,PySem.W.mg_of KX G0 (by k_is),_,rfl⟩
    | exact G.zs_of KX G0 (by kernel_rfl)
  refine' G.fin_ KX G0 hmg tx
