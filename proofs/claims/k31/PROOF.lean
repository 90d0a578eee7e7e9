import PyProof.Rows.All
import Wide.All
import OpenK.AllK
import Wide.FinOn
import Lean
import PyProof.EqAt
import PyProof.EqKinds
import PyProof.TupleCall
import PyProof.NeKinds
import PyProof.WalksEnum
import PyProof.StrWalks
import PyProof.ExcAttrAll.ValueError
import PyProof.ZipIter
import KE.KRevIter
import PyProof.ListNew
import PyProof.WalksMore
import PyProof.ReprLoop
import PyProof.FactsAll.list
import PyProof.CollectIter
import PyProof.TupleOfGen
import PyProof.Draws
import PyProof.EnumMake
import PyProof.SeqI3
import KE.KMinBuiltin
import PyProof.SetRoads
import PyProof.CollectWalk
import KE.KDictSum
import PyProof.AttrMiss
import PyProof.IsiH_tuple
import KE.KDictOf
import PyProof.FitsBits
import PyProof.SliceList
import PyProof.InstFacts
import PyProof.Rows.StrNews2
import PyProof.StrBlockH
import PyProof.CallStr
import KE.KIntText
import PyProof.Rows.RuleB_pow
import KE.KSortTup
import PyProof.ReprRoads
import PySem.Challenge.RW_worthkinds_k31_whole_common_of_three
noncomputable section
set_option maxHeartbeats 4000000
set_option Elab.async false
set_option linter.all false
set_option maxRecDepth 100000
namespace L2
open PySem PySem.Spec PyProof.Rows
abbrev Key:=Sum Int Str
def Vx:Key->Value->Bool
 | .inl k,v=>Value.isInt k v
 | .inr x,v=>Value.isStrOf x v
def gc (w:World):Key->Int
 | .inl k=>hashInt k
 | .inr x=>hashStr w x
theorem zW:∀ {k:Key} {v:Value},Vx k v=true->(∃ i t,k=Sum.inl i/\v=Value.int i t)\/(∃ x t,k=Sum.inr x/\v=Value.str x t)
 | .inl i,v,h=>by
  obtain ⟨t,e⟩:=Value.isInt_shape (k:=i) (v:=v) h
  exact .inl ⟨i,t,rfl,e⟩
 | .inr x,v,h=>by
  obtain ⟨t,e⟩:=Value.isStrOf_shape (x:=x) (v:=v) h
  exact .inr ⟨x,t,rfl,e⟩
theorem Vy (a b:Int):decide ((Sum.inl a:Key)=Sum.inl b)=(a == b):=by
 by_cases e:a=b
 ·subst e; simp
 ·have h:¬ (Sum.inl a:Key)=Sum.inl b:=fun q=>e (Sum.inl.inj q)
  rw [decide_eq_false h]
  exact (beq_eq_false_iff_ne.mpr e).symm
theorem Vz (a b:Str):decide ((Sum.inr a:Key)=Sum.inr b)=decide (a=b):=by
 by_cases e:a=b
 ·subst e; simp
 ·have h:¬ (Sum.inr a:Key)=Sum.inr b:=fun q=>e (Sum.inr.inj q)
  rw [decide_eq_false h,decide_eq_false e]
theorem VA (a:Int) (b:Str):decide ((Sum.inl a:Key)=Sum.inr b)=false:=decide_eq_false (fun q=>nomatch q)
theorem VB (a:Str) (b:Int):decide ((Sum.inr a:Key)=Sum.inl b)=false:=decide_eq_false (fun q=>nomatch q)
def Wx (prog:Program) (w:World):PySem.KeyKind prog w Key where
 is:=Vx
 hash:=gc w
 inj:=fun v a b ha hb=>by
  rcases zW ha with ⟨i,t,rfl,rfl⟩ | ⟨x,t,rfl,rfl⟩
  ·rcases zW hb with ⟨j,u,rfl,e⟩ | ⟨y,u,rfl,e⟩
   ·injection e with e1 _; rw [e1]
   ·exact nomatch e
  ·rcases zW hb with ⟨j,u,rfl,e⟩ | ⟨y,u,rfl,e⟩
   ·exact nomatch e
   ·injection e with e1 _; rw [e1]
 byValue:=fun k v h=>by
  rcases zW h with ⟨i,t,rfl,rfl⟩ | ⟨x,t,rfl,rfl⟩ <;> rfl
 pyHash:=fun hv h=>by
  rcases zW hv with ⟨i,t,rfl,rfl⟩ | ⟨x,t,rfl,rfl⟩
  ·exact wpAny_pyHash_int h
  ·exact wpAny_pyHash_str h
 eqBool:=fun hu hv h=>by
  rcases zW hu with ⟨i,t,rfl,rfl⟩ | ⟨x,t,rfl,rfl⟩
  ·rcases zW hv with ⟨j,u,rfl,rfl⟩ | ⟨y,u,rfl,rfl⟩
   ·rw [Vy] at h; exact wpAny_eqBool_int h
   ·rw [VA] at h; exact SeqAt.EqAt.int_str i t y u _ _ _ _ h
  ·rcases zW hv with ⟨j,u,rfl,rfl⟩ | ⟨y,u,rfl,rfl⟩
   ·rw [VB] at h; exact SeqAt.EqAt.str_int x t j u _ _ _ _ h
   ·rw [Vz] at h; exact wpAny_eqBool_str h
 «strs»:=fun k x t v h=>by
  rcases zW h with ⟨i,u,rfl,e⟩ | ⟨y,u,rfl,e⟩
  ·exact nomatch e
  ·injection e with e1 _
   subst e1
   cases v <;> rfl
end L2
namespace L2
open PySem PySem.Spec PyProof.Rows
inductive V where
 | non | bl (b:Bool) | int (i:Int) | str (x:Str) | byt (b:Array UInt8) | flt (b:UInt64) | ref (a:Addr) | ty (n:String)
 deriving DecidableEq
def RelV:V->Value->Prop
 | .non,u=>u=Value.none
 | .bl b,u=>u=Value.bool b
 | .int i,u=>∃ t,u=Value.int i t
 | .str x,u=>∃ t,u=Value.str x t
 | .byt b,u=>∃ t,u=Value.bytes b t
 | .flt b,u=>∃ t,u=Value.float b t
 | .ref a,u=>u=Value.ref a
 | .ty n,u=>u=Value.type n
abbrev Vals:List V->List Value->Prop:=Paired RelV
theorem Vals.length {xs:List V} {us:List Value} (r:Vals xs us):xs.length=us.length:=Paired.length r
theorem Vals.get:∀ {xs:List V} {us:List Value} {i:Nat} {x:V},Vals xs us->xs[i]? =some x->∃ u,us[i]? =some u/\RelV x u
 | _,_,_,_, .nil,e=>by simp at e
 | _,_,0,_, .cons r _,e=>by simp at e; subst e; exact ⟨_,rfl,r⟩
 | _,_,i+1,x, .cons _ t,e=>by
  obtain ⟨u,h1,h2⟩:=Vals.get (i:=i) (x:=x) t (by simpa using e)
  exact ⟨u,by simpa using h1,h2⟩
theorem Vals.append:∀ {xs ys:List V} {us ws:List Value},Vals xs us->Vals ys ws->Vals (xs++ys) (us++ws)
 | _,_,_,_, .nil,s=>s
 | _,_,_,_, .cons r t,s=> .cons r (Vals.append t s)
theorem Vals.take:∀ {xs:List V} {us:List Value} (n:Nat),Vals xs us->Vals (xs.take n) (us.take n)
 | _,_,0,_=> .nil
 | _,_,_+1, .nil=> .nil
 | _,_,n+1, .cons r t=> .cons r (Vals.take n t)
theorem Vals.drop:∀ {xs:List V} {us:List Value} (n:Nat),Vals xs us->Vals (xs.drop n) (us.drop n)
 | _,_,0,r=>r
 | _,_,_+1, .nil=> .nil
 | _,_,n+1, .cons _ t=>Vals.drop n t
def k6:Option V->Option Value->Prop
 | some v,some u=>RelV v u
 | none,none=>True
 | _,_=>False
def KV {κ:Type}:List (κ×V)->List (κ×Value)->Prop:=Paired fun (p:κ×V) (q:κ×Value)=>p.1=q.1/\RelV p.2 q.2
def kV:Key->V
 | .inl i=> .int i
 | .inr x=> .str x
inductive HO where
 | lst (xs:List V)
 | tup (xs:List V)
 | dK (kvs:List (Key×V)) | dT (kvs:List (List Key×V))
 | set (S:Int->Bool) (n:Nat)
 | ins (C dx:Addr) (fs:List (Str×V))
 | own (x:Addr)
 | xd (fs:List (Str×V))
 | met (f x:Addr)
 | rng (lo hi:Int)
 | frz (o:Obj) (u:HO)
 | tbl (ps:Array Value)
 | ext (φ:Heap->Prop)
abbrev Hp:=Addr->Option HO
def upd (H:Hp) (a:Addr) (o:HO):Hp:=fun b=>if b=a then some o else H b
theorem Z6 {H:Hp} {a:Addr} {o:HO}:upd H a o a=some o:=by unfold upd; rw [if_pos rfl]
theorem zy {H:Hp} {a b:Addr} {o:HO} (h:b ≠ a):upd H a o b=H b:=by unfold upd; rw [if_neg h]
theorem zQ {H:Hp} {a b:Addr} {o:HO} (h:H a=some o) (h' :H b=none):a ≠ b:=by
 intro e; subst e; rw [h] at h'; cases h'
def ITN (h:Heap) (a:Addr) (its:Array Value):Prop:=IsTup h a its/\((∃ i t,its[0]? =some (Value.int i t))\/∃ o,h.get? a=some o/\o.dict=none)
theorem ITN.new (h:Heap) (its:Array Value):ITN (h.push { cls:= .type "tuple",data:= .seq its }) h.objs.size its:=⟨IsTup.new h its, .inr ⟨_,Heap.get?_push_size _ rfl,rfl⟩⟩
section
variable (P:Program) (w:World)
def ZC (H:Hp) (h:Heap) (a:Addr):HO->Prop
 | .lst xs=>xs.length<=sizeLine/\∃ (its:List Value) (n:Nat),Vals xs its/\h.get? a=some { cls:= .type "list",data:= .seq its.toArray n }
 | .tup xs=>xs.length<=sizeLine/\∃ its:List Value,Vals xs its/\ITN h a its.toArray
 | .dK kvs=>kvs.length<=sizeLine/\(a == sysModules)=false/\∃ vs,KV kvs vs/\h.DictOf (Wx P w) a vs
 | .dT kvs=>kvs.length<=sizeLine/\(a == sysModules)=false/\∃ xs:List (List Key×Addr×Value),
   Paired (fun (p:List Key×V) (q:List Key×Addr×Value)=>p.1=q.1/\H q.2.1=some (.tup (p.1.map kV))/\RelV p.2 q.2.2) kvs xs/\
   ∃ o es ep,h.get? a=some o/\o.ExactDict/\o.data= .dict es ep/\es.toList=xs.map (entryOfKey (tupleKind (Wx P w)))/\(xs.map (·.1)).Nodup
 | .set S n=>h.SetOf (intKind P w) a S n
 | .ins C dx fs=>H dx=some (.own a)/\fs.length<=1000/\dx ≠ a/\h.get? a=some (PySem.W.instObj C dx)/\
   ∃ mA,h.Ns1 dx mA/\(∀ f,k6 (fs.lookup f) (mA f))/\PySem.Within mA (fs.map (·.1))
 | .own _=>∃ o,h.get? a=some o
 | .xd fs=>∃ mA,h.Ns1 a mA/\∀ f,k6 (fs.lookup f) (mA f)
 | .rng lo hi=>∃ t u v,h.get? a=some { cls:= .type "range",data:= .fields #[.int lo t, .int hi u, .int 1 v] }
 | .frz o u=>h.get? a=some o/\ZC H h a u
 | .tbl ps=>h.get? a=some { cls:= .none,data:= .fields ps }
 | .met f x=>h.get? a=some (PySem.W.methodObj (.ref f) (.ref x))
 | .ext φ=>φ h/\(∃ o,h.get? a=some o)/\∀ h1 h2:Heap,φ h1->(∀ o,h1.get? a=some o->h2.get? a=some o)->φ h2
def HOk (H:Hp) (h:Heap):Prop:=∀ a o,H a=some o->ZC P w H h a o
end
section
variable {P:Program} {w:World} {H H' :Hp} {h h' :Heap} {a:Addr} {o:HO}
theorem ZC.lt (x:ZC P w H h a o):a < h.objs.size:=by
 cases o with
 | lst xs=>obtain ⟨_,_,_,_,e⟩:=x; exact Heap.lt_size e
 | tup xs=>obtain ⟨_,_,_,p,_⟩:=x; exact p.lt
 | dK kvs=>obtain ⟨_,_,_,_,o,_,_,e,_⟩:=x; exact Heap.lt_size e
 | dT kvs=>obtain ⟨_,_,_,_,o,_,_,e,_⟩:=x; exact Heap.lt_size e
 | set S n=>obtain ⟨o,_,_,_,e,_⟩:=x; exact Heap.lt_size e
 | ins C dx fs=>obtain ⟨_,_,_,e,_⟩:=x; exact Heap.lt_size e
 | own y=>obtain ⟨_,e⟩:=x; exact Heap.lt_size e
 | xd fs=>obtain ⟨_,⟨_,_,_,e,_⟩,_⟩:=x; exact Heap.lt_size e
 | rng lo hi=>obtain ⟨_,_,_,e⟩:=x; exact Heap.lt_size e
 | frz ob u=>obtain ⟨e,_⟩:=x; exact Heap.lt_size e
 | tbl ps=>exact Heap.lt_size (show h.get? a=some _ from x)
 | met f y=>exact Heap.lt_size (show h.get? a=some _ from x)
 | ext φ=>obtain ⟨_,⟨_,e⟩,_⟩:=x; exact Heap.lt_size e
theorem Paired.mapP {α β:Type} {F G:α->β->Prop}:∀ {l₁:List α} {l₂:List β},Paired F l₁ l₂->(∀ a b,F a b->G a b)->Paired G l₁ l₂
 | _,_, .nil,_=> .nil
 | _,_, .cons r t,f=> .cons (f _ _ r) (Paired.mapP t f)
theorem ZC.stay (x:ZC P w H h a o) (k:∀ b u,(b=a\/H b=some (.own a))->h.get? b=some u->h'.get? b=some u)
  (ho:∀ b,H b=some (.own a)->H' b=some (.own a)) (ht:∀ b xs,H b=some (.tup xs)->H' b=some (.tup xs)):ZC P w H' h' a o:=by
 induction o with
 | lst xs=>obtain ⟨z,its,n,r,e⟩:=x; exact ⟨z,its,n,r,k _ _ (.inl rfl) e⟩
 | tup xs=>obtain ⟨z,its,r,⟨ob,e,c⟩,q⟩:=x; exact ⟨z,its,r,⟨ob,k _ _ (.inl rfl) e,c⟩,q.imp id fun ⟨o2,e2,d2⟩=>⟨o2,k _ _ (.inl rfl) e2,d2⟩⟩
 | dK kvs=>obtain ⟨z,y,vs,r,ob,es,ep,e,c⟩:=x; exact ⟨z,y,vs,r,ob,es,ep,k _ _ (.inl rfl) e,c⟩
 | dT kvs=>
  obtain ⟨z,y,xs,r,ob,es,ep,e,c⟩:=x
  exact ⟨z,y,xs,Paired.mapP r fun p q z=>⟨z.1,ht _ _ z.2.1,z.2.2⟩,ob,es,ep,k _ _ (.inl rfl) e,c⟩
 | set S n=>obtain ⟨ob,es,ep,t,e,c⟩:=x; exact ⟨ob,es,ep,t,k _ _ (.inl rfl) e,c⟩
 | ins C dx fs=>
  obtain ⟨d,z,ne,e,mA,⟨od,es,ep,e2,c⟩,r⟩:=x
  exact ⟨ho _ d,z,ne,k _ _ (.inl rfl) e,mA,⟨od,es,ep,k _ _ (.inr d) e2,c⟩,r⟩
 | own y=>obtain ⟨ob,e⟩:=x; exact ⟨ob,k _ _ (.inl rfl) e⟩
 | xd fs=>obtain ⟨mA,⟨od,es,ep,e,c⟩,r⟩:=x; exact ⟨mA,⟨od,es,ep,k _ _ (.inl rfl) e,c⟩,r⟩
 | rng lo hi=>obtain ⟨t,u,v,e⟩:=x; exact ⟨t,u,v,k _ _ (.inl rfl) e⟩
 | frz ob u ih=>obtain ⟨e,q⟩:=x; exact ⟨k _ _ (.inl rfl) e,ih q⟩
 | tbl ps=>
  have e:h.get? a=some { cls:= .none,data:= .fields ps }:=x
  show h'.get? a=some { cls:= .none,data:= .fields ps }
  exact k a _ (.inl rfl) e
 | met f y=>
  have e:h.get? a=some (PySem.W.methodObj (.ref f) (.ref y)):=x
  show h'.get? a=some (PySem.W.methodObj (.ref f) (.ref y))
  exact k a _ (.inl rfl) e
 | ext φ=>obtain ⟨p,⟨o,e⟩,st⟩:=x; exact ⟨st _ _ p fun o q=>k _ _ (.inl rfl) q,⟨o,k _ _ (.inl rfl) e⟩,st⟩
theorem HOk.lt (x:HOk P w H h) (e:H a=some o):a < h.objs.size:=(x a o e).lt
theorem HOk.fresh (x:HOk P w H h) (e:h.objs.size<=a):H a=none:=by
 cases q:H a with
 | none=>rfl
 | some u=>exact absurd (Nat.lt_of_lt_of_le (x.lt q) e) (Nat.lt_irrefl _)
theorem HOk.kept (x:HOk P w H h) (k:∀ b u,h.get? b=some u->h'.get? b=some u):HOk P w H h' :=fun a o e=>
 (x a o e).stay (fun b u _ q=>k b u q) (fun _ q=>q) fun _ _ q=>q
theorem HOk.laid (x:HOk P w H h) (k:∀ b u,h.get? b=some u->h'.get? b=some u) (hp:h.objs.size<=a) (new:ZC P w (upd H a o) h' a o):HOk P w (upd H a o) h' :=fun b u e=>by
 have hn:=x.fresh hp
 by_cases hb:b=a
 ·subst hb; rw [Z6] at e; cases e; exact new
 ·rw [zy hb] at e
  exact (x b u e).stay (fun c v _ q=>k c v q) (fun c q=>by rw [zy (zQ q hn)]; exact q) fun c xs q=>by rw [zy (zQ q hn)]; exact q
end
def Rd (H:Hp) (a:Addr) (u:HO):Prop:=H a=some u\/∃ o,H a=some (.frz o u)
theorem Rd.ok {P:Program} {w:World} {H:Hp} {h:Heap} {a:Addr} {u:HO} (r:Rd H a u) (x:HOk P w H h):ZC P w H h a u:=by
 rcases r with r | ⟨o,r⟩
 ·exact x a u r
 ·obtain ⟨_,q⟩:=x a _ r
  exact q
def Mut:Option HO->Prop
 | some (.lst _)=>True
 | some (.dK _)=>True
 | some (.dT _)=>True
 | some (.set _ _)=>True
 | some (.ins _ _ _)=>True
 | some (.ext _)=>True
 | _=>False
section
variable {P:Program} {w:World} {H:Hp} {h h' :Heap} {x e:Addr} {o' :HO}
theorem HOk.write (ok:HOk P w H h) (mu:Mut (H x)) (he:e=x\/H e=some (.own x)) (k:∀ b u,b ≠ e->h.get? b=some u->h'.get? b=some u) (heo:∃ u,h'.get? e=some u)
  (new:ZC P w (upd H x o') h' x o'):HOk P w (upd H x o') h' :=fun b u q=>by
 have nown:∀ c y,H c=some (.own y)->c ≠ x:=fun c y r z=>by subst z; rw [r] at mu; exact mu
 have ntup:∀ c xs,H c=some (.tup xs)->c ≠ x:=fun c xs r z=>by subst z; rw [r] at mu; exact mu
 by_cases hb:b=x
 ·subst hb; rw [Z6] at q; cases q; exact new
 ·rw [zy hb] at q
  by_cases hbe:b=e
  ·have q' :H b=some (.own x):=by
    rcases he with z | z
    ·exact absurd (hbe.trans z) hb
    ·rw [hbe]; exact z
   rw [q] at q'; cases q'
   obtain ⟨v,hv⟩:=heo
   exact ⟨v,by rw [hbe]; exact hv⟩
  ·refine (ok b u q).stay (fun c v hc r=>k c v ?_ r) (fun c r=>by rw [zy (nown c b r)]; exact r) fun c xs r=>by rw [zy (ntup c xs r)]; exact r
   rcases hc with rfl | hc
   ·exact hbe
   ·rintro rfl
    rcases he with z | z
    ·exact nown c b hc z
    ·rw [hc] at z; cases z; exact hb rfl
end
structure Un (fs ex:List Addr) (H H' :Hp) (h h' :Heap):Prop where
 keep:∀ b o,h.get? b=some o->H b=none->b ∉ fs->b ∉ ex->h'.get? b=some o
 slot:∀ b o,h.get? b=some o->H b=none->b∈fs->b ∉ ex->∃ sl,h'.get? b=some { o with slots:=sl }
 free:∀ b o,h.get? b=some o->H b=none->b ∉ ex->H' b=none
 there:∀ b o,h.get? b=some o->b ∉ ex->∃ o',h'.get? b=some o'
 tups:∀ b xs,H b=some (.tup xs)->H' b=some (.tup xs)
 frzs:∀ b o u,H b=some (.frz o u)->H' b=some (.frz o u)
 tbls:∀ b ps,H b=some (.tbl ps)->∃ more,H' b=some (.tbl (ps++more))
section
variable {fs fs' ex ex' :List Addr} {H H1 H2:Hp} {h h1 h2 h' :Heap} {a x e:Addr} {o:HO}
theorem Un.any (u:Un fs ex H H1 h h1) {b:Addr} {ob:Obj} (q:h.get? b=some ob) (n:H b=none) (hx:b ∉ ex):∃ sl,h1.get? b=some { ob with slots:=sl }:=by
 by_cases hb:b∈fs
 ·exact u.slot b ob q n hb hx
 ·exact ⟨ob.slots,u.keep b ob q n hb hx⟩
theorem Un.kept (k:∀ b u,h.get? b=some u->h'.get? b=some u):Un fs ex H H h h' :=
 ⟨fun b ob q _ _ _=>k b ob q,fun b ob q _ _ _=>⟨ob.slots,k b ob q⟩,fun _ _ _ n _=>n,fun b ob q _=>⟨ob,k b ob q⟩,fun _ _ q=>q,fun _ _ _ q=>q,fun _ ps q=>⟨#[],by rw [q]; simp⟩⟩
theorem Un.refl:Un fs ex H H h h:=Un.kept fun _ _ q=>q
theorem Un.laid (k:∀ b u,h.get? b=some u->h'.get? b=some u) (hp:h.objs.size<=a) (hn:H a=none):Un fs ex H (upd H a o) h h' where
 keep:=fun b u q _ _ _=>k b u q
 slot:=fun b u q _ _ _=>⟨u.slots,k b u q⟩
 free:=fun b u q n _=>by rw [zy (Nat.ne_of_lt (Nat.lt_of_lt_of_le (Heap.lt_size q) hp))]; exact n
 there:=fun b u q _=>⟨u,k b u q⟩
 tups:=fun b xs q=>by rw [zy (zQ q hn)]; exact q
 frzs:=fun b u xs q=>by rw [zy (zQ q hn)]; exact q
 tbls:=fun b ps q=>⟨#[],by rw [zy (zQ q hn),q]; simp⟩
theorem Un.write (mu:Mut (H x)) (he:e=x\/H e=some (.own x)) (k:∀ b u,b ≠ e->h.get? b=some u->h'.get? b=some u) (heo:∃ u,h'.get? e=some u):Un fs ex H (upd H x o) h h' :=by
 have hx:∀ b,H b=none->b ≠ x:=fun b n z=>by subst z; rw [n] at mu; exact mu
 have hb:∀ b,H b=none->b ≠ e:=fun b n z=>by
  subst z
  rcases he with r | r
  ·exact hx b n r
  ·rw [n] at r; cases r
 have hm:∀ b u,H b=some u->¬ Mut (some u)->b ≠ x:=fun b u q nm z=>by subst z; rw [q] at mu; exact nm mu
 refine ⟨fun b u q n _ _=>k b u (hb b n) q,fun b u q n _ _=>⟨u.slots,k b u (hb b n) q⟩,fun b u q n _=>by rw [zy (hx b n)]; exact n,fun b u q _=> ?_,
  fun b xs q=>by rw [zy (hm b _ q fun z=>z)]; exact q,fun b u xs q=>by rw [zy (hm b _ q fun z=>z)]; exact q,fun b ps q=>⟨#[],by rw [zy (hm b _ q fun z=>z),q]; simp⟩⟩
 by_cases hbe:b=e
 ·subst hbe; exact heo
 ·exact ⟨u,k b u hbe q⟩
end
def trk (h:Heap) (H:Hp):List Addr:=(List.range h.objs.size).filter fun a=>(H a).isSome
def YA (h:Heap) (H:Hp):Heap:=PySem.W.hideAll h (trk h H)
theorem Uj (h:Heap) (H:Hp):(YA h H).objs.size=h.objs.size:=PySem.W.hideAll_size _ _
theorem YB {h:Heap} {H:Hp} {b:Addr} {o:Obj} (e:h.get? b=some o) (n:H b=none):(YA h H).get? b=some o:=
 PySem.W.hideAll_get _ e fun hm=>by
  have q:(H b).isSome=true:=(List.mem_filter.mp hm).2
  rw [n] at q; simp at q
theorem Qu {h:Heap} {H:Hp} {b:Addr} {o:Obj} (e:(YA h H).get? b=some o):h.get? b=some o/\H b=none:=by
 have e' :h.get? b=some o:=PySem.W.of_hideAll (trk h H) e
 refine ⟨e', ?_⟩
 cases q:H b with
 | none=>rfl
 | some x=>
  have hm:b∈trk h H:=List.mem_filter.mpr ⟨List.mem_range.mpr (Heap.lt_size e'),by simp [q]⟩
  have z:(YA h H).get? b=none:=PySem.W.hideAll_none (trk h H) hm
  rw [z] at e; cases e
end L2
namespace L2
open PySem PySem.Spec PyProof.Rows
structure Mod (K:PySem.W.Frag) (mg:Str->Option Value) (base:Heap):Prop where
 kin:K.In base
 glob:base.Ns mainGlobals mg
 blt:∃ mb,base.Ns builtinsNs mb/\∀ x:Str,x ≠ "__name__"->mb x=bootBuiltins x
 nolimit:base.NoLimit
structure Cx where
 prog:Program
 w:World
 K:PySem.W.Frag
 mg:Str->Option Value
 base:Heap
 A:Around
 N:List Str
 s₀:Shared
 H₀:Hp
 env:Env
 outer:List Env
 stack:List Env
 ex:List Addr
 fn:Str->Bool
 calm:Bool
 pn:List (Addr×Obj)
 xe:Value->Shared->Prop
def frs (l:List Env):List Addr:=l.filterMap (·.frame)
abbrev Cx.fs (X:Cx):List Addr:=frs X.outer
def Vis (sc:Scope) (x:Str):Prop:=sc.names.lookup x=some .local\/sc.names.lookup x=some .cell\/sc.names.lookup x=some .free
def Loc (sc:Scope) (x:Str):Prop:=sc.names.lookup x=some .local\/sc.names.lookup x=some .cell
def gf (env:Env) (h:Heap) (m:Str->Option Value) (x:Str) (u:Value):Prop:=
 (env.kindOf x=some .local/\m x=some u)\/((env.kindOf x=some .cell\/env.kindOf x=some .free)/\∃ c,env.cells.lookup x=some c/\h.IsCell c (some u))
structure Cx.Ok (X:Cx):Prop where
 mod:Mod X.K X.mg X.base
 kind:X.env.scope.kind= .function
 glob:X.env.globals=mainGlobals
 blt:X.env.builtins=builtinsNs
 above:X.s₀.heap.objs.size<=X.env.locals
 inj:∀ x y c,X.env.cells.lookup x=some c->X.env.cells.lookup y=some c->x=y
 has:∀ x,(X.env.kindOf x=some .cell\/X.env.kindOf x=some .free)->∃ c,X.env.cells.lookup x=some c
 cab:∀ x c,X.fn x=true->X.env.cells.lookup x=some c->X.s₀.heap.objs.size<=c
 hd:X.calm=true->X.A.handled=none
 frames:X.A.frames=some X.stack
 stk:X.stack=X.outer\/(X.stack=X.env :: X.outer/\X.env.frame=some X.env.locals)
 exf:∀ b∈X.ex,b ≠ X.env.locals/\∀ x c,X.env.cells.lookup x=some c->c ≠ b
 bs:∀ b o,X.base.get? b=some o->X.s₀.heap.get? b=some o/\X.H₀ b=none
 bsz:X.base.objs.size<=X.s₀.heap.objs.size
 noex:∀ b o,X.base.get? b=some o->b ∉ X.ex
 exfs:∀ b∈X.ex,b ∉ X.fs
 funs:X.s₀.heap.FunFrames X.base X.outer
 frf:∀ b∈X.fs,X.H₀ b=none
structure Inv (X:Cx) (pins:List (Addr×Obj)) (σ:List (Option V)) (H:Hp) (s:Shared):Prop where
 ok:X.Ok
 os:s.os=X.s₀.os
 bare:AllBare s.gens
 base:Un X.fs X.ex X.H₀ H X.s₀.heap s.heap
 loc:∃ m,s.heap.Ns X.env.locals m/\∀ (i:Nat) (x:Str) (v:V),X.N[i]? =some x->σ[i]? =some (some v)->Vis X.env.scope x->∃ u,RelV v u/\gf X.env s.heap m x u
 cell:∀ x c,X.env.cells.lookup x=some c->∃ v,s.heap.IsCell c v
 free:H X.env.locals=none
 freeC:∀ x c,X.env.cells.lookup x=some c->H c=none
 pin:∀ p∈X.pn++pins,s.heap.get? p.1=some p.2/\H p.1=none/\p.1 ≠ X.env.locals/\p.1 ∉ X.fs/\∀ v,p.2.data ≠ .cell v
 hok:HOk X.prog X.w H s.heap
 len:σ.length=X.N.length
section
variable {X:Cx} {pins:List (Addr×Obj)} {σ:List (Option V)} {H H' :Hp} {s:Shared} {h' :Heap}
theorem Cx.Ok.nofr (ok:X.Ok) {b:Addr} {o:Obj} (e:X.base.get? b=some o):b ∉ X.fs:=fun hb=>by
 have:=(ok.funs.mem hb).1
 rw [e] at this; cases this
theorem Inv.bs (I:Inv X pins σ H s):∀ b o,X.base.get? b=some o->s.heap.get? b=some o/\H b=none:=fun b o e=>
 ⟨I.base.keep b o (I.ok.bs b o e).1 (I.ok.bs b o e).2 (I.ok.nofr e) (I.ok.noex b o e),I.base.free b o (I.ok.bs b o e).1 (I.ok.bs b o e).2 (I.ok.noex b o e)⟩
theorem Inv.bk (I:Inv X pins σ H s):∀ b o,X.base.get? b=some o->s.heap.get? b=some o:=fun b o e=>(I.bs b o e).1
theorem Inv.mod (I:Inv X pins σ H s):Mod X.K X.mg X.base:=I.ok.mod
theorem Inv.kIn (I:Inv X pins σ H s):X.K.In s.heap:=I.ok.mod.kin.keeps I.bk
theorem Inv.lt (I:Inv X pins σ H s):X.env.locals < s.heap.objs.size:=let ⟨_,hn,_⟩:=I.loc; hn.lt
theorem Inv.sz (I:Inv X pins σ H s):X.s₀.heap.objs.size<=s.heap.objs.size:=Nat.le_trans I.ok.above (Nat.le_of_lt I.lt)
theorem Inv.nofs (I:Inv X pins σ H s) {a:Addr} (h:s.heap.objs.size<=a):a ∉ X.fs:=fun hb=>by
 obtain ⟨_,o,ho,_⟩:=I.ok.funs.mem hb
 exact absurd (Nat.lt_of_lt_of_le (Heap.lt_size ho) (Nat.le_trans I.sz h)) (Nat.lt_irrefl _)
theorem Inv.cne (I:Inv X pins σ H s):∀ x c,X.env.cells.lookup x=some c->c ≠ X.env.locals:=fun x c e z=>by
 obtain ⟨v,o,ho,hd⟩:=I.cell x c e
 obtain ⟨m,⟨o',es,ep,ho',hd',_⟩,_⟩:=I.loc
 rw [z,ho'] at ho; cases ho; rw [hd'] at hd; cases hd
theorem Inv.funs (I:Inv X pins σ H s):s.heap.FunFrames X.base X.outer:=by
 have all:∀ (l:List Env),(∀ b∈frs l,b∈X.fs)->X.s₀.heap.FunFrames X.base l->s.heap.FunFrames X.base l:=by
  intro l
  induction l with
  | nil=>intro _ _; trivial
  | cons env r ih=>
   intro hs hl
   obtain ⟨hk,⟨L,o,hf,hn,ho,hd⟩,hr⟩:=hl
   have hL:L∈X.fs:=hs L (by unfold frs; rw [List.filterMap_cons,hf]; exact List.mem_cons_self)
   obtain ⟨sl,e⟩:=I.base.slot L o ho (I.ok.frf L hL) hL fun z=>I.ok.exfs L z hL
   exact ⟨hk,⟨L,_,hf,hn,e,hd⟩,ih (fun b hb=>hs b (by unfold frs; rw [List.filterMap_cons,hf]; exact List.mem_cons_of_mem _ hb)) hr⟩
 exact all X.outer (fun _ hb=>hb) I.ok.funs
theorem Inv.stack (I:Inv X pins σ H s):s.heap.FunFrames X.base X.stack:=by
 rcases I.ok.stk with e | ⟨e,hf⟩
 ·rw [e]; exact I.funs
 ·rw [e]
  obtain ⟨m,hn,_⟩:=I.loc
  refine .cons (by rw [I.ok.kind]; decide) hf hn ?_ I.funs
  exact Heap.get?_none_of_le (Nat.le_trans I.ok.bsz I.ok.above)
theorem Inv.stkSub (I:Inv X pins σ H s):∀ b∈frs X.stack,b∈X.env.locals :: X.fs:=fun b hb=>by
 rcases I.ok.stk with e | ⟨e,hf⟩
 ·rw [e] at hb; exact List.mem_cons_of_mem _ hb
 ·rw [e] at hb
  unfold frs at hb
  rw [List.filterMap_cons,hf] at hb
  exact hb
theorem Inv.stkFree (I:Inv X pins σ H s):∀ b∈frs X.stack,H b=none:=fun b hb=>by
 rcases List.mem_cons.mp (I.stkSub b hb) with e | hb
 ·rw [e]; exact I.free
 ·obtain ⟨_,o,ho,_⟩:=I.ok.funs.mem hb
  exact I.base.free b o ho (I.ok.frf b hb) fun z=>I.ok.exfs b z hb
theorem Inv.step {g' :Array GenState} {t' :Nat} {d' :Drawn} {ch:List Addr} (I:Inv X pins σ H s)
  (hch:∀ b∈ch,(b∈X.ex\/X.s₀.heap.objs.size<=b)/\b ≠ X.env.locals/\(∀ x c,X.env.cells.lookup x=some c->c ≠ b)/\∀ p∈X.pn++pins,p.1 ≠ b)
  (keep:∀ b o,b ≠ X.env.locals->b ∉ X.fs->b ∉ ch->s.heap.get? b=some o->H b=none->h'.get? b=some o)
  (slot:∀ b o,b ≠ X.env.locals->b∈X.fs->b ∉ ch->s.heap.get? b=some o->H b=none->∃ sl,h'.get? b=some { o with slots:=sl }) (free:∀ b o,b ∉ ch->s.heap.get? b=some o->H b=none->H' b=none)
  (there:∀ b o,b ∉ ch->s.heap.get? b=some o->∃ o',h'.get? b=some o')
  (tups:∀ b xs,H b=some (.tup xs)->H' b=some (.tup xs)) (frzs:∀ b o u,H b=some (.frz o u)->H' b=some (.frz o u)) (tbls:∀ b ps,H b=some (.tbl ps)->∃ more,H' b=some (.tbl (ps++more)))
  (ns:∀ m,s.heap.Ns X.env.locals m->h'.Ns X.env.locals m) (hok:HOk X.prog X.w H' h') (hg:AllBare g'):
  Inv X pins σ H' { s with heap:=h',gens:=g',drawn:=d',toks:=t' }:=by
 have neL:∀ b o,X.s₀.heap.get? b=some o->b ≠ X.env.locals:=fun b o e=>Nat.ne_of_lt (Nat.lt_of_lt_of_le (Heap.lt_size e) I.ok.above)
 have neC:∀ b o,X.s₀.heap.get? b=some o->b ∉ X.ex->b ∉ ch:=fun b o e hx hb=>by
  rcases (hch b hb).1 with z | z
  ·exact hx z
  ·exact absurd (Nat.lt_of_lt_of_le (Heap.lt_size e) z) (Nat.lt_irrefl _)
 have cellK:∀ x c,X.env.cells.lookup x=some c->∀ v,s.heap.IsCell c v->h'.IsCell c v:=fun x c e v ⟨o,ho,hd⟩=>by
  have nch:c ∉ ch:=fun z=>(hch c z).2.2.1 x c e rfl
  by_cases hc:c∈X.fs
  ·obtain ⟨sl,q⟩:=slot c o (I.cne x c e) hc nch ho (I.freeC x c e)
   exact ⟨_,q,hd⟩
  ·exact ⟨o,keep c o (I.cne x c e) hc nch ho (I.freeC x c e),hd⟩
 refine ⟨I.ok,I.os,hg,⟨fun b o e n hb hx=> ?_,fun b o e n hb hx=> ?_,fun b o e n hx=> ?_,fun b o e hx=> ?_,fun b xs e=>tups b xs (I.base.tups b xs e),fun b o xs e=>frzs b o xs (I.base.frzs b o xs e),fun b ps e=> ?_⟩, ?_,fun x c e=> ?_, ?_,fun x c e=> ?_,fun p hp=> ?_,hok,I.len⟩
 ·exact keep b o (neL b o e) hb (neC b o e hx) (I.base.keep b o e n hb hx) (I.base.free b o e n hx)
 ·obtain ⟨sl,e1⟩:=I.base.slot b o e n hb hx
  obtain ⟨sl',e2⟩:=slot b _ (neL b o e) hb (neC b o e hx) e1 (I.base.free b o e n hx)
  exact ⟨sl',e2⟩
 ·obtain ⟨o',e1⟩:=I.base.there b o e hx
  exact free b o' (neC b o e hx) e1 (I.base.free b o e n hx)
 ·obtain ⟨o',e1⟩:=I.base.there b o e hx
  exact there b o' (neC b o e hx) e1
 ·obtain ⟨m1,e1⟩:=I.base.tbls b ps e
  obtain ⟨m2,e2⟩:=tbls b _ e1
  exact ⟨m1++m2,by rw [e2,Array.append_assoc]⟩
 ·obtain ⟨m,hn,hl⟩:=I.loc
  refine ⟨m,ns m hn,fun i x v e1 e2 e3=> ?_⟩
  obtain ⟨u,r,l⟩:=hl i x v e1 e2 e3
  refine ⟨u,r, ?_⟩
  rcases l with l | ⟨k,c,e,z⟩
  ·exact .inl l
  ·exact .inr ⟨k,c,e,cellK x c e _ z⟩
 ·obtain ⟨v,z⟩:=I.cell x c e
  exact ⟨v,cellK x c e v z⟩
 ·obtain ⟨m,⟨o,_,_,ho,_⟩,_⟩:=I.loc
  exact free _ o (fun z=>(hch _ z).2.1 rfl) ho I.free
 ·obtain ⟨v,o,ho,hd⟩:=I.cell x c e
  exact free c o (fun z=>(hch c z).2.2.1 x c e rfl) ho (I.freeC x c e)
 ·obtain ⟨e,n,ne,nf,d⟩:=I.pin p hp
  have nch:p.1 ∉ ch:=fun z=>(hch p.1 z).2.2.2 p hp rfl
  exact ⟨keep p.1 p.2 ne nf nch e n,free p.1 p.2 nch e n,ne,nf,d⟩
theorem Inv.un {t' :Nat} (I:Inv X pins σ H s) (u:Un X.fs [] H H' s.heap h') (hok:HOk X.prog X.w H' h'):Inv X pins σ H' { s with heap:=h',toks:=t' }:=by
 obtain ⟨m,⟨o,es,ep,ho,r⟩,_⟩:=id I.loc
 obtain ⟨sl,hL⟩:=u.any ho I.free (by simp)
 exact I.step (g' :=s.gens) (d' :=s.drawn) (ch:=[]) (fun _ z=>nomatch z) (fun b o _ hb _ e n=>u.keep b o e n hb (by simp)) (fun b o _ hb _ e n=>u.slot b o e n hb (by simp)) (fun b o _ e n=>u.free b o e n (by simp)) (fun b o _ e=>u.there b o e (by simp)) u.tups u.frzs u.tbls (fun m' hm=>by
  obtain ⟨o',es',ep',ho',r'⟩:=hm
  rw [ho] at ho'; cases ho'
  exact ⟨_,es',ep',hL,r'⟩) hok I.bare
theorem Inv.call {g' :Array GenState} {t' :Nat} {d' :Drawn} {ch:List Addr} (I:Inv X pins σ H s) (u:Un (frs X.stack) ch H H' s.heap h') (hok:HOk X.prog X.w H' h') (hg:AllBare g')
  (hch:∀ b∈ch,(b∈X.ex\/X.s₀.heap.objs.size<=b)/\b ≠ X.env.locals/\(∀ x c,X.env.cells.lookup x=some c->c ≠ b)/\∀ p∈X.pn++pins,p.1 ≠ b):
  Inv X pins σ H' { s with heap:=h',gens:=g',drawn:=d',toks:=t' }:=by
 obtain ⟨m,⟨o,es,ep,ho,r⟩,_⟩:=id I.loc
 obtain ⟨sl,hL⟩:=u.any ho I.free fun z=>(hch _ z).2.1 rfl
 exact I.step (ch:=ch) hch (fun b o hL hb hc e n=>u.keep b o e n (fun z=>(List.mem_cons.mp (I.stkSub b z)).elim hL hb) hc) (fun b o _ _ hc e n=>u.any e n hc) (fun b o hc e n=>u.free b o e n hc) (fun b o hc e=>u.there b o e hc) u.tups u.frzs u.tbls (fun m' hm=>by
  obtain ⟨o',es',ep',ho',r'⟩:=hm
  rw [ho] at ho'; cases ho'
  exact ⟨_,es',ep',hL,r'⟩) hok hg
theorem Inv.turned {t' :Nat} {it:Addr} (I:Inv X pins σ H s) (k:∀ b o,b ≠ it->s.heap.get? b=some o->h'.get? b=some o) (hn:H it=none) (hL:it ≠ X.env.locals)
  (h1:it∈X.ex\/X.s₀.heap.objs.size<=it) (h2:∀ x c,X.env.cells.lookup x=some c->c ≠ it) (h3:∀ p∈X.pn++pins,p.1 ≠ it):Inv X pins σ H { s with heap:=h',toks:=t' }:=by
 have nit:∀ b u,H b=some u->b ≠ it:=fun b u e z=>by rw [z,hn] at e; cases e
 refine I.step (g' :=s.gens) (d' :=s.drawn) (ch:=[it]) (fun b hb=> ?_) (fun b o _ _ hc e _=>k b o (fun z=>hc (by simp [z])) e) (fun b o _ _ hc e _=>⟨o.slots,k b o (fun z=>hc (by simp [z])) e⟩) (fun _ _ _ _ n=>n)
  (fun b o hc e=>⟨o,k b o (fun z=>hc (by simp [z])) e⟩) (fun _ _ e=>e) (fun _ _ _ e=>e) (fun b ps e=>⟨#[],by rw [e]; simp⟩) (fun m hm=> ?_) (fun b u e=> ?_) I.bare
 ·have e:b=it:=by simpa using hb
  subst e
  exact ⟨h1,hL,h2,h3⟩
 ·obtain ⟨o,es,ep,ho,r⟩:=hm
  exact ⟨o,es,ep,k _ o (Ne.symm hL) ho,r⟩
 ·refine (I.hok b u e).stay (fun c v hc q=>k c v ?_ q) (fun _ q=>q) fun _ _ q=>q
  rcases hc with z | z
  ·rw [z]; exact nit b u e
  ·exact nit c _ z
theorem Inv.tok (I:Inv X pins σ H s) (t:Nat):Inv X pins σ H { s with toks:=t }:=I.un (h' :=s.heap) (t' :=t) Un.refl I.hok
theorem Inv.kept {t' :Nat} (I:Inv X pins σ H s) (k:∀ b u,s.heap.get? b=some u->h'.get? b=some u):Inv X pins σ H { s with heap:=h',toks:=t' }:=I.un (Un.kept k) (I.hok.kept k)
theorem Inv.laid {a:Addr} {o:HO} {t' :Nat} (I:Inv X pins σ H s) (k:∀ b u,s.heap.get? b=some u->h'.get? b=some u) (hp:s.heap.objs.size<=a) (new:ZC X.prog X.w (upd H a o) h' a o):
  Inv X pins σ (upd H a o) { s with heap:=h',toks:=t' }:=I.un (Un.laid k hp (I.hok.fresh hp)) (I.hok.laid k hp new)
theorem Inv.write {x e:Addr} {o:HO} {t' :Nat} (I:Inv X pins σ H s) (mu:Mut (H x)) (he:e=x\/H e=some (.own x)) (k:∀ b u,b ≠ e->s.heap.get? b=some u->h'.get? b=some u) (heo:∃ u,h'.get? e=some u)
  (new:ZC X.prog X.w (upd H x o) h' x o):Inv X pins σ (upd H x o) { s with heap:=h',toks:=t' }:=I.un (Un.write mu he k heo) (I.hok.write mu he k heo new)
theorem Inv.pins_of {pins' :List (Addr×Obj)} (I:Inv X pins σ H s) (h:∀ p∈pins',s.heap.get? p.1=some p.2/\H p.1=none/\p.1 ≠ X.env.locals/\p.1 ∉ X.fs/\∀ v,p.2.data ≠ .cell v):Inv X pins' σ H s:=
 ⟨I.ok,I.os,I.bare,I.base,I.loc,I.cell,I.free,I.freeC,fun p hp=>(List.mem_append.mp hp).elim (fun z=>I.pin p (List.mem_append_left _ z)) (h p),I.hok,I.len⟩
theorem WQ {N:List Str} (hN:N.Nodup) {i j:Nat} {x:Str} (a:N[i]? =some x) (b:N[j]? =some x):i=j:=by
 obtain ⟨h1,e1⟩:=List.getElem?_eq_some_iff.mp a
 obtain ⟨h2,e2⟩:=List.getElem?_eq_some_iff.mp b
 exact (List.getElem_inj hN).mp (e1.trans e2.symm)
theorem wK {M:Model} {A:Around} {E:Value->Shared->Prop} {i:Nat} {x:Str} {v:V} {u:Value} {Q:Unit->Shared->Prop} (I:Inv X pins σ H s) (hN:X.N.Nodup) (hi:X.N[i]? =some x) (hx:Loc X.env.scope x) (r:RelV v u)
  (h:∀ s',Inv X pins (σ.set i (some v)) H s' ->(∃ a,Heap.SameBut a s.heap s'.heap/\(a=X.env.locals\/X.env.cells.lookup x=some a))->Q () s') (hf:X.fn x=true\/X.env.scope.names.lookup x=some .local:=by first | exact .inl rfl | exact .inr rfl | assumption):wpAny M A (storeName X.env x u) Q E s:=by
 obtain ⟨m,hn,hl⟩:=id I.loc
 have hcls:(X.env.scope.kind == .class || (X.env.scope.kind == .module && X.env.locals != X.env.globals))=false:=by rw [I.ok.kind]; rfl
 have hiσ:i < σ.length:=by rw [I.len]; exact (List.getElem?_eq_some_iff.mp hi).1
 have cne:=I.cne
 have tracked:∀ {a:Addr} {h' :Heap},(∃ o,s.heap.get? a=some o/\H a=none)->Heap.SameBut a s.heap h' ->HOk X.prog X.w H h' :=fun {a h'} ha hs b ob e=>by
  obtain ⟨_,_,hfree⟩:=ha
  refine (I.hok b ob e).stay (fun c w' hc q=>(hs.2 c ?_).trans q) (fun _ q=>q) fun _ _ q=>q
  rintro rfl
  rcases hc with rfl | hc
  ·rw [hfree] at e; cases e
  ·rw [hfree] at hc; cases hc
 rcases hx with hk | hk
 ·refine wpAny_storeName_local hk hn (fun h' hn' hs=> ?_) hcls
  obtain ⟨oL,_,_,hoL,_⟩:=id hn
  refine h _ ⟨I.ok,I.os,I.bare,⟨fun b o e n hb hx=> ?_,fun b o e n hb hx=> ?_,I.base.free,fun b o e hx=> ?_,I.base.tups,I.base.frzs,I.base.tbls⟩,⟨_,hn',fun j y v' e1 e2 e3=> ?_⟩,fun y c e=> ?_,I.free,I.freeC,fun p hp=> ?_,tracked ⟨oL,hoL,I.free⟩ hs,by simpa using I.len⟩ ⟨_,hs, .inl rfl⟩
  ·exact (hs.2 b (Nat.ne_of_lt (Nat.lt_of_lt_of_le (Heap.lt_size e) I.ok.above))).trans (I.base.keep b o e n hb hx)
  ·obtain ⟨sl,e1⟩:=I.base.slot b o e n hb hx
   exact ⟨sl,(hs.2 b (Nat.ne_of_lt (Nat.lt_of_lt_of_le (Heap.lt_size e) I.ok.above))).trans e1⟩
  ·obtain ⟨o',e1⟩:=I.base.there b o e hx
   exact ⟨o',(hs.2 b (Nat.ne_of_lt (Nat.lt_of_lt_of_le (Heap.lt_size e) I.ok.above))).trans e1⟩
  ·by_cases hj:j=i
   ·subst hj
    rw [hi] at e1; cases e1
    rw [List.getElem?_set_self hiσ] at e2
    cases e2
    exact ⟨u,r, .inl ⟨hk,by simp⟩⟩
   ·rw [List.getElem?_set_ne (Ne.symm hj)] at e2
    obtain ⟨u',r',q⟩:=hl j y v' e1 e2 e3
    refine ⟨u',r', ?_⟩
    rcases q with ⟨k,e⟩ | ⟨k,c,e,z⟩
    ·refine .inl ⟨k, ?_⟩
     have:y ≠ x:=fun e=>hj (WQ hN e1 (e ▸ hi))
     simp [this,e]
    ·exact .inr ⟨k,c,e,z.sameBut hs (cne y c e)⟩
  ·obtain ⟨w',z⟩:=I.cell y c e
   exact ⟨w',z.sameBut hs (cne y c e)⟩
  ·obtain ⟨e,n,ne,nf,d⟩:=I.pin p hp
   exact ⟨(hs.2 p.1 ne).trans e,n,ne,nf,d⟩
 ·have hfn:X.fn x=true:=by
   rcases hf with z | z
   ·exact z
   ·rw [z] at hk; cases hk
  obtain ⟨c,hc⟩:=I.ok.has x (.inl hk)
  obtain ⟨w',z⟩:=I.cell x c hc
  refine wpAny_storeName_cell I.ok.kind hk hc z (fun h' hc' hs=> ?_)
  obtain ⟨oc,hoc,hocd⟩:=id z
  refine h { s with heap:=h' } ⟨I.ok,I.os,I.bare,⟨fun b o e n hb hx=> ?_,fun b o e n hb hx=> ?_,I.base.free,fun b o e hx=> ?_,I.base.tups,I.base.frzs,I.base.tbls⟩,⟨m,hn.sameBut hs (Ne.symm (cne x c hc)),fun j y v' e1 e2 e3=> ?_⟩,fun y c' e=> ?_,I.free,I.freeC,fun p hp=> ?_,tracked ⟨oc,hoc,I.freeC x c hc⟩ hs,by simpa using I.len⟩ ⟨c,hs, .inr hc⟩
  ·exact (hs.2 b (Nat.ne_of_lt (Nat.lt_of_lt_of_le (Heap.lt_size e) (I.ok.cab x c hfn hc)))).trans (I.base.keep b o e n hb hx)
  ·obtain ⟨sl,e1⟩:=I.base.slot b o e n hb hx
   exact ⟨sl,(hs.2 b (Nat.ne_of_lt (Nat.lt_of_lt_of_le (Heap.lt_size e) (I.ok.cab x c hfn hc)))).trans e1⟩
  ·obtain ⟨o',e1⟩:=I.base.there b o e hx
   exact ⟨o',(hs.2 b (Nat.ne_of_lt (Nat.lt_of_lt_of_le (Heap.lt_size e) (I.ok.cab x c hfn hc)))).trans e1⟩
  ·by_cases hj:j=i
   ·subst hj
    rw [hi] at e1; cases e1
    rw [List.getElem?_set_self hiσ] at e2
    cases e2
    exact ⟨u,r, .inr ⟨.inl hk,c,hc,hc'⟩⟩
   ·rw [List.getElem?_set_ne (Ne.symm hj)] at e2
    obtain ⟨u',r',q⟩:=hl j y v' e1 e2 e3
    refine ⟨u',r', ?_⟩
    rcases q with q | ⟨k,c',e,z'⟩
    ·exact .inl q
    ·refine .inr ⟨k,c',e,z'.sameBut hs ?_⟩
     rintro rfl
     exact hj (WQ hN e1 (I.ok.inj _ _ _ e hc ▸ hi))
  ·by_cases hcc:c' =c
   ·subst hcc; exact ⟨_,hc'⟩
   ·obtain ⟨w2,z2⟩:=I.cell y c' e
    exact ⟨w2,z2.sameBut hs hcc⟩
  ·obtain ⟨e,n,ne,nf,d⟩:=I.pin p hp
   refine ⟨(hs.2 p.1 ?_).trans e,n,ne,nf,d⟩
   intro q
   rw [q,hoc] at e
   have q' :oc=p.2:=Option.some.inj e
   exact d w' (by rw [← q']; exact hocd)
theorem WR {M:Model} {A:Around} {E:Value->Shared->Prop} {i:Nat} {x:Str} {v:V} {u:Value} {Q:Unit->Shared->Prop} (I:Inv X pins σ H s) (hN:X.N.Nodup) (hi:X.N[i]? =some x) (hx:Loc X.env.scope x) (r:RelV v u)
  (h:∀ s',Inv X pins (σ.set i (some v)) H s' ->Q () s') (hf:X.fn x=true\/X.env.scope.names.lookup x=some .local:=by first | exact .inl rfl | exact .inr rfl | assumption):wpAny M A (storeName X.env x u) Q E s:=
 wK I hN hi hx r (fun s' I' _=>h s' I') hf
theorem Inv.call' {s' :Shared} {ch:List Addr} (I:Inv X pins σ H s) (ho:s'.os=s.os) (u:Un (frs X.stack) ch H H' s.heap s'.heap) (hok:HOk X.prog X.w H' s'.heap) (hg:AllBare s'.gens)
  (hch:∀ b∈ch,(b∈X.ex\/X.s₀.heap.objs.size<=b)/\b ≠ X.env.locals/\(∀ x c,X.env.cells.lookup x=some c->c ≠ b)/\∀ p∈X.pn++pins,p.1 ≠ b):Inv X pins σ H' s' :=by
 obtain ⟨h',g',d',t',o'⟩:=s'
 have e:o' =s.os:=ho
 subst e
 exact I.call (g' :=g') (t' :=t') (d' :=d') u hok hg hch
end
abbrev XK:=Value->Option Addr->Hp->Prop
abbrev St:=List (Option V)
abbrev VK:=V->Hp->Prop
abbrev TE:=St->Hp->VK->Prop
abbrev TT:=St->Hp->(Bool->Hp->Prop)->Prop
abbrev TA:=St->Hp->(List V->Hp->Prop)->Prop
structure qQ where
 nx:St->Hp->Prop
 rt:VK
 bk:St->Hp->Prop:=fun _ _=>False
 ct:St->Hp->Prop:=fun _ _=>False
abbrev TS:=qQ->St->Hp->Prop
def EP (X:Cx) (pins:List (Addr×Obj)) (σ:St) (Q:VK) (u:Value) (s' :Shared):Prop:=∃ v H',Inv X pins σ H' s' /\RelV v u/\Q v H'
def TP (X:Cx) (pins:List (Addr×Obj)) (σ:St) (Q:Bool->Hp->Prop) (b:Bool) (s' :Shared):Prop:=∃ H',Inv X pins σ H' s' /\Q b H'
def AP (X:Cx) (pins:List (Addr×Obj)) (σ:St) (Q:List V->Hp->Prop) (us:List Value) (s' :Shared):Prop:=∃ vs H',Inv X pins σ H' s' /\Vals vs us/\Q vs H'
def SP (X:Cx) (pins:List (Addr×Obj)) (D:qQ) (f:Flow) (s' :Shared):Prop:=
 match f with
 | .next=>∃ σ' H',Inv X pins σ' H' s' /\D.nx σ' H'
 | .brk=>∃ σ' H',Inv X pins σ' H' s' /\D.bk σ' H'
 | .cont=>∃ σ' H',Inv X pins σ' H' s' /\D.ct σ' H'
 | .ret u=>∃ v σ' H',Inv X pins σ' H' s' /\RelV v u/\D.rt v H'
def PE (X:Cx) (e:Expr) (t:TE):Prop:=
 ∀ (pins:List (Addr×Obj)) (s:Shared) (σ:St) (H:Hp) (Q:VK),Inv X pins σ H s->t σ H Q->wpAny (model X.prog X.w) X.A (eval e X.env) (EP X pins σ Q) X.xe s
def PT (X:Cx) (e:Expr) (t:TT):Prop:=
 ∀ (pins:List (Addr×Obj)) (s:Shared) (σ:St) (H:Hp) (Q:Bool->Hp->Prop),Inv X pins σ H s->t σ H Q->wpAny (model X.prog X.w) X.A (isTrue e X.env (eval e X.env)) (TP X pins σ Q) X.xe s
def PW (X:Cx) (e:Expr) (t:TT):Prop:=
 ∀ (whole:Sem Value) (pins:List (Addr×Obj)) (s:Shared) (σ:St) (H:Hp) (Q:Bool->Hp->Prop),Inv X pins σ H s->t σ H Q->wpAny (model X.prog X.w) X.A (isTrue e X.env whole) (TP X pins σ Q) X.xe s
theorem PW.pt {X:Cx} {e:Expr} {t:TT} (h:PW X e t):PT X e t:=h _
def PA (X:Cx) (es:List Expr) (t:TA):Prop:=
 ∀ (pos:Pos) (pins:List (Addr×Obj)) (s:Shared) (σ:St) (H:Hp) (Q:List V->Hp->Prop),Inv X pins σ H s->t σ H Q->wpAny (model X.prog X.w) X.A (spliced (backTo pos (starEach es X.env))) (AP X pins σ Q) X.xe s
def PS (X:Cx) (st:Stmt) (t:TS):Prop:=
 ∀ (pins:List (Addr×Obj)) (s:Shared) (σ:St) (H:Hp) (D:qQ),Inv X pins σ H s->t D σ H->wpAny (model X.prog X.w) X.A (exec st X.env) (SP X pins D) X.xe s
def PSs (X:Cx) (st:List Stmt) (t:TS):Prop:=
 ∀ (pins:List (Addr×Obj)) (s:Shared) (σ:St) (H:Hp) (D:qQ),Inv X pins σ H s->t D σ H->wpAny (model X.prog X.w) X.A (execs st X.env) (SP X pins D) X.xe s
theorem thn {α:Type} {t:Sem α} {Q Q' :α->Shared->Prop} {M:Model} {A:Around} {E:Value->Shared->Prop} {s:Shared} (h:wpAny M A t Q E s) (hQ:∀ a s,Q a s->Q' a s):wpAny M A t Q' E s:=wpAny_mono h hQ fun _ _ x=>x
end L2
namespace L2
open PySem PySem.Spec PyProof.Rows
section
variable {X:Cx}
theorem bin {a b:Expr} {ta tb:TE} (ha:PE X a ta) (hb:PE X b tb) {pins:List (Addr×Obj)} {s:Shared} {σ:St} {H:Hp} {R:V->V->Hp->Prop} (I:Inv X pins σ H s) (h:ta σ H fun x H1=>tb σ H1 fun y H2=>R x y H2)
  {α:Type} {Q:α->Shared->Prop} {f:Value->Value->Sem α}
  (hf:∀ v u s2 x y H2,Inv X pins σ H2 s2->RelV x v->RelV y u->R x y H2->wpAny (model X.prog X.w) X.A (f v u) Q X.xe s2):
  wpAny (model X.prog X.w) X.A (eval a X.env) (fun v s₁=>wpAny (model X.prog X.w) X.A (eval b X.env) (fun u s₂=>wpAny (model X.prog X.w) X.A (f v u) Q X.xe s₂) X.xe s₁) X.xe s:=by
 refine thn (ha pins s σ H _ I h) fun v s1 ⟨x,H1,I1,r1,q1⟩=> ?_
 refine thn (hb pins s1 σ H1 _ I1 q1) fun u s2 ⟨y,H2,I2,r2,q2⟩=> ?_
 exact hf v u s2 x y H2 I2 r1 r2 q2
def Qv (i:Nat):TE:=fun σ H Q=>∃ v,σ[i]? =some (some v)/\Q v H
def tC (v:V):TE:=fun _ H Q=>Q v H
theorem VC {i:Nat} {x:Str} {pos:Pos} (hN:X.N[i]? =some x) (hv:Vis X.env.scope x) (hd:(x == ("__debug__":Str))=false:=by decide) (hcd:(x == ("__classdict__":Str))=false:=by decide):PE X (.Name x pos) (Qv i):=by
 intro pins s σ H Q I h
 obtain ⟨v,e,h⟩:=h
 obtain ⟨m,hn,hl⟩:=I.loc
 obtain ⟨u,r,l⟩:=hl i x v hN e hv
 have fin:EP X pins σ Q u s:=⟨v,H,I,r,h⟩
 rcases l with ⟨hk,hm⟩ | ⟨hk,c,hc,hcell⟩
 ·exact wpAny_Name (wpAny_loadName_local I.ok.kind hk hn hm fin) hd
 ·rcases hk with hk | hk
  ·exact wpAny_Name (wpAny_loadName_cell I.ok.kind hk hc hcell fin) hd
  ·exact wpAny_Name (wpAny_loadName_free I.ok.kind hk hc hcell fin hcd) hd
theorem VD {i j pos}:PE X (.Constant (.int i) j pos) (tC (.int i)):=fun _ _ _ H _ I h=>wpAny_Constant_int ⟨.int i,H,I.tok _,⟨_,rfl⟩,h⟩
theorem k7 {b j pos}:PE X (.Constant (.bool b) j pos) (tC (.bl b)):=fun _ _ _ H _ I h=>Constant_bool ⟨.bl b,H,I,rfl,h⟩
theorem VE {j pos}:PE X (.Constant .none j pos) (tC .non):=fun _ _ _ H _ I h=>Constant_none ⟨.non,H,I,rfl,h⟩
theorem qR {x j pos}:PE X (.Constant (.str x) j pos) (tC (.str x)):=fun _ _ _ H _ I h=>Calls.Constant_str ⟨.str x,H,I.tok _,⟨_,rfl⟩,h⟩
def Gl (X:Cx) (x:Str):Prop:=X.env.kindOf x=some .globalImplicit
theorem Uk {E:Value->Shared->Prop} {pins:List (Addr×Obj)} {s:Shared} {σ:St} {H:Hp} {x:Str} {u:Value} {pos:Pos} {Q:Value->Shared->Prop} (I:Inv X pins σ H s) (hg:Gl X x) (hm:X.mg x=some u) (h:Q u s)
  (hd:(x == ("__debug__":Str))=false:=by decide):wpAny (model X.prog X.w) X.A (eval (.Name x pos) X.env) Q E s:=
 Calls.Name_function_global I.ok.kind hg (Calls.loadGlobal_global (by rw [I.ok.glob]; exact I.mod.glob.keeps I.bk) hm h) hd
theorem j7 {E:Value->Shared->Prop} {pins:List (Addr×Obj)} {s:Shared} {σ:St} {H:Hp} {x:Str} {u:Value} {pos:Pos} {Q:Value->Shared->Prop} (I:Inv X pins σ H s) (hg:Gl X x) (hm:X.mg x=none) (hv:bootBuiltins x=some u) (h:Q u s)
  (hn:x ≠ "__name__":=by decide) (hd:(x == ("__debug__":Str))=false:=by decide):wpAny (model X.prog X.w) X.A (eval (.Name x pos) X.env) Q E s:=by
 obtain ⟨mb,h1,h2⟩:=I.mod.blt
 exact Calls.Name_function_global I.ok.kind hg (Calls.loadGlobal_builtin (by rw [I.ok.glob]; exact I.mod.glob.keeps I.bk) hm (by rw [I.ok.blt]; exact h1.keeps I.bk) ((h2 x hn).trans hv) h) hd
theorem Qw {x:Str} {v:V} {u:Value} {pos:Pos} (hg:Gl X x) (hm:X.mg x=some u) (r:RelV v u) (hd:(x == ("__debug__":Str))=false:=by decide):PE X (.Name x pos) (tC v):=
 fun _ _ _ H _ I h=>Uk I hg hm ⟨v,H,I,r,h⟩ hd
theorem Qx {x:Str} {v:V} {u:Value} {pos:Pos} (hg:Gl X x) (hm:X.mg x=none) (hv:bootBuiltins x=some u) (r:RelV v u) (hn:x ≠ "__name__":=by decide) (hd:(x == ("__debug__":Str))=false:=by decide):PE X (.Name x pos) (tC v):=
 fun _ _ _ H _ I h=>j7 I hg hm hv ⟨v,H,I,r,h⟩ hn hd
variable {a b:Expr} {ta tb:TE} {pos:Pos}
variable {tA tB' :TT} {rest:List Expr}
def gh (t u:TT):TT:=fun σ H Q=>t σ H fun c H1=>if c=true then u σ H1 Q else Q false H1
def tOr (t u:TT):TT:=fun σ H Q=>t σ H fun c H1=>if c=true then Q true H1 else u σ H1 Q
def gj (t:TT):TT:=fun σ H Q=>t σ H fun c H1=>Q (!c) H1
theorem Qy (ha:PT X a tA):PW X (.BoolOp .And [a] pos) tA:=by
 intro wh pins s σ H Q I h
 refine isTrue_and (thn (ha pins s σ H Q I h) fun c s1 e=> ?_)
 cases c with
 | true=>exact isTrue_and_nil e
 | false=>exact e
theorem VF (ha:PT X a tA):PW X (.BoolOp .Or [a] pos) tA:=by
 intro wh pins s σ H Q I h
 refine isTrue_or (thn (ha pins s σ H Q I h) fun c s1 e=> ?_)
 cases c with
 | false=>exact isTrue_or_nil e
 | true=>exact e
theorem VG (ha:PT X a tA) (hb:PW X (.BoolOp .And (b :: rest) pos) tB'):PW X (.BoolOp .And (a :: b :: rest) pos) (gh tA tB'):=by
 intro wh pins s σ H Q I h
 refine isTrue_and (thn (ha pins s σ H _ I h) fun c s1 ⟨H1,I1,q1⟩=> ?_)
 cases c with
 | true=>exact hb wh pins s1 σ H1 Q I1 q1
 | false=>exact ⟨H1,I1,q1⟩
theorem k8 (ha:PT X a tA) (hb:PW X (.BoolOp .Or (b :: rest) pos) tB'):PW X (.BoolOp .Or (a :: b :: rest) pos) (tOr tA tB'):=by
 intro wh pins s σ H Q I h
 refine isTrue_or (thn (ha pins s σ H _ I h) fun c s1 ⟨H1,I1,q1⟩=> ?_)
 cases c with
 | true=>exact ⟨H1,I1,q1⟩
 | false=>exact hb wh pins s1 σ H1 Q I1 q1
theorem VH (ha:PT X a tA):PT X (.UnaryOp .Not a pos) (gj tA):=by
 intro pins s σ H Q I h
 exact isTrue_not (ha pins s σ H (fun c H1=>Q (!c) H1) I h)
def k9 (ta tb:TE):TE:=fun σ H Q=>ta σ H fun x H1=>∃ c,x= .bl c/\if c=true then tb σ H1 Q else Q (.bl false) H1
def gm (ta tb:TE):TE:=fun σ H Q=>ta σ H fun x H1=>∃ c,x= .bl c/\if c=true then Q (.bl true) H1 else tb σ H1 Q
def ka (ta:TE):TE:=fun σ H Q=>ta σ H fun x H1=>∃ c,x= .bl c/\Q (.bl (!c)) H1
theorem VI {op} {t:TE} (h:PE X a t):PE X (.BoolOp op [a] pos) t:=fun pins s σ H Q I hw=>BoolOp_one (h pins s σ H Q I hw)
theorem VJ (ha:PE X a ta) (hb:PE X (.BoolOp .And (b :: rest) pos) tb):PE X (.BoolOp .And (a :: b :: rest) pos) (k9 ta tb):=by
 intro pins s σ H Q I h
 refine BoolOp_and (thn (ha pins s σ H _ I h) fun v s1 ⟨x,H1,I1,r1,q1⟩=> ?_)
 obtain ⟨c,rfl,q1⟩:=q1
 cases r1
 refine wpAny_truthy_bool ?_
 cases c with
 | true=>exact hb pins s1 σ H1 Q I1 q1
 | false=>exact ⟨.bl false,H1,I1,rfl,q1⟩
theorem kb (ha:PE X a ta) (hb:PE X (.BoolOp .Or (b :: rest) pos) tb):PE X (.BoolOp .Or (a :: b :: rest) pos) (gm ta tb):=by
 intro pins s σ H Q I h
 refine BoolOp_or (thn (ha pins s σ H _ I h) fun v s1 ⟨x,H1,I1,r1,q1⟩=> ?_)
 obtain ⟨c,rfl,q1⟩:=q1
 cases r1
 refine wpAny_truthy_bool ?_
 cases c with
 | false=>exact hb pins s1 σ H1 Q I1 q1
 | true=>exact ⟨.bl true,H1,I1,rfl,q1⟩
theorem VL (ha:PE X a ta):PE X (.UnaryOp .Not a pos) (ka ta):=by
 intro pins s σ H Q I h
 refine UnaryOp_ (thn (ha pins s σ H _ I h) fun v s1 ⟨x,H1,I1,r1,q1⟩=> ?_)
 obtain ⟨c,rfl,q1⟩:=q1
 cases r1
 exact not_of (wpAny_truthy_bool ⟨.bl (!c),H1,I1,rfl,q1⟩)
def tIf (t:TT) (ta tb:TE):TE:=fun σ H Q=>t σ H fun c H1=>if c=true then ta σ H1 Q else tb σ H1 Q
theorem YC {c:Expr} (hc:PT X c tA) (ha:PE X a ta) (hb:PE X b tb):PE X (.IfExp c a b pos) (tIf tA ta tb):=by
 intro pins s σ H Q I h
 refine wpAny_IfExp (thn (hc pins s σ H _ I h) fun d s1 ⟨H1,I1,q1⟩=> ?_)
 cases d with
 | true=>exact ha pins s1 σ H1 Q I1 q1
 | false=>exact hb pins s1 σ H1 Q I1 q1
end
end L2
namespace L2
open PySem PySem.Spec PyProof.Rows
def SqL (K:PySem.W.Frag) (H:Hp) (a:Addr) (xs:List V):Prop:=
 Rd H a (.lst xs)\/
  ∃ (o:Obj) (its:Array Value) (n:Nat),K.lookup a=some o/\o.cls= .type "list"/\o.dict=none/\o.data= .seq its n/\its.size<=sizeLine/\Vals xs its.toList
def SqT (K:PySem.W.Frag) (H:Hp) (a:Addr) (xs:List V):Prop:=
 Rd H a (.tup xs)\/
  ∃ (o:Obj) (its:Array Value) (n:Nat),K.lookup a=some o/\o.cls= .type "tuple"/\o.data= .seq its n/\its.size<=sizeLine/\Vals xs its.toList
def gp:Value->Option V
 | .none=>some .non
 | .bool b=>some (.bl b)
 | .int i _=>some (.int i)
 | .str x _=>some (.str x)
 | .bytes b _=>some (.byt b)
 | .float b _=>some (.flt b)
 | .ref a=>some (.ref a)
 | .type n=>some (.ty n)
 | _=>none
theorem RelV.abs {x:V} {u:Value} (r:RelV x u):gp u=some x:=by
 cases x with
 | non=>cases r; rfl
 | bl _=>cases r; rfl
 | int _=>obtain ⟨t,rfl⟩:=r; rfl
 | str _=>obtain ⟨t,rfl⟩:=r; rfl
 | byt _=>obtain ⟨t,rfl⟩:=r; rfl
 | flt _=>obtain ⟨t,rfl⟩:=r; rfl
 | ref _=>cases r; rfl
 | ty _=>cases r; rfl
theorem RelV.inj {x y:V} {u:Value} (r:RelV x u) (q:RelV y u):x=y:=Option.some.inj (r.abs.symm.trans q.abs)
theorem Vals.inj:∀ {xs ys:List V} {us:List Value},Vals xs us->Vals ys us->xs=ys
 | _,_,_, .nil, .nil=>rfl
 | _,_,_, .cons r t, .cons r' t' =>by rw [r.inj r',Vals.inj t t']
section
variable {X:Cx} {pins:List (Addr×Obj)} {σ:St} {H:Hp} {s:Shared} {a:Addr} {xs ys:List V}
theorem SqL.of {K:PySem.W.Frag} (h:H a=some (.lst xs)):SqL K H a xs:= .inl (.inl h)
theorem SqT.of {K:PySem.W.Frag} (h:H a=some (.tup xs)):SqT K H a xs:= .inl (.inl h)
theorem Inv.list (I:Inv X pins σ H s) (h:SqL X.K H a xs):∃ its:List Value,Vals xs its/\PlainL s.heap a its.toArray/\xs.length<=sizeLine:=by
 rcases h with h | ⟨o,its,n,hk,hc,hd,hs,hz,r⟩
 ·obtain ⟨z,its,n,r,e⟩:=h.ok I.hok
  exact ⟨its,r,⟨_,n,e,rfl,rfl,rfl⟩,z⟩
 ·refine ⟨its.toList,r,⟨o,n,I.kIn a o hk,hc,hd,by simpa using hs⟩, ?_⟩
  have e:=r.length
  simp only [Array.length_toList] at e
  omega
theorem Inv.tuple (I:Inv X pins σ H s) (h:SqT X.K H a xs):∃ its:List Value,Vals xs its/\IsTup s.heap a its.toArray/\xs.length<=sizeLine:=by
 rcases h with h | ⟨o,its,n,hk,hc,hs,hz,r⟩
 ·obtain ⟨z,its,r,p,_⟩:=h.ok I.hok
  exact ⟨its,r,p,z⟩
 ·refine ⟨its.toList,r,⟨o,I.kIn a o hk,hc,n,by simpa using hs⟩, ?_⟩
  have e:=r.length
  simp only [Array.length_toList] at e
  omega
theorem Inv.list_inj (I:Inv X pins σ H s) (h:SqL X.K H a xs) (h' :SqL X.K H a ys):xs=ys:=by
 obtain ⟨its,r,⟨o,n,e,_,_,d⟩,_⟩:=I.list h
 obtain ⟨its',r',⟨o',n',e',_,_,d'⟩,_⟩:=I.list h'
 rw [e] at e'; cases e'
 rw [d] at d'
 injection d' with d1 _
 have:its=its' :=by simpa using congrArg Array.toList d1
 subst this
 exact r.inj r'
theorem Inv.tuple_inj (I:Inv X pins σ H s) (h:SqT X.K H a xs) (h' :SqT X.K H a ys):xs=ys:=by
 obtain ⟨its,r,⟨o,e,_,n,d⟩,_⟩:=I.tuple h
 obtain ⟨its',r',⟨o',e',_,n',d'⟩,_⟩:=I.tuple h'
 rw [e] at e'; cases e'
 rw [d] at d'
 injection d' with d1 _
 have:its=its' :=by simpa using congrArg Array.toList d1
 subst this
 exact r.inj r'
end
abbrev Cx.wish (X:Cx) (E:Value->Shared->Prop):Cx:={ X with xe:=E }
abbrev Cx.nox (X:Cx):Cx:=X.wish fun _ _=>False
theorem Cx.Ok.wish {X:Cx} (ok:X.Ok) (E:Value->Shared->Prop):(X.wish E).Ok:=
 ⟨ok.mod,ok.kind,ok.glob,ok.blt,ok.above,ok.inj,ok.has,ok.cab,ok.hd,ok.frames,ok.stk,ok.exf,ok.bs,ok.bsz,ok.noex,ok.exfs,ok.funs,ok.frf⟩
theorem Cx.Ok.unwish {X:Cx} {E:Value->Shared->Prop} (ok:(X.wish E).Ok):X.Ok:=
 ⟨ok.mod,ok.kind,ok.glob,ok.blt,ok.above,ok.inj,ok.has,ok.cab,ok.hd,ok.frames,ok.stk,ok.exf,ok.bs,ok.bsz,ok.noex,ok.exfs,ok.funs,ok.frf⟩
section
variable {X:Cx} {pins:List (Addr×Obj)} {σ:St} {H:Hp} {s:Shared} {E:Value->Shared->Prop}
theorem Inv.wish (I:Inv X pins σ H s) (E:Value->Shared->Prop):Inv (X.wish E) pins σ H s:=⟨I.ok.wish E,I.os,I.bare,I.base,I.loc,I.cell,I.free,I.freeC,I.pin,I.hok,I.len⟩
theorem Inv.unwish (I:Inv (X.wish E) pins σ H s):Inv X pins σ H s:=⟨I.ok.unwish,I.os,I.bare,I.base,I.loc,I.cell,I.free,I.freeC,I.pin,I.hok,I.len⟩
theorem SP.unwish {D:qQ} {f:Flow} {s' :Shared} (h:SP (X.wish E) pins D f s'):SP X pins D f s' :=by
 cases f with
 | next=>obtain ⟨σ',H',I,q⟩:=h; exact ⟨σ',H',I.unwish,q⟩
 | brk=>obtain ⟨σ',H',I,q⟩:=h; exact ⟨σ',H',I.unwish,q⟩
 | cont=>obtain ⟨σ',H',I,q⟩:=h; exact ⟨σ',H',I.unwish,q⟩
 | ret u=>obtain ⟨v,σ',H',I,r,q⟩:=h; exact ⟨v,σ',H',I.unwish,r,q⟩
theorem PSs.nox {st:List Stmt} {t:TS} (h:PSs X.nox st t):PSs X st t:=fun pins s σ H D I hw=>
 wpAny_mono (h pins s σ H D (I.wish _) hw) (fun _ _ q=>q.unwish) fun _ _ z=>False.elim z
end
section
variable {X:Cx} {st:Stmt} {rest:List Stmt} {t u:TS} {e:Expr} {te:TE} {pos:Pos}
def kd:TS:=fun D σ H=>D.nx σ H
def gq (t u:TS):TS:=fun D σ H=>t { D with nx:=u D } σ H
theorem Qz:PSs X [] kd:=fun _ _ σ H _ I h=>wpAny_execs_nil ⟨σ,H,I,h⟩
theorem YD (h1:PS X st t) (h2:PSs X rest u):PSs X (st :: rest) (gq t u):=by
 intro pins s σ H D I h
 refine wpAny_execs_cons (thn (h1 pins s σ H { D with nx:=u D } I h) fun f s1 q=> ?_)
 cases f with
 | next=>
  obtain ⟨σ',H',I',q⟩:=q
  exact h2 pins s1 σ' H' D I' q
 | ret v=>exact q
 | brk=>exact q
 | cont=>exact q
theorem QA (h1:PS X st t):PSs X [st] t:=by
 intro pins s σ H D I h
 refine wpAny_execs_cons (thn (h1 pins s σ H D I h) fun f s1 q=> ?_)
 cases f with
 | next=>exact wpAny_execs_nil q
 | ret v=>exact q
 | brk=>exact q
 | cont=>exact q
theorem Inv.quiet {pins:List (Addr×Obj)} {σ:St} {H:Hp} {s:Shared} (I:Inv X pins σ H s):interactive X.env=false:=by simp [interactive,I.ok.kind]
def ke (te:TE):TS:=fun D σ H=>te σ H fun _ H1=>D.nx σ H1
theorem Wy (he:PE X e te) (hs:swapsWith e none pos.line X.env=pure false:=by rfl):PS X (.Expr e pos) (ke te):=by
 intro pins s σ H D I h
 exact wpAny_Expr_any (thn (he pins s σ H _ I h) fun v s1 ⟨x,H1,I1,r1,q1⟩=>⟨σ,H1,I1,q1⟩) I.quiet hs
def gr (te:TE):TS:=fun D σ H=>te σ H D.rt
theorem VM (he:PE X e te):PS X (.Return (some e) pos) (gr te):=by
 intro pins s σ H D I h
 exact wpAny_Return_some (thn (he pins s σ H _ I h) fun v s1 ⟨x,H1,I1,r1,q1⟩=>⟨x,σ,H1,I1,r1,q1⟩)
def gs (c:TT) (t u:TS):TS:=fun D σ H=>c σ H fun b H1=>if b=true then t D σ H1 else u D σ H1
theorem kf {c:Expr} {a b:List Stmt} {tc:TT} (hc:PT X c tc) (ha:PSs X a t) (hb:PSs X b u):PS X (.If c a b pos) (gs tc t u):=by
 intro pins s σ H D I h
 refine wpAny_If (thn (hc pins s σ H _ I h) fun d s1 ⟨H1,I1,q1⟩=> ?_)
 cases d with
 | true=>exact ha pins s1 σ H1 D I1 q1
 | false=>exact hb pins s1 σ H1 D I1 q1
end
abbrev TG:=V->St->Hp->(St->Hp->Prop)->Prop
abbrev TGs:=List V->St->Hp->(St->Hp->Prop)->Prop
def PG (X:Cx) (target:Expr) (t:TG):Prop:=
 ∀ (pins:List (Addr×Obj)) (s:Shared) (σ:St) (H:Hp) (v:V) (u:Value) (Q:St->Hp->Prop),Inv X pins σ H s->RelV v u->t v σ H Q->
  wpAny (model X.prog X.w) X.A (assign target X.env u) (fun _ s' =>∃ σ' H',Inv X pins σ' H' s' /\Q σ' H') X.xe s
def PGs (X:Cx) (ts:List Expr) (t:TGs):Prop:=
 ∀ (pins:List (Addr×Obj)) (s:Shared) (σ:St) (H:Hp) (vs:List V) (us:List Value) (Q:St->Hp->Prop),Inv X pins σ H s->Vals vs us->t vs σ H Q->
  wpAny (model X.prog X.w) X.A (assignInOrder ((assignEach ts X.env).map (·.2)) us) (fun _ s' =>∃ σ' H',Inv X pins σ' H' s' /\Q σ' H') X.xe s
section
variable {X:Cx} {pos:Pos}
def wL (i:Nat):TG:=fun v σ H Q=>Q (σ.set i (some v)) H
theorem zA {i:Nat} {x:Str} (hN:X.N.Nodup) (hi:X.N[i]? =some x) (hx:Loc X.env.scope x) (hf:X.fn x=true\/X.env.scope.names.lookup x=some .local:=by first | exact .inl rfl | exact .inr rfl | assumption):PG X (.Name x pos) (wL i):=by
 intro pins s σ H v u Q I r h
 exact wpAny_assign_Name (WR I hN hi hx r (fun s' I' =>⟨_,H,I',h⟩) hf)
def kg:TGs:=fun vs σ H Q=>vs=[]/\Q σ H
def Ul (t:TG) (u:TGs):TGs:=fun vs σ H Q=>∃ v r,vs=v :: r/\t v σ H fun σ' H' =>u r σ' H' Q
theorem jN:PGs X [] kg:=by
 intro pins s σ H vs us Q I r h
 obtain ⟨e,h⟩:=h
 subst e
 cases r
 exact assignInOrder_nil ⟨σ,H,I,h⟩
theorem Zm {e:Expr} {es:List Expr} {t:TG} {u:TGs} (h1:PG X e t) (h2:PGs X es u)
  (hs:(assignEach (e :: es) X.env).map (·.2)=assign e X.env :: (assignEach es X.env).map (·.2):=by rfl):PGs X (e :: es) (Ul t u):=by
 intro pins s σ H vs us Q I r h
 obtain ⟨v,vr,e1,h⟩:=h
 subst e1
 cases r with
 | cons r rr=>
  rw [hs]
  refine assignInOrder_cons (thn (h1 pins s σ H _ _ _ I r h) fun _ s1 ⟨σ1,H1,I1,q1⟩=> ?_)
  exact h2 pins s1 σ1 H1 _ _ Q I1 rr q1
def kh (K:PySem.W.Frag) (n:Nat) (t:TGs):TG:=fun v σ H Q=>∃ a xs,v= .ref a/\SqT K H a xs/\xs.length=n/\t xs σ H Q
theorem JM {es:List Expr} {k:Nat} {t:TGs} {n:Nat} (hc:X.calm=true) (h:PGs X es t)
  (hn:(assignEach es X.env).length=n:=by rfl) (hst:(assignEach es X.env).findIdx? (·.1)=none:=by rfl):PG X (.Tuple es k pos) (kh X.K n t):=by
 intro pins s σ H v u Q I r hw
 obtain ⟨a,xs,e1,hq,hl,hw⟩:=hw
 subst e1
 cases r
 obtain ⟨its,rv,ht,hz⟩:=I.tuple hq
 refine assign_Tuple_tuple (I.ok.hd hc) ht (by simp [hn,← hl,rv.length]) hst fun h' hx=> ?_
 have I1:Inv X pins σ H { s with heap:=h' }:=I.kept (t' :=s.toks) fun b o e=>hx b o (Nat.ne_of_lt (Heap.lt_size e)) e
 exact h pins _ σ H xs _ Q I1 (by simpa using rv) hw
def gu (te:TE) (g:TG):TS:=fun D σ H=>te σ H fun x H1=>g x σ H1 D.nx
theorem Um {i:Nat} {x:Str} {e:Expr} {te:TE} {pos' :Pos} (hN:X.N.Nodup) (hi:X.N[i]? =some x) (hx:Loc X.env.scope x) (he:PE X e te) (hs:swapsWith e (some (.Name x pos')) pos.line X.env=pure false:=by rfl) (hf:X.fn x=true\/X.env.scope.names.lookup x=some .local:=by first | exact .inl rfl | exact .inr rfl | assumption):
  PS X (.Assign [.Name x pos'] e pos) (gu te (wL i)):=by
 intro pins s σ H D I h
 refine wpAny_Assign_Name (thn (he pins s σ H _ I h) fun v s1 ⟨y,H1,I1,r1,q1⟩=> ?_) hs
 exact WR I1 hN hi hx r1 (fun s2 I2=>⟨_,H1,I2,q1⟩) hf
end
section
variable {X:Cx} {pos:Pos}
def VN (c:TT) (tb:TS):TS:=fun D σ H=>∃ W:Nat->St->Hp->Prop,(∃ m,W m σ H)/\∀ m σ H,W m σ H->
 c σ H fun b H1=>if b=true then ∃ N:St->Hp->Prop,(∀ σ' H',N σ' H' ->∃ m',m' < m/\W m' σ' H')/\tb { D with nx:=N,ct:=N,bk:=D.nx } σ H1 else D.nx σ H1
theorem YE {c:Expr} {body:List Stmt} {tc:TT} {tb:TS} (hp:PassesOwn (model X.prog X.w) X.A X.env X.xe) (hc:PT X c tc) (hb:PSs X body tb):PS X (.While c body [] pos) (VN tc tb):=by
 intro pins s σ H D I h
 obtain ⟨W,⟨m0,w0⟩,turn⟩:=h
 refine wpAny_While (codeAny_whileLoop (fun n s' =>∃ σ' H',Inv X pins σ' H' s' /\W n σ' H') ?_ m0 ⟨σ,H,I,w0⟩)
 rintro n s1 ⟨σ1,H1,I1,w1⟩
 refine wpAny_passesOwn hp (thn (hc pins s1 σ1 H1 _ I1 (turn n σ1 H1 w1)) fun b s2 ⟨H2,I2,q2⟩=> ?_)
 cases b with
 | true=>
  obtain ⟨N,hN,q2⟩:=q2
  rw [if_pos rfl]
  refine wpAny_passesOwn hp (thn (hb pins s2 σ1 H2 _ I2 q2) fun f s3 q3=> ?_)
  cases f with
  | next=>
   obtain ⟨σ3,H3,I3,n3⟩:=q3
   obtain ⟨m',hm,w3⟩:=hN σ3 H3 n3
   exact ⟨m',hm,σ3,H3,I3,w3⟩
  | cont=>
   obtain ⟨σ3,H3,I3,n3⟩:=q3
   obtain ⟨m',hm,w3⟩:=hN σ3 H3 n3
   exact ⟨m',hm,σ3,H3,I3,w3⟩
  | brk=>exact q3
  | ret v=>exact q3
 | false=>
  rw [if_neg Bool.false_ne_true]
  exact wpAny_execs_nil ⟨σ1,H2,I2,q2⟩
end
structure It where
 go:Nat->Hp->Prop
 yld:Nat->Hp->V->Hp->Prop
 stop:Nat->Hp->Prop
def wM (X:Cx) (pins:List (Addr×Obj)) (H:Hp) (b:Addr):Prop:=
 H b=none/\b ≠ X.env.locals/\b ∉ X.fs/\(b∈X.ex\/X.s₀.heap.objs.size<=b)/\(∀ x c,X.env.cells.lookup x=some c->c ≠ b)/\∀ p∈X.pn++pins,p.1 ≠ b
theorem Inv.fpOk {X:Cx} {pins:List (Addr×Obj)} {σ:St} {H H' :Hp} {s:Shared} {b:Addr} (I:Inv X pins σ H s) (hb:s.heap.objs.size<=b) (hn:H' b=none):wM X pins H' b:=by
 refine ⟨hn,Nat.ne_of_gt (Nat.lt_of_lt_of_le I.lt hb),I.nofs hb, .inr (Nat.le_trans I.sz hb),fun x c e z=> ?_,fun p hp z=> ?_⟩
 ·obtain ⟨v,q⟩:=I.cell x c e
  exact absurd (Nat.lt_of_lt_of_le q.lt (by rw [z]; exact hb)) (Nat.lt_irrefl _)
 ·exact absurd (Nat.lt_of_lt_of_le (Heap.lt_size (I.pin p hp).1) (by rw [z]; exact hb)) (Nat.lt_irrefl _)
structure Uc (P:Program) (w:World) (K:PySem.W.Frag) (tg:Expr) (J:It) (fp:List Addr) (it:Addr) (tn:Nat->Heap->Prop):Prop where
 mem:it∈fp
 obj:∀ i h,tn i h->∀ b∈fp,∃ o,h.get? b=some o/\∀ v,o.data ≠ .cell v
 keep:∀ i h h',tn i h->(∀ b∈fp,∀ o,h.get? b=some o->h'.get? b=some o)->tn i h'
 item:∀ (X:Cx),X.prog=P->X.w=w->X.K=K->X.calm=true->∀ (i:Nat) (pins:List (Addr×Obj)) (s:Shared) (σ:St) (H:Hp) (E:Value->Shared->Prop),Inv X pins σ H s->(∀ b∈fp,wM X pins H b)->tn i s.heap->J.go i H->
  wpAny (model P w) X.A (pyNext (.ref it)) (fun r s1=>∃ u,r=some u/\
   wpAny (model P w) X.A (letOwnedTupleGo tg (.ref it) u) (fun _ s2=>∃ x H',Inv X pins σ H' s2/\RelV x u/\J.yld i H x H' /\tn (i+1) s2.heap/\∀ b∈fp,H' b=none) E s1) E s
 done:∀ (X:Cx),X.prog=P->X.w=w->X.K=K->X.calm=true->∀ (i:Nat) (pins:List (Addr×Obj)) (s:Shared) (σ:St) (H:Hp) (E:Value->Shared->Prop),Inv X pins σ H s->(∀ b∈fp,wM X pins H b)->tn i s.heap->J.stop i H->
  wpAny (model P w) X.A (pyNext (.ref it)) (fun r s1=>r=none/\Inv X pins σ H s1) E s
 self:∀ (A:Around) (i:Nat) (s:Shared) (Q:Value->Shared->Prop) (E:Value->Shared->Prop),tn i s.heap->Q (.ref it) s->wpAny (model P w) A (pyIter (.ref it)) Q E s
abbrev TI:=St->Hp->(It->Hp->Prop)->Prop
def PIE (X:Cx) (pins:List (Addr×Obj)) (σ:St) (tg:Expr) (R:It->Hp->Prop) (itv:Value) (s2:Shared):Prop:=
 ∃ (it:Addr) (fp:List Addr) (tn:Nat->Heap->Prop) (J:It) (H' :Hp),itv= .ref it/\Inv X pins σ H' s2/\Uc X.prog X.w X.K tg J fp it tn/\tn 0 s2.heap/\(∀ b∈fp,wM X pins H' b)/\R J H'
def PI (X:Cx) (tg iter:Expr) (wi:TI):Prop:=
 ∀ (pins:List (Addr×Obj)) (s:Shared) (σ:St) (H:Hp) (R:It->Hp->Prop),Inv X pins σ H s->wi σ H R->
  wpAny (model X.prog X.w) X.A (eval iter X.env) (fun v s1=>wpAny (model X.prog X.w) X.A (pyIter v) (PIE X pins σ tg R) X.xe s1) X.xe s
theorem uF {M:Model} {A:Around} {E:Value->Shared->Prop} {s:Shared} {tg:Expr} {it:Addr} {u:Value} {o:Obj} {n:String} {vs:Array Value} {Q:Unit->Shared->Prop} (ho:s.heap.get? it=some o) (hc:o.cls= .type n) (hd:o.data= .fields vs)
  (hn:["enumerate","zip","dict_itemiterator","dict_reverseitemiterator","odict_iterator","itertools.zip_longest","itertools.pairwise"].contains n=false) (hQ:Q () s):wpAny M A (letOwnedTupleGo tg (.ref it) u) Q E s:=by
 unfold letOwnedTupleGo
 cases tg <;> first
  | exact wpAny_pure hQ
  | (cases u <;> first
    | exact wpAny_pure hQ
    | (refine wpAny_bind (wpAny_load ho ?_); rw [hc,hd]; show wpAny M A (if (["enumerate","zip","dict_itemiterator","dict_reverseitemiterator","odict_iterator","itertools.zip_longest","itertools.pairwise"].contains n && vs[0]? == some (rawInt _))=true then _ else _) Q E s; rw [if_neg (by intro h; rw [hn,Bool.false_and] at h; cases h)]; exact wpAny_pure hQ))
def Itl (K:PySem.W.Frag) (a:Addr):It:=
 ⟨fun i H=>∃ xs x,SqL K H a xs/\xs[i]? =some x,fun i H x H' =>H' =H/\∀ xs,SqL K H a xs->xs[i]? =some x,fun i H=>∃ xs,SqL K H a xs/\xs.length<=i⟩
def Itt (K:PySem.W.Frag) (a:Addr):It:=
 ⟨fun i H=>∃ xs x,SqT K H a xs/\xs[i]? =some x,fun i H x H' =>H' =H/\∀ xs,SqT K H a xs->xs[i]? =some x,fun i H=>∃ xs,SqT K H a xs/\xs.length<=i⟩
def Itr (lo:Int) (n:Nat):It:=⟨fun i _=>i < n,fun i H x H' =>H' =H/\x= .int (lo+i),fun i _=>n<=i⟩
theorem Uo {P:Program} {w:World} {K:PySem.W.Frag} {tg:Expr} (a it:Addr):Uc P w K tg (Itl K a) [it] it (fun i h=>h.IsListIter it a i) where
 mem:=by simp
 obj:=fun i h st b hb=>by
  have e:b=it:=by simpa using hb
  subst e
  obtain ⟨o,e,c,d⟩:=st
  exact ⟨o,e,fun v z=>by rw [d] at z; cases z⟩
 keep:=fun i h h' st k=>st.at fun o e=>k it (by simp) o e
 item:=by
  intro X hP hw hK hc i pins s σ H E I hf st hg
  subst hP hw hK
  obtain ⟨xs,x,hq,hx⟩:=hg
  obtain ⟨its,rv,p,hz⟩:=I.list hq
  obtain ⟨u,hu,ru⟩:=rv.get hx
  obtain ⟨f0,f1,f2,f3,f4,f5⟩:=hf it (by simp)
  refine wpAny_pyNext_list_item st p.isList (x:=u) (by simpa using hu) fun h' st' sb=> ?_
  have I1:Inv X pins σ H { s with heap:=h' }:=I.turned (t' :=s.toks) (fun b o hb e=>(sb.2 b hb).trans e) f0 f1 f3 f4 f5
  obtain ⟨o,e,c,d⟩:=id st'
  exact ⟨u,rfl,uF (s:={ s with heap:=h' }) e c d (by decide) ⟨x,H,I1,ru,⟨rfl,fun ys hy=>by rw [I.list_inj hy hq]; exact hx⟩,st',fun b hb=>(hf b hb).1⟩⟩
 done:=by
  intro X hP hw hK hc i pins s σ H E I hf st hg
  subst hP hw hK
  obtain ⟨xs,hq,hx⟩:=hg
  obtain ⟨its,rv,p,hz⟩:=I.list hq
  obtain ⟨f0,f1,f2,f3,f4,f5⟩:=hf it (by simp)
  have hl:=rv.length
  exact wpAny_pyNext_list_end (I.ok.hd hc) st p.isList (by simp; omega) fun h' eb=>⟨rfl,I.turned (t' :=s.toks) (fun b o hb e=>eb b o hb e) f0 f1 f3 f4 f5⟩
 self:=fun _ _ _ _ _ st h=>wpAny_pyIter_listiter st h
theorem uG {P:Program} {w:World} {K:PySem.W.Frag} {tg:Expr} (a it:Addr):Uc P w K tg (Itt K a) [it] it (fun i h=>h.IsTupleIter it a i) where
 mem:=by simp
 obj:=fun i h st b hb=>by
  have e:b=it:=by simpa using hb
  subst e
  obtain ⟨o,e,c,d⟩:=st
  exact ⟨o,e,fun v z=>by rw [d] at z; cases z⟩
 keep:=fun i h h' st k=>st.at fun o e=>k it (by simp) o e
 item:=by
  intro X hP hw hK hc i pins s σ H E I hf st hg
  subst hP hw hK
  obtain ⟨xs,x,hq,hx⟩:=hg
  obtain ⟨its,rv,p,hz⟩:=I.tuple hq
  obtain ⟨u,hu,ru⟩:=rv.get hx
  obtain ⟨f0,f1,f2,f3,f4,f5⟩:=hf it (by simp)
  refine wpAny_pyNext_tuple_item st (show s.heap.IsTuple a its.toArray from p) (x:=u) (by simpa using hu) fun h' st' sb=> ?_
  have I1:Inv X pins σ H { s with heap:=h' }:=I.turned (t' :=s.toks) (fun b o hb e=>(sb.2 b hb).trans e) f0 f1 f3 f4 f5
  obtain ⟨o,e,c,d⟩:=id st'
  exact ⟨u,rfl,uF (s:={ s with heap:=h' }) e c d (by decide) ⟨x,H,I1,ru,⟨rfl,fun ys hy=>by rw [I.tuple_inj hy hq]; exact hx⟩,st',fun b hb=>(hf b hb).1⟩⟩
 done:=by
  intro X hP hw hK hc i pins s σ H E I hf st hg
  subst hP hw hK
  obtain ⟨xs,hq,hx⟩:=hg
  obtain ⟨its,rv,p,hz⟩:=I.tuple hq
  obtain ⟨f0,f1,f2,f3,f4,f5⟩:=hf it (by simp)
  have hl:=rv.length
  exact wpAny_pyNext_tuple_end (I.ok.hd hc) st (show s.heap.IsTuple a its.toArray from p) (by simp; omega) fun h' eb=>⟨rfl,I.turned (t' :=s.toks) (fun b o hb e=>eb b o hb e) f0 f1 f3 f4 f5⟩
 self:=fun _ _ _ _ _ st h=>wpAny_pyIter_tupleiter st h
theorem uH {P:Program} {w:World} {K:PySem.W.Frag} {tg:Expr} (it:Addr) (lo:Int) (n:Nat):Uc P w K tg (Itr lo n) [it] it (fun i h=>IsRangeIter h it (lo+(i:Nat)*1) ((n:Int) - (i:Nat)) 1) where
 mem:=by simp
 obj:=fun i h st b hb=>by
  have e:b=it:=by simpa using hb
  subst e
  exact ⟨_,st,fun v z=>by
   have z' :Data.fields _=Data.cell v:=z
   cases z'⟩
 keep:=fun i h h' st k=>k it (by simp) _ st
 item:=by
  intro X hP hw hK hc i pins s σ H E I hf st hg
  subst hP hw hK
  obtain ⟨f0,f1,f2,f3,f4,f5⟩:=hf it (by simp)
  have W:=Walks.range (prog:=X.prog) (w:=X.w) (I.ok.hd hc) it lo 1 n
  refine W.item i s _ _ hg st fun v h' tk hv st' kk=> ?_
  obtain ⟨t,rfl⟩:=hv
  have I1:Inv X pins σ H { s with heap:=h',toks:=tk }:=I.turned (fun b o hb e=>kk b o (by simpa using hb) e) f0 f1 f3 f4 f5
  refine ⟨_,rfl,uF (s:={ s with heap:=h',toks:=tk }) (n:="range_iterator") st' rfl rfl (by decide) ⟨.int (lo+i),H,I1,⟨t, ?_⟩,⟨rfl,rfl⟩,st',fun b hb=>(hf b hb).1⟩⟩
  rw [Int.mul_one]
 done:=by
  intro X hP hw hK hc i pins s σ H E I hf st hg
  subst hP hw hK
  obtain ⟨f0,f1,f2,f3,f4,f5⟩:=hf it (by simp)
  exact wpAny_pyNext_range_end (I.ok.hd hc) st (by have:n<=i:=hg; omega) fun h' eb=>⟨rfl,I.turned (t' :=s.toks) (fun b o hb e=>eb b o hb e) f0 f1 f3 f4 f5⟩
 self:=fun _ _ _ _ _ st h=>wpAny_pyIter_rangeiter st h
end L2
namespace L2
open PySem PySem.Spec PyProof.Rows
section
variable {X:Cx} {tg:Expr}
theorem WS {pins:List (Addr×Obj)} {σ:St} {H:Hp} {s:Shared} {R:It->Hp->Prop} {E:Value->Shared->Prop} {lo hi:Int} {t u v:Tok} {tk:Nat} (I:Inv X pins σ H s) (h1: -(2 ^ 62)<=lo) (h2:lo < 2 ^ 62) (h3: -(2 ^ 62)<=hi) (h4:hi < 2 ^ 62)
  (q:R (Itr lo (hi - lo).toNat) H):wpAny (model X.prog X.w) X.A (pyIter (.ref s.heap.objs.size)) (PIE X pins σ tg R) E { s with heap:=s.heap.push { cls:= .type "range",data:= .fields #[.int lo t, .int hi u, .int 1 v] },toks:=tk }:=by
 refine wpAny_pyIter_range (IsRange.new ..) (small_one h1 h2 h3 h4) ?_
 have I1:Inv X pins σ H { s with heap:=s.heap.push { cls:= .type "range",data:= .fields #[.int lo t, .int hi u, .int 1 v] },toks:=tk }:=I.kept fun b o e=>Heap.get?_push_of_some _ e
 refine ⟨(s.heap.push { cls:= .type "range",data:= .fields #[.int lo t, .int hi u, .int 1 v] }).objs.size,[(s.heap.push { cls:= .type "range",data:= .fields #[.int lo t, .int hi u, .int 1 v] }).objs.size],_,_,H,rfl,
  I1.kept (t' :=tk) fun b o e=>Heap.get?_push_of_some _ e,uH _ lo (hi - lo).toNat, ?_,fun b hb=> ?_,q⟩
 ·have e1:lo+((0:Nat):Int)*1=lo:=by simp
  have e2:(((hi - lo).toNat:Nat):Int) - ((0:Nat):Int)=Builtin.Range.rangeSize lo hi 1:=by rw [rangeSize_one]; split <;> omega
  show IsRangeIter _ _ (lo+((0:Nat):Int)*1) ((((hi - lo).toNat:Nat):Int) - ((0:Nat):Int)) 1
  rw [e1,e2]
  exact Heap.get?_push_size _ rfl
 ·have e:b=(s.heap.push { cls:= .type "range",data:= .fields #[.int lo t, .int hi u, .int 1 v] }).objs.size:=by simpa using hb
  subst e
  exact I1.fpOk (Nat.le_refl _) (I1.hok.fresh (Nat.le_refl _))
def ki (ta:TA):TI:=fun σ H R=>ta σ H fun vs H1=>∃ j:Int,vs=[.int j]/\ -(2 ^ 62)<=j/\j < 2 ^ 62/\R (Itr 0 j.toNat) H1
def kj (ta:TA):TI:=fun σ H R=>ta σ H fun vs H1=>∃ i j:Int,vs=[.int i, .int j]/\(-(2 ^ 62)<=i/\i < 2 ^ 62/\ -(2 ^ 62)<=j/\j < 2 ^ 62)/\R (Itr i (j - i).toNat) H1
theorem Up {a:Expr} {ta:TA} {p pos:Pos} (hg:Gl X "range") (hm:X.mg "range"=none) (ha:PA X [a] ta) (hs:starEach [a] X.env=[(false,eval a X.env)]:=by rfl):PI X tg (.Call (.Name "range" p) [a] [] pos) (ki ta):=by
 intro pins s σ H R I h
 refine Call_ (j7 I hg hm boot_range (PyProof.Rows.callWith_type1 (thn (ha pos pins s σ H _ I h) fun us s1 ⟨vs,H1,I1,r1,q1⟩=> ?_) hs rfl))
 obtain ⟨j,e,q1,q2,q⟩:=q1
 subst e
 cases r1 with
 | cons r rr=>
  cases rr
  obtain ⟨t,rfl⟩:=r
  exact call_range_1 (WS I1 (by omega) (by omega) q1 q2 (by simpa using q))
theorem Uq {a b:Expr} {ta:TA} {p pos:Pos} (hg:Gl X "range") (hm:X.mg "range"=none) (ha:PA X [a,b] ta) (hs:starEach [a,b] X.env=[(false,eval a X.env),(false,eval b X.env)]:=by rfl) (hs2:starEach [b] X.env=[(false,eval b X.env)]:=by rfl):
  PI X tg (.Call (.Name "range" p) [a,b] [] pos) (kj ta):=by
 intro pins s σ H R I h
 refine Call_ (j7 I hg hm boot_range (PyProof.Rows.callWith_type1 (thn (ha pos pins s σ H _ I h) fun us s1 ⟨vs,H1,I1,r1,q1⟩=> ?_) (by rw [hs,hs2]) (by rw [hs2]; rfl)))
 obtain ⟨i,j,e,⟨q1,q2,q3,q4⟩,q⟩:=q1
 subst e
 cases r1 with
 | cons r rr=>
  cases rr with
  | cons r' rr=>
   cases rr
   obtain ⟨t,rfl⟩:=r
   obtain ⟨t',rfl⟩:=r'
   exact call_range_2 (WS I1 q1 q2 q3 q4 q)
def gw (wi:TI) (g:TG) (tb:TS):TS:=fun D σ H=>wi σ H fun J H1=>∃ W:Nat->Nat->St->Hp->Prop,(∃ m,W 0 m σ H1)/\∀ i m σ H,W i m σ H->
 (J.stop i H/\D.nx σ H)\/(J.go i H/\∃ N:St->Hp->Prop,(∀ σ' H',N σ' H' ->∃ m',m' < m/\W (i+1) m' σ' H')/\∀ x H',J.yld i H x H' ->g x σ H' fun σ2 H2=>tb { D with nx:=N,ct:=N,bk:=D.nx } σ2 H2)
def wN (fp:List Addr) (h:Heap):List (Addr×Obj):=fp.filterMap fun b=>(h.get? b).map fun o=>(b,o)
theorem jj {fp:List Addr} {h:Heap} {b:Addr} {o:Obj} (hb:b∈fp) (e:h.get? b=some o):(b,o)∈wN fp h:=List.mem_filterMap.mpr ⟨b,hb,by rw [e]; rfl⟩
theorem Ur {fp:List Addr} {h:Heap} {p:Addr×Obj} (hp:p∈wN fp h):p.1∈fp/\h.get? p.1=some p.2:=by
 obtain ⟨b,hb,e⟩:=List.mem_filterMap.mp hp
 cases q:h.get? b with
 | none=>rw [q] at e; cases e
 | some o=>
  rw [q] at e
  have e' :(b,o)=p:=Option.some.inj e
  subst e'
  exact ⟨hb,q⟩
theorem Inv.pinned {pins:List (Addr×Obj)} {σ:St} {H:Hp} {s:Shared} {fp:List Addr} (I:Inv X pins σ H s) (hf:∀ b∈fp,wM X pins H b) (ho:∀ b∈fp,∃ o,s.heap.get? b=some o/\∀ v,o.data ≠ .cell v):Inv X (pins++wN fp s.heap) σ H s:=
 I.pins_of fun p hp=>(List.mem_append.mp hp).elim (fun z=>I.pin p (List.mem_append_right _ z)) fun z=>by
  obtain ⟨hb,e⟩:=Ur z
  obtain ⟨f0,f1,f2,_⟩:=hf p.1 hb
  obtain ⟨o,e',d⟩:=ho p.1 hb
  rw [e] at e'; cases e'
  exact ⟨e,f0,f1,f2,d⟩
theorem Inv.unpinned {pins pl:List (Addr×Obj)} {σ:St} {H:Hp} {s:Shared} (I:Inv X (pins++pl) σ H s):Inv X pins σ H s:=I.pins_of fun p hp=>I.pin p (List.mem_append_right _ (List.mem_append_left _ hp))
theorem VO {iter:Expr} {body:List Stmt} {wi:TI} {g:TG} {tb:TS} {pos:Pos} (hp:PassesOwn (model X.prog X.w) X.A X.env X.xe) (hc:X.calm=true) (hi:PI X tg iter wi) (hg:PG X tg g) (hb:PSs X body tb)
  (hs:∀ x,foldedSetIterable iter X.env x=pure x:=by intro _; rfl):PS X (.For tg iter body [] pos) (gw wi g tb):=by
 intro pins s σ H D I h
 refine wpAny_For (thn (hi pins s σ H _ I h) fun v s1 h1=>thn h1 fun itv s2 h2=> ?_) hs
 obtain ⟨it,fp,tn,J,H2,e,I2,T,st2,f2,W,⟨m0,w0⟩,turn⟩:=h2
 subst e
 have stat:∀ {H' :Hp},(∀ b∈fp,H' b=none)->∀ b∈fp,wM X pins H' b:=fun hn b hb=>⟨hn b hb,(f2 b hb).2⟩
 refine codeAny_forLoop_any (fun n s' =>∃ i σ' H',Inv X pins σ' H' s' /\tn i s'.heap/\(∀ b∈fp,H' b=none)/\W i n σ' H') ?_ m0 ⟨0,σ,H2,I2,st2,fun b hb=>(f2 b hb).1,w0⟩
 rintro n s3 ⟨i,σ3,H3,I3,st3,fr3,w3⟩
 rcases turn i n σ3 H3 w3 with ⟨stop,qn⟩ | ⟨go,N,hN,step⟩
 ·refine wpAny_passesOwn hp (thn (T.done X rfl rfl rfl hc i pins s3 σ3 H3 X.xe I3 (stat fr3) st3 stop) fun r s4 ⟨hr,I4⟩=> ?_)
  subst hr
  exact wpAny_execs_nil ⟨σ3,H3,I4,qn⟩
 ·refine wpAny_passesOwn hp (thn (T.item X rfl rfl rfl hc i pins s3 σ3 H3 X.xe I3 (stat fr3) st3 go) fun r s4 ⟨u,hr,h4⟩=> ?_)
  subst hr
  refine wpAny_passesOwn hp (thn h4 fun _ s5 ⟨x,H5,I5,r5,y5,st5,fr5⟩=> ?_)
  have I5' :=I5.pinned (stat fr5) (T.obj _ _ st5)
  refine wpAny_passesOwn hp (thn (hg _ s5 σ3 H5 x u _ I5' r5 (step x H5 y5)) fun _ s6 ⟨σ6,H6,I6,q6⟩=> ?_)
  refine wpAny_passesOwn hp (thn (hb _ s6 σ6 H6 _ I6 q6) fun f s7 q7=> ?_)
  have again:∀ {σ7:St} {H7:Hp},Inv X (pins++wN fp s5.heap) σ7 H7 s7->N σ7 H7->∃ m,m < n/\∃ i σ' H',Inv X pins σ' H' s7/\tn i s7.heap/\(∀ b∈fp,H' b=none)/\W i m σ' H' :=fun {σ7 H7} I7 n7=>by
   obtain ⟨m',hm,w7⟩:=hN σ7 H7 n7
   refine ⟨m',hm,i+1,σ7,H7,I7.unpinned,T.keep _ _ _ st5 fun b hb o e=>(I7.pin (b,o) (List.mem_append_right _ (List.mem_append_right _ (jj hb e)))).1,fun b hb=> ?_,w7⟩
   obtain ⟨o,e,d⟩:=T.obj _ _ st5 b hb
   exact (I7.pin (b,o) (List.mem_append_right _ (List.mem_append_right _ (jj hb e)))).2.1
  cases f with
  | next=>obtain ⟨σ7,H7,I7,n7⟩:=q7; exact again I7 n7
  | cont=>obtain ⟨σ7,H7,I7,n7⟩:=q7; exact again I7 n7
  | brk=>obtain ⟨σ7,H7,I7,q7⟩:=q7; exact ⟨σ7,H7,I7.unpinned,q7⟩
  | ret v=>obtain ⟨x7,σ7,H7,I7,r7,q7⟩:=q7; exact ⟨x7,σ7,H7,I7.unpinned,r7,q7⟩
end
end L2
namespace L2
open PySem PySem.Spec PyProof.Rows
abbrev R2:=V->V->Hp->VK->Prop
def OpR (X:Cx) (f:Value->Value->Sem Value) (r:R2):Prop:=
 ∀ (pins:List (Addr×Obj)) (s:Shared) (σ:St) (H:Hp) (x y:V) (v u:Value) (Q:VK),Inv X pins σ H s->RelV x v->RelV y u->r x y H Q->
  wpAny (model X.prog X.w) X.A (f v u) (EP X pins σ Q) X.xe s
def UnR (X:Cx) (f:Value->Sem Value) (r:V->Hp->VK->Prop):Prop:=
 ∀ (pins:List (Addr×Obj)) (s:Shared) (σ:St) (H:Hp) (x:V) (v:Value) (Q:VK),Inv X pins σ H s->RelV x v->r x H Q->
  wpAny (model X.prog X.w) X.A (f v) (EP X pins σ Q) X.xe s
def ZD (X:Cx) (f:Value) (r:List V->Hp->VK->Prop):Prop:=
 ∀ (pins:List (Addr×Obj)) (s:Shared) (σ:St) (H:Hp) (xs:List V) (us:List Value) (Q:VK),Inv X pins σ H s->Vals xs us->r xs H Q->
  wpAny (model X.prog X.w) X.A (call f us) (EP X pins σ Q) X.xe s
def gy (X:Cx) (r:V->Hp->(Bool->Hp->Prop)->Prop):Prop:=
 ∀ (pins:List (Addr×Obj)) (s:Shared) (σ:St) (H:Hp) (x:V) (v:Value) (Q:Bool->Hp->Prop),Inv X pins σ H s->RelV x v->r x H Q->
  wpAny (model X.prog X.w) X.A (truthy v) (TP X pins σ Q) X.xe s
def tOp (r:R2) (ta tb:TE):TE:=fun σ H Q=>ta σ H fun x H1=>tb σ H1 fun y H2=>r x y H2 Q
def tUn (r:V->Hp->VK->Prop) (ta:TE):TE:=fun σ H Q=>ta σ H fun x H1=>r x H1 Q
def rI (C:Int->Int->Prop) (g:Int->Int->V):R2:=fun x y H Q=>∃ i j,x= .int i/\y= .int j/\C i j/\Q (g i j) H
def rI0 (g:Int->Int->V):R2:=fun x y H Q=>∃ i j,x= .int i/\y= .int j/\Q (g i j) H
def rU (g:Int->V):V->Hp->VK->Prop:=fun x H Q=>∃ i,x= .int i/\Q (g i) H
section
variable {X:Cx} {a b c:Expr} {ta tb tc:TE} {pos:Pos}
theorem kl (ha:PE X a ta) (hb:PE X b tb) {pins:List (Addr×Obj)} {s:Shared} {σ:St} {H:Hp} {R:V->V->Hp->Prop} (I:Inv X pins σ H s)
  (h:ta σ H fun x H1=>tb σ H1 fun y H2=>R x y H2) {Q:Value->Shared->Prop} {f:Value->Value->Sem Value}
  (hf:∀ v u s2 x y H2,Inv X pins σ H2 s2->RelV x v->RelV y u->R x y H2->wpAny (model X.prog X.w) X.A (f v u) Q X.xe s2):
  wpAny (model X.prog X.w) X.A (eval a X.env) (fun v s₁=>wpAny (model X.prog X.w) X.A (eval b X.env) (fun u s₂=>wpAny (model X.prog X.w) X.A (f v u) Q X.xe s₂) X.xe s₁) X.xe s:=by
 refine thn (ha pins s σ H _ I h) fun v s1 ⟨x,H1,I1,r1,q1⟩=> ?_
 refine thn (hb pins s1 σ H1 _ I1 q1) fun u s2 ⟨y,H2,I2,r2,q2⟩=> ?_
 exact hf v u s2 x y H2 I2 r1 r2 q2
theorem km {op:Operator} {r:R2} (ho:OpR X (binaryOp op) r) (ha:PE X a ta) (hb:PE X b tb):PE X (.BinOp a op b pos) (tOp r ta tb):=by
 intro pins s σ H Q I h
 exact wpAny_BinOp (kl ha hb I h fun v u s2 x y H2 I2 rx ry q=>ho pins s2 σ H2 x y v u Q I2 rx ry q)
theorem kn {op:UnaryOp} {r:V->Hp->VK->Prop} (ho:UnR X (unaryOp op) r) (ha:PE X a ta):PE X (.UnaryOp op a pos) (tUn r ta):=by
 intro pins s σ H Q I h
 exact UnaryOp_ (thn (ha pins s σ H _ I h) fun v s1 ⟨x,H1,I1,r1,q1⟩=>ho pins s1 σ H1 x v Q I1 r1 q1)
theorem opI {f:Value->Value->Sem Value} {C:Int->Int->Prop} {g:Int->Int->Int}
  (rule:∀ (i j:Int) (t u:Tok) (s:Shared) (Q:Value->Shared->Prop) (E:Value->Shared->Prop),C i j->Q (.int (g i j) s.toks) { s with toks:=s.toks+1 }->wpAny (model X.prog X.w) X.A (f (.int i t) (.int j u)) Q E s):
  OpR X f (rI C fun i j=> .int (g i j)):=by
 intro pins s σ H x y v u Q I rx ry h
 obtain ⟨i,j,rfl,rfl,hc,q⟩:=h
 obtain ⟨t,rfl⟩:=rx
 obtain ⟨t',rfl⟩:=ry
 exact rule i j t t' s _ _ hc ⟨.int (g i j),H,I.tok _,⟨_,rfl⟩,q⟩
theorem Kz {f:Value->Value->Sem Value} {g:Int->Int->Int}
  (rule:∀ (i j:Int) (t u:Tok) (s:Shared) (Q:Value->Shared->Prop) (E:Value->Shared->Prop),Q (.int (g i j) s.toks) { s with toks:=s.toks+1 }->wpAny (model X.prog X.w) X.A (f (.int i t) (.int j u)) Q E s):
  OpR X f (rI0 fun i j=> .int (g i j)):=by
 intro pins s σ H x y v u Q I rx ry h
 obtain ⟨i,j,rfl,rfl,q⟩:=h
 obtain ⟨t,rfl⟩:=rx
 obtain ⟨t',rfl⟩:=ry
 exact rule i j t t' s _ _ ⟨.int (g i j),H,I.tok _,⟨_,rfl⟩,q⟩
theorem ko {f:Value->Value->Sem Value} {g:Int->Int->Bool}
  (rule:∀ (i j:Int) (t u:Tok) (s:Shared) (Q:Value->Shared->Prop) (E:Value->Shared->Prop),Q (.bool (g i j)) s->wpAny (model X.prog X.w) X.A (f (.int i t) (.int j u)) Q E s):
  OpR X f (rI0 fun i j=> .bl (g i j)):=by
 intro pins s σ H x y v u Q I rx ry h
 obtain ⟨i,j,rfl,rfl,q⟩:=h
 obtain ⟨t,rfl⟩:=rx
 obtain ⟨t',rfl⟩:=ry
 exact rule i j t t' s _ _ ⟨.bl (g i j),H,I,rfl,q⟩
def gz (i j:Int):Prop:=0 < j/\j < 1073741824
def wH (i j:Int):Prop:=(-(2 ^ 64) < i/\i < 2 ^ 64)\/(-(2 ^ 64) < j/\j < 2 ^ 64)
theorem wH.ok {i j:Int} (h:wH i j):IntMulOk i j:=by
 rcases h with ⟨h1,h2⟩ | ⟨h1,h2⟩
 ·exact .of_left (intBits_le_64 h1 h2)
 ·exact .of_right (intBits_le_64 h1 h2)
theorem VP:OpR X (binaryOp .Add) (rI0 fun i j=> .int (i+j)):=Kz fun _ _ _ _ _ _ _ q=>add_int q
theorem VQ:OpR X (binaryOp .Sub) (rI0 fun i j=> .int (i - j)):=Kz fun _ _ _ _ _ _ _ q=>sub_int q
theorem VR:OpR X (binaryOp .Mult) (rI wH fun i j=> .int (i*j)):=opI fun _ _ _ _ _ _ _ hc q=>mul_int q hc.ok
theorem QB:OpR X (binaryOp .FloorDiv) (rI gz fun i j=> .int (i / j)):=opI fun i j _ _ _ _ _ hc q=>by
 have h1:(0:Int) < j:=hc.1
 have h2:j < 1073741824:=hc.2
 exact floordiv_int (by omega) (by rw [Int.fdiv_eq_ediv_of_nonneg i (by omega)]; exact q) (.inl (PyProof.noPylong_small (by omega)))
theorem VS:OpR X (binaryOp .Mod) (rI (fun _ j=>0 < j) fun i j=> .int (i % j)):=opI fun i j _ _ _ _ _ hc q=>by
 have h1:(0:Int) < j:=hc
 exact mod_int' (by omega) (by rw [Int.fmod_eq_emod_of_nonneg i (by omega)]; exact q)
theorem unI {f:Value->Sem Value} {g:Int->Int}
  (rule:∀ (i:Int) (t:Tok) (s:Shared) (Q:Value->Shared->Prop) (E:Value->Shared->Prop),Q (.int (g i) s.toks) { s with toks:=s.toks+1 }->wpAny (model X.prog X.w) X.A (f (.int i t)) Q E s):
  UnR X f (rU fun i=> .int (g i)):=by
 intro pins s σ H x v Q I rx h
 obtain ⟨i,rfl,q⟩:=h
 obtain ⟨t,rfl⟩:=rx
 exact rule i t s _ _ ⟨.int (g i),H,I.tok _,⟨_,rfl⟩,q⟩
theorem VT:UnR X (unaryOp .USub) (rU fun i=> .int (-i)):=unI fun _ _ _ _ _ q=>neg_int q
theorem Us:OpR X (binaryOp .Add) (fun x y H Q=>∃ i k,x= .int i/\y= .bl k/\Q (.int (i+b2i k)) H):=by
 intro pins s σ H x y v u Q I rx ry h
 obtain ⟨i,k,rfl,rfl,q⟩:=h
 obtain ⟨t,rfl⟩:=rx
 cases ry
 exact add_int_bool ⟨.int (i+b2i k),H,I.tok _,⟨_,rfl⟩,q⟩
end
section
variable {X:Cx} {a b c:Expr} {ta tb tc:TE} {pos:Pos}
theorem kq:OpR X (compareOp .Lt) (rI0 fun i j=> .bl (decide (i < j))):=ko fun _ _ _ _ _ _ _ q=>lt_int q
theorem kr:OpR X (compareOp .LtE) (rI0 fun i j=> .bl (decide (i<=j))):=ko fun _ _ _ _ _ _ _ q=>le_int q
theorem ku:OpR X (compareOp .Gt) (rI0 fun i j=> .bl (decide (j < i))):=ko fun _ _ _ _ _ _ _ q=>gt_int q
theorem zk (b:Expr) {op:CmpOp} (h:op ≠ .In:=by decide) (h2:op ≠ .NotIn:=by decide):behindInMarks op b=false:=by
 have e1:(op == CmpOp.In)=false:=by cases op <;> first | rfl | exact absurd rfl h
 have e2:(op == CmpOp.NotIn)=false:=by cases op <;> first | rfl | exact absurd rfl h2
 cases b <;> simp [behindInMarks,e1,e2]
theorem QC {op:CmpOp} {r:R2} (ho:OpR X (compareOp op) r) (ha:PE X a ta) (hb:PE X b tb) (hm:behindInMarks op b=false):PE X (.Compare a [op] [b] pos) (tOp r ta tb):=by
 intro pins s σ H Q I h
 exact wpAny_Compare1 (kl ha hb I h fun v u s2 x y H2 I2 rx ry q=>ho pins s2 σ H2 x y v u Q I2 rx ry q) hm
def VU (t:TE):TT:=fun σ H Q=>t σ H fun x H' =>∃ k,x= .bl k/\Q k H'
theorem QD {op:CmpOp} {r:R2} (ho:OpR X (compareOp op) r) (ha:PE X a ta) (hb:PE X b tb) (hm:behindInMarks op b=false):PT X (.Compare a [op] [b] pos) (VU (tOp r ta tb)):=by
 intro pins s σ H Q I h
 refine wpAny_isTrue_Compare1 (thn (ha pins s σ H _ I h) fun v s1 ⟨x,H1,I1,r1,q1⟩=>thn (hb pins s1 σ H1 _ I1 q1) fun u s2 ⟨y,H2,I2,r2,q2⟩=>
  thn (ho pins s2 σ H2 x y v u _ I2 r1 r2 q2) fun c s3 ⟨z,H3,I3,r3,k,e,q3⟩=> ?_) hm
 subst e
 cases r3
 exact wpAny_truthy_bool ⟨H3,I3,q3⟩
def qS (r r' :R2) (ta tb tc:TE):TE:=fun σ H Q=>ta σ H fun x H1=>tb σ H1 fun y H2=>r x y H2 fun z H3=>∃ k,z= .bl k/\
 (if k=true then tc σ H3 fun w' H4=>r' y w' H4 Q else Q (.bl false) H3)
theorem YF {op op' :CmpOp} {r r' :R2} (ho:OpR X (compareOp op) r) (ho' :OpR X (compareOp op') r') (ha:PE X a ta) (hb:PE X b tb) (hc:PE X c tc)
  (hm:lastMarks [op,op'] [b,c]=false:=by with_unfolding_all rfl):PE X (.Compare a [op,op'] [b,c] pos) (qS r r' ta tb tc):=by
 intro pins s σ H Q I h
 refine Compare_chain (thn (ha pins s σ H _ I h) fun v s1 ⟨x,H1,I1,r1,q1⟩=>chain_link (thn (hb pins s1 σ H1 _ I1 q1) fun u s2 ⟨y,H2,I2,r2,q2⟩=>
  thn (ho pins s2 σ H2 x y v u _ I2 r1 r2 q2) fun d s3 ⟨z,H3,I3,r3,k,e,q3⟩=> ?_)) hm
 subst e
 cases r3
 refine wpAny_truthy_bool ?_
 cases k with
 | false=>exact ite_ff ⟨.bl false,H3,I3,rfl,q3⟩
 | true=>exact ite_tt (chain_last (thn (hc pins s3 σ H3 _ I3 q3) fun w' s4 ⟨z',H4,I4,r4,q4⟩=>ho' pins s4 σ H4 y z' u w' Q I4 r2 r4 q4))
theorem YG {op op' :CmpOp} {r r' :R2} (ho:OpR X (compareOp op) r) (ho' :OpR X (compareOp op') r') (ha:PE X a ta) (hb:PE X b tb) (hc:PE X c tc)
  (hm:lastMarks [op,op'] [b,c]=false:=by with_unfolding_all rfl):PT X (.Compare a [op,op'] [b,c] pos) (VU (qS r r' ta tb tc)):=by
 intro pins s σ H Q I h
 refine isTrue_chain (thn (ha pins s σ H _ I h) fun v s1 ⟨x,H1,I1,r1,q1⟩=>test_link (thn (hb pins s1 σ H1 _ I1 q1) fun u s2 ⟨y,H2,I2,r2,q2⟩=>
  thn (ho pins s2 σ H2 x y v u _ I2 r1 r2 q2) fun d s3 ⟨z,H3,I3,r3,k,e,q3⟩=> ?_)) hm
 subst e
 cases r3
 refine wpAny_truthy_bool ?_
 cases k with
 | false=>
  obtain ⟨k',e',q'⟩:=q3
  cases e'
  exact ite_ff ⟨H3,I3,q'⟩
 | true=>
  refine ite_tt (test_last (thn (hc pins s3 σ H3 _ I3 q3) fun w' s4 ⟨z',H4,I4,r4,q4⟩=>thn (ho' pins s4 σ H4 y z' u w' _ I4 r2 r4 q4) fun d' s5 ⟨z2,H5,I5,r5,k2,e2,q5⟩=> ?_))
  subst e2
  cases r5
  exact wpAny_truthy_bool ⟨H5,I5,q5⟩
def KA (K:PySem.W.Frag) (x:V) (H:Hp) (k:Bool):Prop:=
 match x with
 | .non=>k=false
 | .bl b=>k=b
 | .int i=>k=(i != 0)
 | .str y=>y.length<=sizeLine/\k=((y.length:Int) != 0)
 | .byt y=>y.size<=sizeLine/\k=((y.size:Int) != 0)
 | .ref p=>(∃ xs,SqL K H p xs/\k= !xs.isEmpty)\/(∃ xs,SqT K H p xs/\k= !xs.isEmpty)\/∃ kvs,H p=some (.dK kvs)/\k= !kvs.isEmpty
 | _=>False
theorem uI {κ:Type} {kvs:List (κ×V)} {vs:List (κ×Value)} (r:KV kvs vs):(!vs.isEmpty)= !kvs.isEmpty:=by
 cases r <;> rfl
theorem JN {xs:List V} {its:List Value} (r:Vals xs its):(!its.toArray.isEmpty)= !xs.isEmpty:=by
 cases r <;> simp
theorem JO:(sizeLine:Nat) < 2 ^ 63:=by rw [sizeLine_eq]; decide
theorem VV:gy X (fun x H Q=>∃ k,KA X.K x H k/\Q k H):=by
 intro pins s σ H x v Q I rx h
 obtain ⟨k,e,q⟩:=h
 have hl:=JO
 have hs:sizeLine=16777216:=sizeLine_eq
 cases x with
 | non=>
  cases rx
  have e' :k=false:=e
  subst e'
  exact truthy_none ⟨H,I,q⟩
 | bl b=>
  cases rx
  have e' :k=b:=e
  subst e'
  exact wpAny_truthy_bool ⟨H,I,q⟩
 | int i=>
  obtain ⟨t,rfl⟩:=rx
  have e' :k=(i != 0):=e
  subst e'
  exact PySem.P.truthy_int ⟨H,I,q⟩
 | str y=>
  obtain ⟨t,rfl⟩:=rx
  obtain ⟨hy,e'⟩:y.length<=sizeLine/\k=((y.length:Int) != 0):=e
  subst e'
  exact PySem.P.truthy_str (by omega) ⟨H,I.tok _,q⟩
 | byt y=>
  obtain ⟨t,rfl⟩:=rx
  obtain ⟨hy,e'⟩:y.size<=sizeLine/\k=((y.size:Int) != 0):=e
  subst e'
  exact PySem.W.truthy_bytes (by omega) ⟨H,I.tok _,q⟩
 | ref p=>
  cases rx
  have e' :(∃ xs,SqL X.K H p xs/\k= !xs.isEmpty)\/(∃ xs,SqT X.K H p xs/\k= !xs.isEmpty)\/∃ kvs,H p=some (.dK kvs)/\k= !kvs.isEmpty:=e
  rcases e' with ⟨xs,hx,e'⟩ | ⟨xs,hx,e'⟩ | ⟨kvs,hx,e'⟩
  ·subst e'
   obtain ⟨its,r,pl,hz⟩:=I.list hx
   have hlen:=r.length
   exact wpAny_truthy_list pl.isList (by simp only [List.size_toArray]; omega) ⟨H,I.tok _,by rw [JN r]; exact q⟩
  ·subst e'
   obtain ⟨its,r,pl,hz⟩:=I.tuple hx
   have hlen:=r.length
   exact truthy_tuple pl (by simp only [List.size_toArray]; omega) ⟨H,I.tok _,by rw [JN r]; exact q⟩
  ·subst e'
   obtain ⟨hz,hS,vs,r,m⟩:kvs.length<=sizeLine/\(p == sysModules)=false/\∃ vs,KV kvs vs/\s.heap.DictOf (Wx X.prog X.w) p vs:=I.hok p _ hx
   have hlen:kvs.length=vs.length:=Paired.length r
   exact wpAny_truthy_dict hS m (by omega) ⟨H,I.tok _,by rw [uI r]; exact q⟩
 | _=>exact (show False from e).elim
theorem YH (ha:PE X a ta) (he:∀ whole,isTrue a X.env whole=(do let v ← whole; standAt a.pos; holding [v] (truthy v))):
  PT X a (fun σ H Q=>ta σ H fun x H' =>∃ k,KA X.K x H' k/\Q k H'):=by
 intro pins s σ H Q I h
 exact isTrue_plain (thn (ha pins s σ H _ I h) fun v s1 ⟨x,H1,I1,r1,q1⟩=>VV pins s1 σ H1 x v Q I1 r1 q1) (he _)
theorem uJ:OpR X (binaryOp .Add) (fun x y H Q=>∃ i j,x= .str i/\y= .str j/\i.length+j.length<=sizeLine/\Q (.str (i++j)) H):=by
 intro pins s σ H x y v u Q I rx ry h
 obtain ⟨i,j,rfl,rfl,hz,q⟩:=h
 obtain ⟨t,rfl⟩:=rx
 obtain ⟨t',rfl⟩:=ry
 exact add_str (fun t' tk=>⟨.str (i++j),H,I.tok _,⟨_,rfl⟩,q⟩) hz
theorem j3 {x:V} {us:List Value} (r:Vals [x] us):∃ u,us=[u]/\RelV x u:=by
 cases r with
 | cons r1 r2=>cases r2; exact ⟨_,rfl,r1⟩
theorem Ut {x y:V} {us:List Value} (r:Vals [x,y] us):∃ u w',us=[u,w']/\RelV x u/\RelV y w' :=by
 cases r with
 | cons r1 r2=>
  cases r2 with
  | cons r3 r4=>cases r4; exact ⟨_,_,rfl,r1,r3⟩
theorem Uu (hc:X.calm=true):ZD X (.builtin "max") (fun xs H Q=>∃ i j,xs=[.int i, .int j]/\Q (.int (if j > i then j else i)) H):=by
 intro pins s σ H xs us Q I r h
 obtain ⟨i,j,rfl,q⟩:=h
 obtain ⟨u,w',rfl,⟨t,rfl⟩,⟨t',rfl⟩⟩:=Ut r
 refine max_two_ints (I.ok.hd hc) fun h' tk k=>⟨_,H,I.kept k, ?_,q⟩
 by_cases hj:j > i
 ·rw [if_pos hj,if_pos hj]; exact ⟨_,rfl⟩
 ·rw [if_neg hj,if_neg hj]; exact ⟨_,rfl⟩
theorem Uv (hc:X.calm=true):ZD X (.builtin "min") (fun xs H Q=>∃ i j,xs=[.int i, .int j]/\Q (.int (if j < i then j else i)) H):=by
 intro pins s σ H xs us Q I r h
 obtain ⟨i,j,rfl,q⟩:=h
 obtain ⟨u,w',rfl,⟨t,rfl⟩,⟨t',rfl⟩⟩:=Ut r
 refine min_two_ints (I.ok.hd hc) fun h' tk k=>⟨_,H,I.kept k, ?_,q⟩
 by_cases hj:j < i
 ·rw [if_pos hj,if_pos hj]; exact ⟨_,rfl⟩
 ·rw [if_neg hj,if_neg hj]; exact ⟨_,rfl⟩
theorem Uw:ZD X (.type "int") (fun xs H Q=>(∃ i,xs=[.int i]/\Q (.int i) H)\/∃ k,xs=[.bl k]/\Q (.int (if k then 1 else 0)) H):=by
 intro pins s σ H xs us Q I r h
 rcases h with ⟨i,rfl,q⟩ | ⟨k,rfl,q⟩
 ·obtain ⟨u,rfl,t,rfl⟩:=j3 r
  exact call_int_int ⟨.int i,H,I,⟨_,rfl⟩,q⟩
 ·obtain ⟨u,rfl,r1⟩:=j3 r
  cases r1
  exact call_int_bool ⟨.int (if k then 1 else 0),H,I.tok _,⟨_,rfl⟩,q⟩
end
end L2
namespace L2
open PySem PySem.Spec PyProof.Rows
structure kv (h:Heap) (x dx C:Addr) (mA:Str->Option Value):Prop where
 obj:h.get? x=some (PySem.W.instObj C dx)
 ns:h.Ns1 dx mA
 ne:dx ≠ x
theorem Ux {h:Heap} {dx:Addr} {mA:Str->Option Value} (n:h.Ns1 dx mA):∃ od,h.get? dx=some od/\∀ name,PySem.W.lookIn name od=some (mA name):=by
 obtain ⟨o,es,ep,ho,hd,hk,_,hm⟩:=n
 refine ⟨o,ho,fun name=> ?_⟩
 have e:=hm name
 unfold nsFind findBy at e
 rw [← Array.find?_toList] at e
 unfold PySem.W.lookIn
 rw [hd]
 dsimp only
 split
 ·rename_i y q
  rw [q] at e
  exact congrArg some e
 ·rename_i q
  rw [q] at e
  have a:es.toList.any (·.refKey)=false:=by
   rw [List.any_eq_false]
   intro y hy
   obtain ⟨z,t,hkey⟩:=hk y (Array.mem_toList_iff.mp hy)
   simp [DictEntry.refKey,hkey]
  have a' :¬ es.toList.any (·.refKey)=true:=by rw [a]; exact Bool.false_ne_true
  rw [if_neg a']
  exact congrArg some e
theorem kv.look {h:Heap} {x dx C:Addr} {mA:Str->Option Value} (I:kv h x dx C mA):∃ od,PySem.W.InstAt h x (PySem.W.instObj C dx) C (some od)/\∀ name,PySem.W.lookIn name od=some (mA name):=
 let ⟨od,ho,hl⟩:=Ux I.ns
 ⟨od,⟨I.obj,rfl,rfl,ho⟩,hl⟩
section
variable {prog:Program} {w:World} {A:Around} {E:Value->Shared->Prop} {s:Shared} {K:PySem.W.Frag} {x dx C f:Addr} {mA:Str->Option Value} {name:Str} {v:Value}
end
section
variable {P:Program} {w:World} {H H' :Hp} {h h' :Heap} {a C dx:Addr} {fs fs' :List (Str×V)}
theorem QE (hok:HOk P w H h) (e:H a=some (.ins C dx fs)):∃ mA,kv h a dx C mA/\(∀ f,k6 (fs.lookup f) (mA f))/\PySem.Within mA (fs.map (·.1))/\fs.length<=1000/\H dx=some (.own a):=by
 obtain ⟨d,z,ne,ob,mA,n,r,q⟩:=(show ZC P w H h a (.ins C dx fs) from hok a _ e)
 exact ⟨mA,⟨ob,n,ne⟩,r,q,z,d⟩
end
structure Cls (K:PySem.W.Frag) (C:Addr):Prop where
 pg:PySem.W.plainGet K C Str.empty=true
 hd:PySem.W.hasDictIn K C=true
 po:PySem.W.plainOver K C=true
 sa:PySem.W.findIn K (.ref C) "__setattr__"=some (some (.builtin "object.__setattr__"))
theorem Cls.get {K:PySem.W.Frag} {C:Addr} (c:Cls K C) (f:Str):PySem.W.plainGet K C f=true:=c.pg
section
variable {X:Cx} {pins:List (Addr×Obj)} {σ:St} {H:Hp} {s:Shared} {a C dx:Addr} {fs:List (Str×V)} {f:Str} {v:V} {A:Around} {E:Value->Shared->Prop}
end
section
variable {X:Cx} {o e value:Expr} {f:Str} {pos pos' tpos:Pos} {ta tv:TE}
end
section
variable {X:Cx} {pins:List (Addr×Obj)} {σ:St} {H:Hp} {s:Shared} {A:Around} {E:Value->Shared->Prop} {Q:Value->Shared->Prop} {c:Value} {b:Bool}
inductive uK (K:PySem.W.Frag) (H:Hp):V->Value->Prop where
 | non:uK K H .non (.type "NoneType")
 | bl (x:Bool):uK K H (.bl x) (.type "bool")
 | int (i:Int):uK K H (.int i) (.type "int")
 | str (x:Str):uK K H (.str x) (.type "str")
 | flt (x:UInt64):uK K H (.flt x) (.type "float")
 | lst {a:Addr} {xs:List V} (e:H a=some (.lst xs)):uK K H (.ref a) (.type "list")
 | frz {a:Addr} {o:Obj} {xs:List V} (e:H a=some (.frz o (.lst xs))):uK K H (.ref a) (.type "list")
 | tup {a:Addr} {xs:List V} (e:H a=some (.tup xs)):uK K H (.ref a) (.type "tuple")
 | dK {a:Addr} {kvs:List (Key×V)} (e:H a=some (.dK kvs)):uK K H (.ref a) (.type "dict")
 | dT {a:Addr} {kvs:List (List Key×V)} (e:H a=some (.dT kvs)):uK K H (.ref a) (.type "dict")
 | ins {a C dx:Addr} {fs:List (Str×V)} (e:H a=some (.ins C dx fs)) (cl:Cls K C) (ha:PySem.W.findIn K (.ref C) "__class__"=some (some (.builtin "object.__class__")))
   (hn:PySem.W.specialIn K (.builtin "object.__class__") "__get__"=some (some (.builtin "getset_descriptor.__get__"))) (htk:PySem.W.takesIn K (.builtin "object.__class__")=some true)
   (hm:PySem.W.mroIn K C (.type "object")=some true):uK K H (.ref a) (.ref C)
theorem Uy {x:V} {u t:Value} (I:Inv X pins σ H s) (rx:RelV x u) (ty:uK X.K H x t) (e:PySem.W.kitOne X.K t c=some b) (h:∀ tk,Q (.bool b) { s with toks:=tk }):
  wpAny (model X.prog X.w) A (call (.builtin "isinstance") [u,c]) Q E s:=by
 cases ty with
 | non=>cases (show u=Value.none from rx); exact PySem.W.kia_one PySem.W.kitx_none I.kIn True.intro e (fun z=>nomatch z) h
 | bl y=>cases (show u=Value.bool y from rx); exact PySem.W.kia_one PySem.W.kitx_bool I.kIn True.intro e (fun z=>nomatch z) h
 | int i=>obtain ⟨t,q⟩:=(show ∃ t,u=Value.int i t from rx); cases q; exact PySem.W.kia_one PySem.W.kitx_int I.kIn True.intro e (fun z=>nomatch z) h
 | str y=>obtain ⟨t,q⟩:=(show ∃ t,u=Value.str y t from rx); cases q; exact PySem.W.kia_one PySem.W.kitx_str I.kIn True.intro e (fun z=>nomatch z) h
 | flt y=>obtain ⟨t,q⟩:=(show ∃ t,u=Value.float y t from rx); cases q; exact PySem.W.kia_one PySem.W.kitx_float I.kIn True.intro e (fun z=>nomatch z) h
 | @lst a xs ea=>
  cases (show u=Value.ref a from rx)
  obtain ⟨_,_,n,_,h1⟩:=(show ZC X.prog X.w H s.heap a (.lst xs) from I.hok a _ ea)
  exact PySem.W.kia_one PySem.W.kitx_list I.kIn ⟨_,h1,rfl⟩ e (fun z=>nomatch z) h
 | @frz a ob xs ea=>
  cases (show u=Value.ref a from rx)
  obtain ⟨_,_,_,n,_,h1⟩:=(show ZC X.prog X.w H s.heap a (.frz ob (.lst xs)) from I.hok a _ ea)
  exact PySem.W.kia_one PySem.W.kitx_list I.kIn ⟨_,h1,rfl⟩ e (fun z=>nomatch z) h
 | @tup a xs ea=>
  cases (show u=Value.ref a from rx)
  obtain ⟨_,_,_,p,_⟩:=(show ZC X.prog X.w H s.heap a (.tup xs) from I.hok a _ ea)
  obtain ⟨o,h1,h2,_⟩:=p
  exact PySem.W.kia_one PySem.W.kitx_tuple I.kIn ⟨o,h1,h2⟩ e (fun z=>nomatch z) h
 | @dK a kvs ea=>
  cases (show u=Value.ref a from rx)
  obtain ⟨_,_,vs,_,p⟩:=(show ZC X.prog X.w H s.heap a (.dK kvs) from I.hok a _ ea)
  obtain ⟨o,es,ep,h1,h2,_⟩:=p
  exact PySem.W.kia_one PySem.W.kitx_dict I.kIn ⟨o,h1,h2.1⟩ e (fun z=>nomatch z) h
 | @dT a kvs ea=>
  cases (show u=Value.ref a from rx)
  obtain ⟨_,_,xs,_,o,es,ep,h1,h2,_⟩:=(show ZC X.prog X.w H s.heap a (.dT kvs) from I.hok a _ ea)
  exact PySem.W.kia_one PySem.W.kitx_dict I.kIn ⟨o,h1,h2.1⟩ e (fun z=>nomatch z) h
 | @ins a C dx fs ea cl ha hn htk hm=>
  cases (show u=Value.ref a from rx)
  obtain ⟨mA,O,_⟩:=QE I.hok ea
  obtain ⟨od,J,_⟩:=O.look
  exact PySem.W.kia_one (PySem.W.kitx_own (cl.get _) cl.hd ha hn htk hm) I.kIn J e (fun z=>nomatch z) h
end
end L2
namespace L2
open PySem PySem.Spec PyProof.Rows
structure Jk (k:Nat) (A:Around):Prop where
 hd:A.handled=none
 dp:A.depth+3*k+5 < recursionLimit
 un:A.units+16*k+200 < cLine
 gd:A.guards=some []
theorem Jk.mono {j k:Nat} {A:Around} (r:Jk k A) (h:j<=k):Jk j A:=⟨r.hd,by have:=r.dp; omega,by have:=r.un; omega,r.gd⟩
theorem Jk.deeper {k:Nat} {A:Around} (r:Jk (k+1) A) (env:Env):Jk k (A.deeper env):=
 ⟨r.hd,by have:=r.dp; show A.depth+1+3*k+5 < _; omega,by have:=r.un; show A.units+3+16*k+200 < _; omega,r.gd⟩
theorem Jk.depth {k:Nat} {A:Around} (r:Jk k A):A.depth < recursionLimit:=by have:=r.dp; omega
theorem Jk.units {k:Nat} {A:Around} (r:Jk k A):A.units+64 < cLine:=by have:=r.un; omega
def gA:TA:=fun _ H Q=>Q [] H
def kw (ta:TE) (tr:TA):TA:=fun σ H Q=>ta σ H fun x H1=>tr σ H1 fun xs H2=>Q (x :: xs) H2
section
variable {X:Cx} {e:Expr} {es:List Expr} {te:TE} {t:TA} {pos:Pos}
theorem Zi:PA X [] gA:=fun _ _ _ _ H Q I h=>Calls.spliced_nil ⟨[],H,I, .nil,h⟩
theorem zB (ha:PE X e te) (hr:PA X es t) (hs:starEach (e :: es) X.env=(false,eval e X.env) :: starEach es X.env:=by rfl):PA X (e :: es) (kw te t):=by
 intro pos pins s σ H Q I h
 rw [hs]
 show wpAny _ _ (spliced ((false,eval e X.env) :: backTo pos (starEach es X.env))) _ _ s
 refine Calls.spliced_cons (thn (ha pins s σ H _ I h) fun u s1 ⟨x,H1,I1,r1,q1⟩=> ?_)
 exact thn (hr pos pins s1 σ H1 _ I1 q1) fun us s2 ⟨xs,H2,I2,r2,q2⟩=>⟨x :: xs,H2,I2, .cons r1 r2,q2⟩
def gB (t:TA):TE:=fun σ H Q=>t σ H fun xs H1=>xs.length<=sizeLine/\∀ p,H1 p=none->Q (.ref p) (upd H1 p (.tup xs))
def gC (t:TA):TE:=fun σ H Q=>t σ H fun xs H1=>xs.length<=sizeLine/\∀ p,H1 p=none->Q (.ref p) (upd H1 p (.lst xs))
theorem VW {x1} (h:PA X es t):PE X (.Tuple es x1 pos) (gB t):=by
 intro pins s σ H Q I hq
 refine wpAny_Tuple_spliced (thn (h pos pins s σ H _ I hq) fun us s1 ⟨xs,H1,I1,r,z,q⟩=>⟨by rw [← r.length]; exact z, ?_⟩)
 have hf:H1 s1.heap.objs.size=none:=I1.hok.fresh (Nat.le_refl _)
 refine ⟨.ref s1.heap.objs.size,upd H1 s1.heap.objs.size (.tup xs),I1.laid (t' :=s1.toks) (fun b u e=>Heap.get?_push_of_some _ e) (Nat.le_refl _) ?_,rfl,q _ hf⟩
 exact ⟨z,us,r,⟨_,Heap.get?_push_size _ rfl,rfl,_,rfl⟩, .inr ⟨_,Heap.get?_push_size _ rfl,rfl⟩⟩
theorem qT (h:PA X es t):PE X (.List es pos) (gC t):=by
 intro pins s σ H Q I hq
 refine wpAny_List_spliced (thn (h pos pins s σ H _ I hq) fun us s1 ⟨xs,H1,I1,r,z,q⟩=>⟨by rw [← r.length]; exact z, ?_⟩)
 have hf:H1 s1.heap.objs.size=none:=I1.hok.fresh (Nat.le_refl _)
 refine ⟨.ref s1.heap.objs.size,upd H1 s1.heap.objs.size (.lst xs),I1.laid (t' :=s1.toks) (fun b u e=>Heap.get?_push_of_some _ e) (Nat.le_refl _) ?_,rfl,q _ hf⟩
 exact ⟨z,us,0,r,Heap.get?_push_size _ rfl⟩
end
abbrev Sp:=List V->Hp->VK->XK->Prop
abbrev CXT:=List Env->Hp->Shared->XK->Value->Shared->Prop
structure XH (P:Program) (w:World) (K:PySem.W.Frag) (mg:Str->Option Value) (base:Heap) (A:Around) (outer:List Env) (s:Shared) (H:Hp):Prop where
 frames:A.frames=some outer
 mod:Mod K mg base
 bs:∀ b o,base.get? b=some o->s.heap.get? b=some o/\H b=none
 bsz:base.objs.size<=s.heap.objs.size
 funs:s.heap.FunFrames base outer
 frf:∀ b∈frs outer,H b=none
 hok:HOk P w H s.heap
 bare:AllBare s.gens
def CE (outer:List Env) (P:Program) (w:World) (H:Hp) (s:Shared) (Q:VK) (u:Value) (s' :Shared):Prop:=
 ∃ v H',s'.os=s.os/\AllBare s'.gens/\Un (frs outer) [] H H' s.heap s'.heap/\HOk P w H' s'.heap/\RelV v u/\Q v H'
def CR (CX:CXT) (outer:List Env) (P:Program) (w:World) (H:Hp) (s:Shared) (Q:VK) (E:XK) (r:Result) (s' :Shared):Prop:=
 match r with
 | .ok (.ret u)=>CE outer P w H s Q u s'
 | .ok _=>False
 | .error e=>CX outer H s E e s'
structure Zz (P:Program) (w:World) (K:PySem.W.Frag) (mg:Str->Option Value) (base:Heap) (CX:CXT) (k:Nat) (f:Addr) (fd:FuncData) (ps:List Str) (sp:Sp):Prop where
 len:∀ vs H Q E,sp vs H Q E->vs.length=ps.length
 run:∀ (A:Around) (outer:List Env) (s:Shared) (H:Hp) (args:Args) (us:List Value) (vs:List V) (Q:VK) (E:XK),Jk k A->XH P w K mg base A outer s H->BindsTo s fd args (ps.zip us)->Vals vs us->sp vs H Q E->
  codeAny (model P w) A (.call (.ref f) args) (CR CX outer P w H s Q E) s
section
variable {X:Cx} {pins:List (Addr×Obj)} {σ:St} {H:Hp} {s s' :Shared}
theorem Inv.env0 (I:Inv X pins σ H s):XH X.prog X.w X.K X.mg X.base X.A X.stack s H:=
 ⟨I.ok.frames,I.ok.mod,I.bs,Nat.le_trans I.ok.bsz I.sz,I.stack,I.stkFree,I.hok,I.bare⟩
theorem Inv.after {Q:VK} {u:Value} (I:Inv X pins σ H s) (h:CE X.stack X.prog X.w H s Q u s'):EP X pins σ Q u s' :=by
 obtain ⟨v,H',os,bare,un,hok,r,q⟩:=h
 obtain ⟨hh,g,d,t,os'⟩:=s'
 obtain rfl:os' =s.os:=os
 exact ⟨v,H',I.call (h' :=hh) (g' :=g) (d' :=d) (t' :=t) (ch:=[]) un hok bare (fun b z=>absurd z (by simp)),r,q⟩
end
def kx (sp:Sp) (dvs:List V) (E:XK) (t:TA):TE:=fun σ H Q=>t σ H fun vs H1=>sp (vs++dvs) H1 Q E
def Binds (K:PySem.W.Frag) (fd:FuncData) (ps:List Str) (ds:List Value):Prop:=
 ∀ (s:Shared) (us:List Value),K.In s.heap->(us++ds).length=ps.length->BindsTo s fd ⟨us,[]⟩ (ps.zip (us++ds))
theorem Binds.all {K:PySem.W.Frag} {fd:FuncData} {ps:List Str} (h:∀ us:List Value,us.length=ps.length->bindArgs fd ⟨us,[]⟩=pure (ps.zip us)):Binds K fd ps []:=fun s us _ hl=>by
 rw [List.append_nil] at hl ⊢
 exact .of_eq (h us hl)
def JP (CX:CXT) (X:Cx) (E:XK):Prop:=∀ (pins:List (Addr×Obj)) (σ:St) (H:Hp) (s:Shared) (e:Value) (s' :Shared),Inv X pins σ H s->CX X.stack H s E e s' ->X.xe e s'
section
variable {X:Cx} {CX:CXT} {k:Nat} {f C:Addr} {fd:FuncData} {ps:List Str} {sp:Sp} {dvs:List V} {ds:List Value} {E:XK} {x m:Str} {p pos apos:Pos} {e o:Expr} {es:List Expr} {ta:TE} {t:TA}
theorem VX {pins:List (Addr×Obj)} {σ:St} {H:Hp} {s:Shared} {Q:VK} {us:List Value} {vs:List V} (F:Zz X.prog X.w X.K X.mg X.base CX k f fd ps sp) (hr:Jk k X.A) (hb:Binds X.K fd ps ds) (hd:Vals dvs ds) (hx:JP CX X E)
  (I:Inv X pins σ H s) (r:Vals vs us) (h:sp (vs++dvs) H Q E):wpAny (model X.prog X.w) X.A (call (.ref f) us) (EP X pins σ Q) X.xe s:=by
 have r2:Vals (vs++dvs) (us++ds):=r.append hd
 have hl:(us++ds).length=ps.length:=by rw [← r2.length]; exact F.len _ _ _ _ h
 refine wpAny_call (codeAny_mono (F.run X.A X.stack s H ⟨us,[]⟩ (us++ds) (vs++dvs) Q E hr I.env0 (hb s us I.kIn hl) r2 h) fun r s' hq=> ?_)
 cases r with
 | error e=>exact hx pins σ H s e s' I hq
 | ok fl=>
  cases fl with
  | ret u=>exact I.after hq
  | next=>exact False.elim hq
  | brk=>exact False.elim hq
  | cont=>exact False.elim hq
theorem QF (F:Zz X.prog X.w X.K X.mg X.base CX k f fd ps sp) (hr:Jk k X.A) (hg:Gl X x) (hm:X.mg x=some (.ref f)) (hk:PySem.W.keepIn X.K (.ref f)=true) (hb:Binds X.K fd ps ds) (hd:Vals dvs ds) (hx:JP CX X E)
  (ha:PA X (e :: es) t) (hdb:(x == ("__debug__":Str))=false:=by decide) (he:starEach (e :: es) X.env=(false,eval e X.env) :: starEach es X.env:=by rfl) (hpl:(backTo pos (starEach es X.env)).any (·.1)=false:=by rfl):
  PE X (.Call (.Name x p) (e :: es) [] pos) (kx sp dvs E t):=by
 intro pins s σ H Q I h
 refine wpAny_Call_Name_kw (Uk I hg hm ?_ hdb)
 refine PySem.W.callWith_K (h₀:=X.base) I.ok.mod.kin hk (thn (ha pos pins s σ H _ I h) fun us s1 ⟨vs,H1,I1,r,q⟩=>⟨I1.kIn, ?_⟩) he hpl
 exact VX F hr hb hd hx I1 r q
end
section
variable {X:Cx} {CX:CXT} {k:Nat} {f C:Addr} {fd:FuncData} {ps ks:List Str} {sp:Sp} {E:XK} {x m:Str} {p pos apos kpos:Pos} {e o:Expr} {es:List Expr} {kws:List Keyword} {te ta:TE} {t tk:TA} {nm:Option Str}
variable {g:List Value->List Value->List Value} {gV:List V->List V->List V}
end
structure zm (N P:List Str) (sc:Scope):Prop where
 kind:sc.kind= .function
 co:sc.isCoroutine=false
 gen:sc.isGenerator=false
 nd:N.Nodup
 pre:N.take P.length=P
 par:∀ x∈P,sc.names.lookup x=some .local\/sc.names.lookup x=some .cell
 nofree:∀ y∈sc.names,y.2 ≠ .free
theorem wO {kindOf:Str->Option NameKind} {x:Str}:∀ {binds:List (Str×Value)} {m:Str->Option Value},(∀ v,(x,v) ∉ binds)->bindL kindOf binds m x=m x
 | [],_,_=>rfl
 | (n,v) :: r,m,h=>by
  unfold bindL
  rw [wO fun w hw=>h w (List.mem_cons_of_mem _ hw)]
  split
  ·have:x ≠ n:=by rintro rfl; exact h v List.mem_cons_self
   simp [this]
  ·rfl
theorem wP {kindOf:Str->Option NameKind} {x:Str}:∀ {binds:List (Str×Value)} {m:Str->Option Value},(∀ v,(x,v) ∉ binds)->bindC kindOf binds m x=m x
 | [],_,_=>rfl
 | (n,v) :: r,m,h=>by
  unfold bindC
  rw [wP fun w hw=>h w (List.mem_cons_of_mem _ hw)]
  split
  ·rfl
  ·have:x ≠ n:=by rintro rfl; exact h v List.mem_cons_self
   simp [this]
theorem wQ {kindOf:Str->Option NameKind} {x:Str} {v:Value}:∀ {P:List Str} {vs:List Value} {i:Nat} {m:Str->Option Value},P.Nodup->P[i]? =some x->vs[i]? =some v->kindOf x=some .local->
  bindL kindOf (P.zip vs) m x=some v
 | [],_,_,_,_,h,_,_=>by simp at h
 | _ :: _,[],_,_,_,_,h,_=>by simp at h
 | p :: P,w :: vs,0,m,nd,h1,h2,hk=>by
  simp at h1 h2; subst h1; subst h2
  show bindL kindOf ((p,w) :: P.zip vs) m p=_
  unfold bindL
  rw [wO fun v hv=>(List.nodup_cons.mp nd).1 (List.of_mem_zip hv).1,if_pos hk]
  simp
 | p :: P,w :: vs,i+1,m,nd,h1,h2,hk=>by
  show bindL kindOf ((p,w) :: P.zip vs) m x=_
  unfold bindL
  exact wQ (i:=i) (List.nodup_cons.mp nd).2 (by simpa using h1) (by simpa using h2) hk
theorem wR {kindOf:Str->Option NameKind} {x:Str} {v:Value}:∀ {P:List Str} {vs:List Value} {i:Nat} {m:Str->Option Value},P.Nodup->P[i]? =some x->vs[i]? =some v->kindOf x ≠ some .local->
  bindC kindOf (P.zip vs) m x=some v
 | [],_,_,_,_,h,_,_=>by simp at h
 | _ :: _,[],_,_,_,_,h,_=>by simp at h
 | p :: P,w :: vs,0,m,nd,h1,h2,hk=>by
  simp at h1 h2; subst h1; subst h2
  show bindC kindOf ((p,w) :: P.zip vs) m p=_
  unfold bindC
  rw [wP fun v hv=>(List.nodup_cons.mp nd).1 (List.of_mem_zip hv).1,if_neg hk]
  simp
 | p :: P,w :: vs,i+1,m,nd,h1,h2,hk=>by
  show bindC kindOf ((p,w) :: P.zip vs) m x=_
  unfold bindC
  exact wR (i:=i) (List.nodup_cons.mp nd).2 (by simpa using h1) (by simpa using h2) hk
def start (N:List Str) (vs:List V):St:=vs.map some++List.replicate (N.length - vs.length) none
def QG (CX:CXT) (P:Program) (w:World) (K:PySem.W.Frag) (mg:Str->Option Value) (base:Heap) (N:List Str) (qual:Str) (scope:Scope) (f:Addr) (cd:Value) (A:Around) (outer:List Env) (s:Shared) (H:Hp) (E:XK):Cx where
 prog:=P
 w:=w
 K:=K
 mg:=mg
 base:=base
 A:=A.deeper (envOfC qual scope s.heap.objs.size f cd)
 N:=N
 s₀:=s
 H₀:=H
 env:=envOfC qual scope s.heap.objs.size f cd
 outer:=outer
 stack:=envOfC qual scope s.heap.objs.size f cd :: outer
 ex:=[]
 calm:=true
 fn:=fun _=>true
 pn:=[]
 xe:=fun e s' =>wpAny (model P w) (A.deeper (envOfC qual scope s.heap.objs.size f cd)) (leaving (envOfC qual scope s.heap.objs.size f cd) e) (fun _ s'' =>CX outer H s E e s'') (fun e' s'' =>CX outer H s E e' s'') s'
theorem WT {sc:Scope} {n:Nat} {x:Str} (h:sc.names.lookup x=some .cell):∃ c,(cellsFrom n sc.names []).lookup x=some c:=by
 have q:=PySem.W.cellsFrom_some sc.names n [] (.inl h)
 exact Option.isSome_iff_exists.mp q
theorem Uz {CX:CXT} {P:Program} {w:World} {K:PySem.W.Frag} {mg:Str->Option Value} {base:Heap} {N ps:List Str} {qual:Str} {scope:Scope} {f:Addr} {cd:Value} {A:Around} {outer:List Env} {s s1:Shared} {H:Hp} {E:XK} {us:List Value} {vs:List V}
  (S:zm N ps scope) (hd:A.handled=none) (e0:XH P w K mg base A outer s H) (hl:vs.length=ps.length) (r:Vals vs us)
  (x:InCallC s s.heap.objs.size (bindL (envOfC qual scope s.heap.objs.size f cd).kindOf (ps.zip us) fun _=>none) (cellsFrom (s.heap.objs.size+1) scope.names []) (bindC (envOfC qual scope s.heap.objs.size f cd).kindOf (ps.zip us) fun _=>none) s1):
  Inv (QG CX P w K mg base N qual scope f cd A outer s H E) [] (start N vs) H s1:=by
 have hpl:ps.length<=N.length:=by have:=congrArg List.length S.pre; rw [List.length_take] at this; omega
 obtain ⟨h1,tk,rfl,hk⟩:=x.done
 have noA:∀ b:Addr,b ∉ (QG CX P w K mg base N qual scope f cd A outer s H E).ex:=fun b z=>absurd (show b∈([]:List Addr) from z) (by simp)
 refine ⟨⟨e0.mod,S.kind,rfl,rfl,Nat.le_refl _,fun y z c h1 h2=> ?_,fun y hy=> ?_,fun y c _ h=> ?_,fun _=>hd,Around.frames_deeper e0.frames, .inr ⟨rfl,rfl⟩,fun b z=>absurd z (noA b),e0.bs,e0.bsz,fun b _ _=>noA b,fun b z=>absurd z (noA b),e0.funs,e0.frf⟩,
  rfl,e0.bare,Un.kept hk,⟨_,x.toInCall.ns,fun i y v h1 h2 h3=> ?_⟩,fun y c h=>⟨_,x.cell y c h⟩,e0.hok.fresh (Nat.le_refl _),fun y c h=> ?_,fun p hp=>absurd (show p∈([]:List (Addr×Obj)) from hp) (by simp),e0.hok.kept hk, ?_⟩
 ·exact name_of_addr x.apart (PySem.mem_of_lookup h1) (PySem.mem_of_lookup h2)
 ·have hy:scope.names.lookup y=some .cell\/scope.names.lookup y=some .free:=hy
  rcases hy with hy | hy
  ·exact WT hy
  ·exact absurd rfl (S.nofree _ (PySem.mem_of_lookup hy))
 ·exact Nat.le_of_lt (x.above y c (PySem.mem_of_lookup h))
 ·have hi:i < vs.length:=by
   unfold start at h2
   by_cases hi:i < vs.length
   ·exact hi
   ·rw [List.getElem?_append_right (by simpa using hi)] at h2
    rw [List.getElem?_replicate] at h2
    split at h2 <;> cases h2
  have ha:vs[i]? =some v:=by
   unfold start at h2
   rw [List.getElem?_append_left (by simpa using hi),List.getElem?_map] at h2
   cases e:vs[i]? with
   | none=>rw [e] at h2; cases h2
   | some a=>rw [e] at h2; cases h2; rfl
  obtain ⟨u,hu,rv⟩:=r.get ha
  have hp:ps[i]? =some y:=by
   rw [← S.pre,List.getElem?_take_of_lt (by omega)]; exact h1
  have ndP:ps.Nodup:=by rw [← S.pre]; exact S.nd.sublist (List.take_sublist _ _)
  refine ⟨u,rv, ?_⟩
  rcases S.par y (List.mem_of_getElem? hp) with k | k
  ·exact .inl ⟨k,wQ ndP hp hu k⟩
  ·obtain ⟨c,e⟩:=WT (n:=s.heap.objs.size+1) k
   refine .inr ⟨.inl k,c,e, ?_⟩
   have q:=x.cell y c e
   rw [wR ndP hp hu (by show scope.names.lookup y ≠ _; rw [k]; decide)] at q
   exact q
 ·exact e0.hok.fresh (Nat.le_of_lt (x.above y c (PySem.mem_of_lookup h)))
 ·unfold start
  show _=N.length
  rw [List.length_append,List.length_map,List.length_replicate]
  omega
theorem ky {CX:CXT} {P:Program} {w:World} {K:PySem.W.Frag} {mg:Str->Option Value} {base:Heap} {k:Nat} {f:Addr} {name qual:Str} {params:Arguments} {body:List Stmt} {scope:Scope} {dV kV doc pm cdv ct oc:Value} {an od:Option Addr}
  {osl:Array (Option Value)} {N ps:List Str} {sp:Sp} (lk:K.lookup f=some ⟨oc,od, .func (PySem.W.fnOf name qual params body scope dV kV doc pm an cdv ct),osl⟩) (hcd:PySem.W.codeIn K cdv qual=true) (S:zm N ps scope)
  (len:∀ vs H Q E,sp vs H Q E->vs.length=ps.length)
  (hbody:∀ (A:Around) (outer:List Env) (s:Shared) (H:Hp) (vs:List V) (Q:VK) (E:XK),Jk k (A.deeper (envOfC qual scope s.heap.objs.size f cdv))->sp vs H Q E->
   ∃ t,PSs (QG CX P w K mg base N qual scope f cdv A outer s H E) body t/\t { nx:=fun _ H' =>Q .non H',rt:=Q } (start N vs) H):
  Zz P w K mg base CX (k+1) f (PySem.W.fnOf name qual params body scope dV kV doc pm an cdv ct) ps sp:=by
 refine ⟨len,fun A outer s H args us vs Q E hr e0 hb r hsp=> ?_⟩
 have hl:=len _ _ _ _ hsp
 have KX:K.In s.heap:=e0.mod.kin.keeps fun b o e=>(e0.bs b o e).1
 have lim:s.heap.NoLimit:=e0.mod.nolimit.keeps fun b o e=>(e0.bs b o e).1
 have hkind:∀ y∈ps.zip us,scope.names.lookup y.1=some .local\/(scope.names.lookup y.1=some .cell/\((cellsFrom (s.heap.objs.size+1) scope.names []).lookup y.1).isSome=true):=fun ⟨n,v⟩ hy=>by
  rcases S.par n (List.of_mem_zip hy).1 with q | q
  ·exact .inl q
  ·exact .inr ⟨q,PySem.W.cellsFrom_some _ _ _ (.inl q)⟩
 refine codeAny_call_function hr.depth (KX _ _ lk) rfl S.co S.gen rfl (PySem.W.codeRec_of KX hcd) (hb _ _ _ _ ?_)
 refine wpAny_newFunctionEnv_cells S.kind hkind fun env he s1 x=> ?_
 subst he
 refine ⟨lim.keeps x.toInCall.keep,codeAny_func ?_⟩
 obtain ⟨t,ht,hq⟩:=hbody A outer s H vs Q E (hr.deeper _) hsp
 have I:Inv (QG CX P w K mg base N qual scope f cdv A outer s H E) [] (start N vs) H s1:=Uz S hr.hd e0 hl r x
 refine wpAny_mono (ht [] s1 (start N vs) H _ I hq) (fun fl s' hs=> ?_) fun e s' hs=>hs
 have fin:∀ {σ' :St} {H' :Hp} {v:V} {u:Value},Inv (QG CX P w K mg base N qual scope f cdv A outer s H E) [] σ' H' s' ->RelV v u->Q v H' ->CE outer P w H s Q u s' :=
  fun {σ' H' v u} J rv q=>⟨v,H',J.os,J.bare,J.base,J.hok,rv,q⟩
 cases fl with
 | ret u=>
  obtain ⟨v,σ',H',J,rv,q⟩:=hs
  exact fin J rv q
 | next=>
  obtain ⟨σ',H',J,q⟩:=hs
  exact fin (v:=V.non) (u:=Value.none) J rfl q
 | brk=>
  obtain ⟨_,_,_,q⟩:=hs
  exact False.elim q
 | cont=>
  obtain ⟨_,_,_,q⟩:=hs
  exact False.elim q
end L2
namespace L2
open PySem PySem.Spec PyProof.Rows
section
variable {X:Cx} {x:Str} {p pos:Pos} {e:Expr} {es:List Expr} {t:TA} {id T:String} {r:List V->Hp->VK->Prop}
def tCB (r:List V->Hp->VK->Prop) (t:TA):TE:=fun σ H Q=>t σ H fun vs H1=>r vs H1 Q
theorem jk (hc:ZD X (.builtin id) r) (hg:Gl X x) (hm:X.mg x=none) (hv:bootBuiltins x=some (.builtin id)) (ha:PA X (e :: es) t) (hn:x ≠ "__name__":=by decide) (hdb:(x == ("__debug__":Str))=false:=by decide)
  (he:starEach (e :: es) X.env=(false,eval e X.env) :: starEach es X.env:=by rfl) (hpl:(backTo pos (starEach es X.env)).any (·.1)=false:=by rfl):PE X (.Call (.Name x p) (e :: es) [] pos) (tCB r t):=by
 intro pins s σ H Q I h
 refine wpAny_Call_Name_kw (j7 I hg hm hv ?_ hn hdb)
 exact PyProof.Rows.callWith_builtin1 (thn (ha pos pins s σ H _ I h) fun us s1 ⟨vs,H1,I1,r1,q1⟩=>hc pins s1 σ H1 vs us Q I1 r1 q1) he hpl
theorem jy (hc:ZD X (.type T) r) (hg:Gl X x) (hm:X.mg x=none) (hv:bootBuiltins x=some (.type T)) (ha:PA X (e :: es) t) (hn:x ≠ "__name__":=by decide) (hdb:(x == ("__debug__":Str))=false:=by decide)
  (he:starEach (e :: es) X.env=(false,eval e X.env) :: starEach es X.env:=by rfl) (hpl:(backTo pos (starEach es X.env)).any (·.1)=false:=by rfl):PE X (.Call (.Name x p) (e :: es) [] pos) (tCB r t):=by
 intro pins s σ H Q I h
 refine wpAny_Call_Name_kw (j7 I hg hm hv ?_ hn hdb)
 exact PyProof.Rows.callWith_type1 (thn (ha pos pins s σ H _ I h) fun us s1 ⟨vs,H1,I1,r1,q1⟩=>hc pins s1 σ H1 vs us Q I1 r1 q1) he hpl
end
end L2
namespace HT
open PySem PyProof.Rows
section
open PySem.SeqAt
open PySem.AutoSeq1 (wpAny_loadPart')
open PySem.MeetsSeq PySem.MeetsSeq2 PySem.MeetsSeq3
end
section
variable {prog:Program} {w:World} {A:Around} {E:Value->Shared->Prop} {s:Shared}
theorem cat_tup {t b:Addr} {vs ws:List Value} {Q:Value->Shared->Prop} (ht:IsTup s.heap t vs.toArray) (hb:IsTup s.heap b ws.toArray) (hv:vs ≠ [])
  (h1:ws=[]->Q (.ref t) s) (h2:ws ≠ []->Q (.ref s.heap.objs.size) { s with heap:=s.heap.push { cls:= .type "tuple",data:= .seq (vs++ws).toArray } })
  (hsz:vs.length+ws.length<=sizeLine):wpAny (model prog w) A (binaryOp .Add (.ref t) (.ref b)) Q E s:=by
 obtain ⟨⟨cls,dd,data,sl⟩,ho,hc,n,hd⟩:=id ht
 obtain ⟨⟨cls2,dd2,data2,sl2⟩,ho2,hc2,n2,hd2⟩:=id hb
 simp only at hc hd hc2 hd2
 subst hc hd hc2 hd2
 have e:vs.toArray++ws.toArray=(vs++ws).toArray:=by simp
 by_cases hw:ws=[]
 ·exact concat_meets ⟨_,ho,rfl⟩ ⟨_,ho2,rfl⟩ noFill_tuple_add seq_tuple_add PySem.F.slot_tuple_add PySem.F.entry_tuple_add (PySem.F.args_tuple_add_2 _ _)
   (tuple_addW1 t b vs.toArray ws.toArray n n2 dd dd2 sl sl2 (by simpa using hv) (by simp [hw])) ⟨ho,ho2,h1 hw⟩
 ·refine concat_meets ⟨_,ho,rfl⟩ ⟨_,ho2,rfl⟩ noFill_tuple_add seq_tuple_add PySem.F.slot_tuple_add PySem.F.entry_tuple_add (PySem.F.args_tuple_add_2 _ _)
   (tuple_addW2 t b vs.toArray ws.toArray n n2 dd dd2 sl sl2 (by simpa using hv) (by simpa using hw) (by rw [List.size_toArray,List.size_toArray]; exact hsz)) ⟨ho,ho2, ?_⟩
  rw [e]
  exact h2 hw
def sIx (n d:Nat):Option Int->Nat
 | none=>d
 | some v=>if v < 0 then (v+(n:Int)).toNat else min v.toNat n
theorem sIx_none (n d:Nat):sIx n d none=d:=rfl
theorem sIx_nat (n d k:Nat):sIx n d (some (k:Int))=min k n:=by
 show (if (k:Int) < 0 then ((k:Int)+(n:Int)).toNat else min (k:Int).toNat n)=min k n
 rw [if_neg (by omega),Int.toNat_natCast]
theorem VY (n d:Nat) (hd:d<=n) (o:Option Int):sIx n d o<=n:=by
 cases o with
 | none=>exact hd
 | some v=>
  show (if v < 0 then (v+(n:Int)).toNat else min v.toNat n)<=n
  by_cases hv:v < 0
  ·rw [if_pos hv]; omega
  ·rw [if_neg hv]; exact Nat.min_le_right _ _
theorem UA (v:Int) (n d:Nat):(if v < 0 then max (v+(n:Int)) 0 else min v (n:Int))=((sIx n d (some v):Nat):Int):=by
 show (if v < 0 then max (v+(n:Int)) 0 else min v (n:Int))=(((if v < 0 then (v+(n:Int)).toNat else min v.toNat n):Nat):Int)
 by_cases hv:v < 0
 ·simp only [if_pos hv]; omega
 ·simp only [if_neg hv]; omega
theorem uL (lo hi:Option Int) (n:Nat):Builtin.Slice.sliceAdjust lo hi 1 (n:Int)=(((sIx n 0 lo:Nat):Int),((sIx n n hi:Nat):Int)):=by
 have h1:¬ ((1:Int) < 0):=by omega
 unfold Builtin.Slice.sliceAdjust
 simp only [h1,if_false]
 refine Prod.ext ?_ ?_
 ·cases lo with
  | none=>rfl
  | some v=>exact UA v n 0
 ·cases hi with
  | none=>rfl
  | some v=>exact UA v n n
theorem uM (i j:Nat):Builtin.Slice.slicePlaces (i:Int) (j:Int) 1=j - i:=by
 unfold Builtin.Slice.slicePlaces
 have h1:(1:Int) > 0:=by omega
 simp only [h1,if_true,Int.ediv_one]
 split <;> omega
theorem JQ {v:Value} {o:Option Int} {Q:Option Int->Shared->Prop} (p:IsPart v o) (h:Q o s):wpAny (model prog w) A (Builtin.Slice.slicePartIndex v) Q E s:=by
 cases p with
 | none=>exact slicePart_none h
 | int i t=>exact slicePart_int h
theorem sliceApplied_gen {sl:Addr} {vl vu:Value} {lo hi:Option Int} {n:Nat} {Q:Int×Int×Nat->Shared->Prop} (hs:s.heap.IsSliceOf sl vl vu .none) (pl:IsPart vl lo) (pu:IsPart vu hi)
  (h:Q (((sIx n 0 lo:Nat):Int),1,sIx n n hi - sIx n 0 lo) s):wpAny (model prog w) A (Builtin.Slice.sliceApplied (.ref sl) (pure (n:Int))) Q E s:=by
 obtain ⟨os,hos,hcs,hds⟩:=id hs
 unfold Builtin.Slice.sliceApplied Builtin.Slice.sliceFields
 refine wpAny_bind (wpAny_bind (wpAny_field hos hds (x:=vl) rfl (wpAny_bind (wpAny_field hos hds (x:=vu) rfl (wpAny_bind (wpAny_field hos hds (x:= .none) rfl (wpAny_pure ?_)))))))
 refine wpAny_bind (slicePart_none ?_)
 show wpAny _ _ (if ((1:Int) == 0)=true then _ else _) _ _ s
 rw [if_neg (by decide)]
 refine wpAny_bind (JQ pl (wpAny_bind (JQ pu (wpAny_bind (wpAny_pure ?_)))))
 show wpAny _ _ (match Builtin.Slice.sliceAdjust lo hi 1 (n:Int) with | (lo,hi)=>pure (lo,(1:Int),Builtin.Slice.slicePlaces lo hi 1)) _ _ s
 rw [uL lo hi n]
 show wpAny _ _ (pure (((sIx n 0 lo:Nat):Int),(1:Int),Builtin.Slice.slicePlaces ((sIx n 0 lo:Nat):Int) ((sIx n n hi:Nat):Int) 1)) _ _ s
 rw [uM]
 exact wpAny_pure h
theorem YI (xs:Array Value) (i k:Nat):((List.range k).filterMap fun (m:Nat)=>xs[((i:Int)+(m:Int)*1).toNat]?).toArray=((xs.toList.drop i).take k).toArray:=by
 have e:(fun (m:Nat)=>xs[((i:Int)+(m:Int)*1).toNat]?)=fun m=>xs[i+m]? :=by
  funext m
  have:((i:Int)+(m:Int)*1).toNat=i+m:=by omega
  rw [this]
 rw [e]
 have:=pick_run xs i k
 rw [List.filterMap_map] at this
 have e2:((fun x=>xs[x]?) ∘ fun x=>i+x)=fun m=>xs[i+m]? :=rfl
 rw [e2] at this
 rw [this]
theorem getItem_tuple_cut {t sl:Addr} {items:Array Value} {vl vu:Value} {lo hi:Option Int} {Q:Value->Shared->Prop} (ht:IsTup s.heap t items) (hs:s.heap.IsSliceOf sl vl vu .none) (pl:IsPart vl lo) (pu:IsPart vu hi)
  (hw:¬ (sIx items.size 0 lo=0/\sIx items.size items.size hi=items.size))
  (h:Q (.ref s.heap.objs.size) { s with heap:=s.heap.push { cls:= .type "tuple",data:= .seq ((items.toList.drop (sIx items.size 0 lo)).take (sIx items.size items.size hi - sIx items.size 0 lo)).toArray } })
  (hsz:items.size<=sizeLine):wpAny (model prog w) A (getItem (.ref t) (.ref sl)) Q E s:=by
 have htake:sizeOk (.seq ((items.toList.drop (sIx items.size 0 lo)).take (sIx items.size items.size hi - sIx items.size 0 lo)).toArray):=by
  show ((items.toList.drop (sIx items.size 0 lo)).take (sIx items.size items.size hi - sIx items.size 0 lo)).toArray.size<=sizeLine
  rw [List.size_toArray,List.length_take,List.length_drop,Array.length_toList]
  omega
 have hj:sIx items.size items.size hi<=items.size:=VY _ _ (Nat.le_refl _) hi
 obtain ⟨os,hos,hcs,hds⟩:=id hs
 have hTs:s.TypeIs (.ref sl) "slice":=⟨os,hos,hcs⟩
 unfold getItem
 try with_reducible refine wpAny_holding ?_
 first | refine wpAny_bind (wpAny_pure ?_) | skip
 refine wpAny_bind (wpAny_sequenceKey ht.typeIs (by decide) ?_)
 refine wpAny_bind (wpAny_callSpecial?_slot (name:=Str.ofString "__getitem__") ht.typeIs PyProof.Rows.slot_tuple_getitem
  (wpAny_call_entry PyProof.Rows.slot_tuple_getitem ht.typeIs entry_tuple_getitem ?_ (args_tuple_getitem _ _)))
 show wpAny _ _ (Builtin.Tuple.tupleItemsOf (.ref t) >>= _) _ _ s
 refine wpAny_bind (tupleItemsOf_ ht ?_)
 refine wpAny_bind (wpAny_typeOf hTs ?_)
 rw [if_pos (by decide)]
 refine wpAny_bind (sliceApplied_gen hs pl pu ?_)
 have hno:¬ ((((sIx items.size 0 lo:Nat):Int) == 0 && (1:Int) == 1 && (sIx items.size items.size hi - sIx items.size 0 lo) == items.size)=true):=by
  intro q
  rw [Bool.and_eq_true,Bool.and_eq_true] at q
  have q1:((sIx items.size 0 lo:Nat):Int)=0:=eq_of_beq q.1.1
  have q2:sIx items.size items.size hi - sIx items.size 0 lo=items.size:=eq_of_beq q.2
  exact hw ⟨by omega,by omega⟩
 show wpAny _ _ (if (((sIx items.size 0 lo:Nat):Int) == 0 && (1:Int) == 1 && (sIx items.size items.size hi - sIx items.size 0 lo) == items.size)=true then _ else _) _ _ s
 rw [if_neg hno,YI]
 first
  | exact wpAny_bind (m:=Builtin.Tuple.tupleExact _) (wpAny_newObj_type (wpAny_pure ⟨_,rfl,wpAny_pure h⟩) htake)
  | exact wpAny_bind (m:=Builtin.Tuple.tupleExact _) (wpAny_newObj_type (wpAny_bind (wpAny_pure (wpAny_pure ⟨_,rfl,wpAny_pure h⟩))) htake)
  | exact wpAny_bind (wpAny_bind (m:=Builtin.Tuple.tupleExact _) (wpAny_newObj_type (wpAny_pure (wpAny_pure ⟨_,rfl,wpAny_pure h⟩)) htake))
  | exact wpAny_bind (wpAny_bind (m:=Builtin.Tuple.tupleExact _) (wpAny_newObj_type (wpAny_pure ⟨_,rfl,wpAny_pure h⟩) htake))
end
end HT
namespace L2
open PySem PySem.Spec PyProof.Rows
abbrev TO:=St->Hp->(Option Int->Hp->Prop)->Prop
def PO (X:Cx) (e:Option Expr) (t:TO):Prop:=
 ∀ (pins:List (Addr×Obj)) (s:Shared) (σ:St) (H:Hp) (Q:Option Int->Hp->Prop),Inv X pins σ H s->t σ H Q->
  wpAny (model X.prog X.w) X.A (evalPart e X.env) (fun u s' =>∃ o H',Inv X pins σ H' s' /\IsPart u o/\Q o H') X.xe s
def QH:TO:=fun _ H Q=>Q none H
def kz (t:TE):TO:=fun σ H Q=>t σ H fun x H1=>∃ i,x= .int i/\Q (some i) H1
section
variable {X:Cx} {e:Expr} {te:TE} {lo hi:Option Expr} {tl th:TO} {pos p2:Pos}
theorem QI:PO X none QH:=by
 intro pins s σ H Q I h
 rw [evalPart_none]
 exact wpAny_pure ⟨none,H,I, .none,h⟩
theorem QJ (h:PE X e te):PO X (some e) (kz te):=by
 intro pins s σ H Q I hw
 rw [evalPart_some]
 refine thn (h pins s σ H _ I hw) fun u s1 ⟨x,H1,I1,r1,q1⟩=> ?_
 obtain ⟨i,rfl,q⟩:=q1
 obtain ⟨t,rfl⟩:=r1
 exact ⟨some i,H1,I1, .int i t,q⟩
def SlR (X:Cx) (r:V->Option Int->Option Int->Hp->VK->Prop):Prop:=
 ∀ (pins:List (Addr×Obj)) (s:Shared) (σ:St) (H:Hp) (x:V) (v vl vu:Value) (lo hi:Option Int) (sl:Addr) (Q:VK),Inv X pins σ H s->RelV x v->s.heap.IsSliceOf sl vl vu .none->IsPart vl lo->IsPart vu hi->r x lo hi H Q->
  ∃ T id,typeLookup (.type T) "__getitem__"=pure (some (.builtin id))/\s.TypeIs v T/\wpAny (model X.prog X.w) X.A (getItem v (.ref sl)) (EP X pins σ Q) X.xe s
theorem SlR.or {r r' :V->Option Int->Option Int->Hp->VK->Prop} (h:SlR X r) (h' :SlR X r'):SlR X (fun x lo hi H Q=>r x lo hi H Q\/r' x lo hi H Q):=by
 intro pins s σ H x v vl vu lo hi sl Q I rx hs pl pu q
 rcases q with q | q
 ·exact h pins s σ H x v vl vu lo hi sl Q I rx hs pl pu q
 ·exact h' pins s σ H x v vl vu lo hi sl Q I rx hs pl pu q
def tSl (r:V->Option Int->Option Int->Hp->VK->Prop) (te:TE) (tl th:TO):TE:=fun σ H Q=>te σ H fun x H1=>tl σ H1 fun l H2=>th σ H2 fun u H3=>r x l u H3 Q
theorem YJ {r:V->Option Int->Option Int->Hp->VK->Prop} (hr:SlR X r) (he:PE X e te) (hl:PO X lo tl) (hu:PO X hi th):PE X (.Subscript e (.Slice lo hi none p2) pos) (tSl r te tl th):=by
 intro pins s σ H Q I h
 refine Subscript_ (thn (he pins s σ H _ I h) fun v s1 ⟨x,H1,I1,r1,q1⟩=> ?_)
 refine wpAny_Slice (thn (hl pins s1 σ H1 _ I1 q1) fun vl s2 ⟨l,H2,I2,pl,q2⟩=>thn (hu pins s2 σ H2 _ I2 q2) fun vu s3 ⟨u,H3,I3,pu,q3⟩=> ?_)
 rw [evalPart_none]
 refine wpAny_pure ?_
 have I4:Inv X pins σ H3 { s3 with heap:=s3.heap.push { cls:= .type "slice",data:= .fields #[vl,vu, .none] } }:=I3.kept (t' :=s3.toks) fun b ob q=>Heap.get?_push_of_some _ q
 obtain ⟨T,id,hT,ht,hg⟩:=hr pins { s3 with heap:=s3.heap.push { cls:= .type "slice",data:= .fields #[vl,vu, .none] } } σ H3 x v vl vu l u s3.heap.objs.size Q I4 r1 (Heap.IsSliceOf.new ..) pl pu q3
 show wpAny (model X.prog X.w) X.A (subscriptTail e (.Slice lo hi none p2) v (.ref s3.heap.objs.size)) (EP X pins σ Q) X.xe { s3 with heap:=s3.heap.push { cls:= .type "slice",data:= .fields #[vl,vu, .none] } }
 exact tail_any (ops:=[.ref s3.heap.objs.size,v]) ht hT hg (by with_unfolding_all rfl)
def qU (xs:List V) (lo hi:Option Int):List V:=(xs.drop (HT.sIx xs.length 0 lo)).take (HT.sIx xs.length xs.length hi - HT.sIx xs.length 0 lo)
theorem Jl (xs:List V) (lo hi:Option Int):(qU xs lo hi).length<=xs.length:=by
 unfold qU
 rw [List.length_take,List.length_drop]
 omega
def gD (K:PySem.W.Frag):V->Option Int->Option Int->Hp->VK->Prop:=fun x lo hi H Q=>∃ a xs,x= .ref a/\SqT K H a xs/\
 ¬ (HT.sIx xs.length 0 lo=0/\HT.sIx xs.length xs.length hi=xs.length)/\∀ p,H p=none->Q (.ref p) (upd H p (.tup (qU xs lo hi)))
theorem VZ:SlR X (gD X.K):=by
 intro pins s σ H x v vl vu lo hi sl Q I rx hs pl pu h
 obtain ⟨a,xs,rfl,hx,hw,q⟩:=h
 cases rx
 obtain ⟨its,r,ht,hz⟩:=I.tuple hx
 have hlen:its.toArray.size=xs.length:=by rw [List.size_toArray]; exact r.length.symm
 refine ⟨"tuple",_,PyProof.Rows.slot_tuple_getitem.lookup,ht.typeIs, ?_⟩
 refine HT.getItem_tuple_cut ht hs pl pu (by rw [hlen]; exact hw) ?_ (by rw [hlen]; exact hz)
 rw [hlen]
 refine ⟨.ref s.heap.objs.size,_,I.laid (t' :=s.toks) (o:= .tup (qU xs lo hi)) (fun b ob q=>Heap.get?_push_of_some _ q) (Nat.le_refl _) ?_,rfl,q _ (I.hok.fresh (Nat.le_refl _))⟩
 exact ⟨Nat.le_trans (Jl xs lo hi) hz,_,(r.drop (HT.sIx xs.length 0 lo)).take (HT.sIx xs.length xs.length hi - HT.sIx xs.length 0 lo),ITN.new _ _⟩
def kA (K:PySem.W.Frag):R2:=fun x y H Q=>∃ a b xs ys,x= .ref a/\y= .ref b/\SqT K H a xs/\SqT K H b ys/\xs ≠ []/\xs.length+ys.length<=sizeLine/\
 (ys=[]->Q (.ref a) H)/\(ys ≠ []->∀ p,H p=none->Q (.ref p) (upd H p (.tup (xs++ys))))
theorem Vals.nil_iff {xs:List V} {us:List Value} (r:Vals xs us):us=[]↔xs=[]:=by
 cases r with
 | nil=>simp
 | cons _ _=>simp
theorem QK:OpR X (binaryOp .Add) (kA X.K):=by
 intro pins s σ H x y v u Q I rx ry h
 obtain ⟨a,b,xs,ys,rfl,rfl,ha,hb,hx,hz,q1,q2⟩:=h
 cases rx
 cases ry
 obtain ⟨its,r1,p1,_⟩:=I.tuple ha
 obtain ⟨its2,r2,p2,_⟩:=I.tuple hb
 refine HT.cat_tup p1 p2 (fun z=>hx (r1.nil_iff.mp z)) (fun z=>⟨.ref a,H,I,rfl,q1 (r2.nil_iff.mp z)⟩) (fun z=> ?_) (by rw [← r1.length,← r2.length]; exact hz)
 refine ⟨.ref s.heap.objs.size,_,I.laid (t' :=s.toks) (o:= .tup (xs++ys)) (fun b ob q=>Heap.get?_push_of_some _ q) (Nat.le_refl _) ?_,rfl,q2 (fun w=>z (r2.nil_iff.mpr w)) _ (I.hok.fresh (Nat.le_refl _))⟩
 exact ⟨by rw [List.length_append]; exact hz,_,r1.append r2,ITN.new _ _⟩
end
end L2
namespace L2
open PySem PySem.Spec PyProof.Rows
def ixN (n:Nat) (i:Int):Option Nat:=if 0<=i then (if i < n then some i.toNat else none) else if -(n:Int)<=i then some (i+n).toNat else none
def atI {α:Type} (xs:List α) (i:Int):Option α:=(ixN xs.length i).bind fun j=>xs[j]?
theorem QL {n:Nat} {i:Int} {j:Nat} (h:ixN n i=some j):seqIndex? i n=some j/\j < n/\ -(n:Int)<=i/\i < n:=by
 unfold ixN at h
 by_cases h0:0<=i
 ·rw [if_pos h0] at h
  by_cases h1:i < n
  ·rw [if_pos h1] at h
   have e:i.toNat=j:=Option.some.inj h
   exact ⟨by rw [seqIndex_of h0 h1,e],by omega,by omega,h1⟩
  ·rw [if_neg h1] at h; cases h
 ·rw [if_neg h0] at h
  by_cases h1: -(n:Int)<=i
  ·rw [if_pos h1] at h
   have e:(i+n).toNat=j:=Option.some.inj h
   exact ⟨by rw [seqIndex_neg (by omega) h1,e],by omega,h1,by omega⟩
  ·rw [if_neg h1] at h; cases h
theorem Wz {α:Type} {xs:List α} {i:Int} {v:α} (h:atI xs i=some v):∃ j,seqIndex? i xs.length=some j/\xs[j]? =some v/\j < xs.length/\ -(xs.length:Int)<=i/\i < xs.length:=by
 unfold atI at h
 cases e:ixN xs.length i with
 | none=>rw [e] at h; cases h
 | some j=>
  rw [e] at h
  obtain ⟨h1,h2,h3,h4⟩:=QL e
  exact ⟨j,h1,h,h2,h3,h4⟩
theorem jt {α:Type} {xs:List α} {j:Nat} {v:α} (h:xs[j]? =some v):atI xs (j:Int)=some v:=by
 have hj:j < xs.length:=(List.getElem?_eq_some_iff.mp h).1
 have e:ixN xs.length (j:Int)=some j:=by
  unfold ixN
  rw [if_pos (by omega),if_pos (by omega)]; simp
 unfold atI; rw [e]; exact h
def UB (b:Expr):Prop:=∀ o i,subscripted b false o i=operate [o,i] (getItem o i)
def IxR (X:Cx) (r:R2):Prop:=
 ∀ (value slice:Expr) (pins:List (Addr×Obj)) (s:Shared) (σ:St) (H:Hp) (x y:V) (v u:Value) (Q:VK),Inv X pins σ H s->RelV x v->RelV y u->r x y H Q->
  subscripted slice false v u=operate [v,u] (getItem v u)->wpAny (model X.prog X.w) X.A (subscriptTail value slice v u) (EP X pins σ Q) X.xe s
def MtR (X:Cx) (id:String) (r:V->List V->Hp->VK->Prop):Prop:=
 ∀ (pins:List (Addr×Obj)) (s:Shared) (σ:St) (H:Hp) (x:V) (xs:List V) (v:Value) (us:List Value) (Q:VK),Inv X pins σ H s->RelV x v->Vals xs us->r x xs H Q->
  wpAny (model X.prog X.w) X.A (call (.builtin id) (v :: us)) (EP X pins σ Q) X.xe s
section
variable {X:Cx} {a b:Expr} {ta tb:TE} {pos:Pos}
theorem IxR.or {r r' :R2} (h:IxR X r) (h' :IxR X r'):IxR X (fun x y H Q=>r x y H Q\/r' x y H Q):=by
 intro value slice pins s σ H x y v u Q I rx ry q hs
 rcases q with q | q
 ·exact h value slice pins s σ H x y v u Q I rx ry q hs
 ·exact h' value slice pins s σ H x y v u Q I rx ry q hs
theorem kB {r:R2} (hr:IxR X r) (ha:PE X a ta) (hb:PE X b tb) (hs:UB b):PE X (.Subscript a b pos) (tOp r ta tb):=by
 intro pins s σ H Q I h
 exact Subscript_ (kl ha hb I h fun v u s2 x y H2 I2 rx ry q=>hr a b pins s2 σ H2 x y v u Q I2 rx ry q (hs _ _))
def KC (K:PySem.W.Frag):R2:=fun x y H Q=>∃ p xs i v,x= .ref p/\y= .int i/\SqL K H p xs/\atI xs i=some v/\Q v H
def KD (K:PySem.W.Frag):R2:=fun x y H Q=>∃ p xs i v,x= .ref p/\y= .int i/\SqT K H p xs/\atI xs i=some v/\Q v H
def KF:R2:=fun x y H Q=>∃ z i c,x= .str z/\y= .int i/\z.length<=sizeLine/\atI z.cps.toList i=some c/\Q (.str ⟨#[c]⟩) H
theorem QM:IxR X (KC X.K):=by
 intro value slice pins s σ H x y v u Q I rx ry h hs
 obtain ⟨p,xs,i,z,rfl,rfl,hq,he,q⟩:=h
 cases rx
 obtain ⟨t,rfl⟩:=ry
 obtain ⟨its,r,pl,hz⟩:=I.list hq
 obtain ⟨j,h1,h2,h3,h4,h5⟩:=Wz he
 obtain ⟨w,ew,rw'⟩:=r.get h2
 have hl:=r.length
 have hn:=JO
 have fin:EP X pins σ Q w s:=⟨z,H,I,rw',q⟩
 by_cases h0:0<=i
 ·have hj:i.toNat=j:=by
   rw [seqIndex_of h0 h5] at h1
   exact Option.some.inj h1
  exact item_listR pl.isList h0 (by omega) (by rw [hj]; simpa using ew) fin hs
 ·have hj:(i+(its.toArray.size:Int)).toNat=j:=by
   rw [seqIndex_neg (by omega) h4] at h1
   rw [List.size_toArray,← hl]
   exact Option.some.inj h1
  exact subscriptTail_builtinR (x:=w) pl.isList.typeIs slot_list_getitem.lookup
   (wpAny_getItem_list_neg (Q:=fun r s' =>r=w/\EP X pins σ Q r s') pl.isList (by omega) (by rw [List.size_toArray] <;> omega) (by omega) (by rw [hj]; simpa using ew) ⟨rfl,fin⟩) hs
theorem x6:IxR X (KD X.K):=by
 intro value slice pins s σ H x y v u Q I rx ry h hs
 obtain ⟨p,xs,i,z,rfl,rfl,hq,he,q⟩:=h
 cases rx
 obtain ⟨t,rfl⟩:=ry
 obtain ⟨its,r,pl,hz⟩:=I.tuple hq
 obtain ⟨j,h1,h2,h3,h4,h5⟩:=Wz he
 obtain ⟨w,ew,rw'⟩:=r.get h2
 have hl:=r.length
 have hn:=JO
 have fin:EP X pins σ Q w s:=⟨z,H,I,rw',q⟩
 exact subscriptTail_builtinR (x:=w) pl.typeIs slot_tuple_getitem.lookup
  (getItem_tuple (j:=j) (Q:=fun r s' =>r=w/\EP X pins σ Q r s') pl (by omega) (by omega) (by rw [List.size_toArray,← hl]; exact h1) (by simpa using ew) ⟨rfl,fin⟩) hs
theorem x8:IxR X KF:=by
 intro value slice pins s σ H x y v u Q I rx ry h hs
 obtain ⟨z,i,c,rfl,rfl,hz,he,q⟩:=h
 obtain ⟨t,rfl⟩:=rx
 obtain ⟨t',rfl⟩:=ry
 obtain ⟨j,h1,h2,h3,h4,h5⟩:=Wz he
 have hl:z.cps.toList.length=z.length:=by simp [Str.length]
 rw [hl] at h1 h4 h5
 have hn:=JO
 exact tail_any (typeIs_str s z t) slot_str_getitem.lookup (getItem_str (c:=c) (by
  have e1:decide (i < -(2 ^ 63:Int))=false:=decide_eq_false (by omega)
  have e2:decide (i ≥ 2 ^ 63)=false:=decide_eq_false (by omega)
  rw [e1,e2,Bool.or_false]) (by rw [h1]; simpa using h2) ⟨.str ⟨#[c]⟩,H,I.tok _,⟨_,rfl⟩,q⟩) hs
def rIx (K:PySem.W.Frag):R2:=fun x y H Q=>KC K x y H Q\/KD K x y H Q\/KF x y H Q
theorem x9:IxR X (rIx X.K):=QM.or (x6.or x8)
theorem wS (lo hi:Option Int) (n:Nat):(sliceBounds lo hi none n).1=((HT.sIx n 0 lo:Nat):Int)/\(sliceBounds lo hi none n).2.1=((HT.sIx n n hi:Nat):Int)/\(sliceBounds lo hi none n).2.2=1:=by
 refine ⟨?_, ?_,rfl⟩
 ·cases lo with
  | none=>simp [sliceBounds,HT.sIx]
  | some i=>
   simp only [sliceBounds,HT.sIx,Option.getD_none,show (1:Int) > 0 by decide,if_true]
   by_cases h:i < 0
   ·simp only [h,if_true] <;> omega
   ·simp only [h,if_false] <;> omega
 ·cases hi with
  | none=>simp [sliceBounds,HT.sIx]
  | some i=>
   simp only [sliceBounds,HT.sIx,Option.getD_none,show (1:Int) > 0 by decide,if_true]
   by_cases h:i < 0
   ·simp only [h,if_true] <;> omega
   ·simp only [h,if_false] <;> omega
theorem wa (its:List Value) (lo hi:Option Int):slicePick its.toArray lo hi none=((its.drop (HT.sIx its.length 0 lo)).take (HT.sIx its.length its.length hi - HT.sIx its.length 0 lo)).toArray:=by
 obtain ⟨h1,h2,h3⟩:=wS lo hi its.toArray.size
 unfold slicePick
 rw [h1,h2,h3]
 simp only [sliceRange_one,pick_run,List.size_toArray] <;> rfl
def gE (K:PySem.W.Frag):V->Option Int->Option Int->Hp->VK->Prop:=fun x lo hi H Q=>∃ a xs,x= .ref a/\SqL K H a xs/\∀ p,H p=none->Q (.ref p) (upd H p (.lst (qU xs lo hi)))
theorem QN:SlR X (gE X.K):=by
 intro pins s σ H x v vl vu lo hi sl Q I rx hs pl pu h
 obtain ⟨a,xs,rfl,hx,q⟩:=h
 cases rx
 obtain ⟨its,r,ht,hz⟩:=I.list hx
 have hlen:=r.length
 refine ⟨"list",_,slot_list_getitem.lookup,ht.isList.typeIs, ?_⟩
 refine wpAny_getItem_list_slice ht.isList hs pl pu .none (by simp) ?_ (by rw [List.size_toArray] <;> omega)
 rw [wa,← hlen]
 refine ⟨.ref s.heap.objs.size,_,I.laid (t' :=s.toks) (o:= .lst (qU xs lo hi)) (fun b ob q=>Heap.get?_push_of_some _ q) (Nat.le_refl _) ?_,rfl,q _ (I.hok.fresh (Nat.le_refl _))⟩
 exact ⟨Nat.le_trans (Jl xs lo hi) hz,_,0,(r.drop (HT.sIx xs.length 0 lo)).take (HT.sIx xs.length xs.length hi - HT.sIx xs.length 0 lo),Heap.get?_push_size _ rfl⟩
theorem wT:ZD X (.builtin "len") (fun xs H Q=>∃ p ys,xs=[.ref p]/\(SqL X.K H p ys\/SqT X.K H p ys)/\Q (.int ys.length) H):=by
 intro pins s σ H xs us Q I r h
 obtain ⟨p,ys,rfl,hq,q⟩:=h
 obtain ⟨u,rfl,rx⟩:=j3 r
 cases rx
 have hn:=JO
 rcases hq with hq | hq
 ·obtain ⟨its,r',pl,hz⟩:=I.list hq
  have hlen:=r'.length
  exact Calls.call_len_list pl.isList (by simp only [List.size_toArray] <;> omega) ⟨.int ys.length,H,I.tok _,⟨s.toks+1,by rw [List.size_toArray,hlen]⟩,q⟩
 ·obtain ⟨its,r',pl,hz⟩:=I.tuple hq
  have hlen:=r'.length
  exact len_tuple pl (by simp only [List.size_toArray] <;> omega) ⟨.int ys.length,H,I.tok _,⟨s.toks+1,by rw [List.size_toArray,hlen]⟩,q⟩
theorem wU:ZD X (.builtin "len") (fun xs H Q=>∃ z,xs=[.str z]/\z.length<=sizeLine/\Q (.int z.length) H):=by
 intro pins s σ H xs us Q I r h
 obtain ⟨z,rfl,hz,q⟩:=h
 obtain ⟨u,rfl,t,rfl⟩:=j3 r
 have hn:=JO
 exact len_str (by omega) ⟨.int z.length,H,I.tok _,⟨_,rfl⟩,q⟩
theorem ZD.or {f:Value} {r r' :List V->Hp->VK->Prop} (h:ZD X f r) (h' :ZD X f r'):ZD X f (fun xs H Q=>r xs H Q\/r' xs H Q):=by
 intro pins s σ H xs us Q I rs q
 rcases q with q | q
 ·exact h pins s σ H xs us Q I rs q
 ·exact h' pins s σ H xs us Q I rs q
theorem wb:ZD X (.type "tuple") (fun xs H Q=>∃ p ys,xs=[.ref p]/\((SqL X.K H p ys/\∀ l,H l=none->Q (.ref l) (upd H l (.tup ys)))\/(SqT X.K H p ys/\Q (.ref p) H))):=by
 intro pins s σ H xs us Q I r h
 obtain ⟨p,ys,rfl,h⟩:=h
 obtain ⟨u,rfl,rx⟩:=j3 r
 cases rx
 rcases h with ⟨hq,q⟩ | ⟨hq,q⟩
 ·obtain ⟨its,r',pl,hz⟩:=I.list hq
  have hlen:=r'.length
  refine call_tuple_list pl.isList (fun h' kp=> ?_) (by simp only [List.size_toArray] <;> omega)
  have I1:Inv X pins σ H { s with heap:=h' }:=I.kept (t' :=s.toks) kp
  have I2:Inv X pins σ (upd H h'.objs.size (.tup ys)) { s with heap:=h'.push { cls:= .type "tuple",data:= .seq its.toArray } }:=
   I1.laid (t' :=s.toks) (fun b o e=>Heap.get?_push_of_some _ e) (Nat.le_refl _) (show ZC X.prog X.w _ _ _ (.tup ys) from ⟨hz,its,r',ITN.new _ _⟩)
  exact ⟨.ref h'.objs.size,_,I2,rfl,q _ (I1.hok.fresh (Nat.le_refl _))⟩
 ·obtain ⟨its,r',pl,hz⟩:=I.tuple hq
  exact call_tuple_same pl ⟨.ref p,H,I,rfl,q⟩
def tyV (K:PySem.W.Frag) (T:String) (x:V) (H:Hp):Prop:=match x with
 | .str _=>T="str"
 | .int _=>T="int"
 | .ref p=>(T="list"/\∃ xs,SqL K H p xs)\/(T="tuple"/\∃ o,K.lookup p=some o/\o.cls= .type "tuple"/\o.dict=none)\/
   (T="dict"/\((∃ kvs,H p=some (.dK kvs))\/∃ kvs,H p=some (.dT kvs)))\/(T="set"/\∃ S n,H p=some (.set S n))
 | _=>False
theorem xa {pins:List (Addr×Obj)} {σ:St} {H:Hp} {s:Shared} {T:String} {x:V} {v:Value} (I:Inv X pins σ H s) (r:RelV x v) (ty:tyV X.K T x H):
  s.TypeIs v T/\∀ a,v= .ref a->∃ ob,s.heap.get? a=some ob/\ob.dict=none:=by
 cases x with
 | str z=>
  obtain ⟨t,rfl⟩:=r
  cases (show T="str" from ty)
  exact ⟨typeIs_str s z t,fun _ e=>nomatch e⟩
 | int i=>
  obtain ⟨t,rfl⟩:=r
  cases (show T="int" from ty)
  exact ⟨typeIs_int s i t,fun _ e=>nomatch e⟩
 | ref p=>
  cases r
  rcases ty with ⟨rfl,xs,hq⟩ | ⟨rfl,o,hk,hc,hd⟩ | ⟨rfl,hk⟩ | ⟨rfl,S,n,hk⟩
  ·obtain ⟨its,_,pl,_⟩:=I.list hq
   refine ⟨pl.isList.typeIs,fun a e=> ?_⟩
   cases e
   obtain ⟨o,n,e,c,hd,_⟩:=pl
   exact ⟨o,e,hd⟩
  ·refine ⟨⟨o,I.kIn p o hk,hc⟩,fun a e=> ?_⟩
   cases e
   exact ⟨o,I.kIn _ o hk,hd⟩
  ·have z:∃ o,s.heap.get? p=some o/\o.ExactDict:=by
    rcases hk with ⟨kvs,hk⟩ | ⟨kvs,hk⟩
    ·obtain ⟨_,_,_,_,o,_,_,e,ex,_⟩:=I.hok p _ hk
     exact ⟨o,e,ex⟩
    ·obtain ⟨_,_,_,_,o,_,_,e,ex,_⟩:=I.hok p _ hk
     exact ⟨o,e,ex⟩
   obtain ⟨o,e,ex⟩:=z
   refine ⟨⟨o,e,ex.1⟩,fun a e2=> ?_⟩
   cases e2
   exact ⟨o,e,ex.2.1⟩
  ·obtain ⟨o,_,_,_,e,ex,_⟩:=I.hok p _ hk
   refine ⟨⟨o,e,ex.1⟩,fun a e2=> ?_⟩
   cases e2
   exact ⟨o,e,ex.2.1⟩
 | _=>exact False.elim ty
def tBM (K:PySem.W.Frag) (T:String) (r:V->List V->Hp->VK->Prop) (to:TE) (t:TA):TE:=fun σ H Q=>to σ H fun x H1=>tyV K T x H1/\t σ H1 fun xs H2=>r x xs H2 Q
variable {o e:Expr} {es:List Expr} {to:TE} {t:TA} {name:Str} {apos cpos:Pos} {T id:String} {r:V->List V->Hp->VK->Prop}
theorem QO (pa:PlainAttrs T) (slot:Slot T name id) (hty:typeOf (.builtin id)=pure (.type "method_descriptor")) (hm:MtR X id r) (ho:PE X o to) (ha:PA X (e :: es) t)
  (hbase:attributeBase o name X.env (eval o X.env)=eval o X.env:=by rfl)
  (hfew:((backTo cpos (starEach (e :: es) X.env)).all (fun x=> !x.1) && (backToKw cpos (keywordEach [] X.env)).all (fun x=>x.1.isSome)
   && decide ((e :: es).length+([]:List Keyword).length+(if ([]:List Keyword).isEmpty then 0 else 1) < 30))=true:=by rfl)
  (hline:(apos.endLine == cpos.line)=true:=by rfl) (hs:starEach (e :: es) X.env=(false,eval e X.env) :: starEach es X.env:=by rfl) (hplain:(backTo cpos (starEach es X.env)).any (·.1)=false:=by rfl):
  PE X (.Call (.Attribute o name apos) (e :: es) [] cpos) (tBM X.K T r to t):=by
 intro pins s σ H Q I h
 refine wpAny_Call_method_late hbase hfew hline rfl (thn (ho pins s σ H _ I h) fun v s1 ⟨x,H1,I1,r1,ty,q1⟩=> ?_)
 obtain ⟨h1,h2⟩:=xa I1 r1 ty
 refine ⟨T,id,pa,slot,hty,h1,h2, ?_⟩
 have hA:=ha cpos pins s1 σ H1 _ I1 q1
 rw [hs] at hA ⊢
 refine Calls.callWith_builtin (by show (false || (backTo cpos (starEach es X.env)).any (·.1))=false; rw [hplain] <;> rfl) (Calls.evalArgs_plain ?_)
 exact thn hA fun us s2 ⟨vs,H2,I2,r2,q2⟩=>hm pins s2 σ H2 x vs v us Q I2 r1 r2 q2
end
end L2
namespace L2
open PySem PySem.Spec PyProof.Rows
def MtM (X:Cx) (id:String) (r:V->List V->Hp->VK->Prop):Prop:=
 ∀ (pins:List (Addr×Obj)) (s:Shared) (σ:St) (H:Hp) (x:V) (xs:List V) (v:Value) (us:List Value) (Q:VK),Inv X pins σ H s->RelV x v->Vals xs us->r x xs H Q->
  wpAny (model X.prog X.w) X.A (call (.builtin id) (v :: us)) (EP X pins σ Q) X.xe s
theorem Vals.one:∀ {x:V} {us:List Value},Vals [x] us->∃ u,us=[u]/\RelV x u
 | _,_, .cons r .nil=>⟨_,rfl,r⟩
theorem Vals.rep {xs:List V} {us:List Value} (h:Vals xs us):∀ k:Nat,Vals (List.replicate k xs).flatten (List.replicate k us).flatten
 | 0=> .nil
 | k+1=>by
  rw [List.replicate_succ,List.replicate_succ,List.flatten_cons,List.flatten_cons]
  exact Vals.append h (Vals.rep h k)
theorem jz (its:List Value):∀ (k:Nat) (acc:List Value),
  List.foldl (fun x1 x2=>x1++x2) acc.toArray (List.replicate k its.toArray)=(acc++(List.replicate k its).flatten).toArray
 | 0,acc=>by simp
 | k+1,acc=>by
  have e:acc.toArray++its.toArray=(acc++its).toArray:=by simp
  have e2:(acc++its)++(List.replicate k its).flatten=acc++(List.replicate (k+1) its).flatten:=by
   rw [List.replicate_succ,List.flatten_cons,List.append_assoc]
  rw [← e2,← jz its k (acc++its),← e,List.replicate_succ,List.foldl_cons]
section
variable {X:Cx} {pins:List (Addr×Obj)} {σ:St} {H:Hp} {s:Shared} {l b:Addr} {xs ys zs:List V}
theorem Inv.lset {its its' :List Value} {n:Nat} {f:Array Value->Array Value} {t' :Nat} (I:Inv X pins σ H s) (hH:H l=some (.lst xs))
  (e:s.heap.get? l=some { cls:= .type "list",data:= .seq its.toArray n }) (hf:f its.toArray=its'.toArray) (hv:Vals ys its') (hz:ys.length<=sizeLine):
  Inv X pins σ (upd H l (.lst ys)) { s with heap:=s.heap.update l (Obj.mapSeq f),toks:=t' }:=by
 have q:=PySem.IsL.update e f
 rw [hf] at q
 refine I.write (x:=l) (e:=l) (by rw [hH]; exact trivial) (.inl rfl) (fun b' u hb hu=>(Heap.get?_update_other s.heap (Obj.mapSeq f) (Ne.symm hb)).trans hu) ⟨_,q⟩ ?_
 exact ⟨hz,its',_,hv,q⟩
theorem Inv.lnew {its:List Value} {t' :Nat} (I:Inv X pins σ H s) (hv:Vals ys its) (hz:ys.length<=sizeLine):
  Inv X pins σ (upd H s.heap.objs.size (.lst ys)) { s with heap:=s.heap.push { cls:= .type "list",data:= .seq its.toArray },toks:=t' }:=
 I.laid (fun _ _ q=>Heap.get?_push_of_some _ q) (Nat.le_refl _) ⟨hz,its,0,hv,Heap.get?_push_size _ rfl⟩
theorem Inv.fresh (I:Inv X pins σ H s):H s.heap.objs.size=none:=I.hok.fresh (Nat.le_refl _)
theorem Inv.lstM (I:Inv X pins σ H s) (hH:H l=some (.lst xs)):xs.length<=sizeLine/\∃ (its:List Value) (n:Nat),Vals xs its/\xs.length=its.length/\s.heap.get? l=some { cls:= .type "list",data:= .seq its.toArray n }:=by
 obtain ⟨z,its,n,r,e⟩:=I.hok l _ hH
 exact ⟨z,its,n,r,r.length,e⟩
theorem WU {n:Nat} (h:n<=sizeLine):Builtin.List.listTooLong n=false:=by
 unfold Builtin.List.listTooLong
 exact decide_eq_false (by omega)
end
section
variable {X:Cx}
def QP:V->List V->Hp->VK->Prop:=fun x vs H Q=>∃ l xs y,x= .ref l/\vs=[y]/\H l=some (.lst xs)/\xs.length < sizeLine/\Q .non (upd H l (.lst (xs++[y])))
theorem wV:MtM X "list.append" QP:=by
 intro pins s σ H x vs v us Q I rx rv h
 obtain ⟨l,xs,y,rfl,rfl,hH,hz,q⟩:=h
 cases rx
 obtain ⟨u,rfl,ru⟩:=rv.one
 obtain ⟨z,its,n,r,hl,e⟩:=I.lstM hH
 refine call_meets F.slot_list_append ⟨_,e,rfl⟩ F.entry_list_append (F.args_list_append_2 _ _) (PySem.list_append l its.toArray n u (by rw [List.size_toArray]; omega)) ⟨e, ?_⟩
 refine ⟨.non,_,I.lset (its' :=its++[u]) hH e (by simp) (r.append (.cons ru .nil)) ?_,rfl,q⟩
 rw [List.length_append,List.length_singleton]
 omega
def QQ:V->List V->Hp->VK->Prop:=fun x vs H Q=>∃ l b xs zs,x= .ref l/\vs=[.ref b]/\H l=some (.lst xs)/\H b=some (.lst zs)/\xs.length+zs.length<=sizeLine/\Q .non (upd H l (.lst (xs++zs)))
theorem UC:MtM X "list.extend" QQ:=by
 intro pins s σ H x vs v us Q I rx rv h
 obtain ⟨l,b,xs,zs,rfl,rfl,hH,hB,hz,q⟩:=h
 cases rx
 obtain ⟨u,rfl,ru⟩:=rv.one
 cases ru
 obtain ⟨z,its,n,r,hl,e⟩:=I.lstM hH
 obtain ⟨z2,its2,n2,r2,hl2,e2⟩:=I.lstM hB
 have hsz:its.toArray.size+its2.toArray.size<=sizeLine:=by rw [List.size_toArray,List.size_toArray]; omega
 have hlong:¬ (!its.toArray.isEmpty && Builtin.List.listTooLong (its.toArray.size+its2.toArray.size))=true:=by
  rw [WU hsz,Bool.and_false]
  exact Bool.false_ne_true
 refine call_meets F.slot_list_extend ⟨_,e,rfl⟩ F.entry_list_extend (F.args_list_extend_2 _ _)
  (AutoSeq1.list_extend_list_list_0 l its.toArray n b its2.toArray n2 hlong (by rw [List.size_toArray]; omega) (by omega)) ⟨e,e2, ?_⟩
 refine ⟨.non,_,I.lset (its' :=its++its2) hH e (by simp) (r.append r2) ?_,rfl,q⟩
 rw [List.length_append]
 omega
def gF:R2:=fun x y H Q=>∃ l b xs zs,x= .ref l/\y= .ref b/\H l=some (.lst xs)/\H b=some (.lst zs)/\xs.length+zs.length<=sizeLine/\∀ p,H p=none->Q (.ref p) (upd H p (.lst (xs++zs)))
theorem xb:OpR X (binaryOp .Add) gF:=by
 intro pins s σ H x y v u Q I rx ry h
 obtain ⟨l,b,xs,zs,rfl,rfl,hH,hB,hz,q⟩:=h
 cases rx
 cases ry
 obtain ⟨z,its,n,r,hl,e⟩:=I.lstM hH
 obtain ⟨z2,its2,n2,r2,hl2,e2⟩:=I.lstM hB
 refine PySem.P.add_list e e2 ?_ (by rw [List.size_toArray,List.size_toArray]; omega)
 have ea:its.toArray++its2.toArray=(its++its2).toArray:=by simp
 rw [ea]
 exact ⟨.ref _,_,I.lnew (t' :=s.toks) (r.append r2) (by rw [List.length_append]; omega),rfl,q _ I.fresh⟩
def gG:R2:=fun x y H Q=>∃ l k xs,x= .ref l/\y= .int k/\H l=some (.lst xs)/\ -(2 ^ 63)<=k/\k < 2 ^ 63/\xs.length*k.toNat<=sizeLine/\
 ∀ p,H p=none->Q (.ref p) (upd H p (.lst (List.replicate k.toNat xs).flatten))
theorem jO {α:Type} (xs:List α) (k:Nat):(List.replicate k xs).flatten.length=k*xs.length:=by
 induction k with
 | zero=>simp
 | succ k ih=>rw [List.replicate_succ,List.flatten_cons,List.length_append,ih,Nat.succ_mul,Nat.add_comm]
theorem xf:OpR X (binaryOp .Mult) gG:=by
 intro pins s σ H x y v u Q I rx ry h
 obtain ⟨l,k,xs,rfl,rfl,hH,h1,h2,hz,q⟩:=h
 cases rx
 obtain ⟨t,rfl⟩:=ry
 obtain ⟨z,its,n,r,hl,e⟩:=I.lstM hH
 have hlen:its.toArray.size*k.toNat<=sizeLine:=by rw [List.size_toArray,← hl]; exact hz
 have hcap:¬ its.toArray.size*k.toNat > (2 ^ 63 - 1) / 8:=by
  have:(sizeLine:Nat)<=(2 ^ 63 - 1) / 8:=by decide
  omega
 have hfit:¬ (!Builtin.List.listFitsIndex k)=true:=by
  rw [fitsIndex_both h1 h2]
  exact Bool.false_ne_true
 have hlong:¬ Builtin.List.listTooLong (its.toArray.size*k.toNat)=true:=by
  rw [WU hlen]
  exact Bool.false_ne_true
 have hnew:List.foldl (fun x1 x2=>x1++x2) #[] (List.replicate (if its.toArray.isEmpty=true then 0 else k.toNat) its.toArray)=(List.replicate k.toNat its).flatten.toArray:=by
  have f0:∀ m:Nat,List.foldl (fun x1 x2=>x1++x2) #[] (List.replicate m its.toArray)=(List.replicate m its).flatten.toArray:=fun m=>by
   have:=jz its m []
   rw [List.nil_append] at this
   exact this
  rw [f0]
  cases its with
  | nil=>simp
  | cons a r' =>rw [if_neg (by simp)]
 refine wpAny_binaryOp_repeat_ref (T:="list") (U:="int") (by decide) ⟨_,e,rfl⟩ (fun s' =>typeIs_int s' k t) noFill_list_mul F.fills_int_mul F.slot_int_rmul repeat_list F.slot_int_index.lookup
  (call_meets F.slot_int_rmul (typeIs_int s k t) F.entry_int_rmul (F.args_int_rmul_2 _ _) (int___rmul___int_list k t l its.toArray n)
   ⟨e,rfl,⟨_,e,rfl⟩,call_meets F.slot_list_mul ⟨_,e,rfl⟩ F.entry_list_mul (F.args_list_mul_2 _ _) (AutoListH.list___mul___list_int_3 l its.toArray n k t hfit hcap hlong) ⟨e, ?_⟩⟩)
 rw [hnew]
 exact ⟨.ref _,_,I.lnew (t' :=s.toks) (r.rep k.toNat) (by rw [jO,Nat.mul_comm]; exact hz),rfl,q _ I.fresh⟩
end
section
variable {prog:Program} {w:World} {A:Around} {E:Value->Shared->Prop} {s:Shared}
end
section
variable {X:Cx}
end
end L2
namespace Att
open PySem PySem.W PySem.Calls PyProof.Rows
theorem Jm {P:Params} {h:Heap}:∀ (ns:List Int) (vs:List Value),WellAll P h vs (ns.map WData.int)->IntsAre vs ns:=by
 intro ns
 induction ns with
 | nil=>
  intro vs w
  rw [List.map_nil] at w
  cases w
  exact .nil
 | cons n ns ih=>
  intro vs w
  rw [List.map_cons] at w
  cases w with
  | cons a b=>
   cases a
   exact .cons _ _ (ih _ b)
theorem UD {l:OpenLaw} {n:Nat} (hn:l.most=some n) {P:Params} {h:Heap} {args:List WData} {vals:List Value}
  (hpre:l.row.toRowW.claim.pre args=true) (hwl:WellAll P h vals args):
  ∃ a vs ns,vals=[Value.ref a]/\args=[WData.list (ns.map WData.int)]/\h.get? a=some { cls:= .type "list",data:= .seq vs.toArray }/\IntsAre vs ns/\ns.length<=n:=by
 have hsh:WShape.hasAll [] args [.list .int]=true:=(pre_splitW hpre).1
 have hc:l.pre.holds [] { args:=args }=true:=(pre_splitW hpre).2
 obtain ⟨d,r,rfl,h1,h2⟩:=hasAllW_cons hsh
 obtain rfl:=hasAllW_nil h2
 obtain ⟨xs,rfl,h3⟩:=hasW_list h1
 obtain ⟨ns,rfl⟩:=items_int h3
 have hlen:ns.length<=n:=by
  unfold OpenLaw.pre at hc
  have h4:(WTm.not (.lt (.lit (.int (n:Int))) (.len (.arg 0)))).holds [] { args:=[.list (ns.map .int)] }=true:=by
   have h4:=(holds_andW hc).1
   rw [hn] at h4
   exact h4
  have h5:=condW_of h4 (w_not (w_lt w_lit (w_len_list (w_arg rfl))))
  rw [List.length_map] at h5
  refine Nat.le_of_not_lt fun q=> ?_
  have q' :(n:Int) < ((ns.length:Nat):Int):=by omega
  first
   | (rw [decide_eq_true q'] at h5; exact absurd h5 (by decide))
   | (simp at h5; omega)
 cases hwl with
 | cons w1 w2=>
  cases w2
  cases w1 with
  | list ho hall=>exact ⟨_,_,ns,rfl,rfl,ho,Jm ns _ hall,hlen⟩
theorem UE (l:OpenLaw) (args:List WData):l.row.toRowW.claim.post args (.bool true) args=true:=
 postW_of (r:=l.row.toRowW) (X:=(true == true))
  (show WShape.has [] (.bool true) .bool=true by first | rfl | decide | simp [WShape.has,WShape.arms,WShape.armsAll])
  (show (WTm.eq .res (.lit (.bool true))).value [] { args:=args,res:=some (.bool true),after:=args }=some (.bool (true == true)) from w_eq_bool (w_res rfl) w_lit) rfl
theorem attach_call {l:OpenLaw} {n:Nat} {q:Program} {loose:List Str} {XP:(Str->Option Value)->Heap->Prop} {YP:World->Heap->Prop} {d:DefRec}
  (hn:l.most=some n) (hdf:d.params.defaults=[])
  (call:∀ (w:World) (s₀ s₁:Shared) (mg mb:Str->Option Value) (fa:Addr) (o:Obj) (pm cd doc:Value) (a:Addr) (vs:List Value) (ns:List Int),
   Ground q loose [] XP w s₀ mg mb s₁.heap->YP w s₁.heap->
   s₁.heap.get? fa=some o->o.data= .func (docDef d.name d.params d.body d.scope pm cd doc)->s₁.heap.CodeRec cd d.name->mg d.name=some (.ref fa)->
   s₁.heap.get? a=some { cls:= .type "list",data:= .seq vs.toArray }->IntsAre vs ns->ns.length<=n->s₁.gens= #[]->
   codeAny (model l.prog w) callerA (.call (.ref fa) ⟨[.ref a],[]⟩) (fun r s' =>r= .ok (.ret (.bool true))/\OldK s₁.heap s'.heap/\s'.os=s₁.os/\AllBare s'.gens) s₁):
  WalkO q loose XP YP l.row.toRowW d [] (fun f vs=>PySem.call f vs):=by
 intro w s₀ s₁ mg mb G Y fa o pm cd doc dV kV ho hd hcd hD hmg hg args vals as hpre hlay hrd hwl hlo
 obtain rfl:dV= .none:=Dflts.none hD hdf
 obtain rfl:kV= .none:=Dflts.noKw hD
 obtain ⟨a,vs,ns,rfl,rfl,hobj,hints,hlen⟩:=UD hn hpre hwl
 refine enter_call (codeAny_mono (call w s₀ s₁ mg mb fa o pm cd doc a vs ns G Y ho (fd_plain hd) hcd hmg hobj hints hlen hg) fun r s' hq=> ?_)
 obtain ⟨rfl,h2,h3,h4⟩:=hq
 exact ⟨.inl ⟨.bool true, .bool true,[],rfl,fun _=>rfl, .bool true,UE l _,fun _=>⟨List.Pairwise.nil,fun _ hm=>(nomatch hm)⟩⟩,h2,h3,h4⟩
section
variable {prog:Program} {w:World} {A:Around} {E:Value->Shared->Prop} {s:Shared} {K:Frag}
end
end Att
namespace L2
open PySem PySem.Spec PyProof.Rows
theorem wW:∀ {vs:List Value} {ns:List Int},IntsAre vs ns->Vals (ns.map V.int) vs
 | _,_, .nil=> .nil
 | _,_, .cons n t h=> .cons ⟨t,rfl⟩ (wW h)
def XI (H:Hp):Prop:=∀ b,H b=none\/∃ o xs,H b=some (.frz o (.lst xs))
theorem YK {P:Program} {w:World} {K:PySem.W.Frag} {mg mb:Str->Option Value} {CX:CXT} {k:Nat} {fa a:Addr} {fd:FuncData} {x:Str} {sp:Sp} {s₁:Shared} {vs:List Value} {ns:List Int}
  (KX:K.In s₁.heap) (hns:s₁.heap.Ns mainGlobals mg) (hb:s₁.heap.Ns builtinsNs mb) (hbb:∀ x:Str,x ≠ "__name__"->mb x=bootBuiltins x) (hlim:s₁.heap.NoLimit) (hg:s₁.gens= #[])
  (ha:s₁.heap.get? a=some { cls:= .type "list",data:= .seq vs.toArray }) (hi:IntsAre vs ns) (hl:ns.length<=sizeLine) (hr:Jk k callerA)
  (F:∀ base:Heap,K.In base->base.Ns mainGlobals mg->Zz P w K mg base CX k fa fd [x] sp) (hbind:∀ (s:Shared) (u:Value),BindsTo s fd ⟨[u],[]⟩ [(x,u)])
  (hsp:∀ H:Hp,XI H->SqL K H a (ns.map V.int)->sp [.ref a] H (fun v _=>v= .bl true) fun _ _ _=>False)
  (hCX:∀ H e s',CX [] H s₁ (fun _ _ _=>False) e s' ->False):
  codeAny (model P w) callerA (.call (.ref fa) ⟨[.ref a],[]⟩) (fun r s' =>r= .ok (.ret (.bool true))/\OldK s₁.heap s'.heap/\s'.os=s₁.os/\AllBare s'.gens) s₁:=by
 have rv:=wW hi
 have lenV:=hi.length
 have core:∀ H:Hp,XI H->SqL K H a (ns.map V.int)->HOk P w H s₁.heap->(∀ b,H b ≠ none->b=a)->(H a ≠ none->K.lookup a=none)->
   codeAny (model P w) callerA (.call (.ref fa) ⟨[.ref a],[]⟩) (fun r s' =>r= .ok (.ret (.bool true))/\OldK s₁.heap s'.heap/\s'.os=s₁.os/\AllBare s'.gens) s₁:=by
  intro H hO hS hok hA hK
  have base_of:∀ {b:Addr} {o:Obj},s₁.heap.get? b=some o->H b=none->(YA s₁.heap H).get? b=some o:=fun e n=>YB e n
  have noA:∀ {b:Addr} {o:Obj} {es:Array DictEntry} {ep:Nat},s₁.heap.get? b=some o->o.data= .dict es ep->H b=none:=fun {b o es ep} e d=>by
   cases q:H b with
   | none=>rfl
   | some u=>
    have e' :b=a:=hA b (by rw [q]; simp)
    subst e'
    rw [ha] at e; cases e
    have d' :Data.seq vs.toArray _=Data.dict es ep:=d
    cases d'
  have nsK:∀ {b:Addr} {m:Str->Option Value},s₁.heap.Ns b m->(YA s₁.heap H).Ns b m:=fun {b m} ⟨o,es,ep,e,d,r⟩=>⟨o,es,ep,base_of e (noA e d),d,r⟩
  have hKb:K.In (YA s₁.heap H):=fun b o e=>base_of (KX b o e) (by
   cases q:H b with
   | none=>rfl
   | some u=>
    have e' :b=a:=hA b (by rw [q]; simp)
    subst e'
    rw [hK (by rw [q]; simp)] at e; cases e)
  have hM:Mod K mg (YA s₁.heap H):=⟨hKb,nsK hns,⟨mb,nsK hb,hbb⟩,let ⟨mc,h1,h2⟩:=hlim; ⟨mc,nsK h1,h2⟩⟩
  have e0:XH P w K mg (YA s₁.heap H) callerA [] s₁ H:=⟨rfl,hM,fun b o e=>Qu e,Nat.le_of_eq (Uj _ _),trivial,fun b hb=>absurd (show b∈([]:List Addr) from hb) (by simp),hok, .of_eq hg⟩
  refine codeAny_mono ((F _ hKb (nsK hns)).run callerA [] s₁ H ⟨[.ref a],[]⟩ [.ref a] [.ref a] _ _ hr e0 (hbind s₁ (.ref a)) (.cons rfl .nil) (hsp H hO hS)) fun r s' h=> ?_
  cases r with
  | error e=>exact (hCX H e s' h).elim
  | ok fl=>
   cases fl with
   | next=>exact False.elim h
   | brk=>exact False.elim h
   | cont=>exact False.elim h
   | ret u=>
    obtain ⟨v,H',os,bare,un,hok',r',q⟩:=h
    have q' :v= .bl true:=q
    subst q'
    obtain rfl:u=Value.bool true:=r'
    refine ⟨rfl,OldK.of_keep fun b o e=> ?_,os,bare⟩
    cases q:H b with
    | none=>exact un.keep b o e q (by intro z; exact absurd (show b∈([]:List Addr) from z) (by simp)) (by simp)
    | some u=>
     rcases hO b with z | ⟨ob,xs,z⟩
     ·rw [q] at z; cases z
     ·have z2:=un.frzs b ob _ z
      obtain ⟨e1,_⟩:=hok b _ z
      obtain ⟨e2,_⟩:=hok' b _ z2
      rw [e] at e1; cases e1
      exact e2
 cases hk:K.lookup a with
 | some o=>
  have e:=KX a o hk
  rw [ha] at e
  cases e
  refine core (fun _=>none) (fun _=> .inl rfl) (.inr ⟨_,vs.toArray,_,hk,rfl,rfl,rfl,by rw [List.size_toArray,lenV]; exact hl,by simpa using rv⟩) (fun b u z=>by have z' :(none:Option HO)=some u:=z; cases z') (fun b z=>absurd rfl z) fun z=>absurd rfl z
 | none=>
  refine core (fun b=>if b=a then some (.frz { cls:= .type "list",data:= .seq vs.toArray } (.lst (ns.map V.int))) else none) (fun b=> ?_) (.inl (.inr ⟨{ cls:= .type "list",data:= .seq vs.toArray },if_pos rfl⟩)) (fun b u z=> ?_) (fun b z=> ?_) fun _=>hk
  ·by_cases hb:b=a
   ·exact .inr ⟨_,_,if_pos hb⟩
   ·exact .inl (if_neg hb)
  ·by_cases hb:b=a
   ·have z' :=(if_pos hb).symm.trans z
    cases z'
    subst hb
    exact ⟨ha,by rw [List.length_map]; exact hl,vs,_,rv,ha⟩
   ·have z' :=(if_neg hb).symm.trans z
    cases z'
  ·by_cases hb:b=a
   ·exact hb
   ·exact absurd (if_neg hb) z
end L2
namespace L2
open PySem PySem.Spec PyProof.Rows
theorem walk_of {l:PySem.W.OpenLaw} {n k:Nat} {q:Program} {loose:List Str} {XP:(Str->Option Value)->Heap->Prop} {YP:World->Heap->Prop} {d:DefRec} {K:Params->PySem.W.Frag} {CX:World->CXT} {sp:World->Sp} {x:Str}
  (hn:l.most=some n) (hn2:n<=sizeLine) (hdf:d.params.defaults=[]) (hr:Jk k callerA)
  (hY:∀ (w:World) (h:Heap),YP w h->(K w.params).In h)
  (F:∀ (w:World) (mg:Str->Option Value) (fa:Addr) (h:Heap),(K w.params).In h->h.Ns mainGlobals mg->mg d.name=some (.ref fa)->
   ∃ fd:FuncData,(∀ (s:Shared) (u:Value),BindsTo s fd ⟨[u],[]⟩ [(x,u)])/\
    ∀ base:Heap,(K w.params).In base->base.Ns mainGlobals mg->Zz l.prog w (K w.params) mg base (CX w) k fa fd [x] (sp w))
  (hsp:∀ (w:World) (H:Hp) (a:Addr) (ns:List Int),ns.length<=n->XI H->SqL (K w.params) H a (ns.map V.int)->sp w [.ref a] H (fun v _=>v= .bl true) fun _ _ _=>False)
  (hCX:∀ (w:World) (H:Hp) (s:Shared) (e:Value) (s' :Shared),CX w [] H s (fun _ _ _=>False) e s' ->False):
  PySem.W.WalkO q loose XP YP l.row.toRowW d [] (fun f vs=>PySem.call f vs):=by
 refine Att.attach_call hn hdf fun w s₀ s₁ mg mb fa o pm cd doc a vs ns G Y ho hd hcd hmg hobj hints hlen hg=> ?_
 have KX:=hY w _ Y
 obtain ⟨fd,hb,hF⟩:=F w mg fa _ KX G.T.g hmg
 exact YK KX G.T.g G.T.b G.T.builtins G.T.nolimit hg hobj hints (Nat.le_trans hlen hn2) hr hF hb (fun H hO hS=>hsp w H a ns hlen hO hS) fun H e s' =>hCX w H s₁ e s'
end L2
namespace L2
open PySem PySem.Spec PyProof.Rows
def j8 (s:Stmt):Arguments:=match s with
 | .FunctionDef _ a _ _ _ _ _ _ _ _=>a
 | _=>{ posonlyargs:=[],args:=[],vararg:=none,kwonlyargs:=[],kw_defaults:=[],kwarg:=none,defaults:=[] }
def ZP (s:Stmt):List Stmt:=match s with
 | .FunctionDef _ _ b _ _ _ _ _ _ _=>b
 | _=>[]
def zf (s:Stmt):Scope:=match s with
 | .FunctionDef _ _ _ _ _ _ sc _ _ _=>sc
 | _=>{ kind:= .function,names:=[],isGenerator:=false,isCoroutine:=false }
abbrev CX0:CXT:=fun _ _ _ _ _ _=>False
structure Fun (K:PySem.W.Frag) (x qual:Str) (st:Stmt) (f:Addr) (fd:FuncData):Prop where
 ex:∃ (oc:Value) (od:Option Addr) (kV doc pm:Value) (an:Option Addr) (cdv ct:Value) (osl:Array (Option Value)),
  fd=PySem.W.fnOf x qual (j8 st) (ZP st) (zf st) .none kV doc pm an cdv ct/\K.lookup f=some ⟨oc,od, .func fd,osl⟩/\PySem.W.codeIn K cdv qual=true
 kp:PySem.W.keepIn K (.ref f)=true
section
variable {P:Program} {w:World} {K:PySem.W.Frag} {mg:Str->Option Value} {base:Heap}
theorem Fun.ok {x qual:Str} {st:Stmt} {f:Addr} {fd:FuncData} {N ps:List Str} {k:Nat} {sp:Sp} (F:Fun K x qual st f fd) (S:zm N ps (zf st)) (len:∀ vs H Q E,sp vs H Q E->vs.length=ps.length)
  (hbody:∀ (cdv:Value) (A:Around) (outer:List Env) (s:Shared) (H:Hp) (vs:List V) (Q:VK) (E:XK),Jk k (A.deeper (envOfC qual (zf st) s.heap.objs.size f cdv))->sp vs H Q E->
   ∃ t,PSs (QG CX0 P w K mg base N qual (zf st) f cdv A outer s H E).nox (ZP st) t/\t { nx:=fun _ H' =>Q .non H',rt:=Q } (start N vs) H):Zz P w K mg base CX0 (k+1) f fd ps sp:=by
 obtain ⟨oc,od,kV,doc,pm,an,cdv,ct,osl,rfl,lk,hcd⟩:=F.ex
 refine ky lk hcd S len fun A outer s H vs Q E hr hsp=> ?_
 obtain ⟨t,h,q⟩:=hbody cdv A outer s H vs Q E hr hsp
 exact ⟨t,h.nox,q⟩
theorem Fun.binds {x qual:Str} {st:Stmt} {f:Addr} {fd:FuncData} {ps:List Str} (F:Fun K x qual st f fd)
  (h:∀ (kV doc pm:Value) (an:Option Addr) (cdv ct:Value) (us:List Value),us.length=ps.length->bindArgs (PySem.W.fnOf x qual (j8 st) (ZP st) (zf st) .none kV doc pm an cdv ct) ⟨us,[]⟩=pure (ps.zip us)):Binds K fd ps []:=by
 obtain ⟨oc,od,kV,doc,pm,an,cdv,ct,osl,rfl,lk,hcd⟩:=F.ex
 exact .all (h kV doc pm an cdv ct)
theorem xg {x qual:Str} {st:Stmt} {f:Addr} {oc:Value} {od an:Option Addr} {osl:Array (Option Value)} {kV doc pm cdv ct:Value} (l:K.lookup f=some ⟨oc,od, .func (PySem.W.fnOf x qual (j8 st) (ZP st) (zf st) .none kV doc pm an cdv ct),osl⟩)
  (c:PySem.W.codeIn K cdv qual=true) (k:PySem.W.keepIn K (.ref f)=true):Fun K x qual st f (PySem.W.fnOf x qual (j8 st) (ZP st) (zf st) .none kV doc pm an cdv ct):=⟨⟨oc,od,kV,doc,pm,an,cdv,ct,osl,rfl,l,c⟩,k⟩
end
section
variable {X:Cx}
theorem pv (i:Nat) {x:Str} {pos:Pos} (hN:X.N[i]? =some x:=by rfl) (hv:Vis X.env.scope x:=by first | exact Or.inl rfl | exact Or.inr (Or.inl rfl) | exact Or.inr (Or.inr rfl)) (hd:(x == ("__debug__":Str))=false:=by decide)
  (hcd:(x == ("__classdict__":Str))=false:=by decide):PE X (.Name x pos) (Qv i):=VC hN hv hd hcd
end
def zx (H H' :Hp):Prop:=∀ b o,H b=some o->H' b=some o
theorem zx.refl (H:Hp):zx H H:=fun _ _ h=>h
theorem zx.trans {H H1 H2:Hp} (a:zx H H1) (b:zx H1 H2):zx H H2:=fun c o h=>b c o (a c o h)
theorem zx.free {H H' :Hp} (e:zx H H') {l:Addr} (h:H' l=Option.none):H l=Option.none:=by
 cases q:H l with
 | none=>rfl
 | some o=>
  rw [e l o q] at h
  cases h
end L2
namespace L2
open PySem PySem.Spec PyProof.Rows PySem.W
structure gH (P:Program) (w:World) (outer:List Env) (H:Hp) (s s' :Shared) (ea:Addr) (cls a0:Value) (B:Heap) (H' :Hp):Prop where
 os:s'.os=s.os
 bare:AllBare s'.gens
 fly:Heap.FlyingW B outer ea cls a0 s'.heap
 hok:HOk P w H' B
 un:Un (frs outer) [] H H' s.heap s'.heap
 inB:∀ b o,s.heap.get? b=some o->b ∉ frs outer->(H b=none->B.get? b=some o)/\∃ o',B.get? b=some o'
def CX1 (P:Program) (w:World):CXT:=fun outer H s E e s' =>∃ ea cls a0 B H',e= .ref ea/\gH P w outer H s s' ea cls a0 B H' /\E cls none H'
section
variable {X:Cx} {pins:List (Addr×Obj)} {σ:St} {H H' :Hp} {s s' :Shared} {ea:Addr} {cls a0:Value} {B:Heap} {h' h'' :Heap}
end
section
variable {P:Program} {w:World} {K:Frag} {mg:Str->Option Value} {base:Heap} {N:List Str} {qual:Str} {scope:Scope} {f:Addr} {cd:Value} {A:Around} {outer:List Env} {s:Shared} {H:Hp} {E:XK}
end
end L2
namespace L2
open PySem PySem.Spec PyProof.Rows PySem.W
def gI (cls:Value) (a:Addr) (h:Heap):Prop:=∃ o,h.get? a=some o/\o.cls=cls
section
variable {X:Cx} {pins pins' :List (Addr×Obj)} {σ:St} {H H' :Hp} {s s' :Shared} {xe:Value->Shared->Prop}
end
section
variable {prog:Program} {w:World} {A:Around} {E:Value->Shared->Prop} {s:Shared} {env:Env}
end
end L2
namespace L2
open PySem PySem.Spec PyProof.Rows PySem.W
section
variable {X:Cx} {pins:List (Addr×Obj)} {σ:St} {H H' :Hp} {s s' :Shared} {ea:Addr} {cls a0:Value} {B:Heap} {h3:Heap}
end
end L2
namespace PySem
open PySem.W
section
variable {M:Model} {A:Around} {E:Value->Shared->Prop} {s:Shared}
end
end PySem
namespace L2
open PySem PySem.Spec PyProof.Rows PySem.W
section
variable {X:Cx} {pins:List (Addr×Obj)} {σ:St} {H H' :Hp} {s s' :Shared} {ea C:Addr} {cls a0:Value} {B:Heap} {h' :Heap}
def xh (X:Cx) (E:XK):Prop:=∀ (pins:List (Addr×Obj)) (σ:St) (H:Hp) (s:Shared) (e:Value) (s' :Shared) (C:Addr) (m:Str->Option Value) (E' :Value->Shared->Prop) (cenv:Env),Inv X pins σ H s->s.heap.Ns C m->H C=none->X.s₀.heap.objs.size<=C->C ∉ frs X.stack->cenv.frame=X.env.frame->CX1 X.prog X.w X.stack H s E e s' ->
 wpAny (model X.prog X.w) X.A (noteFrame e cenv) (fun _ s'' =>∃ m,s''.heap.Ns C m/\∀ h',Heap.SameBut C s''.heap h' ->∀ env:Env,env.locals=C->wpAny (model X.prog X.w) X.A (passOn "comprehension.variables-let-go" e env:Sem Value) (fun _ _=>False) X.xe { s'' with heap:=h' }) E' s'
theorem JR {E:XK} (h:E=fun _ _ _=>False):xh X E:=fun pins σ H s e s' C m E' cenv I _ _ _ _ _ ⟨_,_,_,_,_,_,_,z⟩=>by subst h; exact z.elim
end
end L2
namespace L2
open PySem PySem.Spec PyProof.Rows
theorem PE.imp {X:Cx} {e:Expr} {t t' :TE} (h:PE X e t) (i:∀ σ H Q,t' σ H Q->t σ H Q):PE X e t' :=fun pins s σ H Q I q=>h pins s σ H Q I (i σ H Q q)
theorem PT.imp {X:Cx} {e:Expr} {t t' :TT} (h:PT X e t) (i:∀ σ H Q,t' σ H Q->t σ H Q):PT X e t' :=fun pins s σ H Q I q=>h pins s σ H Q I (i σ H Q q)
theorem PA.imp {X:Cx} {e:List Expr} {t t' :TA} (h:PA X e t) (i:∀ σ H Q,t' σ H Q->t σ H Q):PA X e t' :=fun pos pins s σ H Q I q=>h pos pins s σ H Q I (i σ H Q q)
theorem PS.imp {X:Cx} {e:Stmt} {t t' :TS} (h:PS X e t) (i:∀ D σ H,t' D σ H->t D σ H):PS X e t' :=fun pins s σ H D I q=>h pins s σ H D I (i D σ H q)
theorem PSs.imp {X:Cx} {e:List Stmt} {t t' :TS} (h:PSs X e t) (i:∀ D σ H,t' D σ H->t D σ H):PSs X e t' :=fun pins s σ H D I q=>h pins s σ H D I (i D σ H q)
end L2
namespace PV
open PySem
def wX:Expr->Bool
 | .Starred _ _=>false
 | _=>true
theorem ZB {e:Expr} {rest:List Expr} {env:Env} (h:wX e=true):starEach (e :: rest) env=(false,eval e env) :: starEach rest env:=by
 cases e <;> first | rfl | cases h
theorem st2 {a b:Expr} {env:Env} (h:wX a=true) (h' :wX b=true):starEach [a,b] env=[(false,eval a env),(false,eval b env)]:=by
 rw [ZB h,ZB h']; rfl
theorem st1 {a:Expr} {env:Env} (h:wX a=true):starEach [a] env=[(false,eval a env)]:=by
 rw [ZB h]; rfl
theorem jA {pos:Pos} {env:Env}:∀ {es:List Expr},es.all wX=true->((backTo pos (starEach es env)).any fun x=>x.fst)=false
 | [],_=>rfl
 | e :: es,h=>by
  rw [List.all_cons,Bool.and_eq_true] at h
  rw [ZB h.1]
  have:=jA (pos:=pos) (env:=env) h.2
  show (false || ((backTo pos (starEach es env)).any fun x=>x.fst))=false
  rw [this]; rfl
open PySem PySem.Spec PyProof.Rows L2
abbrev Sg:=L2.St
inductive T where
 | non | bl (b:Bool) | int (i:Int) | str (x:Str) | tup (xs:List T) | lst (xs:List T) | fz (xs:List T)
inductive R (α:Type) where
 | ok (a:α) | ex (c:Nat) | bad
def R.bind {α β:Type} (r:R α) (f:α->R β):R β:=match r with
 | .ok a=>f a
 | .ex c=> .ex c
 | .bad=> .bad
mutual
inductive Rep (H:Hp):V->T->Prop where
 | non:Rep H .non .non
 | bl (b:Bool):Rep H (.bl b) (.bl b)
 | int (i:Int):Rep H (.int i) (.int i)
 | str (x:Str):Rep H (.str x) (.str x)
 | tup {a:Addr} {xs:List V} {ts:List T}:H a=some (.tup xs)->zE H xs ts->Rep H (.ref a) (.tup ts)
 | lst {a:Addr} {xs:List V} {ts:List T}:H a=some (.lst xs)->zE H xs ts->Rep H (.ref a) (.lst ts)
 | fz {a:Addr} {o:Obj} {xs:List V} {ts:List T}:H a=some (.frz o (.lst xs))->zE H xs ts->Rep H (.ref a) (.fz ts)
inductive zE (H:Hp):List V->List T->Prop where
 | nil:zE H [] []
 | cons {v:V} {t:T} {vs:List V} {ts:List T}:Rep H v t->zE H vs ts->zE H (v :: vs) (t :: ts)
end
mutual
theorem Rep.mono {H H' :Hp} (s:zx H H'):∀ {v:V} {t:T},Rep H v t->Rep H' v t
 | _,_, .non=> .non
 | _,_, .bl b=> .bl b
 | _,_, .int i=> .int i
 | _,_, .str x=> .str x
 | _,_, .tup h r=> .tup (s _ _ h) (zE.mono s r)
 | _,_, .lst h r=> .lst (s _ _ h) (zE.mono s r)
 | _,_, .fz h r=> .fz (s _ _ h) (zE.mono s r)
theorem zE.mono {H H' :Hp} (s:zx H H'):∀ {v:List V} {t:List T},zE H v t->zE H' v t
 | _,_, .nil=> .nil
 | _,_, .cons h r=> .cons (Rep.mono s h) (zE.mono s r)
end
theorem zE.length {H:Hp}:∀ {vs:List V} {ts:List T},zE H vs ts->vs.length=ts.length
 | _,_, .nil=>rfl
 | _,_, .cons _ r=>congrArg (·+1) (zE.length r)
theorem zE.get {H:Hp}:∀ {vs:List V} {ts:List T} {i:Nat} {t:T},zE H vs ts->ts[i]? =some t->∃ v,vs[i]? =some v/\Rep H v t
 | _,_,_,_, .nil,e=>by simp at e
 | _,_,0,_, .cons r _,e=>by simp at e; subst e; exact ⟨_,rfl,r⟩
 | _,_,i+1,t, .cons _ q,e=>by
  obtain ⟨v,h1,h2⟩:=zE.get (i:=i) (t:=t) q (by simpa using e)
  exact ⟨v,by simpa using h1,h2⟩
theorem zE.getV {H:Hp}:∀ {vs:List V} {ts:List T} {i:Nat} {v:V},zE H vs ts->vs[i]? =some v->∃ t,ts[i]? =some t/\Rep H v t
 | _,_,_,_, .nil,e=>by simp at e
 | _,_,0,_, .cons r _,e=>by simp at e; subst e; exact ⟨_,rfl,r⟩
 | _,_,i+1,v, .cons _ q,e=>by
  obtain ⟨t,h1,h2⟩:=zE.getV (i:=i) (v:=v) q (by simpa using e)
  exact ⟨t,by simpa using h1,h2⟩
theorem zE.append {H:Hp}:∀ {vs ws:List V} {ts us:List T},zE H vs ts->zE H ws us->zE H (vs++ws) (ts++us)
 | _,_,_,_, .nil,q=>q
 | _,_,_,_, .cons r t,q=> .cons r (zE.append t q)
theorem zE.take {H:Hp}:∀ {vs:List V} {ts:List T} (n:Nat),zE H vs ts->zE H (vs.take n) (ts.take n)
 | _,_,0,_=> .nil
 | _,_,_+1, .nil=> .nil
 | _,_,n+1, .cons r t=> .cons r (zE.take n t)
theorem zE.drop {H:Hp}:∀ {vs:List V} {ts:List T} (n:Nat),zE H vs ts->zE H (vs.drop n) (ts.drop n)
 | _,_,0,r=>r
 | _,_,_+1, .nil=> .nil
 | _,_,n+1, .cons _ t=>zE.drop n t
theorem zE.rep {H:Hp} {vs:List V} {ts:List T} (h:zE H vs ts):∀ n:Nat,zE H (List.replicate n vs).flatten (List.replicate n ts).flatten
 | 0=> .nil
 | n+1=>by
  rw [List.replicate_succ,List.replicate_succ,List.flatten_cons,List.flatten_cons]
  exact h.append (zE.rep h n)
theorem zE.nil_iff {H:Hp} {vs:List V} {ts:List T} (h:zE H vs ts):vs=[]↔ts=[]:=by
 cases h <;> simp
def zR (B H H' :Hp):Hp:=fun b=>match H b with
 | none=>H' b
 | some _=>B b
theorem Zv {B H H' :Hp} {b:Addr} (h:H b=none):zR B H H' b=H' b:=by unfold zR; rw [h]
theorem Zs {B H H' :Hp} {b:Addr} {o:HO} (h:H b=some o):zR B H H' b=B b:=by unfold zR; rw [h]
theorem zR.ge {B H H' :Hp} (s:zx B H) (s' :zx H H'):zx B (zR B H H'):=fun b o h=>by
 rw [Zs (s b o h)]; exact h
theorem zR.le {B H H' :Hp} (s:zx B H) (s' :zx H H'):zx (zR B H H') H' :=fun b o h=>by
 cases q:H b with
 | none=>rw [Zv q] at h; exact h
 | some u=>rw [Zs q] at h; exact s' b o (s b o h)
theorem zR.self (B H:Hp) (s:zx B H):zR B H H=B:=by
 funext b
 cases q:H b with
 | none=>
  rw [Zv q,q]
  cases z:B b with
  | none=>rfl
  | some o=>rw [s b o z] at q; cases q
 | some u=>rw [Zs q]
theorem zR.trans {B H H1 H2:Hp} (s1:zx H H1) (s2:zx H1 H2):zR (zR B H H1) H1 H2=zR B H H2:=by
 funext b
 cases q:H b with
 | none=>
  rw [Zv q]
  cases z:H1 b with
  | none=>rw [Zv z]
  | some o=>rw [Zs z,Zv q,z,s2 b o z]
 | some u=>rw [Zs q,Zs (s1 b u q),Zs q]
inductive Sl where
 | un | vl (t:T) | ow (ts:List T) | xc (c:Nat)
abbrev En:=List Sl
structure Fx where
 B0:Hp
 H0:Hp
 E:XK
 cl:Nat->Value
structure SI (Y:Fx) (B:Hp) (ρ:En) (σ:Sg) (H:Hp):Prop where
 s0:zx Y.B0 Y.H0
 sH:zx Y.H0 H
 sB:zx B H
 old:∀ b o,Y.H0 b=some o->B b=Y.B0 b
 len:ρ.length=σ.length
 vl:∀ (i:Nat) (t:T),ρ[i]? =some (Sl.vl t)->∃ v:V,σ[i]? =some (some v)/\Rep B v t
 ow:∀ (i:Nat) (ts:List T),ρ[i]? =some (Sl.ow ts)->∃ (a:Addr) (xs:List V),σ[i]? =some (some (V.ref a))/\B a=none/\Y.H0 a=none/\H a=some (.lst xs)/\zE B xs ts/\
  ∀ (j:Nat) (us:List T),j ≠ i->ρ[j]? =some (Sl.ow us)->σ[j]? ≠ some (some (V.ref a))
 xc:∀ (i:Nat) (c:Nat),ρ[i]? =some (Sl.xc c)->∃ a:Addr,σ[i]? =some (some (V.ref a))/\B a=some (.ext (gI (Y.cl c) a))
theorem SI.grow {Y:Fx} {B:Hp} {ρ:En} {σ:Sg} {H H' :Hp} (I:SI Y B ρ σ H) (s:zx H H'):SI Y (zR B H H') ρ σ H' where
 s0:=I.s0
 sH:=I.sH.trans s
 sB:=zR.le I.sB s
 old:=fun b o h=>by rw [Zs (I.sH b o h)]; exact I.old b o h
 len:=I.len
 vl:=fun i t h=>let ⟨v,e,r⟩:=I.vl i t h; ⟨v,e,r.mono (zR.ge I.sB s)⟩
 ow:=fun i ts h=>let ⟨a,xs,e,b,h0,hh,r,d⟩:=I.ow i ts h; ⟨a,xs,e,by rw [Zs hh]; exact b,h0,s _ _ hh,r.mono (zR.ge I.sB s),d⟩
 xc:=fun i c h=>let ⟨a,e,r⟩:=I.xc i c h; ⟨a,e,zR.ge I.sB s a _ r⟩
def XP (Y:Fx) (B:Hp) (c:Nat):Prop:=∀ (d:Option Addr) (H' :Hp),zx Y.H0 H' ->zx B H' ->Y.E (Y.cl c) d H'
def Po {α β:Type} (Y:Fx) (rel:Hp->Hp->β->α->Prop) (B H:Hp) (r:R α) (Q:β->Hp->Prop):Prop:=match r with
 | .ok a=>∀ b H',zx H H' ->rel (zR B H H') H' b a->Q b H'
 | .ex c=>XP Y B c
 | .bad=>False
abbrev rC:Hp->Hp->V->T->Prop:=fun B _ v t=>Rep B v t
abbrev rB:Hp->Hp->V->T->Prop:=fun _ H v t=>Rep H v t
abbrev rCs:Hp->Hp->List V->List T->Prop:=fun B _ v t=>zE B v t
abbrev rE {α:Type}:Hp->Hp->α->α->Prop:=fun _ _ a b=>a=b
def tS {α β:Type} (Y:Fx) (rel:Hp->Hp->β->α->Prop) (f:En->R α) (ρ:En):Sg->Hp->(β->Hp->Prop)->Prop:=fun σ H Q=>∃ B,SI Y B ρ σ H/\Po Y rel B H (f ρ) Q
structure Snd (X:Cx) (Y:Fx) (e:Expr) (f:En->R T):Prop where
 mk ::
 go:∀ ρ,PE X e (tS Y rC f ρ)
instance {X:Cx} {Y:Fx} {e:Expr} {f:En->R T}:CoeFun (Snd X Y e f) fun _=>∀ ρ,PE X e (tS Y rC f ρ):=⟨Snd.go⟩
structure jY (X:Cx) (Y:Fx) (e:Expr) (f:En->R T):Prop where
 mk ::
 go:∀ ρ,PE X e (tS Y rB f ρ)
instance {X:Cx} {Y:Fx} {e:Expr} {f:En->R T}:CoeFun (jY X Y e f) fun _=>∀ ρ,PE X e (tS Y rB f ρ):=⟨jY.go⟩
structure Ws (X:Cx) (Y:Fx) (e:Expr) (f:En->R Bool):Prop where
 mk ::
 go:∀ ρ,PT X e (tS Y rE f ρ)
instance {X:Cx} {Y:Fx} {e:Expr} {f:En->R Bool}:CoeFun (Ws X Y e f) fun _=>∀ ρ,PT X e (tS Y rE f ρ):=⟨Ws.go⟩
structure UF (X:Cx) (Y:Fx) (es:List Expr) (f:En->R (List T)):Prop where
 mk ::
 go:∀ ρ,PA X es (tS Y rCs f ρ)
instance {X:Cx} {Y:Fx} {es:List Expr} {f:En->R (List T)}:CoeFun (UF X Y es f) fun _=>∀ ρ,PA X es (tS Y rCs f ρ):=⟨UF.go⟩
theorem step {α α' β β' :Type} {Y:Fx} {rel:Hp->Hp->β->α->Prop} {rel' :Hp->Hp->β' ->α' ->Prop} {f:En->R α} {k:α->R α'} {ρ:En} {B:Hp} {σ:Sg} {H:Hp} {Q:β' ->Hp->Prop} {K:β->Hp->Prop}
  (I:SI Y B ρ σ H) (h:Po Y rel' B H ((f ρ).bind k) Q)
  (n:∀ a b H1,f ρ= .ok a->zx H H1->rel (zR B H H1) H1 b a->SI Y (zR B H H1) ρ σ H1->Po Y rel' (zR B H H1) H1 (k a) Q->K b H1):tS Y rel f ρ σ H K:=by
 refine ⟨B,I, ?_⟩
 cases e:f ρ with
 | bad=>rw [e] at h; exact h
 | ex c=>rw [e] at h; exact h
 | ok a=>
  rw [e] at h
  intro b H1 s r
  refine n a b H1 e s r (I.grow s) ?_
  have h' :Po Y rel' B H (k a) Q:=h
  revert h'
  cases k a with
  | bad=>exact fun h' =>h'
  | ex c=>exact fun h' d H' s0 sB' =>h' d H' s0 ((zR.ge I.sB s).trans sB')
  | ok a' =>exact fun h' b' H2 s2 r2=>h' b' H2 (s.trans s2) (by rw [← zR.trans s s2]; exact r2)
theorem ZQ {α β:Type} {Y:Fx} {rel:Hp->Hp->β->α->Prop} {ρ:En} {B:Hp} {σ:Sg} {H:Hp} {a:α} {b:β} {Q:β->Hp->Prop} (I:SI Y B ρ σ H) (h:Po Y rel B H (.ok a) Q) (r:rel B H b a):Q b H:=h b H (zx.refl H) (by rw [zR.self B H I.sB]; exact r)
theorem Snd.b {X:Cx} {Y:Fx} {e:Expr} {f:En->R T} (h:Snd X Y e f):jY X Y e f:= .mk fun ρ=>PE.imp (h ρ) fun σ H Q ⟨B,I,q⟩=>⟨B,I,by
 revert q
 cases f ρ with
 | bad=>exact fun q=>q
 | ex c=>exact fun q=>q
 | ok a=>exact fun q b H' s r=>q b H' s (r.mono (zR.le I.sB s))⟩
section
variable {X:Cx} {Y:Fx} {a b c:Expr} {fa fb fc:En->R T} {pos:Pos}
def vE (i:Nat):En->R T:=fun ρ=>match ρ[i]? with
 | some (.vl t)=> .ok t
 | _=> .bad
def vB (i:Nat):En->R T:=fun ρ=>match ρ[i]? with
 | some (.vl t)=> .ok t
 | some (.ow ts)=> .ok (.lst ts)
 | _=> .bad
def cE (t:T):En->R T:=fun _=> .ok t
theorem zb (i:Nat) {x:Str} (h:PE X (.Name x pos) (Qv i)):Snd X Y (.Name x pos) (vE i):= .mk fun ρ=>PE.imp h fun σ H Q ⟨B,I,q⟩=>by
 unfold vE at q
 split at q
 ·rename_i t e
  obtain ⟨v,e1,r⟩:=I.vl i t e
  exact ⟨v,e1,ZQ I q r⟩
 ·exact q.elim
theorem zq (i:Nat) {x:Str} (h:PE X (.Name x pos) (Qv i)):jY X Y (.Name x pos) (vB i):= .mk fun ρ=>PE.imp h fun σ H Q ⟨B,I,q⟩=>by
 unfold vB at q
 split at q
 ·rename_i t e
  obtain ⟨v,e1,r⟩:=I.vl i t e
  exact ⟨v,e1,ZQ I q (r.mono I.sB)⟩
 ·rename_i ts e
  obtain ⟨a,xs,e1,_,_,hh,r,_⟩:=I.ow i ts e
  exact ⟨.ref a,e1,ZQ I q (.lst hh (r.mono I.sB))⟩
 ·exact q.elim
theorem zd {i j}:Snd X Y (.Constant (.int i) j pos) (cE (.int i)):= .mk fun ρ=>PE.imp VD fun σ H Q ⟨B,I,q⟩=>ZQ I q (.int i)
theorem uN {i j}:Snd X Y (.Constant (.bool i) j pos) (cE (.bl i)):= .mk fun ρ=>PE.imp k7 fun σ H Q ⟨B,I,q⟩=>ZQ I q (.bl i)
theorem ZW {j}:Snd X Y (.Constant .none j pos) (cE .non):= .mk fun ρ=>PE.imp VE fun σ H Q ⟨B,I,q⟩=>ZQ I q .non
theorem zM {i j}:Snd X Y (.Constant (.str i) j pos) (cE (.str i)):= .mk fun ρ=>PE.imp qR fun σ H Q ⟨B,I,q⟩=>ZQ I q (.str i)
def zg:En->R (List T):=fun _=> .ok []
def z9 (f:En->R T) (g:En->R (List T)):En->R (List T):=fun ρ=>(f ρ).bind fun t=>(g ρ).bind fun ts=> .ok (t :: ts)
theorem zh:UF X Y [] zg:= .mk fun ρ=>PA.imp Zi fun σ H Q ⟨B,I,q⟩=>ZQ I q .nil
theorem za {es:List Expr} {g:En->R (List T)} (h:Snd X Y a fa) (hs:UF X Y es g) (hq:starEach (a :: es) X.env=(false,eval a X.env) :: starEach es X.env:=by exact ZB rfl):UF X Y (a :: es) (z9 fa g):= .mk fun ρ=>
 PA.imp (zB (h ρ) (hs ρ) hq) fun σ H Q ⟨B,I,q⟩=>step I q fun t v H1 _ s1 r1 I1 q1=>step I1 q1 fun ts vs H2 _ s2 r2 I2 q2=>ZQ I2 q2 (.cons (r1.mono (zR.ge I1.sB s2)) r2)
theorem zx.new {H:Hp} {p:Addr} (h:H p=none) (o:HO):zx H (upd H p o):=fun b u q=>by rw [zy (zQ q h)]; exact q
theorem j9 {B H:Hp} {p:Addr} (h:H p=none) (o:HO):zR B H (upd H p o) p=some o:=by rw [Zv h,Z6]
def bnd:Nat:=16777216
theorem ZM {n:Nat} (h:n<=bnd):n<=sizeLine:=by rw [sizeLine_eq]; exact h
def Zo (g:En->R (List T)):En->R T:=fun ρ=>(g ρ).bind fun ts=>if ts.length<=bnd then .ok (.tup ts) else .bad
def Jn (g:En->R (List T)):En->R T:=fun ρ=>(g ρ).bind fun ts=>if ts.length<=bnd then .ok (.lst ts) else .bad
theorem QR {ρ:En} {σ:Sg} {B H:Hp} {xs:List V} {ts:List T} (I:SI Y B ρ σ H) (r:zE B xs ts) {p:Addr} (h:H p=none):Rep (zR B H (upd H p (.tup xs))) (.ref p) (.tup ts):=
 .tup (j9 h _) (r.mono (zR.ge I.sB (zx.new h _)))
theorem QS {ρ:En} {σ:Sg} {B H:Hp} {xs:List V} {ts:List T} (I:SI Y B ρ σ H) (r:zE B xs ts) {p:Addr} (h:H p=none):Rep (zR B H (upd H p (.lst xs))) (.ref p) (.lst ts):=
 .lst (j9 h _) (r.mono (zR.ge I.sB (zx.new h _)))
theorem ZE {es:List Expr} {g:En->R (List T)} {x1} (h:UF X Y es g):Snd X Y (.Tuple es x1 pos) (Zo g):= .mk fun ρ=>PE.imp (VW (h ρ)) fun σ H Q ⟨B,I,q⟩=>
 step I q fun ts vs H1 _ s1 r1 I1 q1=>by
  split at q1
  ·rename_i hb
   refine ⟨by rw [r1.length]; exact ZM hb,fun p hp=>q1 _ _ (zx.new hp _) (QR I1 r1 hp)⟩
  ·exact q1.elim
theorem wc {es:List Expr} {g:En->R (List T)} (h:UF X Y es g):Snd X Y (.List es pos) (Jn g):= .mk fun ρ=>PE.imp (qT (h ρ)) fun σ H Q ⟨B,I,q⟩=>
 step I q fun ts vs H1 _ s1 r1 I1 q1=>by
  split at q1
  ·rename_i hb
   refine ⟨by rw [r1.length]; exact ZM hb,fun p hp=>q1 _ _ (zx.new hp _) (QS I1 r1 hp)⟩
  ·exact q1.elim
end
end PV
namespace PV
open PySem PySem.Spec PyProof.Rows L2
def eqL (f:T->T->Option Bool):List T->List T->Option Bool
 | [],[]=>some true
 | [],_ :: _=>some false
 | _ :: _,[]=>some false
 | x :: xs,y :: ys=>match f x y with
  | none=>none
  | some b=>match eqL f xs ys with
   | none=>none
   | some c=>some (b && c)
def b2 (b:Bool):Int:=if b then 1 else 0
def eqF:Nat->T->T->Option Bool
 | _, .non, .non=>some true
 | _, .bl a, .bl b=>some (a == b)
 | _, .bl a, .int j=>some (b2 a == j)
 | _, .int i, .bl b=>some (i == b2 b)
 | _, .int i, .int j=>some (i == j)
 | _, .str x, .str y=>some (x == y)
 | n+1, .tup xs, .tup ys=>eqL (eqF n) xs ys
 | n+1, .lst xs, .lst ys=>eqL (eqF n) xs ys
 | n+1, .fz xs, .lst ys=>eqL (eqF n) xs ys
 | n+1, .lst xs, .fz ys=>eqL (eqF n) xs ys
 | n+1, .fz xs, .fz ys=>eqL (eqF n) xs ys
 | 0, .tup _, .tup _=>none
 | 0, .lst _, .lst _=>none
 | 0, .fz _, .lst _=>none
 | 0, .lst _, .fz _=>none
 | 0, .fz _, .fz _=>none
 | _, .non,_=>some false
 | _, .bl _,_=>some false
 | _, .int _,_=>some false
 | _, .str _,_=>some false
 | _, .tup _,_=>some false
 | _, .lst _,_=>some false
 | _, .fz _,_=>some false
mutual
theorem Rep.fn {H:Hp}:∀ {v:V} {t t' :T},Rep H v t->Rep H v t' ->t=t'
 | _,_,_, .non, .non=>rfl
 | _,_,_, .bl _, .bl _=>rfl
 | _,_,_, .int _, .int _=>rfl
 | _,_,_, .str _, .str _=>rfl
 | _,_,_, .tup h r, .tup h' r' =>by
  rw [h] at h'; cases h'; rw [zE.fn r r']
 | _,_,_, .tup h r, .lst h' r' =>by rw [h] at h'; cases h'
 | _,_,_, .tup h r, .fz h' r' =>by rw [h] at h'; cases h'
 | _,_,_, .lst h r, .tup h' r' =>by rw [h] at h'; cases h'
 | _,_,_, .lst h r, .lst h' r' =>by
  rw [h] at h'; cases h'; rw [zE.fn r r']
 | _,_,_, .lst h r, .fz h' r' =>by rw [h] at h'; cases h'
 | _,_,_, .fz h r, .tup h' r' =>by rw [h] at h'; cases h'
 | _,_,_, .fz h r, .lst h' r' =>by rw [h] at h'; cases h'
 | _,_,_, .fz h r, .fz h' r' =>by
  rw [h] at h'; cases h'; rw [zE.fn r r']
theorem zE.fn {H:Hp}:∀ {v:List V} {t t' :List T},zE H v t->zE H v t' ->t=t'
 | _,_,_, .nil, .nil=>rfl
 | _,_,_, .cons h r, .cons h' r' =>by rw [Rep.fn h h',zE.fn r r']
end
theorem ZA {f:T->T->Option Bool} (hf:∀ x b,f x x=some b->b=true):∀ (xs:List T) (b:Bool),eqL f xs xs=some b->b=true
 | [],b,h=>by
  have h' :some true=some b:=h
  cases h'; rfl
 | x :: xs,b,h=>by
  unfold eqL at h
  cases e:f x x with
  | none=>rw [e] at h; cases h
  | some c=>
   rw [e] at h
   cases e' :eqL f xs xs with
   | none=>rw [e'] at h; cases h
   | some d=>
    rw [e'] at h
    cases h
    rw [hf x c e,ZA hf xs d e']
    rfl
theorem Zn:∀ (n:Nat) (t:T) (b:Bool),eqF n t t=some b->b=true
 | n, .non,b,h=>by unfold eqF at h; cases h; rfl
 | n, .bl x,b,h=>by unfold eqF at h; cases h; simp
 | n, .int x,b,h=>by unfold eqF at h; cases h; simp
 | n, .str x,b,h=>by unfold eqF at h; cases h; simp
 | 0, .tup x,b,h=>by unfold eqF at h; cases h
 | 0, .lst x,b,h=>by unfold eqF at h; cases h
 | 0, .fz x,b,h=>by unfold eqF at h; cases h
 | n+1, .tup x,b,h=>by unfold eqF at h; exact ZA (Zn n) x b h
 | n+1, .lst x,b,h=>by unfold eqF at h; exact ZA (Zn n) x b h
 | n+1, .fz x,b,h=>by unfold eqF at h; exact ZA (Zn n) x b h
theorem UG {f:T->T->Option Bool}:∀ {xs ys:List T} {b:Bool},eqL f xs ys=some b->
  ∃ e:Nat->Bool,(∀ j x y,xs[j]? =some x->ys[j]? =some y->f x y=some (e j))/\((List.range (min xs.length ys.length)).all e && xs.length == ys.length)=b
 | [],[],b,h=>by
  have h' :some true=some b:=h
  cases h'
  exact ⟨fun _=>true,fun j x y h=>by simp at h,by simp⟩
 | [],y :: ys,b,h=>by
  have h' :some false=some b:=h
  cases h'
  exact ⟨fun _=>true,fun j x y h=>by simp at h,by simp⟩
 | x :: xs,[],b,h=>by
  have h' :some false=some b:=h
  cases h'
  exact ⟨fun _=>true,fun j x y h h' =>by simp at h',by simp⟩
 | x :: xs,y :: ys,b,h=>by
  unfold eqL at h
  cases e:f x y with
  | none=>rw [e] at h; cases h
  | some c=>
   rw [e] at h
   cases e' :eqL f xs ys with
   | none=>rw [e'] at h; cases h
   | some d=>
    rw [e'] at h
    cases h
    obtain ⟨g,h1,h2⟩:=UG e'
    refine ⟨fun j=>match j with | 0=>c | j+1=>g j,fun j u v hu hv=> ?_, ?_⟩
    ·cases j with
     | zero=>simp at hu hv; subst hu hv; exact e
     | succ j=>exact h1 j u v (by simpa using hu) (by simpa using hv)
    ·have z:min (x :: xs).length (y :: ys).length=min xs.length ys.length+1:=by simp only [List.length_cons]; omega
     rw [z,List.range_succ_eq_map,List.all_cons,List.all_map]
     have z2:((x :: xs).length == (y :: ys).length)=(xs.length == ys.length):=by simp
     rw [z2,← h2,Bool.and_assoc]
     rfl
section
variable {X:Cx} {pins:List (Addr×Obj)} {σ:Sg} {H:Hp} {s:Shared}
theorem ZR {a:Addr} {xs:List V} {ts:List T} (I:L2.Inv X pins σ H s) (h:H a=some (.tup xs)) (r:zE H xs ts):∃ its:List Value,Vals xs its/\s.heap.IsTuple a its.toArray/\ts.length=its.length/\xs.length<=sizeLine:=by
 obtain ⟨its,rv,p,z⟩:=I.tuple (SqT.of h)
 exact ⟨its,rv,p,by rw [← r.length]; exact rv.length,z⟩
theorem zT {a:Addr} {xs:List V} {ts:List T} (I:L2.Inv X pins σ H s) (h:Rd H a (.lst xs)) (r:zE H xs ts):∃ its:List Value,Vals xs its/\s.heap.IsList a its.toArray/\ts.length=its.length/\xs.length<=sizeLine:=by
 obtain ⟨its,rv,p,z⟩:=I.list (.inl h)
 exact ⟨its,rv,p.isList,by rw [← r.length]; exact rv.length,z⟩
end
abbrev EqN (A:Around) (s:Shared) (u u' :Value) (b:Bool):Prop:=SeqAt.EqAt A s u u' b/\SeqAt.RcAt A s u u' b/\SeqAt.RcNeAt A s u u' (!b)
section
variable {X:Cx} {pins:List (Addr×Obj)} {σ:Sg} {H:Hp} {s:Shared}
theorem UH {xs ys:List V} {ts us:List T} {its its' :List Value} {A:Around} {f:T->T->Option Bool} {e:Nat->Bool} (r:zE H xs ts) (r' :zE H ys us) (v:Vals xs its) (v' :Vals ys its')
  (he:∀ (j:Nat) (x y:T),ts[j]? =some x->us[j]? =some y->f x y=some (e j))
  (ih:∀ (x y:T) (b:Bool) (p q:V) (u w:Value),f x y=some b->Rep H p x->Rep H q y->RelV p u->RelV q w->EqN A s u w b) (j:Nat) (h1:j < its.toArray.size) (h2:j < its'.toArray.size):
  SeqAt.EqAt A s its.toArray[j] its'.toArray[j] (e j):=by
 have l1:=v.length
 have l2:=v'.length
 have m1:=r.length
 have m2:=r'.length
 have k1:j < xs.length:=by simp at h1; omega
 have k2:j < ys.length:=by simp at h2; omega
 obtain ⟨t,et,rt⟩:=r.getV (List.getElem?_eq_getElem k1)
 obtain ⟨t',et',rt'⟩:=r'.getV (List.getElem?_eq_getElem k2)
 obtain ⟨u,eu,ru⟩:=v.get (List.getElem?_eq_getElem k1)
 obtain ⟨u',eu',ru'⟩:=v'.get (List.getElem?_eq_getElem k2)
 have q1:its.toArray[j]=u:=by
  have:its[j]? =some its.toArray[j]:=by simp at h1 ⊢
  rw [eu] at this; exact (Option.some.inj this).symm
 have q2:its'.toArray[j]=u' :=by
  have:its'[j]? =some its'.toArray[j]:=by simp at h2 ⊢
  rw [eu'] at this; exact (Option.some.inj this).symm
 rw [q1,q2]
 exact (ih t t' (e j) _ _ u u' (he j t t' et et') rt rt' ru ru').1
theorem QT {A:Around} {a c:Addr} {xs ys:List V} {ts us:List T} {b:Bool} {f:T->T->Option Bool} (I:L2.Inv X pins σ H s) (hu:A.units < cLine) (ha:H a=some (.tup xs)) (hc:H c=some (.tup ys)) (r:zE H xs ts) (r' :zE H ys us)
  (hb:eqL f ts us=some b) (hr:∀ x b,f x x=some b->b=true)
  (ih:∀ (x y:T) (b:Bool) (p q:V) (u w:Value),f x y=some b->Rep H p x->Rep H q y->RelV p u->RelV q w->EqN A.in1 s u w b):EqN A s (.ref a) (.ref c) b:=by
 obtain ⟨its,v,p,l,_⟩:=ZR I ha r
 obtain ⟨its',v',p',l',_⟩:=ZR I hc r'
 obtain ⟨e,he,hb'⟩:=UG hb
 have hp:=UH (A:=A.in1) r r' v v' he ih
 have z:((List.range (min its.toArray.size its'.toArray.size)).all e && its.toArray.size == its'.toArray.size)=b:=by
  rw [← hb']; simp [l,l']
 have R:=SeqAt.RcAt.tuples p p' hu hp
 have N:=SeqAt.RcNeAt.tuples p p' hu hp
 rw [z] at R
 have N' :SeqAt.RcNeAt A s (.ref a) (.ref c) (!b):=by
  rw [← z]; exact N
 refine ⟨?_,R,N'⟩
 by_cases hac:a=c
 ·subst hac
  rw [ha] at hc; cases hc
  have:=r.fn r'; subst this
  rw [ZA hr ts b hb]
  exact SeqAt.EqAt.same _
 ·exact SeqAt.EqAt.of_refs hac R
theorem wd {A:Around} {a c:Addr} {xs ys:List V} {ts us:List T} {b:Bool} {f:T->T->Option Bool} (I:L2.Inv X pins σ H s) (hu:A.units < cLine) (ha:Rd H a (.lst xs)) (hc:Rd H c (.lst ys)) (r:zE H xs ts) (r' :zE H ys us)
  (hb:eqL f ts us=some b) (hr:∀ x b,f x x=some b->b=true)
  (ih:∀ (x y:T) (b:Bool) (p q:V) (u w:Value),f x y=some b->Rep H p x->Rep H q y->RelV p u->RelV q w->EqN A.in1 s u w b):EqN A s (.ref a) (.ref c) b:=by
 obtain ⟨its,v,p,l,_⟩:=zT I ha r
 obtain ⟨its',v',p',l',_⟩:=zT I hc r'
 obtain ⟨e,he,hb'⟩:=UG hb
 have hp:=UH (A:=A.in1) r r' v v' he ih
 have RN:SeqAt.RcAt A s (.ref a) (.ref c) b/\SeqAt.RcNeAt A s (.ref a) (.ref c) (!b):=by
  by_cases hl:its.toArray.size=its'.toArray.size
  ·have z:(List.range its.toArray.size).all e=b:=by
    rw [← hb']
    have:ts.length=us.length:=by simp at hl; omega
    rw [this]
    have k:its.toArray.size=us.length:=by simp; omega
    rw [k]; simp
   have R:=SeqAt.RcAt.lists p p' hl hu hp
   have N:=SeqAt.RcNeAt.lists p p' hl hu hp
   rw [z] at R
   refine ⟨R, ?_⟩
   rw [← z]; exact N
  ·have hl' :(its.toArray.size != its'.toArray.size)=true:=by simpa using hl
   have z:b=false:=by
    rw [← hb']
    have:¬ ts.length=us.length:=by simp at hl; omega
    simp [this]
   subst z
   exact ⟨SeqAt.RcAt.lists_lengths p p' hl' hu,SeqAt.RcNeAt.lists_lengths p p' hl' hu⟩
 refine ⟨?_,RN.1,RN.2⟩
 by_cases hac:a=c
 ·subst hac
  have hxy:xs=ys:=by
   rcases ha with ha | ⟨o,ha⟩ <;> rcases hc with hc | ⟨o',hc⟩ <;> (rw [ha] at hc; cases hc) <;> rfl
  subst hxy
  have:=r.fn r'; subst this
  rw [ZA hr ts b hb]
  exact SeqAt.EqAt.same _
 ·exact SeqAt.EqAt.of_refs hac RN.1
end
section
variable {X:Cx} {pins:List (Addr×Obj)} {σ:Sg} {H:Hp} {s:Shared}
theorem wY {A:Around}:A.in1.units=A.units+1:=rfl
set_option maxHeartbeats 2000000 in
theorem UI (I:L2.Inv X pins σ H s):∀ (A:Around),A.units < cLine->∀ (x y:T) (b:Bool) (p q:V) (u w:Value),eqF 0 x y=some b->Rep H p x->Rep H q y->RelV p u->RelV q w->EqN A s u w b:=by
 intro A hu x y b p q u w h rp rq ru rw'
 have hu' :=hu
 cases rp with
 | non=>
  obtain rfl:u=Value.none:=ru
  cases rq with
  | non=>obtain rfl:w=Value.none:=rw'; unfold eqF at h; cases h; exact ⟨.same _, .none_none, .none_none⟩
  | bl c=>obtain rfl:w=Value.bool c:=rw'; unfold eqF at h; cases h; exact ⟨.none_bool _, .none_bool _, .none_bool _⟩
  | int c=>obtain ⟨t,rfl⟩:=rw'; unfold eqF at h; cases h; exact ⟨.none_int _ _, .none_int _ _, .none_int _ _⟩
  | str c=>obtain ⟨t,rfl⟩:=rw'; unfold eqF at h; cases h; exact ⟨.none_str _ _, .none_str _ _, .none_str _ _⟩
  | tup h1 r1=>obtain rfl:w=Value.ref _:=rw'; unfold eqF at h; cases h; obtain ⟨i,_,p,_⟩:=ZR I h1 r1; exact ⟨.none_tuple p hu', .none_tuple p hu', .none_tuple p hu'⟩
  | lst h1 r1=>obtain rfl:w=Value.ref _:=rw'; unfold eqF at h; cases h; obtain ⟨i,_,p,_⟩:=zT I (.inl h1) r1; exact ⟨.none_list p hu', .none_list p hu', .none_list p hu'⟩
  | fz h1 r1=>obtain rfl:w=Value.ref _:=rw'; unfold eqF at h; cases h; obtain ⟨i,_,p,_⟩:=zT I (.inr ⟨_,h1⟩) r1; exact ⟨.none_list p hu', .none_list p hu', .none_list p hu'⟩
 | bl d=>
  obtain rfl:u=Value.bool d:=ru
  cases rq with
  | non=>obtain rfl:w=Value.none:=rw'; unfold eqF at h; cases h; exact ⟨.bool_none _, .bool_none _, .bool_none _⟩
  | bl c=>obtain rfl:w=Value.bool c:=rw'; unfold eqF at h; cases h; exact ⟨.bool_bool _ _, .bool_bool _ _, .bool_bool _ _⟩
  | int c=>obtain ⟨t,rfl⟩:=rw'; unfold eqF at h; cases h; exact ⟨.bool_int _ _ _, .bool_int _ _ _, .bool_int _ _ _⟩
  | str c=>obtain ⟨t,rfl⟩:=rw'; unfold eqF at h; cases h; exact ⟨.bool_str _ _ _, .bool_str _ _ _, .bool_str _ _ _⟩
  | tup h1 r1=>obtain rfl:w=Value.ref _:=rw'; unfold eqF at h; cases h; obtain ⟨i,_,p,_⟩:=ZR I h1 r1; exact ⟨.bool_tuple _ p hu', .bool_tuple _ p hu', .bool_tuple _ p hu'⟩
  | lst h1 r1=>obtain rfl:w=Value.ref _:=rw'; unfold eqF at h; cases h; obtain ⟨i,_,p,_⟩:=zT I (.inl h1) r1; exact ⟨.bool_list _ p hu', .bool_list _ p hu', .bool_list _ p hu'⟩
  | fz h1 r1=>obtain rfl:w=Value.ref _:=rw'; unfold eqF at h; cases h; obtain ⟨i,_,p,_⟩:=zT I (.inr ⟨_,h1⟩) r1; exact ⟨.bool_list _ p hu', .bool_list _ p hu', .bool_list _ p hu'⟩
 | int d=>
  obtain ⟨t0,rfl⟩:=ru
  cases rq with
  | non=>obtain rfl:w=Value.none:=rw'; unfold eqF at h; cases h; exact ⟨.int_none _ _, .int_none _ _, .int_none _ _⟩
  | bl c=>obtain rfl:w=Value.bool c:=rw'; unfold eqF at h; cases h; exact ⟨.int_bool _ _ _, .int_bool _ _ _, .int_bool _ _ _⟩
  | int c=>obtain ⟨t,rfl⟩:=rw'; unfold eqF at h; cases h; exact ⟨.int_int _ _ _ _, .int_int _ _ _ _, .int_int _ _ _ _⟩
  | str c=>obtain ⟨t,rfl⟩:=rw'; unfold eqF at h; cases h; exact ⟨.int_str _ _ _ _, .int_str _ _ _ _, .int_str _ _ _ _⟩
  | tup h1 r1=>obtain rfl:w=Value.ref _:=rw'; unfold eqF at h; cases h; obtain ⟨i,_,p,_⟩:=ZR I h1 r1; exact ⟨.int_tuple _ _ p hu', .int_tuple _ _ p hu', .int_tuple _ _ p hu'⟩
  | lst h1 r1=>obtain rfl:w=Value.ref _:=rw'; unfold eqF at h; cases h; obtain ⟨i,_,p,_⟩:=zT I (.inl h1) r1; exact ⟨.int_list _ _ p hu', .int_list _ _ p hu', .int_list _ _ p hu'⟩
  | fz h1 r1=>obtain rfl:w=Value.ref _:=rw'; unfold eqF at h; cases h; obtain ⟨i,_,p,_⟩:=zT I (.inr ⟨_,h1⟩) r1; exact ⟨.int_list _ _ p hu', .int_list _ _ p hu', .int_list _ _ p hu'⟩
 | str d=>
  obtain ⟨t0,rfl⟩:=ru
  cases rq with
  | non=>obtain rfl:w=Value.none:=rw'; unfold eqF at h; cases h; exact ⟨.str_none _ _, .str_none _ _, .str_none _ _⟩
  | bl c=>obtain rfl:w=Value.bool c:=rw'; unfold eqF at h; cases h; exact ⟨.str_bool _ _ _, .str_bool _ _ _, .str_bool _ _ _⟩
  | int c=>obtain ⟨t,rfl⟩:=rw'; unfold eqF at h; cases h; exact ⟨.str_int _ _ _ _, .str_int _ _ _ _, .str_int _ _ _ _⟩
  | str c=>obtain ⟨t,rfl⟩:=rw'; unfold eqF at h; cases h; exact ⟨.str_str _ _ _ _, .str_str _ _ _ _, .str_str _ _ _ _⟩
  | tup h1 r1=>obtain rfl:w=Value.ref _:=rw'; unfold eqF at h; cases h; obtain ⟨i,_,p,_⟩:=ZR I h1 r1; exact ⟨.str_tuple _ _ p hu', .str_tuple _ _ p hu', .str_tuple _ _ p hu'⟩
  | lst h1 r1=>obtain rfl:w=Value.ref _:=rw'; unfold eqF at h; cases h; obtain ⟨i,_,p,_⟩:=zT I (.inl h1) r1; exact ⟨.str_list _ _ p hu', .str_list _ _ p hu', .str_list _ _ p hu'⟩
  | fz h1 r1=>obtain rfl:w=Value.ref _:=rw'; unfold eqF at h; cases h; obtain ⟨i,_,p,_⟩:=zT I (.inr ⟨_,h1⟩) r1; exact ⟨.str_list _ _ p hu', .str_list _ _ p hu', .str_list _ _ p hu'⟩
 | tup h0 r0=>
  obtain rfl:u=Value.ref _:=ru
  obtain ⟨i0,_,p0,_⟩:=ZR I h0 r0
  cases rq with
  | non=>obtain rfl:w=Value.none:=rw'; unfold eqF at h; cases h; exact ⟨.tuple_none p0 hu', .tuple_none p0 hu', .tuple_none p0 hu'⟩
  | bl c=>obtain rfl:w=Value.bool c:=rw'; unfold eqF at h; cases h; exact ⟨.tuple_bool _ p0 hu', .tuple_bool _ p0 hu', .tuple_bool _ p0 hu'⟩
  | int c=>obtain ⟨t,rfl⟩:=rw'; unfold eqF at h; cases h; exact ⟨.tuple_int _ _ p0 hu', .tuple_int _ _ p0 hu', .tuple_int _ _ p0 hu'⟩
  | str c=>obtain ⟨t,rfl⟩:=rw'; unfold eqF at h; cases h; exact ⟨.tuple_str _ _ p0 hu', .tuple_str _ _ p0 hu', .tuple_str _ _ p0 hu'⟩
  | tup h1 r1=>unfold eqF at h; cases h
  | lst h1 r1=>obtain rfl:w=Value.ref _:=rw'; unfold eqF at h; cases h; obtain ⟨i,_,p,_⟩:=zT I (.inl h1) r1; exact ⟨.tuple_list p0 p hu', .tuple_list p0 p hu', .tuple_list p0 p hu'⟩
  | fz h1 r1=>obtain rfl:w=Value.ref _:=rw'; unfold eqF at h; cases h; obtain ⟨i,_,p,_⟩:=zT I (.inr ⟨_,h1⟩) r1; exact ⟨.tuple_list p0 p hu', .tuple_list p0 p hu', .tuple_list p0 p hu'⟩
 | lst h0 r0=>
  obtain rfl:u=Value.ref _:=ru
  obtain ⟨i0,_,p0,_⟩:=zT I (.inl h0) r0
  cases rq with
  | non=>obtain rfl:w=Value.none:=rw'; unfold eqF at h; cases h; exact ⟨.list_none p0 hu', .list_none p0 hu', .list_none p0 hu'⟩
  | bl c=>obtain rfl:w=Value.bool c:=rw'; unfold eqF at h; cases h; exact ⟨.list_bool _ p0 hu', .list_bool _ p0 hu', .list_bool _ p0 hu'⟩
  | int c=>obtain ⟨t,rfl⟩:=rw'; unfold eqF at h; cases h; exact ⟨.list_int _ _ p0 hu', .list_int _ _ p0 hu', .list_int _ _ p0 hu'⟩
  | str c=>obtain ⟨t,rfl⟩:=rw'; unfold eqF at h; cases h; exact ⟨.list_str _ _ p0 hu', .list_str _ _ p0 hu', .list_str _ _ p0 hu'⟩
  | tup h1 r1=>obtain rfl:w=Value.ref _:=rw'; unfold eqF at h; cases h; obtain ⟨i,_,p,_⟩:=ZR I h1 r1; exact ⟨.list_tuple p0 p hu', .list_tuple p0 p hu', .list_tuple p0 p hu'⟩
  | lst h1 r1=>unfold eqF at h; cases h
  | fz h1 r1=>unfold eqF at h; cases h
 | fz h0 r0=>
  obtain rfl:u=Value.ref _:=ru
  obtain ⟨i0,_,p0,_⟩:=zT I (.inr ⟨_,h0⟩) r0
  cases rq with
  | non=>obtain rfl:w=Value.none:=rw'; unfold eqF at h; cases h; exact ⟨.list_none p0 hu', .list_none p0 hu', .list_none p0 hu'⟩
  | bl c=>obtain rfl:w=Value.bool c:=rw'; unfold eqF at h; cases h; exact ⟨.list_bool _ p0 hu', .list_bool _ p0 hu', .list_bool _ p0 hu'⟩
  | int c=>obtain ⟨t,rfl⟩:=rw'; unfold eqF at h; cases h; exact ⟨.list_int _ _ p0 hu', .list_int _ _ p0 hu', .list_int _ _ p0 hu'⟩
  | str c=>obtain ⟨t,rfl⟩:=rw'; unfold eqF at h; cases h; exact ⟨.list_str _ _ p0 hu', .list_str _ _ p0 hu', .list_str _ _ p0 hu'⟩
  | tup h1 r1=>obtain rfl:w=Value.ref _:=rw'; unfold eqF at h; cases h; obtain ⟨i,_,p,_⟩:=ZR I h1 r1; exact ⟨.list_tuple p0 p hu', .list_tuple p0 p hu', .list_tuple p0 p hu'⟩
  | lst h1 r1=>unfold eqF at h; cases h
  | fz h1 r1=>unfold eqF at h; cases h
set_option maxHeartbeats 2000000 in
theorem QU (I:L2.Inv X pins σ H s):∀ (n:Nat) (A:Around),A.units+n < cLine->∀ (x y:T) (b:Bool) (p q:V) (u w:Value),eqF n x y=some b->Rep H p x->Rep H q y->RelV p u->RelV q w->EqN A s u w b:=by
 intro n
 induction n with
 | zero=>exact fun A hu x y b p q u w h=>UI I A (by omega) x y b p q u w h
 | succ n ih=>
  intro A hu x y b p q u w h rp rq ru rw'
  have low:eqF 0 x y=some b->EqN A s u w b:=fun h=>UI I A (by omega) x y b p q u w h rp rq ru rw'
  have hu' :A.units < cLine:=by omega
  have ih' :=ih A.in1 (by rw [wY]; omega)
  cases rp with
  | tup h0 r0=>
   cases rq with
   | tup h1 r1=>
    obtain rfl:u=Value.ref _:=ru
    obtain rfl:w=Value.ref _:=rw'
    unfold eqF at h
    exact QT I hu' h0 h1 r0 r1 h (Zn n) ih'
   | _=>exact low (by unfold eqF at h ⊢; exact h)
  | lst h0 r0=>
   cases rq with
   | lst h1 r1=>
    obtain rfl:u=Value.ref _:=ru
    obtain rfl:w=Value.ref _:=rw'
    unfold eqF at h
    exact wd I hu' (.inl h0) (.inl h1) r0 r1 h (Zn n) ih'
   | fz h1 r1=>
    obtain rfl:u=Value.ref _:=ru
    obtain rfl:w=Value.ref _:=rw'
    unfold eqF at h
    exact wd I hu' (.inl h0) (.inr ⟨_,h1⟩) r0 r1 h (Zn n) ih'
   | _=>exact low (by unfold eqF at h ⊢; exact h)
  | fz h0 r0=>
   cases rq with
   | lst h1 r1=>
    obtain rfl:u=Value.ref _:=ru
    obtain rfl:w=Value.ref _:=rw'
    unfold eqF at h
    exact wd I hu' (.inr ⟨_,h0⟩) (.inl h1) r0 r1 h (Zn n) ih'
   | fz h1 r1=>
    obtain rfl:u=Value.ref _:=ru
    obtain rfl:w=Value.ref _:=rw'
    unfold eqF at h
    exact wd I hu' (.inr ⟨_,h0⟩) (.inr ⟨_,h1⟩) r0 r1 h (Zn n) ih'
   | _=>exact low (by unfold eqF at h ⊢; exact h)
  | _=>exact low (by cases rq <;> (unfold eqF at h ⊢; exact h))
end
section
variable {X:Cx} {Y:Fx} {a b c d:Expr} {fa fb fc fd:En->R T} {pos:Pos}
def rG (Y:Fx) (g:T->T->R T):R2:=fun x y H Q=>∃ B t t',zx B H/\Rep B x t/\Rep B y t' /\Po Y rC B H (g t t') Q
def ze (g:T->T->R T) (fa fb:En->R T):En->R T:=fun ρ=>(fa ρ).bind fun x=>(fb ρ).bind fun y=>g x y
theorem uO {op:Operator} {g:T->T->R T} (ho:OpR X (binaryOp op) (rG Y g)) (ha:Snd X Y a fa) (hb:Snd X Y b fb):Snd X Y (.BinOp a op b pos) (ze g fa fb):= .mk fun ρ=>
 PE.imp (km ho (ha ρ) (hb ρ)) fun σ H Q ⟨B,I,q⟩=>step I q fun t v H1 _ s1 r1 I1 q1=>step I1 q1 fun t' v' H2 _ s2 r2 I2 q2=>
  ⟨_,t,t',I2.sB,r1.mono (zR.ge I1.sB s2),r2,q2⟩
theorem po0 {g:R T} {B H:Hp} {Q:VK} {t:T} {v:V} (sB:zx B H) (q:Po Y rC B H g Q) (e:g= .ok t) (r:Rep B v t):Q v H:=by
 subst e
 exact q v H (zx.refl H) (by show Rep (zR B H H) v t; rw [zR.self B H sB]; exact r)
theorem xi {g:R T} {B H:Hp} {Q:VK} {ts:List T} {xs:List V} {p:Addr} (sB:zx B H) (q:Po Y rC B H g Q) (e:g= .ok (.tup ts)) (r:zE B xs ts) (h:H p=none):Q (.ref p) (upd H p (.tup xs)):=by
 subst e
 exact q _ _ (zx.new h _) (.tup (j9 h _) (r.mono (zR.ge sB (zx.new h _))))
theorem kC {g:R T} {B H:Hp} {Q:VK} {ts:List T} {xs:List V} {p:Addr} (sB:zx B H) (q:Po Y rC B H g Q) (e:g= .ok (.lst ts)) (r:zE B xs ts) (h:H p=none):Q (.ref p) (upd H p (.lst xs)):=by
 subst e
 exact q _ _ (zx.new h _) (.lst (j9 h _) (r.mono (zR.ge sB (zx.new h _))))
def zz:T->T->R T
 | .int i, .int j=> .ok (.int (i+j))
 | .bl x, .int j=> .ok (.int (b2 x+j))
 | .int i, .bl y=> .ok (.int (i+b2 y))
 | .str x, .str y=>if x.length+y.length<=bnd then .ok (.str (x++y)) else .bad
 | .tup xs, .tup ys=>if xs.length+ys.length<=bnd then .ok (.tup (xs++ys)) else .bad
 | .lst xs, .lst ys=>if xs.length+ys.length<=bnd then .ok (.lst (xs++ys)) else .bad
 | _,_=> .bad
theorem YL {prog:Program} {w:World} {A:Around} {E:Value->Shared->Prop} {s:Shared} {t b:Addr} {vs ws:List Value} {Q:Value->Shared->Prop} (ht:IsTup s.heap t vs.toArray) (hb:IsTup s.heap b ws.toArray) (hv:vs=[])
  (h1:Q (.ref b) s):wpAny (model prog w) A (binaryOp .Add (.ref t) (.ref b)) Q E s:=by
 obtain ⟨⟨cls,dd,data,sl⟩,ho,hc,n,hd⟩:=id ht
 obtain ⟨⟨cls2,dd2,data2,sl2⟩,ho2,hc2,n2,hd2⟩:=id hb
 simp only at hc hd hc2 hd2
 subst hc hd hc2 hd2
 exact concat_meets ⟨_,ho,rfl⟩ ⟨_,ho2,rfl⟩ noFill_tuple_add seq_tuple_add PySem.F.slot_tuple_add PySem.F.entry_tuple_add (PySem.F.args_tuple_add_2 _ _)
   (tuple_addW0 t b vs.toArray ws.toArray n n2 dd dd2 sl sl2 (by simp [hv])) ⟨ho,ho2,h1⟩
theorem QV:OpR X (binaryOp .Add) (rG Y zz):=by
 intro pins s σ H x y v u Q I rx ry h
 obtain ⟨B,t,t',sB,r,r',q⟩:=h
 cases r with
 | int i=>
  cases r' with
  | int j=>exact VP pins s σ H _ _ v u Q I rx ry ⟨i,j,rfl,rfl,po0 sB q rfl (.int _)⟩
  | bl y=>exact Us pins s σ H _ _ v u Q I rx ry ⟨i,y,rfl,rfl,po0 sB q rfl (.int _)⟩
  | _=>exact q.elim
 | bl x=>
  cases r' with
  | int j=>
   obtain rfl:v=Value.bool x:=rx
   obtain ⟨tk,rfl⟩:=ry
   exact IntBool.add_bool_int (⟨.int _,H,I.tok _,⟨_,rfl⟩,po0 sB q rfl (.int _)⟩)
  | _=>exact q.elim
 | str x=>
  cases r' with
  | str y=>
   by_cases hb:x.length+y.length<=bnd
   ·exact uJ pins s σ H _ _ v u Q I rx ry ⟨x,y,rfl,rfl,ZM hb,po0 sB q (if_pos hb) (.str _)⟩
   ·rw [show zz (.str x) (.str y)= .bad from if_neg hb] at q; exact q.elim
  | _=>exact q.elim
 | @tup a xs ts h1 r1=>
  cases r' with
  | @tup a' ys us h2 r2=>
   by_cases hb:ts.length+us.length<=bnd
   ·have eg:zz (.tup ts) (.tup us)= .ok (.tup (ts++us)):=if_pos hb
    have hz:xs.length+ys.length<=sizeLine:=by rw [r1.length,r2.length]; exact ZM hb
    by_cases hx:xs=[]
    ·obtain rfl:v=Value.ref a:=rx
     obtain rfl:u=Value.ref a' :=ry
     obtain ⟨its,rv,p,_⟩:=I.tuple (SqT.of (sB _ _ h1))
     obtain ⟨its',rv',p',_⟩:=I.tuple (SqT.of (sB _ _ h2))
     have et:ts=[]:=r1.nil_iff.mp hx
     refine YL p p' (rv.nil_iff.mpr hx) ⟨.ref a',H,I,rfl,po0 sB q eg ?_⟩
     rw [et]; exact .tup h2 r2
    ·refine QK pins s σ H _ _ v u Q I rx ry ⟨a,a',xs,ys,rfl,rfl,SqT.of (sB _ _ h1),SqT.of (sB _ _ h2),hx,hz,fun hy=> ?_,fun hy p hp=> ?_⟩
     ·refine po0 sB q eg ?_
      rw [r2.nil_iff.mp hy,List.append_nil]
      exact .tup h1 r1
     ·exact xi sB q eg (r1.append r2) hp
   ·rw [show zz (.tup ts) (.tup us)= .bad from if_neg hb] at q; exact q.elim
  | _=>exact q.elim
 | @lst a xs ts h1 r1=>
  cases r' with
  | @lst a' ys us h2 r2=>
   by_cases hb:ts.length+us.length<=bnd
   ·have eg:zz (.lst ts) (.lst us)= .ok (.lst (ts++us)):=if_pos hb
    have hz:xs.length+ys.length<=sizeLine:=by rw [r1.length,r2.length]; exact ZM hb
    exact xb pins s σ H _ _ v u Q I rx ry ⟨a,a',xs,ys,rfl,rfl,sB _ _ h1,sB _ _ h2,hz,fun p hp=>kC sB q eg (r1.append r2) hp⟩
   ·rw [show zz (.lst ts) (.lst us)= .bad from if_neg hb] at q; exact q.elim
  | _=>exact q.elim
 | _=>cases r' <;> exact q.elim
theorem zN (ha:Snd X Y a fa) (hb:Snd X Y b fb):Snd X Y (.BinOp a .Add b pos) (ze zz fa fb):=uO QV ha hb
def WA:T->T->R T
 | .int i, .int j=> .ok (.int (i - j))
 | _,_=> .bad
def JH:T->T->R T
 | .int i, .int j=>if 0 < j then .ok (.int (i % j)) else .bad
 | _,_=> .bad
def Jo:T->T->R T
 | .int i, .int j=>if 0 < j/\j < 1073741824 then .ok (.int (i / j)) else .bad
 | _,_=> .bad
instance (i j:Int):Decidable (wH i j):=by unfold wH; infer_instance
def Z2:T->T->R T
 | .int i, .int j=>if wH i j then .ok (.int (i*j)) else .bad
 | .lst xs, .int k=>if 0<=k/\k < 1000000/\xs.length*k.toNat<=bnd then .ok (.lst (List.replicate k.toNat xs).flatten) else .bad
 | .tup xs, .int k=>if 2<=k/\k < 1000000/\xs ≠ []/\xs.length*k.toNat<=bnd then .ok (.tup (List.replicate k.toNat xs).flatten) else .bad
 | _,_=> .bad
theorem QW:OpR X (binaryOp .Sub) (rG Y WA):=by
 intro pins s σ H x y v u Q I rx ry h
 obtain ⟨B,t,t',sB,r,r',q⟩:=h
 cases r with
 | int i=>
  cases r' with
  | int j=>exact VQ pins s σ H _ _ v u Q I rx ry ⟨i,j,rfl,rfl,po0 sB q rfl (.int _)⟩
  | _=>exact q.elim
 | _=>cases r' <;> exact q.elim
theorem QX:OpR X (binaryOp .Mod) (rG Y JH):=by
 intro pins s σ H x y v u Q I rx ry h
 obtain ⟨B,t,t',sB,r,r',q⟩:=h
 cases r with
 | int i=>
  cases r' with
  | int j=>
   by_cases hj:0 < j
   ·exact VS pins s σ H _ _ v u Q I rx ry ⟨i,j,rfl,rfl,hj,po0 sB q (if_pos hj) (.int _)⟩
   ·rw [show JH (.int i) (.int j)= .bad from if_neg hj] at q; exact q.elim
  | _=>exact q.elim
 | _=>cases r' <;> exact q.elim
theorem YM:OpR X (binaryOp .FloorDiv) (rG Y Jo):=by
 intro pins s σ H x y v u Q I rx ry h
 obtain ⟨B,t,t',sB,r,r',q⟩:=h
 cases r with
 | int i=>
  cases r' with
  | int j=>
   by_cases hj:0 < j/\j < 1073741824
   ·exact QB pins s σ H _ _ v u Q I rx ry ⟨i,j,rfl,rfl,hj,po0 sB q (if_pos hj) (.int _)⟩
   ·rw [show Jo (.int i) (.int j)= .bad from if_neg hj] at q; exact q.elim
  | _=>exact q.elim
 | _=>cases r' <;> exact q.elim
theorem uP (l:Addr) (items:Array Value) (n:Nat) (dd:Option Addr) (sl:Array (Option Value)) (x:Int) (u:Tok) (h1:2<=x) (h2:x < 1000000) (hne:items.isEmpty=false) (hsz:items.size*x.toNat<=sizeLine):
  Meets (Builtin.«tuple.__mul__» ⟨[.ref l, .int x u],[]⟩) (fun _ R s=>s.heap.get? l=some { cls:= .type "tuple",dict:=dd,data:= .seq items n,slots:=sl }/\
   R (.ok (.ret (Value.ref s.heap.objs.size))) { s with heap:=s.heap.push { cls:=Value.type "tuple",data:=Data.seq (List.foldl (fun x1 x2=>x1++x2) #[] (List.replicate x.toNat items)) },toks:=s.toks }):=
 .of_wp fun prog w A R s h=>by
  obtain ⟨hp,g,d,tk,os⟩:=s; obtain ⟨hl,h⟩:=h
  have f1:=AutoSeq1.idx_int
  have e0:(items.size:Int)*x=((items.size*x.toNat:Nat):Int):=by
   have:x=((x.toNat:Nat):Int):=by omega
   rw [Int.natCast_mul,← this]
  have sl1:(sizeLine:Nat)=16777216:=sizeLine_eq
  have c1:¬ (decide (x < -(2 ^ 63)) || decide (x ≥ 2 ^ 63))=true:=by simp; omega
  have c2:¬ (items.isEmpty || x == 1)=true:=by simp [hne]; omega
  have c3:¬ (decide (x<=0) || items.isEmpty)=true:=by simp [hne]; omega
  have c4:¬ ((items.size:Int)*x > (2 ^ 63 - 1) / 8):=by rw [e0]; omega
  have c5:¬ Builtin.Tuple.tupleTooMany ((items.size:Int)*x)=true:=by
   unfold Builtin.Tuple.tupleTooMany
   rw [e0]
   intro z
   have:=of_decide_eq_true z
   omega
  unfold Builtin.«tuple.__mul__»
  wp_walk using wpAny_loadPart' hl
  rw [if_neg c1]
  wp_walk using wpAny_loadPart' hl
  rw [if_neg c2]
  try dsimp only
  rw [if_neg c3]
  try dsimp only
  rw [if_neg c4]
  try dsimp only
  rw [if_neg c5]
  try dsimp only
  have hsz' :sizeOk (.seq (List.foldl (fun x1 x2=>x1++x2) #[] (List.replicate x.toNat items))):=by
   show (List.foldl (fun x1 x2=>x1++x2) #[] (List.replicate x.toNat items)).size<=sizeLine
   have:=jz items.toList x.toNat []
   rw [List.nil_append] at this
   have q:List.foldl (fun x1 x2=>x1++x2) #[] (List.replicate x.toNat items)=(List.replicate x.toNat items.toList).flatten.toArray:=by
    simpa using this
   rw [q,List.size_toArray,jO,Array.length_toList,Nat.mul_comm]
   exact hsz
  exact wpAny_bind (m:=Builtin.Tuple.tupleExact _) (wpAny_newObj_type (wpAny_pure ⟨_,rfl,h⟩) hsz')
theorem jZ:seqRepeat? (.type "tuple")=pure (some (.builtin "tuple.__mul__")):=by
 unfold seqRepeat?
 rw [PySem.seqSlot_of (T:="tuple") (name:="__mul__") (id:="tuple.__mul__") F.slot_tuple_mul.lookup (by decide+kernel),PySem.seqSlot_of (T:="tuple") (name:="__rmul__") (id:="tuple.__rmul__") F.slot_tuple_rmul.lookup (by decide+kernel)]
 rfl
theorem j1:fillsNumberSlot (.type "tuple") "mul"=pure false:=
 PySem.fillsNumberSlot_seq (id:="tuple.__mul__") (r:=some (.builtin "tuple.__rmul__")) F.slot_tuple_mul.lookup (by decide+kernel) F.slot_tuple_rmul.lookup (by decide+kernel)
theorem jp (a:Int) (t:Tok) (l:Addr) (items:Array Value) (n:Nat) (dd:Option Addr) (sl:Array (Option Value)):
  Meets (Builtin.«int.__rmul__» ⟨[.int a t, .ref l],[]⟩) (fun _ R s=>s.heap.get? l=some { cls:= .type "tuple",dict:=dd,data:= .seq items n,slots:=sl }/\R (.ok (.ret Value.notImplemented)) s):=
 .of_wp fun prog w A R s h=>by obtain ⟨hp,g,d,tk,os⟩:=s; obtain ⟨hl,h⟩:=h; wp_walk; exact ⟨_,rfl,h⟩
theorem QY {prog:Program} {w:World} {A:Around} {E:Value->Shared->Prop} {s:Shared} {l:Addr} {its:List Value} {k:Int} {t:Tok} {Q:Value->Shared->Prop} (p:IsTup s.heap l its.toArray) (hne:its ≠ []) (h1:2<=k) (h2:k < 1000000)
  (hsz:its.length*k.toNat<=sizeLine) (q:Q (.ref s.heap.objs.size) { s with heap:=s.heap.push { cls:= .type "tuple",data:= .seq (List.replicate k.toNat its).flatten.toArray } }):
  wpAny (model prog w) A (binaryOp .Mult (.ref l) (.int k t)) Q E s:=by
 obtain ⟨⟨cls,dd,data,sl⟩,ho,hc,n,hd⟩:=id p
 simp only at hc hd
 subst hc hd
 refine wpAny_binaryOp_repeat_ref (T:="tuple") (U:="int") (by decide) ⟨_,ho,rfl⟩ (fun s' =>typeIs_int s' k t) j1 F.fills_int_mul F.slot_int_rmul jZ F.slot_int_index.lookup
  (call_meets F.slot_int_rmul (typeIs_int s k t) F.entry_int_rmul (F.args_int_rmul_2 _ _) (jp k t l its.toArray n dd sl)
   ⟨ho,rfl,⟨_,ho,rfl⟩,call_meets F.slot_tuple_mul ⟨_,ho,rfl⟩ F.entry_tuple_mul (F.args_tuple_mul_2 _ _) (uP l its.toArray n dd sl k t h1 h2 (by simpa using hne) (by simpa using hsz)) ⟨ho, ?_⟩⟩)
 have:=jz its k.toNat []
 rw [List.nil_append] at this
 rw [this]
 exact q
theorem UJ:OpR X (binaryOp .Mult) (rG Y Z2):=by
 intro pins s σ H x y v u Q I rx ry h
 obtain ⟨B,t,t',sB,r,r',q⟩:=h
 cases r with
 | int i=>
  cases r' with
  | int j=>
   by_cases hj:wH i j
   ·exact VR pins s σ H _ _ v u Q I rx ry ⟨i,j,rfl,rfl,hj,po0 sB q (if_pos hj) (.int _)⟩
   ·rw [show Z2 (.int i) (.int j)= .bad from if_neg hj] at q; exact q.elim
  | _=>exact q.elim
 | @lst l xs ts h1 r1=>
  cases r' with
  | int k=>
   by_cases hk:0<=k/\k < 1000000/\ts.length*k.toNat<=bnd
   ·have eg:Z2 (.lst ts) (.int k)= .ok (.lst (List.replicate k.toNat ts).flatten):=if_pos hk
    exact xf pins s σ H _ _ v u Q I rx ry ⟨l,k,xs,rfl,rfl,sB _ _ h1,by omega,by omega,by rw [r1.length]; exact ZM hk.2.2,fun p hp=>kC sB q eg (r1.rep _) hp⟩
   ·rw [show Z2 (.lst ts) (.int k)= .bad from if_neg hk] at q; exact q.elim
  | _=>exact q.elim
 | @tup l xs ts h1 r1=>
  cases r' with
  | int k=>
   by_cases hk:2<=k/\k < 1000000/\ts ≠ []/\ts.length*k.toNat<=bnd
   ·have eg:Z2 (.tup ts) (.int k)= .ok (.tup (List.replicate k.toNat ts).flatten):=if_pos hk
    obtain rfl:v=Value.ref l:=rx
    obtain ⟨tk,rfl⟩:=ry
    obtain ⟨its,rv,p,_⟩:=I.tuple (SqT.of (sB _ _ h1))
    have ln:ts.length=its.length:=r1.length.symm.trans rv.length
    have hne:its ≠ []:=fun z=>hk.2.2.1 (by rw [z] at ln; exact List.length_eq_zero_iff.mp ln)
    refine QY p hne hk.1 hk.2.1 (by rw [← ln]; exact ZM hk.2.2.2) ⟨.ref s.heap.objs.size,upd H s.heap.objs.size (.tup (List.replicate k.toNat xs).flatten),I.laid (t' :=s.toks) (fun b u e=>Heap.get?_push_of_some _ e) (Nat.le_refl _) ?_,rfl, ?_⟩
    ·exact ⟨by rw [jO,r1.length,Nat.mul_comm]; exact ZM hk.2.2.2,(List.replicate k.toNat its).flatten,rv.rep _,⟨_,Heap.get?_push_size _ rfl,rfl,_,rfl⟩, .inr ⟨_,Heap.get?_push_size _ rfl,rfl⟩⟩
    ·exact xi sB q eg (r1.rep _) (I.hok.fresh (Nat.le_refl _))
   ·rw [show Z2 (.tup ts) (.int k)= .bad from if_neg hk] at q; exact q.elim
  | _=>exact q.elim
 | _=>cases r' <;> exact q.elim
theorem wZ (ha:Snd X Y a fa) (hb:Snd X Y b fb):Snd X Y (.BinOp a .Sub b pos) (ze WA fa fb):=uO QW ha hb
theorem UK (ha:Snd X Y a fa) (hb:Snd X Y b fb):Snd X Y (.BinOp a .Mod b pos) (ze JH fa fb):=uO QX ha hb
theorem qV (ha:Snd X Y a fa) (hb:Snd X Y b fb):Snd X Y (.BinOp a .FloorDiv b pos) (ze Jo fa fb):=uO YM ha hb
theorem ZS (ha:Snd X Y a fa) (hb:Snd X Y b fb):Snd X Y (.BinOp a .Mult b pos) (ze Z2 fa fb):=uO UJ ha hb
def qW (fa:En->R T):En->R T:=fun ρ=>(fa ρ).bind fun x=>match x with
 | .int i=> .ok (.int (-i))
 | _=> .bad
theorem QZ (ha:Snd X Y a fa):Snd X Y (.UnaryOp .USub a pos) (qW fa):= .mk fun ρ=>PE.imp (kn VT (ha ρ)) fun σ H Q ⟨B,I,q⟩=>step I q fun t v H1 _ s1 r1 I1 q1=>by
 cases r1 with
 | int i=>exact ⟨i,rfl,po0 I1.sB q1 rfl (.int _)⟩
 | _=>exact q1.elim
def JS (g:T->T->R Bool):R2:=fun x y H Q=>∃ t t' b,Rep H x t/\Rep H y t' /\g t t' = .ok b/\Q (.bl b) H
def jl (g:T->T->R Bool) (fa fb:En->R T):En->R T:=fun ρ=>(fa ρ).bind fun x=>(fb ρ).bind fun y=>(g x y).bind fun b=> .ok (.bl b)
def zv (g:T->T->R Bool) (fa fb:En->R T):En->R Bool:=fun ρ=>(fa ρ).bind fun x=>(fb ρ).bind fun y=>g x y
def Nx (g:T->T->R Bool):Prop:=∀ t t' c,g t t' ≠ .ex c
theorem jB {op:CmpOp} {g:T->T->R Bool} (nx:Nx g) (ho:OpR X (compareOp op) (JS g)) (ha:jY X Y a fa) (hb:jY X Y b fb) (hm:behindInMarks op b=false):Snd X Y (.Compare a [op] [b] pos) (jl g fa fb):= .mk fun ρ=>
 PE.imp (QC ho (ha ρ) (hb ρ) hm) fun σ H Q ⟨B,I,q⟩=>step I q fun t v H1 _ s1 r1 I1 q1=>step I1 q1 fun t' v' H2 _ s2 r2 I2 q2=>by
  cases e:g t t' with
  | bad=>rw [e] at q2; exact q2.elim
  | ex c=>exact absurd e (nx _ _ _)
  | ok b=>rw [e] at q2; exact ⟨t,t',b,r1.mono s2,r2,e,ZQ I2 q2 (.bl b)⟩
theorem zt {op:CmpOp} {g:T->T->R Bool} (nx:Nx g) (ho:OpR X (compareOp op) (JS g)) (ha:jY X Y a fa) (hb:jY X Y b fb) (hm:behindInMarks op b=false):Ws X Y (.Compare a [op] [b] pos) (zv g fa fb):= .mk fun ρ=>
 PT.imp (QD ho (ha ρ) (hb ρ) hm) fun σ H Q ⟨B,I,q⟩=>step I q fun t v H1 _ s1 r1 I1 q1=>step I1 q1 fun t' v' H2 _ s2 r2 I2 q2=>by
  cases e:g t t' with
  | bad=>rw [e] at q2; exact q2.elim
  | ex c=>exact absurd e (nx _ _ _)
  | ok b=>rw [e] at q2; exact ⟨t,t',b,r1.mono s2,r2,e,b,rfl,ZQ I2 q2 rfl⟩
def eqC (t t' :T):R Bool:=match eqF 30 t t' with
 | some b=> .ok b
 | none=> .bad
def neC (t t' :T):R Bool:=match eqF 30 t t' with
 | some b=> .ok (!b)
 | none=> .bad
theorem zX:Nx eqC:=fun t t' c h=>by unfold eqC at h; split at h <;> cases h
theorem WB:Nx neC:=fun t t' c h=>by unfold neC at h; split at h <;> cases h
theorem zw (hu:X.A.units+64 < cLine):OpR X (compareOp .Eq) (JS eqC):=by
 intro pins s σ H x y v u Q I rx ry h
 obtain ⟨t,t',b,r,r',e,q⟩:=h
 unfold eqC at e
 split at e
 ·rename_i k ek
  have e' :k=b:=by injection e
  subst e'
  exact (QU I 30 X.A (by omega) t t' k x y v u ek r r' rx ry).2.1 _ _ _ _ ⟨.bl k,H,I,rfl,q⟩
 ·cases e
theorem Jp (hu:X.A.units+64 < cLine):OpR X (compareOp .NotEq) (JS neC):=by
 intro pins s σ H x y v u Q I rx ry h
 obtain ⟨t,t',b,r,r',e,q⟩:=h
 unfold neC at e
 split at e
 ·rename_i k ek
  cases e
  exact (QU I 30 X.A (by omega) t t' k x y v u ek r r' rx ry).2.2 _ _ _ _ ⟨.bl (!k),H,I,rfl,q⟩
 ·cases e
def ltC:T->T->R Bool
 | .int i, .int j=> .ok (decide (i < j))
 | _,_=> .bad
def leC:T->T->R Bool
 | .int i, .int j=> .ok (decide (i<=j))
 | .str x, .str y=> .ok (!decide (y.cps.toList < x.cps.toList))
 | _,_=> .bad
def gtC:T->T->R Bool
 | .int i, .int j=> .ok (decide (j < i))
 | _,_=> .bad
theorem v8:Nx ltC:=fun t t' c h=>by unfold ltC at h; split at h <;> cases h
theorem ZT:Nx leC:=fun t t' c h=>by unfold leC at h; split at h <;> cases h
theorem uQ:Nx gtC:=fun t t' c h=>by unfold gtC at h; split at h <;> cases h
theorem UL:OpR X (compareOp .Lt) (JS ltC):=by
 intro pins s σ H x y v u Q I rx ry h
 obtain ⟨t,t',b,r,r',e,q⟩:=h
 unfold ltC at e
 split at e
 ·rename_i i j; cases e; cases r; cases r'; exact kq pins s σ H _ _ v u Q I rx ry ⟨i,j,rfl,rfl,q⟩
 ·cases e
theorem JT:OpR X (compareOp .Gt) (JS gtC):=by
 intro pins s σ H x y v u Q I rx ry h
 obtain ⟨t,t',b,r,r',e,q⟩:=h
 unfold gtC at e
 split at e
 ·rename_i i j; cases e; cases r; cases r'; exact ku pins s σ H _ _ v u Q I rx ry ⟨i,j,rfl,rfl,q⟩
 ·cases e
theorem Zj:OpR X (compareOp .LtE) (JS leC):=by
 intro pins s σ H x y v u Q I rx ry h
 obtain ⟨t,t',b,r,r',e,q⟩:=h
 unfold leC at e
 split at e
 ·rename_i i j; cases e; cases r; cases r'; exact kr pins s σ H _ _ v u Q I rx ry ⟨i,j,rfl,rfl,q⟩
 ·rename_i i j; cases e; cases r; cases r'
  obtain ⟨t1,rfl⟩:=rx
  obtain ⟨t2,rfl⟩:=ry
  exact PySem.P.le_str ⟨.bl _,H,I,rfl,q⟩
 ·cases e
end
section
variable {X:Cx} {Y:Fx} {a b c d:Expr} {fa fb fc fd:En->R T} {pos:Pos}
def WV (f:T->Option Bool):List T->Option Bool
 | []=>some false
 | t :: r=>match f t with
  | none=>none
  | some b=>match WV f r with
   | none=>none
   | some c=>some (b || c)
def inC (t t' :T):R Bool:=match t' with
 | .tup ys=>match WV (fun y=>eqF 30 y t) ys with | some b=> .ok b | none=> .bad
 | .lst ys=>match WV (fun y=>eqF 30 y t) ys with | some b=> .ok b | none=> .bad
 | _=> .bad
def YN (t t' :T):R Bool:=(inC t t').bind fun b=> .ok (!b)
theorem UM:Nx inC:=fun t t' c h=>by
 unfold inC at h
 split at h
 ·split at h <;> cases h
 ·split at h <;> cases h
 ·cases h
theorem xj:Nx YN:=fun t t' c h=>by
 unfold YN at h
 cases e:inC t t' with
 | bad=>rw [e] at h; cases h
 | ex k=>exact absurd e (UM _ _ _)
 | ok k=>rw [e] at h; cases h
open Classical in
theorem v9 {H:Hp} (f:T->Option Bool):∃ e:Value->Bool,∀ (v:V) (t:T) (u:Value) (b:Bool),RelV v u->Rep H v t->f t=some b->e u=b:=by
 refine ⟨fun u=>decide (∃ v t,RelV v u/\Rep H v t/\f t=some true),fun v t u b rv r e=> ?_⟩
 cases b with
 | true=>exact decide_eq_true ⟨v,t,rv,r,e⟩
 | false=>
  refine decide_eq_false ?_
  rintro ⟨v',t',rv',r',e'⟩
  have:=rv.inj rv'; subst this
  have:=r.fn r'; subst this
  rw [e] at e'; cases e'
theorem UN {H:Hp} {f:T->Option Bool} {e:Value->Bool} (he:∀ (v:V) (t:T) (u:Value) (b:Bool),RelV v u->Rep H v t->f t=some b->e u=b):∀ {xs:List V} {ts:List T} {its:List Value} {b:Bool},
  Vals xs its->zE H xs ts->WV f ts=some b->its.any e=b/\∀ u∈its,∃ v t k,RelV v u/\Rep H v t/\f t=some k
 | _,_,_,b, .nil, .nil,h=>by
  have h' :some false=some b:=h
  cases h'
  exact ⟨rfl,fun u hu=>by simp at hu⟩
 | _,_,_,b, .cons rv vs, .cons r rs,h=>by
  rename_i v u vals us t ts
  unfold WV at h
  cases q:f t with
  | none=>rw [q] at h; cases h
  | some k=>
   rw [q] at h
   cases q' :WV f ts with
   | none=>rw [q'] at h; cases h
   | some k' =>
    rw [q'] at h
    cases h
    obtain ⟨h1,h2⟩:=UN he vs rs q'
    refine ⟨by rw [List.any_cons,h1,he v t u k rv r q],fun w hw=> ?_⟩
    rcases List.mem_cons.mp hw with rfl | hw
    ·exact ⟨v,t,k,rv,r,q⟩
    ·exact h2 w hw
theorem UO (hu:X.A.units+64 < cLine) (neg:Bool):OpR X (compareOp (if neg then .NotIn else .In)) (JS (if neg then YN else inC)):=by
 intro pins s σ H x y v u Q I rx ry h
 obtain ⟨t,t',b,r,r',e,q⟩:=h
 have hs:∃ k,inC t t' = .ok k/\b=(if neg then !k else k):=by
  cases neg with
  | false=>exact ⟨b,e,rfl⟩
  | true=>
   have e' :YN t t' = .ok b:=e
   unfold YN at e'
   cases z:inC t t' with
   | bad=>rw [z] at e'; cases e'
   | ex k=>exact absurd z (UM _ _ _)
   | ok k=>rw [z] at e'; cases e'; exact ⟨k,rfl,rfl⟩
 obtain ⟨k,ek,rfl⟩:=hs
 unfold inC at ek
 obtain ⟨f,hf⟩:=v9 (H:=H) fun y=>eqF 30 y t
 have eqa:∀ w,(∃ v t' k,RelV v w/\Rep H v t' /\eqF 30 t' t=some k)->SeqAt.EqAt X.A.in1 s w v (f w):=fun w ⟨v',t',k,rv,rr,ee⟩=>by
  rw [hf v' t' w k rv rr ee]
  exact (QU I 30 X.A.in1 (by rw [wY]; omega) t' t k v' x w v ee rr r rv rx).1
 split at ek
 ·rename_i ys
  split at ek
  ·rename_i k' hk
   cases ek
   cases r' with
   | @tup l xs _ h1 r1=>
    obtain rfl:u=Value.ref l:=ry
    obtain ⟨its,rv,p,_⟩:=ZR I h1 r1
    obtain ⟨h2,h3⟩:=UN hf rv r1 hk
    have h4:its.toArray.any f=k:=by simpa using h2
    cases neg with
    | false=>exact SeqAt.in_tupleAt f p (fun w hw=>eqa w (h3 w (by simpa using hw))) (by rw [h4]; exact ⟨.bl k,H,I,rfl,q⟩)
    | true=>exact SeqAt.notIn_tupleAt f p (fun w hw=>eqa w (h3 w (by simpa using hw))) (by rw [h4]; exact ⟨.bl (!k),H,I,rfl,q⟩)
  ·cases ek
 ·rename_i ys
  split at ek
  ·rename_i k' hk
   cases ek
   cases r' with
   | @lst l xs _ h1 r1=>
    obtain rfl:u=Value.ref l:=ry
    obtain ⟨its,rv,p,_⟩:=zT I (.inl h1) r1
    obtain ⟨h2,h3⟩:=UN hf rv r1 hk
    have h4:its.toArray.any f=k:=by simpa using h2
    cases neg with
    | false=>exact SeqAt.in_listAt f p (fun w hw=>eqa w (h3 w (by simpa using hw))) (by rw [h4]; exact ⟨.bl k,H,I,rfl,q⟩)
    | true=>exact SeqAt.notIn_listAt f p (fun w hw=>eqa w (h3 w (by simpa using hw))) (by rw [h4]; exact ⟨.bl (!k),H,I,rfl,q⟩)
  ·cases ek
 ·cases ek
theorem UP (hu:X.A.units+64 < cLine):OpR X (compareOp .In) (JS inC):=UO hu false
theorem va (hu:X.A.units+64 < cLine):OpR X (compareOp .NotIn) (JS YN):=UO hu true
def Jf (t t' :T):R Bool:=match t' with
 | .non=>match t with | .non=> .ok true | _=> .ok false
 | .bl k=>match t with | .bl j=> .ok (j == k) | _=> .ok false
 | _=> .bad
def ZH (t t' :T):R Bool:=(Jf t t').bind fun b=> .ok (!b)
theorem W0:Nx Jf:=fun t t' c h=>by
 unfold Jf at h
 split at h
 ·split at h <;> cases h
 ·split at h <;> cases h
 ·cases h
theorem JU:Nx ZH:=fun t t' c h=>by
 unfold ZH at h
 cases e:Jf t t' with
 | bad=>rw [e] at h; cases h
 | ex k=>exact absurd e (W0 _ _ _)
 | ok k=>rw [e] at h; cases h
theorem UQ (neg:Bool):OpR X (compareOp (if neg then .IsNot else .Is)) (JS (if neg then ZH else Jf)):=by
 intro pins s σ H x y v u Q I rx ry h
 obtain ⟨t,t',b,r,r',e,q⟩:=h
 have hs:∃ k,Jf t t' = .ok k/\b=(if neg then !k else k):=by
  cases neg with
  | false=>exact ⟨b,e,rfl⟩
  | true=>
   have e' :ZH t t' = .ok b:=e
   unfold ZH at e'
   cases z:Jf t t' with
   | bad=>rw [z] at e'; cases e'
   | ex k=>exact absurd z (W0 _ _ _)
   | ok k=>rw [z] at e'; cases e'; exact ⟨k,rfl,rfl⟩
 obtain ⟨k,ek,rfl⟩:=hs
 have go:plainIs v u=true/\(v == u)=k:=by
  cases r' with
  | non=>
   obtain rfl:u=Value.none:=ry
   cases r with
   | non=>obtain rfl:v=Value.none:=rx; cases ek; exact ⟨rfl,rfl⟩
   | bl j=>obtain rfl:v=Value.bool j:=rx; cases ek; exact ⟨rfl,rfl⟩
   | int j=>obtain ⟨t,rfl⟩:=rx; cases ek; exact ⟨rfl,rfl⟩
   | str j=>obtain ⟨t,rfl⟩:=rx; cases ek; exact ⟨rfl,rfl⟩
   | tup _ _=>obtain rfl:v=Value.ref _:=rx; cases ek; exact ⟨rfl,rfl⟩
   | lst _ _=>obtain rfl:v=Value.ref _:=rx; cases ek; exact ⟨rfl,rfl⟩
   | fz _ _=>obtain rfl:v=Value.ref _:=rx; cases ek; exact ⟨rfl,rfl⟩
  | bl k' =>
   obtain rfl:u=Value.bool k' :=ry
   cases r with
   | non=>obtain rfl:v=Value.none:=rx; cases ek; exact ⟨rfl,rfl⟩
   | bl j=>obtain rfl:v=Value.bool j:=rx; cases ek; exact ⟨rfl,by cases j <;> cases k' <;> rfl⟩
   | int j=>obtain ⟨t,rfl⟩:=rx; cases ek; exact ⟨rfl,rfl⟩
   | str j=>obtain ⟨t,rfl⟩:=rx; cases ek; exact ⟨rfl,rfl⟩
   | tup _ _=>obtain rfl:v=Value.ref _:=rx; cases ek; exact ⟨rfl,rfl⟩
   | lst _ _=>obtain rfl:v=Value.ref _:=rx; cases ek; exact ⟨rfl,rfl⟩
   | fz _ _=>obtain rfl:v=Value.ref _:=rx; cases ek; exact ⟨rfl,rfl⟩
  | _=>cases ek
 cases neg with
 | false=>exact wpAny_is_plain go.1 (by rw [go.2]; exact ⟨.bl k,H,I,rfl,q⟩)
 | true=>exact wpAny_isNot_plain go.1 (by rw [go.2]; exact ⟨.bl (!k),H,I,rfl,q⟩)
theorem JV:OpR X (compareOp .Is) (JS Jf):=UQ false
theorem jP:OpR X (compareOp .IsNot) (JS ZH):=UQ true
def chE (g g' :T->T->R Bool) (fa fb fc:En->R T):En->R T:=fun ρ=>(fa ρ).bind fun x=>(fb ρ).bind fun y=>(g x y).bind fun k=>if k=true then (fc ρ).bind fun z=>(g' y z).bind fun k' => .ok (.bl k') else .ok (.bl false)
def chT (g g' :T->T->R Bool) (fa fb fc:En->R T):En->R Bool:=fun ρ=>(fa ρ).bind fun x=>(fb ρ).bind fun y=>(g x y).bind fun k=>if k=true then (fc ρ).bind fun z=>g' y z else .ok false
theorem Jq {op op' :CmpOp} {g g' :T->T->R Bool} (nx:Nx g) (nx' :Nx g') (ho:OpR X (compareOp op) (JS g)) (ho' :OpR X (compareOp op') (JS g')) (ha:jY X Y a fa) (hb:jY X Y b fb) (hc:jY X Y c fc)
  (hm:lastMarks [op,op'] [b,c]=false:=by with_unfolding_all rfl):Snd X Y (.Compare a [op,op'] [b,c] pos) (chE g g' fa fb fc):= .mk fun ρ=>
 PE.imp (YF ho ho' (ha ρ) (hb ρ) (hc ρ) hm) fun σ H Q ⟨B,I,q⟩=>step I q fun t v H1 _ s1 r1 I1 q1=>step I1 q1 fun t' v' H2 _ s2 r2 I2 q2=>by
  cases e:g t t' with
  | bad=>rw [e] at q2; exact q2.elim
  | ex c=>exact absurd e (nx _ _ _)
  | ok k=>
   rw [e] at q2
   refine ⟨t,t',k,r1.mono s2,r2,e,k,rfl, ?_⟩
   cases k with
   | false=>exact ZQ I2 q2 (.bl false)
   | true=>
    refine step I2 q2 fun t3 v3 H3 _ s3 r3 I3 q3=> ?_
    ·cases e:g' t' t3 with
     | bad=>rw [e] at q3; exact q3.elim
     | ex c=>exact absurd e (nx' _ _ _)
     | ok k=>rw [e] at q3; exact ⟨t',t3,k,r2.mono s3,r3,e,ZQ I3 q3 (.bl k)⟩
theorem UR {op op' :CmpOp} {g g' :T->T->R Bool} (nx:Nx g) (nx' :Nx g') (ho:OpR X (compareOp op) (JS g)) (ho' :OpR X (compareOp op') (JS g')) (ha:jY X Y a fa) (hb:jY X Y b fb) (hc:jY X Y c fc)
  (hm:lastMarks [op,op'] [b,c]=false:=by with_unfolding_all rfl):Ws X Y (.Compare a [op,op'] [b,c] pos) (chT g g' fa fb fc):= .mk fun ρ=>
 PT.imp (YG ho ho' (ha ρ) (hb ρ) (hc ρ) hm) fun σ H Q ⟨B,I,q⟩=>step I q fun t v H1 _ s1 r1 I1 q1=>step I1 q1 fun t' v' H2 _ s2 r2 I2 q2=>by
  cases e:g t t' with
  | bad=>rw [e] at q2; exact q2.elim
  | ex c=>exact absurd e (nx _ _ _)
  | ok k=>
   rw [e] at q2
   refine ⟨t,t',k,r1.mono s2,r2,e,k,rfl, ?_⟩
   cases k with
   | false=>exact ⟨false,rfl,ZQ I2 q2 rfl⟩
   | true=>
    refine step I2 q2 fun t3 v3 H3 _ s3 r3 I3 q3=> ?_
    ·cases e:g' t' t3 with
     | bad=>rw [e] at q3; exact q3.elim
     | ex c=>exact absurd e (nx' _ _ _)
     | ok k=>rw [e] at q3; exact ⟨t',t3,k,r2.mono s3,r3,e,k,rfl,ZQ I3 q3 rfl⟩
def vb (r r' r'' :R2) (ta tb tc td:TE):TE:=fun σ H Q=>ta σ H fun x H1=>tb σ H1 fun y H2=>r x y H2 fun z H3=>∃ k,z= .bl k/\
 (if k=true then tc σ H3 fun w' H4=>r' y w' H4 fun z' H5=>∃ k',z' = .bl k' /\(if k' =true then td σ H5 fun w2 H6=>r'' w' w2 H6 Q else Q (.bl false) H5) else Q (.bl false) H3)
theorem US {op op' op'' :CmpOp} {r r' r'' :R2} {ta tb tc td:TE} (ho:OpR X (compareOp op) r) (ho' :OpR X (compareOp op') r') (ho'' :OpR X (compareOp op'') r'') (ha:PE X a ta) (hb:PE X b tb) (hc:PE X c tc) (hd:PE X d td)
  (hm:lastMarks [op,op',op''] [b,c,d]=false:=by with_unfolding_all rfl):PE X (.Compare a [op,op',op''] [b,c,d] pos) (vb r r' r'' ta tb tc td):=by
 intro pins s σ H Q I h
 refine Compare_chain (thn (ha pins s σ H _ I h) fun v s1 ⟨x,H1,I1,r1,q1⟩=>chain_link (thn (hb pins s1 σ H1 _ I1 q1) fun u s2 ⟨y,H2,I2,r2,q2⟩=>
  thn (ho pins s2 σ H2 x y v u _ I2 r1 r2 q2) fun d' s3 ⟨z,H3,I3,r3,k,e,q3⟩=> ?_)) hm
 subst e
 cases r3
 refine wpAny_truthy_bool ?_
 cases k with
 | false=>exact ite_ff ⟨.bl false,H3,I3,rfl,q3⟩
 | true=>
  refine ite_tt (chain_link (thn (hc pins s3 σ H3 _ I3 q3) fun w' s4 ⟨z',H4,I4,r4,q4⟩=>thn (ho' pins s4 σ H4 y z' u w' _ I4 r2 r4 q4) fun d2 s5 ⟨z5,H5,I5,r5,k5,e5,q5⟩=> ?_))
  subst e5
  cases r5
  refine wpAny_truthy_bool ?_
  cases k5 with
  | false=>exact ite_ff ⟨.bl false,H5,I5,rfl,q5⟩
  | true=>exact ite_tt (chain_last (thn (hd pins s5 σ H5 _ I5 q5) fun w6 s6 ⟨z6,H6,I6,r6,q6⟩=>ho'' pins s6 σ H6 z' z6 w' w6 Q I6 r4 r6 q6))
def KG (g g' g'' :T->T->R Bool) (fa fb fc fd:En->R T):En->R T:=fun ρ=>(fa ρ).bind fun x=>(fb ρ).bind fun y=>(g x y).bind fun k=>if k=true then (fc ρ).bind fun z=>(g' y z).bind fun k' =>
 if k' =true then (fd ρ).bind fun w=>(g'' z w).bind fun k'' => .ok (.bl k'') else .ok (.bl false) else .ok (.bl false)
theorem YO {op op' op'' :CmpOp} {g g' g'' :T->T->R Bool} (nx:Nx g) (nx' :Nx g') (nx'' :Nx g'') (ho:OpR X (compareOp op) (JS g)) (ho' :OpR X (compareOp op') (JS g')) (ho'' :OpR X (compareOp op'') (JS g''))
  (ha:jY X Y a fa) (hb:jY X Y b fb) (hc:jY X Y c fc) (hd:jY X Y d fd)
  (hm:lastMarks [op,op',op''] [b,c,d]=false:=by with_unfolding_all rfl):Snd X Y (.Compare a [op,op',op''] [b,c,d] pos) (KG g g' g'' fa fb fc fd):= .mk fun ρ=>
 PE.imp (US ho ho' ho'' (ha ρ) (hb ρ) (hc ρ) (hd ρ) hm) fun σ H Q ⟨B,I,q⟩=>step I q fun t v H1 _ s1 r1 I1 q1=>step I1 q1 fun t' v' H2 _ s2 r2 I2 q2=>by
  cases e:g t t' with
  | bad=>rw [e] at q2; exact q2.elim
  | ex c=>exact absurd e (nx _ _ _)
  | ok k=>
   rw [e] at q2
   refine ⟨t,t',k,r1.mono s2,r2,e,k,rfl, ?_⟩
   cases k with
   | false=>exact ZQ I2 q2 (.bl false)
   | true=>
    refine step I2 q2 fun t3 v3 H3 _ s3 r3 I3 q3=> ?_
    ·cases e:g' t' t3 with
     | bad=>rw [e] at q3; exact q3.elim
     | ex c=>exact absurd e (nx' _ _ _)
     | ok k=>
      rw [e] at q3
      refine ⟨t',t3,k,r2.mono s3,r3,e,k,rfl, ?_⟩
      cases k with
      | false=>exact ZQ I3 q3 (.bl false)
      | true=>
       refine step I3 q3 fun t4 v4 H4 _ s4 r4 I4 q4=> ?_
       ·cases e:g'' t3 t4 with
        | bad=>rw [e] at q4; exact q4.elim
        | ex c=>exact absurd e (nx'' _ _ _)
        | ok k=>rw [e] at q4; exact ⟨t3,t4,k,r3.mono s4,r4,e,ZQ I4 q4 (.bl k)⟩
variable {rest:List Expr} {ga gb:En->R Bool}
def JI (fa fb:En->R T):En->R T:=fun ρ=>(fa ρ).bind fun x=>match x with
 | .bl true=>fb ρ
 | .bl false=> .ok (.bl false)
 | _=> .bad
def orE (fa fb:En->R T):En->R T:=fun ρ=>(fa ρ).bind fun x=>match x with
 | .bl true=> .ok (.bl true)
 | .bl false=>fb ρ
 | _=> .bad
def KH (fa:En->R T):En->R T:=fun ρ=>(fa ρ).bind fun x=>match x with
 | .bl k=> .ok (.bl (!k))
 | _=> .bad
theorem jQ {op} (h:Snd X Y a fa):Snd X Y (.BoolOp op [a] pos) fa:= .mk fun ρ=>VI (h ρ)
theorem ja (ha:Snd X Y a fa) (hb:Snd X Y (.BoolOp .And (b :: rest) pos) fb):Snd X Y (.BoolOp .And (a :: b :: rest) pos) (JI fa fb):= .mk fun ρ=>
 PE.imp (VJ (ha ρ) (hb ρ)) fun σ H Q ⟨B,I,q⟩=>step I q fun t v H1 _ s1 r1 I1 q1=>by
  cases r1 with
  | bl k=>
   refine ⟨k,rfl, ?_⟩
   cases k with
   | true=>exact ⟨_,I1,q1⟩
   | false=>exact ZQ I1 q1 (.bl false)
  | _=>exact q1.elim
theorem gJ (ha:Snd X Y a fa) (hb:Snd X Y (.BoolOp .Or (b :: rest) pos) fb):Snd X Y (.BoolOp .Or (a :: b :: rest) pos) (orE fa fb):= .mk fun ρ=>
 PE.imp (kb (ha ρ) (hb ρ)) fun σ H Q ⟨B,I,q⟩=>step I q fun t v H1 _ s1 r1 I1 q1=>by
  cases r1 with
  | bl k=>
   refine ⟨k,rfl, ?_⟩
   cases k with
   | false=>exact ⟨_,I1,q1⟩
   | true=>exact ZQ I1 q1 (.bl true)
  | _=>exact q1.elim
theorem kD (ha:Snd X Y a fa):Snd X Y (.UnaryOp .Not a pos) (KH fa):= .mk fun ρ=>
 PE.imp (VL (ha ρ)) fun σ H Q ⟨B,I,q⟩=>step I q fun t v H1 _ s1 r1 I1 q1=>by
  cases r1 with
  | bl k=>exact ⟨k,rfl,ZQ I1 q1 (.bl (!k))⟩
  | _=>exact q1.elim
structure JJ (X:Cx) (Y:Fx) (e:Expr) (f:En->R Bool):Prop where
 mk ::
 go:∀ ρ,PW X e (tS Y rE f ρ)
instance {X:Cx} {Y:Fx} {e:Expr} {f:En->R Bool}:CoeFun (JJ X Y e f) fun _=>∀ ρ,PW X e (tS Y rE f ρ):=⟨JJ.go⟩
theorem JJ.t {e:Expr} {f:En->R Bool} (h:JJ X Y e f):Ws X Y e f:= .mk fun ρ=>(h ρ).pt
theorem PW.imp {e:Expr} {t t' :TT} (h:PW X e t) (i:∀ σ H Q,t' σ H Q->t σ H Q):PW X e t' :=fun wh pins s σ H Q I q=>h wh pins s σ H Q I (i σ H Q q)
def Ud (fa fb:En->R Bool):En->R Bool:=fun ρ=>(fa ρ).bind fun x=>if x=true then fb ρ else .ok false
def orT (fa fb:En->R Bool):En->R Bool:=fun ρ=>(fa ρ).bind fun x=>if x=true then .ok true else fb ρ
def WW (fa:En->R Bool):En->R Bool:=fun ρ=>(fa ρ).bind fun x=> .ok (!x)
theorem WX (h:Ws X Y a ga):JJ X Y (.BoolOp .And [a] pos) ga:= .mk fun ρ=>Qy (h ρ)
theorem WC (h:Ws X Y a ga):JJ X Y (.BoolOp .Or [a] pos) ga:= .mk fun ρ=>VF (h ρ)
theorem YQ (ha:Ws X Y a ga) (hb:JJ X Y (.BoolOp .And (b :: rest) pos) gb):JJ X Y (.BoolOp .And (a :: b :: rest) pos) (Ud ga gb):= .mk fun ρ=>
 PW.imp (VG (ha ρ) (hb ρ)) fun σ H Q ⟨B,I,q⟩=>step I q fun t v H1 _ s1 r1 I1 q1=>by
  have r1' :v=t:=r1
  subst r1'
  cases v with
  | true=>exact ⟨_,I1,q1⟩
  | false=>exact ZQ I1 q1 rfl
theorem qX (ha:Ws X Y a ga) (hb:JJ X Y (.BoolOp .Or (b :: rest) pos) gb):JJ X Y (.BoolOp .Or (a :: b :: rest) pos) (orT ga gb):= .mk fun ρ=>
 PW.imp (k8 (ha ρ) (hb ρ)) fun σ H Q ⟨B,I,q⟩=>step I q fun t v H1 _ s1 r1 I1 q1=>by
  have r1' :v=t:=r1
  subst r1'
  cases v with
  | false=>exact ⟨_,I1,q1⟩
  | true=>exact ZQ I1 q1 rfl
theorem W1 (ha:Ws X Y a ga):Ws X Y (.UnaryOp .Not a pos) (WW ga):= .mk fun ρ=>
 PT.imp (VH (ha ρ)) fun σ H Q ⟨B,I,q⟩=>step I q fun t v H1 _ s1 r1 I1 q1=>by
  have r1' :v=t:=r1
  subst r1'
  exact ZQ I1 q1 rfl
def tru:T->R Bool
 | .bl k=> .ok k
 | .non=> .ok false
 | .int i=> .ok (i != 0)
 | .tup xs=> .ok (!xs.isEmpty)
 | .lst xs=> .ok (!xs.isEmpty)
 | _=> .bad
def wI (fa:En->R T):En->R Bool:=fun ρ=>(fa ρ).bind tru
theorem isE {H:Hp} {xs:List V} {ts:List T} (r:zE H xs ts):(!xs.isEmpty)= !ts.isEmpty:=by cases r <;> rfl
theorem we (ha:jY X Y a fa) (he:∀ whole,isTrue a X.env whole=(do let v ← whole; standAt a.pos; holding [v] (truthy v)):=by intro _; rfl):Ws X Y a (wI fa):= .mk fun ρ=>
 PT.imp (YH (ha ρ) he) fun σ H Q ⟨B,I,q⟩=>step I q fun t v H1 _ s1 r1 I1 q1=>by
  cases r1 with
  | bl k=>exact ⟨k,rfl,ZQ I1 q1 rfl⟩
  | non=>exact ⟨false,rfl,ZQ I1 q1 rfl⟩
  | int i=>exact ⟨_,rfl,ZQ I1 q1 rfl⟩
  | tup h r=>exact ⟨_, .inr (.inl ⟨_,SqT.of h,rfl⟩),ZQ I1 q1 (isE r)⟩
  | lst h r=>exact ⟨_, .inl ⟨_,SqL.of h,rfl⟩,ZQ I1 q1 (isE r)⟩
  | _=>exact q1.elim
def ifE (g:En->R Bool) (fa fb:En->R T):En->R T:=fun ρ=>(g ρ).bind fun k=>if k=true then fa ρ else fb ρ
theorem vc (hc:Ws X Y c ga) (ha:Snd X Y a fa) (hb:Snd X Y b fb):Snd X Y (.IfExp c a b pos) (ifE ga fa fb):= .mk fun ρ=>
 PE.imp (YC (hc ρ) (ha ρ) (hb ρ)) fun σ H Q ⟨B,I,q⟩=>step I q fun t v H1 _ s1 r1 I1 q1=>by
  have r1' :v=t:=r1
  subst r1'
  cases v with
  | true=>exact ⟨_,I1,q1⟩
  | false=>exact ⟨_,I1,q1⟩
end
end PV
namespace PV
open PySem PySem.Spec PyProof.Rows L2
section
variable {X:Cx} {Y:Fx} {a b c d:Expr} {fa fb fc fd:En->R T} {pos p:Pos}
def ap1 (g:T->R T) (fa:En->R T):En->R T:=fun ρ=>(fa ρ).bind g
abbrev St1 (X:Cx) (a:Expr):Prop:=starEach [a] X.env=[(false,eval a X.env)]
theorem UT {id:String} {x:Str} {r:List V->Hp->VK->Prop} {g:T->R T} (hc:ZD X (.builtin id) r) (hr:∀ v t B H Q,Rep H v t->zx B H->Po Y rC B H (g t) Q->r [v] H Q)
  (gl:Gl X x) (mg:X.mg x=none) (bt:bootBuiltins x=some (.builtin id)) (ha:jY X Y a fa) (hs:St1 X a:=by exact st1 rfl) (hn:x ≠ "__name__":=by decide) (hd:(x == ("__debug__":Str))=false:=by decide):Snd X Y (.Call (.Name x p) [a] [] pos) (ap1 g fa):= .mk fun ρ=>
 PE.imp (jk hc gl mg bt (zB (ha ρ) Zi hs) hn hd hs rfl) fun σ H Q ⟨B,I,q⟩=>step I q fun t v H1 _ s1 r1 I1 q1=>hr v t _ H1 Q r1 I1.sB q1
theorem UU {id:String} {x:Str} {r:List V->Hp->VK->Prop} {g:T->R T} (hc:ZD X (.type id) r) (hr:∀ v t B H Q,Rep B v t->zx B H->Po Y rC B H (g t) Q->r [v] H Q)
  (gl:Gl X x) (mg:X.mg x=none) (bt:bootBuiltins x=some (.type id)) (ha:Snd X Y a fa) (hs:St1 X a:=by exact st1 rfl) (hn:x ≠ "__name__":=by decide) (hd:(x == ("__debug__":Str))=false:=by decide):Snd X Y (.Call (.Name x p) [a] [] pos) (ap1 g fa):= .mk fun ρ=>
 PE.imp (jy hc gl mg bt (zB (ha ρ) Zi hs) hn hd hs rfl) fun σ H Q ⟨B,I,q⟩=>step I q fun t v H1 _ s1 r1 I1 q1=>hr v t _ H1 Q r1 I1.sB q1
def ZX:T->R T
 | .tup xs=> .ok (.int xs.length)
 | .lst xs=> .ok (.int xs.length)
 | .fz xs=> .ok (.int xs.length)
 | .str x=>if x.length<=bnd then .ok (.int x.length) else .bad
 | _=> .bad
theorem kE (v:V) (t:T) (B H:Hp) (Q:VK) (r:Rep H v t) (sB:zx B H) (q:Po Y rC B H (ZX t) Q):
  (∃ p ys,[v]=[V.ref p]/\(SqL X.K H p ys\/SqT X.K H p ys)/\Q (V.int ys.length) H)\/(∃ z,[v]=[V.str z]/\z.length<=sizeLine/\Q (V.int z.length) H):=by
 cases r with
 | tup h r=>exact .inl ⟨_,_,rfl, .inr (SqT.of h),po0 sB q rfl (by rw [r.length]; exact .int _)⟩
 | lst h r=>exact .inl ⟨_,_,rfl, .inl (SqL.of h),po0 sB q rfl (by rw [r.length]; exact .int _)⟩
 | fz h r=>exact .inl ⟨_,_,rfl, .inl (.inl (.inr ⟨_,h⟩)),po0 sB q rfl (by rw [r.length]; exact .int _)⟩
 | str x=>
  by_cases hb:x.length<=bnd
  ·exact .inr ⟨x,rfl,ZM hb,po0 sB q (if_pos hb) (.int _)⟩
  ·rw [show ZX (.str x)= .bad from if_neg hb] at q; exact q.elim
 | _=>exact q.elim
theorem j4 (gl:Gl X "len") (mg:X.mg "len"=none) (ha:jY X Y a fa) (hs:St1 X a:=by exact st1 rfl):Snd X Y (.Call (.Name "len" p) [a] [] pos) (ap1 ZX fa):=
 UT (wT.or wU) kE gl mg PySem.boot_len ha hs
def qY:T->R T
 | .tup xs=> .ok (.tup xs)
 | .lst xs=> .ok (.tup xs)
 | _=> .bad
theorem kF (v:V) (t:T) (B H:Hp) (Q:VK) (r:Rep B v t) (sB:zx B H) (q:Po Y rC B H (qY t) Q):
  ∃ p ys,[v]=[V.ref p]/\((SqL X.K H p ys/\∀ l,H l=none->Q (.ref l) (upd H l (.tup ys)))\/(SqT X.K H p ys/\Q (.ref p) H)):=by
 cases r with
 | tup h r=>exact ⟨_,_,rfl, .inr ⟨SqT.of (sB _ _ h),po0 sB q rfl (.tup h r)⟩⟩
 | lst h r=>exact ⟨_,_,rfl, .inl ⟨SqL.of (sB _ _ h),fun l hl=>xi sB q rfl r hl⟩⟩
 | _=>exact q.elim
theorem Jr (gl:Gl X "tuple") (mg:X.mg "tuple"=none) (ha:Snd X Y a fa) (hs:St1 X a:=by exact st1 rfl):Snd X Y (.Call (.Name "tuple" p) [a] [] pos) (ap1 qY fa):=
 UU wb kF gl mg (PyProof.Rows.Boot.«tuple») ha hs
def tyN:T->String
 | .non=>"NoneType"
 | .bl _=>"bool"
 | .int _=>"int"
 | .str _=>"str"
 | .tup _=>"tuple"
 | .lst _=>"list"
 | .fz _=>"list"
def isT (n:String) (t:T):Bool:=tyN t == n || (n == "int" && tyN t == "bool")
theorem kG {H:Hp} {v:V} {t:T} (K:PySem.W.Frag) (r:Rep H v t):uK K H v (.type (tyN t)):=by
 cases r with
 | non=>exact .non
 | bl b=>exact .bl b
 | int b=>exact .int b
 | str b=>exact .str b
 | tup h _=>exact .tup h
 | lst h _=>exact .lst h
 | fz h _=>exact .frz h
theorem YR:ZD X (.builtin "isinstance") (fun xs H Q=>∃ v n t,xs=[v, .ty n]/\Rep H v t/\PySem.W.kitOne X.K (.type (tyN t)) (.type n)=some (isT n t)/\Q (.bl (isT n t)) H):=by
 intro pins s σ H xs us Q I rv h
 obtain ⟨v,n,t,rfl,r,hk,q⟩:=h
 obtain ⟨u,w,rfl,ru,rw'⟩:=Ut rv
 obtain rfl:w=Value.type n:=rw'
 exact Uy I ru (kG X.K r) hk fun tk=>⟨.bl _,H,I.tok tk,rfl,q⟩
def vd (n:String) (t:T):R T:= .ok (.bl (isT n t))
theorem ve (K:PySem.W.Frag) (t:T):PySem.W.kitOne K (.type (tyN t)) (.type "int")=some (isT "int" t):=by cases t <;> rfl
theorem YS (K:PySem.W.Frag) (t:T):PySem.W.kitOne K (.type (tyN t)) (.type "bool")=some (isT "bool" t):=by cases t <;> rfl
theorem vf (K:PySem.W.Frag) (t:T):PySem.W.kitOne K (.type (tyN t)) (.type "str")=some (isT "str" t):=by cases t <;> rfl
theorem W2 (K:PySem.W.Frag) (t:T):PySem.W.kitOne K (.type (tyN t)) (.type "tuple")=some (isT "tuple" t):=by cases t <;> rfl
theorem UV {n:String} {p' :Pos} (hk:∀ t,PySem.W.kitOne X.K (.type (tyN t)) (.type n)=some (isT n t)) (gl:Gl X "isinstance") (mg:X.mg "isinstance"=none) (gl' :Gl X (Str.ofString n)) (mg' :X.mg (Str.ofString n)=none) (bt:bootBuiltins (Str.ofString n)=some (.type n)) (ha:jY X Y a fa)
  (hs:starEach [a, .Name (Str.ofString n) p'] X.env=[(false,eval a X.env),(false,eval (.Name (Str.ofString n) p') X.env)]:=by exact st2 rfl rfl) (hs2:starEach [.Name (Str.ofString n) p'] X.env=[(false,eval (.Name (Str.ofString n) p') X.env)]:=by exact st1 rfl)
  (hn:Str.ofString n ≠ "__name__":=by decide) (hd:(Str.ofString n == ("__debug__":Str))=false:=by decide) (hz:((backTo pos (starEach [.Name (Str.ofString n) p'] X.env)).any fun x=>x.fst)=false:=by exact jA rfl):
  Snd X Y (.Call (.Name "isinstance" p) [a, .Name (Str.ofString n) p'] [] pos) (ap1 (vd n) fa):= .mk fun ρ=>
 PE.imp (jk YR gl mg PyProof.Rows.Boot.«isinstance» (zB (ha ρ) (zB (Qx (v:= .ty n) gl' mg' bt rfl hn hd) Zi hs2) (by rw [hs,hs2])) (by decide) (by decide) (by rw [hs,hs2]) hz) fun σ H Q ⟨B,I,q⟩=>
  step I q fun t v H1 _ s1 r1 I1 q1=>⟨v,n,t,rfl,r1,hk t,po0 I1.sB q1 rfl (.bl _)⟩
def atT (xs:List T) (i:Int):R T:=match atI xs i with
 | some t=> .ok t
 | none=> .bad
def ixT:T->T->R T
 | .tup xs, .int i=>atT xs i
 | .lst xs, .int i=>atT xs i
 | .fz xs, .int i=>atT xs i
 | .str z, .int i=>if z.length<=bnd then match atI z.cps.toList i with | some c=> .ok (.str ⟨#[c]⟩) | none=> .bad else .bad
 | _,_=> .bad
theorem UW {H:Hp} {xs:List V} {ts:List T} {i:Int} {t:T} (r:zE H xs ts) (h:atI ts i=some t):∃ v,atI xs i=some v/\Rep H v t:=by
 unfold atI at h ⊢
 rw [r.length]
 cases e:ixN ts.length i with
 | none=>rw [e] at h; cases h
 | some j=>
  rw [e] at h
  obtain ⟨v,h1,h2⟩:=r.get (show ts[j]? =some t from h)
  exact ⟨v,h1,h2⟩
theorem zI (ha:Snd X Y a fa) (hb:Snd X Y b fb) (hs:UB b:=by exact fun _ _=>rfl):Snd X Y (.Subscript a b pos) (ze ixT fa fb):= .mk fun ρ=>
 PE.imp (kB x9 (ha ρ) (hb ρ) hs) fun σ H Q ⟨B,I,q⟩=>step I q fun t v H1 _ s1 r1 I1 q1=>step I1 q1 fun t' v' H2 _ s2 r2 I2 q2=>by
  have r1:=r1.mono (zR.ge I1.sB s2)
  cases r2 with
  | int i=>
   cases r1 with
   | @tup _ xs ts h r=>
    have q2:Po Y rC _ H2 (atT ts i) Q:=q2
    unfold atT at q2
    split at q2
    ·rename_i t' e
     obtain ⟨w,e1,e2⟩:=UW r e
     exact .inr (.inl ⟨_,xs,i,w,rfl,rfl,SqT.of (I2.sB _ _ h),e1,po0 I2.sB q2 rfl e2⟩)
    ·exact q2.elim
   | @lst _ xs ts h r=>
    have q2:Po Y rC _ H2 (atT ts i) Q:=q2
    unfold atT at q2
    split at q2
    ·rename_i t' e
     obtain ⟨w,e1,e2⟩:=UW r e
     exact .inl ⟨_,xs,i,w,rfl,rfl,SqL.of (I2.sB _ _ h),e1,po0 I2.sB q2 rfl e2⟩
    ·exact q2.elim
   | @fz _ _ xs ts h r=>
    have q2:Po Y rC _ H2 (atT ts i) Q:=q2
    unfold atT at q2
    split at q2
    ·rename_i t' e
     obtain ⟨w,e1,e2⟩:=UW r e
     exact .inl ⟨_,xs,i,w,rfl,rfl, .inl (.inr ⟨_,I2.sB _ _ h⟩),e1,po0 I2.sB q2 rfl e2⟩
    ·exact q2.elim
   | str z=>
    have q2:Po Y rC _ H2 (if z.length<=bnd then match atI z.cps.toList i with | some c=> .ok (.str ⟨#[c]⟩) | none=> .bad else .bad) Q:=q2
    split at q2
    ·rename_i hb
     split at q2
     ·rename_i c e
      exact .inr (.inr ⟨z,i,c,rfl,rfl,ZM hb,e,po0 I2.sB q2 rfl (.str _)⟩)
     ·exact q2.elim
    ·exact q2.elim
   | _=>exact q2.elim
  | _=>cases r1 <;> exact q2.elim
structure Vm (X:Cx) (Y:Fx) (e:Option Expr) (f:En->R (Option Int)):Prop where
 mk ::
 go:∀ ρ,PO X e (tS Y rE f ρ)
instance {X:Cx} {Y:Fx} {e:Option Expr} {f:En->R (Option Int)}:CoeFun (Vm X Y e f) fun _=>∀ ρ,PO X e (tS Y rE f ρ):=⟨Vm.go⟩
def noO:En->R (Option Int):=fun _=> .ok none
def UX (fa:En->R T):En->R (Option Int):=fun ρ=>(fa ρ).bind fun t=>match t with
 | .int i=> .ok (some i)
 | _=> .bad
theorem PO.imp {e:Option Expr} {t t' :TO} (h:PO X e t) (i:∀ σ H Q,t' σ H Q->t σ H Q):PO X e t' :=fun pins s σ H Q I q=>h pins s σ H Q I (i σ H Q q)
theorem xk:Vm X Y none noO:= .mk fun ρ=>PO.imp QI fun σ H Q ⟨B,I,q⟩=>ZQ I q rfl
theorem xl (ha:Snd X Y a fa):Vm X Y (some a) (UX fa):= .mk fun ρ=>PO.imp (QJ (ha ρ)) fun σ H Q ⟨B,I,q⟩=>step I q fun t v H1 _ s1 r1 I1 q1=>by
 cases r1 with
 | int i=>exact ⟨i,rfl,ZQ I1 q1 rfl⟩
 | _=>exact q1.elim
def cut (xs:List T) (lo hi:Option Int):List T:=(xs.drop (HT.sIx xs.length 0 lo)).take (HT.sIx xs.length xs.length hi - HT.sIx xs.length 0 lo)
def slT (t:T) (lo hi:Option Int):R T:=match t with
 | .tup xs=> .ok (.tup (cut xs lo hi))
 | .lst xs=> .ok (.lst (cut xs lo hi))
 | _=> .bad
def slE (fa:En->R T) (fl fh:En->R (Option Int)):En->R T:=fun ρ=>(fa ρ).bind fun t=>(fl ρ).bind fun lo=>(fh ρ).bind fun hi=>slT t lo hi
theorem UY {H:Hp} {xs:List V} {ts:List T} {lo hi:Option Int} (r:zE H xs ts):zE H (qU xs lo hi) (cut ts lo hi):=by
 unfold qU cut
 rw [r.length]
 exact (r.drop _).take _
theorem jR {prog:Program} {w:World} {A:Around} {E:Value->Shared->Prop} {s:Shared} {t sl:Addr} {items:Array Value} {vl vu:Value} {lo hi:Option Int} {Q:Value->Shared->Prop} (ht:IsTup s.heap t items) (hs:s.heap.IsSliceOf sl vl vu .none) (pl:IsPart vl lo) (pu:IsPart vu hi)
  (hw:HT.sIx items.size 0 lo=0/\HT.sIx items.size items.size hi=items.size) (h:Q (.ref t) s):wpAny (model prog w) A (getItem (.ref t) (.ref sl)) Q E s:=by
 obtain ⟨os,hos,hcs,hds⟩:=id hs
 have hTs:s.TypeIs (.ref sl) "slice":=⟨os,hos,hcs⟩
 unfold getItem
 try with_reducible refine wpAny_holding ?_
 first | refine wpAny_bind (wpAny_pure ?_) | skip
 refine wpAny_bind (wpAny_sequenceKey ht.typeIs (by decide) ?_)
 refine wpAny_bind (wpAny_callSpecial?_slot (name:=Str.ofString "__getitem__") ht.typeIs PyProof.Rows.slot_tuple_getitem
  (wpAny_call_entry PyProof.Rows.slot_tuple_getitem ht.typeIs entry_tuple_getitem ?_ (args_tuple_getitem _ _)))
 show wpAny _ _ (Builtin.Tuple.tupleItemsOf (.ref t) >>= _) _ _ s
 refine wpAny_bind (tupleItemsOf_ ht ?_)
 refine wpAny_bind (wpAny_typeOf hTs ?_)
 rw [if_pos (by decide)]
 refine wpAny_bind (HT.sliceApplied_gen hs pl pu ?_)
 have hyes:(((HT.sIx items.size 0 lo:Nat):Int) == 0 && (1:Int) == 1 && (HT.sIx items.size items.size hi - HT.sIx items.size 0 lo) == items.size)=true:=by
  rw [hw.1,hw.2]; simp
 show wpAny _ _ (if (((HT.sIx items.size 0 lo:Nat):Int) == 0 && (1:Int) == 1 && (HT.sIx items.size items.size hi - HT.sIx items.size 0 lo) == items.size)=true then _ else _) _ _ s
 rw [if_pos hyes]
 unfold Builtin.Tuple.tupleIsExact
 refine wpAny_bind (wpAny_bind (wpAny_typeOf ht.typeIs (wpAny_pure ?_)))
 rw [if_pos (by decide)]
 exact wpAny_bind (wpAny_rule (wpAny_pure ⟨_,rfl,wpAny_pure h⟩))
theorem uR:SlR X (fun x lo hi H Q=>∃ a xs,x= .ref a/\SqT X.K H a xs/\(HT.sIx xs.length 0 lo=0/\HT.sIx xs.length xs.length hi=xs.length)/\Q (.ref a) H):=by
 intro pins s σ H x v vl vu lo hi sl Q I rx hs pl pu h
 obtain ⟨a,xs,rfl,hx,hw,q⟩:=h
 obtain rfl:v=Value.ref a:=rx
 obtain ⟨its,r,ht,hz⟩:=I.tuple hx
 have hlen:its.toArray.size=xs.length:=by rw [List.size_toArray]; exact r.length.symm
 refine ⟨"tuple",_,PyProof.Rows.slot_tuple_getitem.lookup,ht.typeIs, ?_⟩
 exact jR ht hs pl pu (by rw [hlen]; exact hw) ⟨.ref a,H,I,rfl,q⟩
theorem vg {xs:List T} {lo hi:Option Int} (h1:HT.sIx xs.length 0 lo=0) (h2:HT.sIx xs.length xs.length hi=xs.length):cut xs lo hi=xs:=by
 unfold cut
 rw [h1,h2]; simp
theorem vh {lo hi:Option Expr} {fl fh:En->R (Option Int)} {p2:Pos} (ha:Snd X Y a fa) (hl:Vm X Y lo fl) (hh:Vm X Y hi fh):Snd X Y (.Subscript a (.Slice lo hi none p2) pos) (slE fa fl fh):= .mk fun ρ=>
 PE.imp (YJ (VZ.or (uR.or QN)) (ha ρ) (hl ρ) (hh ρ)) fun σ H Q ⟨B,I,q⟩=>step I q fun t v H1 _ s1 r1 I1 q1=>step I1 q1 fun l l' H2 _ s2 el I2 q2=>step I2 q2 fun h h' H3 _ s3 eh I3 q3=>by
  have el' :l' =l:=el
  have eh' :h' =h:=eh
  subst el' eh'
  have r1:=r1.mono ((zR.ge I1.sB s2).trans (zR.ge I2.sB s3))
  cases r1 with
  | @tup _ xs ts hx r=>
   have q3:Po Y rC _ H3 (.ok (.tup (cut ts l' h'))) Q:=q3
   by_cases hw:HT.sIx xs.length 0 l' =0/\HT.sIx xs.length xs.length h' =xs.length
   ·refine .inr (.inl ⟨_,xs,rfl,SqT.of (I3.sB _ _ hx),hw,po0 I3.sB q3 rfl ?_⟩)
    rw [r.length] at hw
    rw [vg hw.1 hw.2]
    exact .tup hx r
   ·exact .inl ⟨_,xs,rfl,SqT.of (I3.sB _ _ hx),hw,fun p hp=>xi I3.sB q3 rfl (UY r) hp⟩
  | @lst _ xs ts hx r=>
   have q3:Po Y rC _ H3 (.ok (.lst (cut ts l' h'))) Q:=q3
   exact .inr (.inr ⟨_,xs,rfl,SqL.of (I3.sB _ _ hx),fun p hp=>kC I3.sB q3 rfl (UY r) hp⟩)
  | _=>exact q3.elim
def jC (t t' :T):R T:=match t,t' with
 | .int i, .int j=> .ok (.int (if j < i then j else i))
 | _,_=> .bad
theorem JW (hc:X.calm=true) (gl:Gl X "min") (mg:X.mg "min"=none) (ha:Snd X Y a fa) (hb:Snd X Y b fb)
  (hs:starEach [a,b] X.env=[(false,eval a X.env),(false,eval b X.env)]:=by exact st2 rfl rfl) (hs2:starEach [b] X.env=[(false,eval b X.env)]:=by exact st1 rfl):
  Snd X Y (.Call (.Name "min" p) [a,b] [] pos) (ze jC fa fb):= .mk fun ρ=>
 PE.imp (jk (Uv hc) gl mg PyProof.Rows.Boot.«min» (zB (ha ρ) (zB (hb ρ) Zi hs2) (by rw [hs,hs2])) (by decide) (by decide) (by rw [hs,hs2]) (by rw [hs2]; rfl)) fun σ H Q ⟨B,I,q⟩=>
  step I q fun t v H1 _ s1 r1 I1 q1=>step I1 q1 fun t' v' H2 _ s2 r2 I2 q2=>by
   cases r1 with
   | int i=>
    cases r2 with
    | int j=>exact ⟨i,j,rfl,po0 I2.sB q2 rfl (.int _)⟩
    | _=>exact q2.elim
   | _=>cases r2 <;> exact q2.elim
def Ue:List T->Option Bool
 | []=>some true
 | .bl k :: r=>match Ue r with | some j=>some (k && j) | none=>none
 | _ :: _=>none
def vi:T->R T
 | .lst ts=>match Ue ts with | some k=> .ok (.bl k) | none=> .bad
 | _=> .bad
theorem UZ:∀ {H:Hp} {xs:List V} {ts:List T} {its:List Value} {k:Bool},zE H xs ts->Vals xs its->Ue ts=some k->∃ tr:Nat->Bool,(∀ i v,its[i]? =some v->v=Value.bool (tr i))/\(List.range its.length).all tr=k
 | _,_,_,_,k, .nil, .nil,h=>by
  have h' :some true=some k:=h
  cases h'
  exact ⟨fun _=>true,fun i v e=>by simp at e,rfl⟩
 | H,_,_,_,k, .cons (v:=x) (t:=t) r rs, .cons (b:=u) rv vs,h=>by
  cases r with
  | bl b=>
   unfold Ue at h
   split at h
   ·rename_i j e
    cases h
    obtain ⟨tr,h1,h2⟩:=UZ rs vs e
    obtain rfl:u=Value.bool b:=rv
    refine ⟨fun i=>match i with | 0=>b | i+1=>tr i,fun i v e=> ?_, ?_⟩
    ·cases i with
     | zero=>simp at e; exact e.symm
     | succ i=>exact h1 i v (by simpa using e)
    ·rw [List.length_cons,List.range_succ_eq_map,List.all_cons,List.all_map,← h2]
     rfl
   ·cases h
  | _=>cases h
theorem y0 (hh:X.A.handled=none):ZD X (.builtin "all") (fun vs H Q=>∃ l xs ts k,vs=[.ref l]/\H l=some (.lst xs)/\zE H xs ts/\Ue ts=some k/\Q (.bl k) H):=by
 intro pins s σ H vs us Q I rv h
 obtain ⟨l,xs,ts,k,rfl,hl,r,hk,q⟩:=h
 obtain ⟨u,rfl,ru⟩:=j3 rv
 obtain rfl:u=Value.ref l:=ru
 obtain ⟨its,rv,p,_⟩:=zT I (.inl hl) r
 obtain ⟨tr,h1,h2⟩:=UZ r rv hk
 refine call_all_walk (wpAny_pyIter_list p ?_)
 have hlt:l < s.heap.objs.size:=I.hok.lt hl
 have old:∀ b o,s.heap.get? b=some o->(s.heap.push { cls:= .type "list_iterator",data:= .fields #[.ref l, .int 0 0] }).get? b=some o:=fun b o e=>Heap.get?_push_of_some _ e
 refine ⟨s.heap.objs.size,_,_,_,_,_,tr,rfl,Walks.list (A:=X.A.in1) hh s.heap.objs.size l (Nat.ne_of_lt hlt) its.toArray, ?_, ?_,fun h' tk hk' => ?_⟩
 ·refine ⟨?_,p.at fun o e=>old _ o e⟩
  exact ⟨_,Heap.get?_push_size _ rfl,rfl,rfl⟩
 ·intro i v s' Q' E' hi hq
  rw [h1 i v (by simpa using hi)]
  exact wpAny_truthy_bool hq
 ·rw [List.size_toArray,h2]
  refine ⟨.bl k,H,I.kept (t' :=tk) (fun b o e=>hk' b o ?_ (old b o e)),rfl,q⟩
  simp
  exact Nat.ne_of_lt (Heap.lt_size e)
theorem vj (hh:X.A.handled=none) (gl:Gl X "all") (mg:X.mg "all"=none) (ha:jY X Y a fa) (hs:St1 X a:=by exact st1 rfl):Snd X Y (.Call (.Name "all" p) [a] [] pos) (ap1 vi fa):=
 UT (y0 hh) (fun v t B H Q r sB q=>by
  cases r with
  | @lst l xs ts h r=>
   have q:Po Y rC B H (match Ue ts with | some k=> .ok (.bl k) | none=> .bad) Q:=q
   split at q
   ·rename_i k e
    exact ⟨l,xs,ts,k,rfl,h,r,e,po0 sB q rfl (.bl k)⟩
   ·exact q.elim
  | _=>exact q.elim) gl mg PyProof.Rows.Boot.«all» ha hs
end
inductive RS where
 | nx (ρ:En) | rt (t:T) | bk (ρ:En) | ct (ρ:En) | ex (c:Nat) | bad | rf (ts:List T)
def R.s {α:Type} (r:R α) (k:α->RS):RS:=match r with
 | .ok a=>k a
 | .ex c=> .ex c
 | .bad=> .bad
def PoS (Y:Fx) (B:Hp) (r:RS) (D:qQ):Prop:=match r with
 | .nx ρ' =>∀ σ' H' B',zx B B' ->SI Y B' ρ' σ' H' ->D.nx σ' H'
 | .rt t=>∀ v H',zx Y.H0 H' ->Rep (zR Y.B0 Y.H0 H') v t->D.rt v H'
 | .bk ρ' =>∀ σ' H' B',zx B B' ->SI Y B' ρ' σ' H' ->D.bk σ' H'
 | .ct ρ' =>∀ σ' H' B',zx B B' ->SI Y B' ρ' σ' H' ->D.ct σ' H'
 | .ex c=>XP Y B c
 | .bad=>False
 | .rf ts=>∀ a xs H' B',zx Y.H0 H' ->Y.H0 a=none->H' a=some (.lst xs)->zE B' xs ts->B' a=none->zx B' (zR Y.B0 Y.H0 H')->D.rt (.ref a) H'
theorem PoS.up {Y:Fx} {B B' :Hp} {r:RS} {D:qQ} (s:zx B B') (h:PoS Y B r D):PoS Y B' r D:=by
 cases r with
 | nx ρ=>exact fun σ' H' B2 s2 I=>h σ' H' B2 (s.trans s2) I
 | bk ρ=>exact fun σ' H' B2 s2 I=>h σ' H' B2 (s.trans s2) I
 | ct ρ=>exact fun σ' H' B2 s2 I=>h σ' H' B2 (s.trans s2) I
 | rt t=>exact h
 | rf t=>exact h
 | ex c=>exact fun d H' s0 sB=>h d H' s0 (s.trans sB)
 | bad=>exact h
def tSS (Y:Fx) (f:En->RS) (ρ:En):TS:=fun D σ H=>∃ B,SI Y B ρ σ H/\PoS Y B (f ρ) D
structure Wu (X:Cx) (Y:Fx) (e:Stmt) (f:En->RS):Prop where
 mk ::
 go:∀ ρ,PS X e (tSS Y f ρ)
instance {X:Cx} {Y:Fx} {e:Stmt} {f:En->RS}:CoeFun (Wu X Y e f) fun _=>∀ ρ,PS X e (tSS Y f ρ):=⟨Wu.go⟩
structure y3 (X:Cx) (Y:Fx) (e:List Stmt) (f:En->RS):Prop where
 mk ::
 go:∀ ρ,PSs X e (tSS Y f ρ)
instance {X:Cx} {Y:Fx} {e:List Stmt} {f:En->RS}:CoeFun (y3 X Y e f) fun _=>∀ ρ,PSs X e (tSS Y f ρ):=⟨y3.go⟩
theorem wf {α β:Type} {Y:Fx} {rel:Hp->Hp->β->α->Prop} {f:En->R α} {k:α->RS} {ρ:En} {B:Hp} {σ:Sg} {H:Hp} {D:qQ} {K:β->Hp->Prop}
  (I:SI Y B ρ σ H) (h:PoS Y B ((f ρ).s k) D)
  (n:∀ a b H1,f ρ= .ok a->zx H H1->rel (zR B H H1) H1 b a->SI Y (zR B H H1) ρ σ H1->PoS Y (zR B H H1) (k a) D->K b H1):tS Y rel f ρ σ H K:=by
 refine ⟨B,I, ?_⟩
 cases e:f ρ with
 | bad=>rw [e] at h; exact h
 | ex c=>rw [e] at h; exact h
 | ok a=>
  rw [e] at h
  exact fun b H1 s r=>n a b H1 e s r (I.grow s) (PoS.up (zR.ge I.sB s) h)
theorem zY {α:Type} {xs:List α} {i j:Nat} {x y:α} (h:(xs.set i x)[j]? =some y):(j=i/\y=x)\/(j ≠ i/\xs[j]? =some y):=by
 by_cases e:j=i
 ·subst e
  by_cases hl:j < xs.length
  ·rw [List.getElem?_set_self hl] at h; exact .inl ⟨rfl,(Option.some.inj h).symm⟩
  ·rw [List.getElem?_eq_none (by rw [List.length_set]; omega)] at h; cases h
 ·rw [List.getElem?_set_ne (Ne.symm e)] at h; exact .inr ⟨e,h⟩
theorem y6 {α:Type} {xs:List α} {i:Nat} {x y:α} (h:(xs.set i x)[i]? =some y):i < xs.length:=by
 by_cases hl:i < xs.length
 ·exact hl
 ·rw [List.getElem?_eq_none (by rw [List.length_set]; omega)] at h; cases h
theorem SI.setV {Y:Fx} {B:Hp} {ρ:En} {σ:Sg} {H:Hp} (I:SI Y B ρ σ H) (i:Nat) {v:V} {t:T} (r:Rep B v t):SI Y B (ρ.set i (.vl t)) (σ.set i (some v)) H where
 s0:=I.s0
 sH:=I.sH
 sB:=I.sB
 old:=I.old
 len:=by rw [List.length_set,List.length_set]; exact I.len
 vl:=fun j u h=>by
  rcases zY h with ⟨rfl,e⟩ | ⟨hj,h'⟩
  ·cases e
   exact ⟨v,List.getElem?_set_self (by rw [← I.len]; exact y6 h),r⟩
  ·obtain ⟨w,e,rr⟩:=I.vl j u h'
   exact ⟨w,by rw [List.getElem?_set_ne (Ne.symm hj)]; exact e,rr⟩
 ow:=fun j us h=>by
  rcases zY h with ⟨rfl,e⟩ | ⟨hj,h'⟩
  ·cases e
  ·obtain ⟨a,xs,e,b0,h0,hh,rr,d⟩:=I.ow j us h'
   refine ⟨a,xs,by rw [List.getElem?_set_ne (Ne.symm hj)]; exact e,b0,h0,hh,rr,fun k ws hk hw=> ?_⟩
   rcases zY hw with ⟨rfl,e'⟩ | ⟨hk',hw'⟩
   ·cases e'
   ·rw [List.getElem?_set_ne (Ne.symm hk')]; exact d k ws hk hw'
 xc:=fun j c h=>by
  rcases zY h with ⟨rfl,e⟩ | ⟨hj,h'⟩
  ·cases e
  ·obtain ⟨a,e,r⟩:=I.xc j c h'
   exact ⟨a,by rw [List.getElem?_set_ne (Ne.symm hj)]; exact e,r⟩
theorem SI.newO {Y:Fx} {B:Hp} {ρ:En} {σ:Sg} {H:Hp} (I:SI Y B ρ σ H) (i:Nat) {p:Addr} {xs:List V} {ts:List T} (hp:H p=none) (r:zE B xs ts):SI Y B (ρ.set i (.ow ts)) (σ.set i (some (.ref p))) (upd H p (.lst xs)) where
 s0:=I.s0
 sH:=I.sH.trans (zx.new hp _)
 sB:=I.sB.trans (zx.new hp _)
 old:=I.old
 len:=by rw [List.length_set,List.length_set]; exact I.len
 vl:=fun j u h=>by
  rcases zY h with ⟨rfl,e⟩ | ⟨hj,h'⟩
  ·cases e
  ·obtain ⟨w,e,rr⟩:=I.vl j u h'
   exact ⟨w,by rw [List.getElem?_set_ne (Ne.symm hj)]; exact e,rr⟩
 ow:=fun j us h=>by
  have op:∀ k ws a,ρ[k]? =some (Sl.ow ws)->σ[k]? =some (some (V.ref a))->a ≠ p:=fun k ws a h1 h2=>by
   obtain ⟨a',xs',e,_,_,hh,_⟩:=I.ow k ws h1
   rw [e] at h2; cases h2
   exact zQ hh hp
  rcases zY h with ⟨rfl,e⟩ | ⟨hj,h'⟩
  ·cases e
   refine ⟨p,xs,List.getElem?_set_self (by rw [← I.len]; exact y6 h),I.sB.free hp,I.sH.free hp,Z6,r,fun k ws hk hw=> ?_⟩
   rcases zY hw with ⟨rfl,e'⟩ | ⟨hk',hw'⟩
   ·exact absurd rfl hk
   ·rw [List.getElem?_set_ne (Ne.symm hk')]
    exact fun z=>op k ws p hw' z rfl
  ·obtain ⟨a,xs',e,b0,h0,hh,rr,d⟩:=I.ow j us h'
   refine ⟨a,xs',by rw [List.getElem?_set_ne (Ne.symm hj)]; exact e,b0,h0,by rw [zy (op j us a h' e)]; exact hh,rr,fun k ws hk hw=> ?_⟩
   rcases zY hw with ⟨rfl,e'⟩ | ⟨hk',hw'⟩
   ·rw [List.getElem?_set_self (by rw [← I.len]; exact y6 hw)]
    intro z
    exact op j us a h' e (by injection z with z; injection z with z; injection z with z; exact z.symm)
   ·rw [List.getElem?_set_ne (Ne.symm hk')]; exact d k ws hk hw'
 xc:=fun j c h=>by
  rcases zY h with ⟨rfl,e⟩ | ⟨hj,h'⟩
  ·cases e
  ·obtain ⟨a,e,r⟩:=I.xc j c h'
   exact ⟨a,by rw [List.getElem?_set_ne (Ne.symm hj)]; exact e,r⟩
theorem SI.chg {Y:Fx} {B:Hp} {ρ:En} {σ:Sg} {H:Hp} (I:SI Y B ρ σ H) (i:Nat) {p:Addr} {ts us:List T} {ys:List V} (hi:ρ[i]? =some (.ow ts)) (he:σ[i]? =some (some (.ref p))) (r:zE B ys us):SI Y B (ρ.set i (.ow us)) σ (upd H p (.lst ys)):=by
 obtain ⟨p',xs,e,b0,h0,hh,rr,d⟩:=I.ow i ts hi
 rw [he] at e
 cases e
 have nb:∀ b o,B b=some o->b ≠ p:=fun b o h z=>by subst z; rw [b0] at h; cases h
 have n0:∀ b o,Y.H0 b=some o->b ≠ p:=fun b o h z=>by subst z; rw [h0] at h; cases h
 refine ⟨I.s0,fun b o h=>by rw [zy (n0 b o h)]; exact I.sH b o h,fun b o h=>by rw [zy (nb b o h)]; exact I.sB b o h,I.old,by rw [List.length_set]; exact I.len,fun j u h=> ?_,fun j ws h=> ?_,fun j c h=> ?_⟩
 rotate_right
 ·rcases zY h with ⟨rfl,z⟩ | ⟨hj,h'⟩
  ·cases z
  ·exact I.xc j c h'
 ·rcases zY h with ⟨rfl,z⟩ | ⟨hj,h'⟩
  ·cases z
  ·exact I.vl j u h'
 ·rcases zY h with ⟨rfl,z⟩ | ⟨hj,h'⟩
  ·cases z
   refine ⟨p,ys,he,b0,h0,Z6,r,fun k vs hk hw=> ?_⟩
   rcases zY hw with ⟨rfl,e'⟩ | ⟨hk',hw'⟩
   ·exact absurd rfl hk
   ·exact d k vs hk hw'
  ·obtain ⟨a,xs',e,c0,g0,gg,ss,d'⟩:=I.ow j ws h'
   have hne:a ≠ p:=fun z=>by subst z; exact d j ws hj h' e
   refine ⟨a,xs',e,c0,g0,by rw [zy hne]; exact gg,ss,fun k vs hk hw=> ?_⟩
   rcases zY hw with ⟨rfl,e'⟩ | ⟨hk',hw'⟩
   ·rw [he]; intro z; injection z with z; injection z with z; injection z with z; exact hne z.symm
   ·exact d' k vs hk hw'
def y7:Sl->Sl
 | .ow ts=> .vl (.lst ts)
 | x=>x
def frz (ρ:En):En:=ρ.map y7
theorem SI.up {Y:Fx} {B:Hp} {ρ:En} {σ:Sg} {H:Hp} (I:SI Y B ρ σ H):zx B (zR B Y.H0 H):=fun b o h=>by
 cases q:Y.H0 b with
 | none=>rw [Zv q]; exact I.sB b o h
 | some u=>rw [Zs q]; exact h
theorem SI.frz {Y:Fx} {B:Hp} {ρ:En} {σ:Sg} {H:Hp} (I:SI Y B ρ σ H):SI Y (zR B Y.H0 H) (PV.frz ρ) σ H:=by
 have up:zx B (zR B Y.H0 H):=fun b o h=>by
  cases q:Y.H0 b with
  | none=>rw [Zv q]; exact I.sB b o h
  | some u=>rw [Zs q]; exact h
 refine ⟨I.s0,I.sH,fun b o h=> ?_,fun b o h=>by rw [Zs h]; exact I.old b o h,by unfold PV.frz; rw [List.length_map]; exact I.len,fun j t h=> ?_,fun j ts h=> ?_,fun j c h=> ?_⟩
 rotate_right
 ·unfold PV.frz at h
  rw [List.getElem?_map] at h
  cases e:ρ[j]? with
  | none=>rw [e] at h; cases h
  | some x=>
   rw [e] at h
   cases x with
   | xc d=>
    cases h
    obtain ⟨a,e1,r⟩:=I.xc j _ e
    exact ⟨a,e1,up a _ r⟩
   | un=>cases h
   | vl _=>cases h
   | ow _=>cases h
 ·cases q:Y.H0 b with
  | none=>rw [Zv q] at h; exact h
  | some u=>rw [Zs q] at h; exact I.sB b o h
 ·unfold PV.frz at h
  rw [List.getElem?_map] at h
  cases e:ρ[j]? with
  | none=>rw [e] at h; cases h
  | some x=>
   rw [e] at h
   cases x with
   | un=>cases h
   | vl u=>
    cases h
    obtain ⟨v,e1,r⟩:=I.vl j _ e
    exact ⟨v,e1,r.mono up⟩
   | ow us=>
    cases h
    obtain ⟨a,xs,e1,b0,h0,hh,rr,_⟩:=I.ow j us e
    exact ⟨.ref a,e1, .lst (by rw [Zv h0]; exact hh) (rr.mono up)⟩
   | xc _=>cases h
 ·unfold PV.frz at h
  rw [List.getElem?_map] at h
  cases e:ρ[j]? with
  | none=>rw [e] at h; cases h
  | some x=>
   rw [e] at h
   cases x with
   | un=>cases h
   | vl u=>cases h
   | ow us=>cases h
   | xc _=>cases h
theorem xm {Y:Fx} {B H H' :Hp} (s0:zx Y.H0 H) (old:∀ b o,Y.H0 b=some o->B b=Y.B0 b) (s:zx H H') (sB:zx B H):zx (zR B H H') (zR Y.B0 Y.H0 H'):=fun b o h=>by
 cases q:H b with
 | none=>
  rw [Zv q] at h
  rw [Zv (s0.free q)]; exact h
 | some u=>
  rw [Zs q] at h
  cases z:Y.H0 b with
  | none=>rw [Zv z]; exact s b o (sB b o h)
  | some w=>rw [Zs z,← old b w z]; exact h
section
variable {X:Cx} {Y:Fx} {a b c d:Expr} {fa fb fc fd:En->R T} {pos p:Pos} {st:Stmt} {sts sts' :List Stmt} {f g:En->RS}
def nxS:En->RS:=fun ρ=> .nx ρ
def zu (f g:En->RS):En->RS:=fun ρ=>match f ρ with
 | .nx ρ' =>g ρ'
 | r=>r
theorem zJ:y3 X Y [] nxS:= .mk fun ρ=>PSs.imp Qz fun D σ H ⟨B,I,q⟩=>q σ H B (zx.refl B) I
theorem zl (h:Wu X Y st f):y3 X Y [st] f:= .mk fun ρ=>QA (h ρ)
theorem zi (h1:Wu X Y st f) (h2:y3 X Y sts g):y3 X Y (st :: sts) (zu f g):= .mk fun ρ=>by
 refine PSs.imp (YD (u:=fun D σ H=>∃ ρ',tSS Y g ρ' D σ H) (h1 ρ) ?_) ?_
 ·intro pins s σ H D I ⟨ρ',q⟩
  exact h2 ρ' pins s σ H D I q
 ·intro D σ H ⟨B,I,q⟩
  refine ⟨B,I, ?_⟩
  unfold zu at q
  cases e:f ρ with
  | nx ρ' =>
   rw [e] at q
   intro σ' H' B' s' I'
   exact ⟨ρ',B',I',PoS.up s' q⟩
  | rt t=>rw [e] at q; exact q
  | rf t=>rw [e] at q; exact q
  | bk ρ' =>rw [e] at q; exact q
  | ct ρ' =>rw [e] at q; exact q
  | ex c=>rw [e] at q; exact q
  | bad=>rw [e] at q; exact q
def zS (i:Nat) (fa:En->R T):En->RS:=fun ρ=>(fa ρ).s fun t=> .nx (ρ.set i (.vl t))
theorem zZ {i:Nat} {x:Str} {p' :Pos} (hN:X.N.Nodup) (hi:X.N[i]? =some x) (hx:L2.Loc X.env.scope x) (ha:Snd X Y a fa) (hs:swapsWith a (some (.Name x p')) pos.line X.env=pure false:=by rfl)
  (hf:X.fn x=true\/X.env.scope.names.lookup x=some .local:=by first | exact .inl rfl | exact .inr rfl | assumption):Wu X Y (.Assign [.Name x p'] a pos) (zS i fa):= .mk fun ρ=>
 PS.imp (Um hN hi hx (ha ρ) hs hf) fun D σ H ⟨B,I,q⟩=>wf I q fun t v H1 _ s1 r1 I1 q1=>q1 _ _ _ (zx.refl _) (I1.setV i r1)
def Yw (i:Nat) (ga:En->R (List T)):En->RS:=fun ρ=>(ga ρ).s fun ts=>if ts.length<=bnd then .nx (ρ.set i (.ow ts)) else .bad
theorem WY {i:Nat} {x:Str} {p' :Pos} {es:List Expr} {ga:En->R (List T)} (hN:X.N.Nodup) (hi:X.N[i]? =some x) (hx:L2.Loc X.env.scope x) (ha:UF X Y es ga) (hs:swapsWith (.List es p) (some (.Name x p')) pos.line X.env=pure false:=by rfl)
  (hf:X.fn x=true\/X.env.scope.names.lookup x=some .local:=by first | exact .inl rfl | exact .inr rfl | assumption):Wu X Y (.Assign [.Name x p'] (.List es p) pos) (Yw i ga):= .mk fun ρ=>
 PS.imp (Um hN hi hx (qT (ha ρ)) hs hf) fun D σ H ⟨B,I,q⟩=>wf I q fun ts vs H1 _ s1 r1 I1 q1=>by
  split at q1
  ·rename_i hb
   exact ⟨by rw [r1.length]; exact ZM hb,fun p hp=>q1 _ _ _ (zx.refl _) (I1.newO i hp r1)⟩
  ·exact q1.elim
def zK (fa:En->R T):En->RS:=fun ρ=>(fa (frz ρ)).s fun t=> .rt t
theorem zp (ha:Snd X Y a fa):Wu X Y (.Return (some a) pos) (zK fa):= .mk fun ρ=>
 PS.imp (VM (ha (frz ρ))) fun D σ H ⟨B,I,q⟩=>by
  refine ⟨_,I.frz, ?_⟩
  unfold zK at q
  cases e:fa (frz ρ) with
  | bad=>rw [e] at q; exact q
  | ex c=>
   rw [e] at q
   exact fun d H' s0 sG=>q d H' s0 (I.up.trans sG)
  | ok t=>
   rw [e] at q
   intro v H' s r
   have J:=I.frz
   exact q v H' (I.sH.trans s) (r.mono (xm J.sH J.old s J.sB))
def ifS (g:En->R Bool) (f1 f2:En->RS):En->RS:=fun ρ=>(g ρ).s fun k=>if k=true then f1 ρ else f2 ρ
theorem zL {ga:En->R Bool} (hc:Ws X Y c ga) (h1:y3 X Y sts f) (h2:y3 X Y sts' g):Wu X Y (.If c sts sts' pos) (ifS ga f g):= .mk fun ρ=>
 PS.imp (kf (hc ρ) (h1 ρ) (h2 ρ)) fun D σ H ⟨B,I,q⟩=>wf I q fun t v H1 _ s1 r1 I1 q1=>by
  have r1' :v=t:=r1
  subst r1'
  cases v with
  | true=>exact ⟨_,I1,q1⟩
  | false=>exact ⟨_,I1,q1⟩
def WD (fa:En->R T):En->RS:=fun ρ=>(fa ρ).s fun _=> .nx ρ
theorem WZ (ha:Snd X Y a fa) (hs:swapsWith a none pos.line X.env=pure false:=by rfl):Wu X Y (.Expr a pos) (WD fa):= .mk fun ρ=>
 PS.imp (Wy (ha ρ) hs) fun D σ H ⟨B,I,q⟩=>wf I q fun t v H1 _ s1 r1 I1 q1=>q1 _ _ _ (zx.refl _) I1
def YT (i:Nat) (fa:En->R T):En->RS:=fun ρ=>match ρ[i]? with
 | some (.ow ts)=>(fa ρ).s fun t=>if ts.length < bnd then .nx (ρ.set i (.ow (ts++[t]))) else .bad
 | _=> .bad
def Vn (i:Nat) (fa:En->R T):En->RS:=fun ρ=>match ρ[i]? with
 | some (.ow ts)=>(fa ρ).s fun t=>match t with
  | .lst us=>if ts.length+us.length<=bnd then .nx (ρ.set i (.ow (ts++us))) else .bad
  | _=> .bad
 | _=> .bad
theorem xn {n:Nat} (h:n < bnd):n < sizeLine:=by rw [sizeLine_eq]; exact h
theorem xo {i:Nat} {x:Str} {px pa:Pos} (hv:PE X (.Name x px) (Qv i)) (ha:Snd X Y a fa) (hb:attributeBase (.Name x px) "append" X.env (eval (.Name x px) X.env)=eval (.Name x px) X.env:=by rfl) (hs:St1 X a:=by exact st1 rfl)
  (hz:(pa.endLine == p.line)=true:=by rfl) (hw:swapsWith (.Call (.Attribute (.Name x px) "append" pa) [a] [] p) none pos.line X.env=pure false:=by rfl):Wu X Y (.Expr (.Call (.Attribute (.Name x px) "append" pa) [a] [] p) pos) (YT i fa):= .mk fun ρ=>by
 have e1:(((((backTo p (starEach [a] X.env)).all fun x=> !x.fst) && (backToKw p (keywordEach [] X.env)).all fun x=>x.fst.isSome) && decide (([a].length+([]:List Keyword).length+if ([]:List Keyword).isEmpty=true then 0 else 1) < 30))=true):=by rw [hs]; rfl
 refine PS.imp (Wy (QO PySem.F.plainAttrs_list PySem.F.slot_list_append PySem.F.type_list_append wV hv (zB (ha ρ) Zi hs) hb e1 hz hs rfl) hw) fun D σ H ⟨B,I,q⟩=> ?_
 unfold YT at q
 split at q
 ·rename_i ts e
  obtain ⟨l,xs,e1,b0,h0,hh,rr,d⟩:=I.ow i ts e
  refine ⟨.ref l,e1, .inl ⟨rfl,_,SqL.of hh⟩, ?_⟩
  refine wf I q fun t v H1 _ s1 r1 I1 q1=> ?_
  split at q1
  ·rename_i hb
   refine ⟨l,xs,v,rfl,rfl,s1 _ _ hh,by rw [rr.length]; exact xn hb, ?_⟩
   exact q1 _ _ _ (zx.refl _) (I1.chg i e e1 ((rr.mono (zR.ge I.sB s1)).append (.cons r1 .nil)))
  ·exact q1.elim
 ·exact q.elim
theorem xp {i:Nat} {x:Str} {px pa:Pos} (hv:PE X (.Name x px) (Qv i)) (ha:Snd X Y a fa) (hb:attributeBase (.Name x px) "extend" X.env (eval (.Name x px) X.env)=eval (.Name x px) X.env:=by rfl) (hs:St1 X a:=by exact st1 rfl)
  (hz:(pa.endLine == p.line)=true:=by rfl) (hw:swapsWith (.Call (.Attribute (.Name x px) "extend" pa) [a] [] p) none pos.line X.env=pure false:=by rfl):Wu X Y (.Expr (.Call (.Attribute (.Name x px) "extend" pa) [a] [] p) pos) (Vn i fa):= .mk fun ρ=>by
 have e1:(((((backTo p (starEach [a] X.env)).all fun x=> !x.fst) && (backToKw p (keywordEach [] X.env)).all fun x=>x.fst.isSome) && decide (([a].length+([]:List Keyword).length+if ([]:List Keyword).isEmpty=true then 0 else 1) < 30))=true):=by rw [hs]; rfl
 refine PS.imp (Wy (QO PySem.F.plainAttrs_list PySem.F.slot_list_extend PySem.F.type_list_extend UC hv (zB (ha ρ) Zi hs) hb e1 hz hs rfl) hw) fun D σ H ⟨B,I,q⟩=> ?_
 unfold Vn at q
 split at q
 ·rename_i ts e
  obtain ⟨l,xs,e1,b0,h0,hh,rr,d⟩:=I.ow i ts e
  refine ⟨.ref l,e1, .inl ⟨rfl,_,SqL.of hh⟩, ?_⟩
  refine wf I q fun t v H1 _ s1 r1 I1 q1=> ?_
  cases r1 with
  | @lst b zs us hb r=>
   have q1:PoS Y _ (if ts.length+us.length<=bnd then .nx (ρ.set i (.ow (ts++us))) else .bad) D:=q1
   split at q1
   ·rename_i hl
    refine ⟨l,b,xs,zs,rfl,rfl,s1 _ _ hh,I1.sB _ _ hb,by rw [rr.length,r.length]; exact ZM hl, ?_⟩
    exact q1 _ _ _ (zx.refl _) (I1.chg i e e1 ((rr.mono (zR.ge I.sB s1)).append r))
   ·exact q1.elim
  | _=>exact q1.elim
 ·exact q.elim
end
def spP (cl:Nat->Value) (n:Nat) (g:List T->R T):Sp:=fun vs H Q E=>∃ B ts,ts.length=n/\zx B H/\zE B vs ts/\Po ⟨B,H,E,cl⟩ rC B H (g ts) Q
theorem spP.len {cl:Nat->Value} {n:Nat} {g:List T->R T} (vs:List V) (H:Hp) (Q:VK) (E:XK) (h:spP cl n g vs H Q E):vs.length=n:=by
 obtain ⟨B,ts,hl,_,r,_⟩:=h
 rw [r.length,hl]
def zc (n:Nat) (g:List T->R T) (ga:En->R (List T)):En->R T:=fun ρ=>(ga ρ).bind fun ts=>if ts.length=n then g ts else .bad
section
variable {X:Cx} {Y:Fx} {a b c d:Expr} {fa fb fc fd:En->R T} {pos p:Pos}
theorem xq {CX:CXT} {k n:Nat} {f:Addr} {fd:FuncData} {ps:List Str} {g:List T->R T} {x:Str} {es:List Expr} {ga:En->R (List T)} (F:Zz X.prog X.w X.K X.mg X.base CX k f fd ps (spP Y.cl n g)) (hr:Jk k X.A) (gl:Gl X x) (mg:X.mg x=some (.ref f))
  (kp:PySem.W.keepIn X.K (.ref f)=true) (bd:L2.Binds X.K fd ps []) (hx:JP CX X Y.E) (ha:UF X Y (a :: es) ga) (hd:(x == ("__debug__":Str))=false:=by decide)
  (hs:starEach (a :: es) X.env=(false,eval a X.env) :: starEach es X.env:=by exact ZB rfl) (hz:((backTo pos (starEach es X.env)).any fun x=>x.fst)=false:=by exact jA rfl):Snd X Y (.Call (.Name x p) (a :: es) [] pos) (zc n g ga):= .mk fun ρ=>
 PE.imp (QF F hr gl mg kp bd .nil hx (ha ρ) hd hs hz) fun σ H Q ⟨B,I,q⟩=>step I q fun ts vs H1 _ s1 r1 I1 q1=>by
  split at q1
  ·rename_i hn
   rw [List.append_nil]
   refine ⟨_,ts,hn,I1.sB,r1, ?_⟩
   revert q1
   cases g ts with
   | bad=>exact fun q1=>q1
   | ex c=>exact fun q1 d H' s sB=>q1 d H' (I1.sH.trans s) sB
   | ok t=>exact fun q1=>q1
  ·exact q1.elim
end
def zn:RS->R T
 | .rt t=> .ok t
 | .rf ts=> .ok (.lst ts)
 | .nx _=> .ok .non
 | .ex c=> .ex c
 | _=> .bad
def en0 (n:Nat) (ts:List T):En:=ts.map Sl.vl++List.replicate (n - ts.length) Sl.un
theorem zE.vl {H:Hp}:∀ {vs:List V} {ts:List T} {i:Nat} {t:T} {n m:Nat},zE H vs ts->(ts.map Sl.vl++List.replicate n Sl.un)[i]? =some (Sl.vl t)->∃ v:V,(vs.map some++List.replicate m none)[i]? =some (some v)/\Rep H v t
 | _,_,i,t,n,m, .nil,h=>by
  exfalso
  simp only [List.map_nil,List.nil_append] at h
  rw [List.getElem?_replicate] at h
  split at h
  ·cases h
  ·cases h
 | _,_,0,t,n,m, .cons r _,h=>by
  simp at h; subst h; exact ⟨_,rfl,r⟩
 | _,_,i+1,t,n,m, .cons _ q,h=>by
  obtain ⟨v,h1,h2⟩:=zE.vl (i:=i) (t:=t) (n:=n) (m:=m) q (by simpa using h)
  exact ⟨v,by simpa using h1,h2⟩
theorem qZ {n:Nat}:∀ {ts:List T} {i:Nat} {us:List T},(ts.map Sl.vl++List.replicate n Sl.un)[i]? =some (Sl.ow us)->False
 | [],i,us,h=>by
  simp only [List.map_nil,List.nil_append] at h
  rw [List.getElem?_replicate] at h
  split at h
  ·cases h
  ·cases h
 | t :: ts,0,us,h=>by simp at h
 | t :: ts,i+1,us,h=>qZ (ts:=ts) (i:=i) (us:=us) (n:=n) (by simpa using h)
theorem Q0 {n:Nat}:∀ {ts:List T} {i:Nat} {c:Nat},(ts.map Sl.vl++List.replicate n Sl.un)[i]? =some (Sl.xc c)->False
 | [],i,us,h=>by
  simp only [List.map_nil,List.nil_append] at h
  rw [List.getElem?_replicate] at h
  split at h
  ·cases h
  ·cases h
 | t :: ts,0,us,h=>by simp at h
 | t :: ts,i+1,us,h=>Q0 (ts:=ts) (i:=i) (c:=us) (n:=n) (by simpa using h)
theorem SI.start {Y:Fx} {N:List Str} {vs:List V} {ts:List T} (s:zx Y.B0 Y.H0) (r:zE Y.B0 vs ts):SI Y Y.B0 (en0 N.length ts) (L2.start N vs) Y.H0 where
 s0:=s
 sH:=zx.refl _
 sB:=s
 old:=fun _ _ _=>rfl
 len:=by unfold en0 L2.start; simp [r.length]
 vl:=fun i t h=>r.vl h
 ow:=fun i ts h=>(qZ h).elim
 xc:=fun i c h=>(Q0 h).elim
section
variable {P:Program} {w:World} {K:PySem.W.Frag} {mg:Str->Option Value} {base:Heap}
theorem zU {cl:Nat->Value} {x qual:Str} {st:Stmt} {f:Addr} {fd:FuncData} {N ps:List Str} {k n:Nat} {fb:En->RS} {g:List T->R T} (F:Fun K x qual st f fd) (S:zm N ps (zf st)) (hn:n=ps.length)
  (hb:∀ (cdv:Value) (A:Around) (outer:List Env) (s:Shared) (H:Hp) (E:XK) (Y:Fx),Y.cl=cl->Jk k (A.deeper (envOfC qual (zf st) s.heap.objs.size f cdv))->
   y3 (QG CX0 P w K mg base N qual (zf st) f cdv A outer s H E).nox Y (ZP st) fb)
  (hg:∀ ts,ts.length=n->g ts=zn (fb (en0 N.length ts))):Zz P w K mg base CX0 (k+1) f fd ps (spP cl n g):=by
 subst hn
 refine F.ok S spP.len fun cdv A outer s H vs Q E hr ⟨B,ts,hl,sB,r,q⟩=> ?_
 refine ⟨_,hb cdv A outer s H E ⟨B,H,E,cl⟩ rfl hr (en0 N.length ts),B,SI.start (Y:=⟨B,H,E,cl⟩) sB r, ?_⟩
 rw [hg ts hl] at q
 revert q
 cases fb (en0 N.length ts) with
 | rt t=>exact fun q v H' s r=>q v H' s r
 | rf t=>exact fun q a xs H' B' s0 n e r _ l=>q (.ref a) H' s0 (.lst (by rw [Zv n]; exact e) (r.mono l))
 | nx ρ=>exact fun q σ' H' B' _ I=>q .non H' I.sH .non
 | ex c=>exact fun q=>q
 | bk ρ=>exact fun q=>q.elim
 | ct ρ=>exact fun q=>q.elim
 | bad=>exact fun q=>q
end
abbrev rI:Hp->Hp->It->List T->Prop:=fun B1 _ J ts=>∀ B2 H2,zx B1 B2->zx B2 H2->(∀ i,i < ts.length->J.go i H2)/\(∀ (i:Nat) t x H3,ts[i]? =some t->J.yld i H2 x H3->zx H2 H3/\Rep (zR B2 H2 H3) x t)/\(∀ i,ts.length<=i->J.stop i H2)
structure Uf (X:Cx) (Y:Fx) (tg iter:Expr) (f:En->R (List T)):Prop where
 mk ::
 go:∀ ρ,PI X tg iter (tS Y rI f ρ)
instance {X:Cx} {Y:Fx} {tg iter:Expr} {f:En->R (List T)}:CoeFun (Uf X Y tg iter f) fun _=>∀ ρ,PI X tg iter (tS Y rI f ρ):=⟨Uf.go⟩
section
variable {X:Cx} {Y:Fx} {a b c d tg:Expr} {fa fb fc fd:En->R T} {pos p:Pos}
theorem PI.imp {e:Expr} {t t' :TI} (h:PI X tg e t) (i:∀ σ H Q,t' σ H Q->t σ H Q):PI X tg e t' :=fun pins s σ H Q I q=>h pins s σ H Q I (i σ H Q q)
theorem xr {K:PySem.W.Frag} {B1 H1:Hp} {a:Addr} {xs:List V} {ts:List T} (h:B1 a=some (.tup xs)) (r:zE B1 xs ts):rI B1 H1 (Itt K a) ts:=fun B2 H2 s1 s2=>by
 have h2:=s2 _ _ (s1 _ _ h)
 refine ⟨fun i hi=> ?_,fun i t x H3 e y=> ?_,fun i hi=>⟨xs,SqT.of h2,by rw [r.length]; exact hi⟩⟩
 ·obtain ⟨v,e,_⟩:=r.get (List.getElem?_eq_getElem hi)
  exact ⟨xs,v,SqT.of h2,e⟩
 ·obtain ⟨rfl,y⟩:=y
  obtain ⟨v,e1,r1⟩:=r.get e
  have:=y xs (SqT.of h2)
  rw [e1] at this; cases this
  refine ⟨zx.refl _, ?_⟩
  rw [zR.self B2 _ s2]
  exact r1.mono s1
theorem xt {K:PySem.W.Frag} {B1 H1:Hp} {a:Addr} {xs:List V} {ts:List T} (h:B1 a=some (.lst xs)) (r:zE B1 xs ts):rI B1 H1 (Itl K a) ts:=fun B2 H2 s1 s2=>by
 have h2:=s2 _ _ (s1 _ _ h)
 refine ⟨fun i hi=> ?_,fun i t x H3 e y=> ?_,fun i hi=>⟨xs,SqL.of h2,by rw [r.length]; exact hi⟩⟩
 ·obtain ⟨v,e,_⟩:=r.get (List.getElem?_eq_getElem hi)
  exact ⟨xs,v,SqL.of h2,e⟩
 ·obtain ⟨rfl,y⟩:=y
  obtain ⟨v,e1,r1⟩:=r.get e
  have:=y xs (SqL.of h2)
  rw [e1] at this; cases this
  refine ⟨zx.refl _, ?_⟩
  rw [zR.self B2 _ s2]
  exact r1.mono s1
def rng (lo:Int) (n:Nat):List T:=(List.range n).map fun (i:Nat)=>T.int (lo+(i:Int))
theorem Q1 {B1 H1:Hp} {lo:Int} {n:Nat}:rI B1 H1 (Itr lo n) (rng lo n):=fun B2 H2 s1 s2=>by
 have hl:(rng lo n).length=n:=by unfold rng; simp
 refine ⟨fun i hi=>by rw [hl] at hi; exact hi,fun i t x H3 e y=> ?_,fun i hi=>by rw [hl] at hi; exact hi⟩
 obtain ⟨rfl,rfl⟩:=y
 refine ⟨zx.refl _, ?_⟩
 unfold rng at e
 rw [List.getElem?_map] at e
 by_cases hi:i < n
 ·rw [List.getElem?_range hi] at e
  cases e
  exact .int _
 ·rw [List.getElem?_eq_none (by simp; omega)] at e; cases e
def j5 (fa:En->R T):En->R (List T):=fun ρ=>(fa ρ).bind fun t=>match t with
 | .int j=>if -1000000 < j/\j < 1000000 then .ok (rng 0 j.toNat) else .bad
 | _=> .bad
def Jd (fa fb:En->R T):En->R (List T):=fun ρ=>(fa ρ).bind fun t=>(fb ρ).bind fun t' =>match t,t' with
 | .int i, .int j=>if -1000000 < i/\i < 1000000/\ -1000000 < j/\j < 1000000 then .ok (rng i (j - i).toNat) else .bad
 | _,_=> .bad
theorem W3 (gl:Gl X "range") (mg:X.mg "range"=none) (ha:Snd X Y a fa) (hs:St1 X a:=by exact st1 rfl):Uf X Y tg (.Call (.Name "range" p) [a] [] pos) (j5 fa):= .mk fun ρ=>PI.imp (Up gl mg (zB (ha ρ) Zi hs) hs) fun σ H R ⟨B,I,q⟩=>step I q fun t v H1 _ s1 r1 I1 q1=>by
 cases r1 with
 | int j=>
  have q1:Po Y rI _ H1 (if -1000000 < j/\j < 1000000 then .ok (rng 0 j.toNat) else .bad) R:=q1
  split at q1
  ·rename_i hj
   exact ⟨j,rfl,by omega,by omega,ZQ I1 q1 Q1⟩
  ·exact q1.elim
 | _=>exact q1.elim
theorem Q2 (gl:Gl X "range") (mg:X.mg "range"=none) (ha:Snd X Y a fa) (hb:Snd X Y b fb) (hs:starEach [a,b] X.env=[(false,eval a X.env),(false,eval b X.env)]:=by exact st2 rfl rfl) (hs2:St1 X b:=by exact st1 rfl):Uf X Y tg (.Call (.Name "range" p) [a,b] [] pos) (Jd fa fb):= .mk fun ρ=>
 PI.imp (Uq gl mg (zB (ha ρ) (zB (hb ρ) Zi hs2) (by rw [hs,hs2])) hs hs2) fun σ H R ⟨B,I,q⟩=>step I q fun t v H1 _ s1 r1 I1 q1=>step I1 q1 fun t' v' H2 _ s2 r2 I2 q2=>by
  cases r1 with
  | int i=>
   cases r2 with
   | int j=>
    have q2:Po Y rI _ H2 (if -1000000 < i/\i < 1000000/\ -1000000 < j/\j < 1000000 then .ok (rng i (j - i).toNat) else .bad) R:=q2
    split at q2
    ·rename_i hj
     exact ⟨i,j,rfl,⟨by omega,by omega,by omega,by omega⟩,ZQ I2 q2 Q1⟩
    ·exact q2.elim
   | _=>exact q2.elim
  | _=>cases r2 <;> exact q2.elim
def kH (X:Cx) (Y:Fx) (tg:Expr) (g:T->En->R En):Prop:=∃ t:TG,PG X tg t/\∀ B ρ σ H v x Q,SI Y B ρ σ H->Rep B v x->(match g x ρ with | .ok ρ' =>∀ σ',SI Y B ρ' σ' H->Q σ' H | _=>False)->t v σ H Q
def zG (i:Nat):T->En->R En:=fun t ρ=> .ok (ρ.set i (.vl t))
theorem J0 {i:Nat} {x:Str} (hN:X.N.Nodup) (hi:X.N[i]? =some x) (hx:L2.Loc X.env.scope x) (hf:X.fn x=true\/X.env.scope.names.lookup x=some .local:=by first | exact .inl rfl | exact .inr rfl | assumption):kH X Y (.Name x pos) (zG i):=
 ⟨wL i,zA hN hi hx hf,fun B ρ σ H v x Q I r q=>q _ (I.setV i r)⟩
def Zd (i j:Nat):T->En->R En:=fun t ρ=>match t with
 | .tup [x,y]=> .ok ((ρ.set i (.vl x)).set j (.vl y))
 | _=> .bad
theorem xu {i j:Nat} {x y:Str} {p' p2:Pos} {k:Nat} (hc:X.calm=true) (hN:X.N.Nodup) (hi:X.N[i]? =some x) (hj:X.N[j]? =some y) (hx:L2.Loc X.env.scope x) (hy:L2.Loc X.env.scope y)
  (hf:X.fn x=true\/X.env.scope.names.lookup x=some .local:=by first | exact .inl rfl | exact .inr rfl | assumption) (hf' :X.fn y=true\/X.env.scope.names.lookup y=some .local:=by first | exact .inl rfl | exact .inr rfl | assumption):
  kH X Y (.Tuple [.Name x pos, .Name y p'] k p2) (Zd i j):=by
 refine ⟨kh X.K 2 (Ul (wL i) (Ul (wL j) kg)),JM hc (Zm (zA hN hi hx hf) (Zm (zA hN hj hy hf') jN)),fun B ρ σ H v t Q I r q=> ?_⟩
 cases r with
 | @tup l xs ts h r=>
  cases r with
  | nil=>exact q.elim
  | cons r1 rr=>
   cases rr with
   | nil=>exact q.elim
   | cons r2 rr=>
    cases rr with
    | cons _ _=>exact q.elim
    | nil=>
     exact ⟨l,_,rfl,SqT.of (I.sB _ _ h),rfl,_,_,rfl,_,_,rfl,rfl,q _ ((I.setV i r1).setV j r2)⟩
 | _=>exact q.elim
def ZU (g:T->En->R En) (fb:En->RS):List T->En->RS
 | [],ρ=> .nx ρ
 | t :: ts,ρ=>match g t ρ with
  | .ok ρ1=>match fb ρ1 with
   | .nx ρ2=>ZU g fb ts ρ2
   | .ct ρ2=>ZU g fb ts ρ2
   | .bk ρ2=> .nx ρ2
   | r=>r
  | .ex c=> .bad
  | .bad=> .bad
def Je (fi:En->R (List T)) (g:T->En->R En) (fb:En->RS):En->RS:=fun ρ=>(fi ρ).s fun ts=>ZU g fb ts ρ
theorem wg {iter:Expr} {sts:List Stmt} {fi:En->R (List T)} {g:T->En->R En} {fb:En->RS} (hp:PassesOwn (model X.prog X.w) X.A X.env X.xe) (hc:X.calm=true) (hi:Uf X Y tg iter fi) (hg:kH X Y tg g) (hb:y3 X Y sts fb)
  (hs:∀ x,foldedSetIterable iter X.env x=pure x:=by intro _; rfl):Wu X Y (.For tg iter sts [] pos) (Je fi g fb):= .mk fun ρ=>by
 obtain ⟨tG,hG,hG'⟩:=hg
 refine PS.imp (VO (tb:=fun D σ H=>∃ ρ',tSS Y fb ρ' D σ H) hp hc (hi ρ) hG (fun pins s σ H D I ⟨ρ',q⟩=>hb ρ' pins s σ H D I q) hs) fun D σ H ⟨B,I,q⟩=> ?_
 refine wf I q fun ts J H1 _ s1 r1 I1 q1=> ?_
 refine ⟨fun i m σ' H' =>m=ts.length - i/\i<=ts.length/\∃ ρ' B',SI Y B' ρ' σ' H' /\zx (zR B H H1) B' /\PoS Y B' (ZU g fb (ts.drop i) ρ') D,⟨ts.length,by simp,Nat.zero_le _,ρ,_,I1,zx.refl _,q1⟩, ?_⟩
 rintro i m σ' H' ⟨rfl,hi,ρ',B',I',sB',q'⟩
 obtain ⟨hgo,hyld,hstop⟩:=r1 B' H' sB' I'.sB
 by_cases hlt:i < ts.length
 ·refine .inr ⟨hgo i hlt,fun σ2 H2=>∃ ρ2 B2,SI Y B2 ρ2 σ2 H2/\zx (zR B H H1) B2/\PoS Y B2 (ZU g fb (ts.drop (i+1)) ρ2) D,fun σ2 H2 ⟨ρ2,B2,I2,s2,q2⟩=>⟨ts.length - (i+1),by omega,rfl,hlt,ρ2,B2,I2,s2,q2⟩,fun x H2 y=> ?_⟩
  obtain ⟨s2,r2⟩:=hyld i _ x H2 (List.getElem?_eq_getElem hlt) y
  rw [List.drop_eq_getElem_cons hlt] at q'
  unfold ZU at q'
  refine hG' _ ρ' σ' H2 x _ _ (I'.grow s2) r2 ?_
  cases eg:g ts[i] ρ' with
  | bad=>rw [eg] at q'; exact q'
  | ex c=>rw [eg] at q'; exact q'
  | ok ρ1=>
   rw [eg] at q'
   intro σ1 J1
   refine ⟨ρ1,_,J1, ?_⟩
   have q2:=PoS.up (zR.ge I'.sB s2) q'
   dsimp only at q2
   have s3:zx (zR B H H1) (zR B' H' H2):=sB'.trans (zR.ge I'.sB s2)
   revert q2
   cases fb ρ1 with
   | nx ρ2=>exact fun q2 σ3 H3 B3 s4 I3=>⟨ρ2,B3,I3,s3.trans s4,PoS.up s4 q2⟩
   | ct ρ2=>exact fun q2 σ3 H3 B3 s4 I3=>⟨ρ2,B3,I3,s3.trans s4,PoS.up s4 q2⟩
   | bk ρ2=>exact fun q2=>q2
   | rt t=>exact fun q2=>q2
   | rf t=>exact fun q2=>q2
   | ex c=>exact fun q2=>q2
   | bad=>exact fun q2=>q2
 ·have e:i=ts.length:=by omega
  subst e
  rw [List.drop_length] at q'
  exact .inl ⟨hstop _ (Nat.le_refl _),q' σ' H' B' (zx.refl _) I'⟩
def ZV (g:En->R Bool) (fb:En->RS):Nat->En->RS
 | 0,_=> .bad
 | n+1,ρ=>(g ρ).s fun k=>if k=true then match fb ρ with
   | .nx ρ2=>ZV g fb n ρ2
   | .ct ρ2=>ZV g fb n ρ2
   | .bk ρ2=> .nx ρ2
   | r=>r
  else .nx ρ
theorem vk {n:Nat} {sts:List Stmt} {ga:En->R Bool} {fb:En->RS} (hp:PassesOwn (model X.prog X.w) X.A X.env X.xe) (hc:Ws X Y c ga) (hb:y3 X Y sts fb):Wu X Y (.While c sts [] pos) (ZV ga fb n):= .mk fun ρ=>by
 refine PS.imp (YE (tc:=fun σ H Q=>∃ ρ',tS Y rE ga ρ' σ H Q) (tb:=fun D σ H=>∃ ρ',tSS Y fb ρ' D σ H) hp (fun pins s σ H D I ⟨ρ',q⟩=>hc ρ' pins s σ H D I q) (fun pins s σ H D I ⟨ρ',q⟩=>hb ρ' pins s σ H D I q)) fun D σ H ⟨B,I,q⟩=> ?_
 refine ⟨fun m σ' H' =>∃ ρ' B',SI Y B' ρ' σ' H' /\PoS Y B' (ZV ga fb m ρ') D,⟨n,ρ,B,I,q⟩, ?_⟩
 rintro m σ' H' ⟨ρ',B',I',q'⟩
 cases m with
 | zero=>exact q'.elim
 | succ m=>
  unfold ZV at q'
  refine ⟨ρ',wf I' q' fun t v H1 _ s1 r1 I1 q1=> ?_⟩
  have r1' :v=t:=r1
  subst r1'
  cases v with
  | false=>exact q1 _ _ _ (zx.refl _) I1
  | true=>
   refine ⟨fun σ2 H2=>∃ ρ2 B2,SI Y B2 ρ2 σ2 H2/\PoS Y B2 (ZV ga fb m ρ2) D,fun σ2 H2 h=>⟨m,Nat.lt_succ_self m,h⟩,ρ',_,I1, ?_⟩
   have q1:PoS Y _ (match fb ρ' with
    | .nx ρ2=>ZV ga fb m ρ2
    | .ct ρ2=>ZV ga fb m ρ2
    | .bk ρ2=> .nx ρ2
    | r=>r) D:=q1
   revert q1
   cases fb ρ' with
   | nx ρ2=>exact fun q2 σ3 H3 B3 s4 I3=>⟨ρ2,B3,I3,PoS.up s4 q2⟩
   | ct ρ2=>exact fun q2 σ3 H3 B3 s4 I3=>⟨ρ2,B3,I3,PoS.up s4 q2⟩
   | bk ρ2=>exact fun q2=>q2
   | rt t=>exact fun q2=>q2
   | rf t=>exact fun q2=>q2
   | ex c=>exact fun q2=>q2
   | bad=>exact fun q2=>q2
end
theorem Js {env:Env}:∀ (ns:List (Str×NameKind)) (acc:List (Str×Addr)),(∀ x∈ns,x.2=NameKind.free->∃ c,env.cells.lookup x.1=some c)->(∀ x c,acc.lookup x=some c->env.cells.lookup x=some c)->
  ∃ cl,(forIn ns acc (fun (x:Str×NameKind) (r:List (Str×Addr))=>if (x.2 == NameKind.free)=true then (do let c ← cellOf env x.1; pure (ForInStep.yield ((x.1,c) :: r))) else pure (ForInStep.yield r)):Sem _)=pure cl/\
   (∀ x c,cl.lookup x=some c->env.cells.lookup x=some c)/\(∀ x c,acc.lookup x=some c->∃ c',cl.lookup x=some c')/\(∀ x∈ns,x.2=NameKind.free->∃ c,cl.lookup x.1=some c)
 | [],acc,_,h=>⟨acc,rfl,h,fun x c e=>⟨c,e⟩,fun x hx=>by simp at hx⟩
 | (n,k) :: ns,acc,hf,h=>by
  by_cases hk:k=NameKind.free
  ·obtain ⟨c,hc⟩:=hf (n,k) List.mem_cons_self hk
   have h' :∀ x d,((n,c) :: acc).lookup x=some d->env.cells.lookup x=some d:=fun x d e=>by
    by_cases hx:x=n
    ·subst hx
     have e' :some c=some d:=by simpa [List.lookup_cons] using e
     cases e'; exact hc
    ·have e' :acc.lookup x=some d:=by
      rw [List.lookup_cons,(beq_eq_false_iff_ne.mpr hx)] at e; exact e
     exact h x d e'
   obtain ⟨cl,e,h1,h2,h3⟩:=Js ns ((n,c) :: acc) (fun x hx=>hf x (List.mem_cons_of_mem _ hx)) h'
   refine ⟨cl, ?_,h1,fun x d ed=> ?_,fun x hx hxf=> ?_⟩
   ·rw [List.forIn_cons]
    subst hk
    have q:cellOf env n=pure c:=by unfold cellOf; rw [hc]
    simp only [beq_self_eq_true,if_true,q]
    exact e
   ·by_cases hx:x=n
    ·subst hx; exact h2 x c (by simp [List.lookup_cons])
    ·exact h2 x d (by rw [List.lookup_cons,(beq_eq_false_iff_ne.mpr hx)]; exact ed)
   ·rcases List.mem_cons.mp hx with rfl | hx
    ·exact h2 n c (by simp [List.lookup_cons])
    ·exact h3 x hx hxf
  ·obtain ⟨cl,e,h1,h2,h3⟩:=Js ns acc (fun x hx=>hf x (List.mem_cons_of_mem _ hx)) h
   refine ⟨cl, ?_,h1,h2,fun x hx hxf=> ?_⟩
   ·rw [List.forIn_cons]
    have q:(k == NameKind.free)=false:=by simpa using hk
    simp only [q,Bool.false_eq_true,if_false]
    exact e
   ·rcases List.mem_cons.mp hx with rfl | hx
    ·exact absurd hxf hk
    ·exact h3 x hx hxf
theorem vm {scope:Scope} {env:Env} (hf:∀ x∈scope.names,x.2=NameKind.free->∃ c,env.cells.lookup x.1=some c):
  ∃ cl,closureFor scope env=pure cl/\(∀ x c,cl.lookup x=some c->env.cells.lookup x=some c)/\(∀ x∈scope.names,x.2=NameKind.free->∃ c,cl.lookup x.1=some c):=by
 obtain ⟨cl,e,h1,_,h3⟩:=Js scope.names [] hf (fun x c e=>by simp at e)
 refine ⟨cl, ?_,h1,h3⟩
 unfold closureFor
 show (do let cs ← _; pure cs)=_
 exact (by simpa using e)
def cxC (X:Cx) (scope:Scope) (N' :List Str) (cl:List (Str×Addr)) (C:Addr) (s3:Shared) (H3:Hp) (fp:List Addr) (pins:List (Addr×Obj)):Cx:=
 { X with N:=N',s₀:=s3,H₀:=H3,env:=compEnvC scope cl C X.env,outer:=X.stack,stack:=X.stack,ex:=fp,fn:=fun _=>false,pn:=X.pn++pins,xe:=fun _ _=>False }
structure CSc (X:Cx) (scope:Scope):Prop where
 kind:scope.kind= .function
 nocell:∀ x∈scope.names,x.2 ≠ .cell
 loc:∀ x∈scope.names,x.2= .local->scope.names.lookup x.1=some .local
 fre:∀ x∈scope.names,x.2= .free->X.env.kindOf x.1=some .cell\/X.env.kindOf x.1=some .free
theorem jD {scope:Scope} {env:Env} {x:Str} {k:NameKind} (h:(relabel scope env).names.lookup x=some k) (hk:k= .cell\/k= .free) (hn:∀ x∈scope.names,x.2 ≠ NameKind.cell):∃ y∈scope.names,y.1=x/\y.2= .free:=by
 have go:∀ ns:List (Str×NameKind),(∀ x∈ns,x.2 ≠ NameKind.cell)->(ns.map fun (n,k)=>if (k == NameKind.free && env.scope.kind == .function && env.kindOf n == some .cell) then (n,NameKind.cell) else (n,k)).lookup x=some k->∃ y∈ns,y.1=x/\y.2= .free:=by
  intro ns
  induction ns with
  | nil=>intro _ h; simp at h
  | cons y ns ih=>
   intro hn h
   obtain ⟨n,k'⟩:=y
   by_cases hx:x=n
   ·subst hx
    refine ⟨(x,k'),List.mem_cons_self,rfl, ?_⟩
    rw [List.map_cons] at h
    by_cases hc:(k' == NameKind.free && env.scope.kind == .function && env.kindOf x == some .cell)=true
    ·rw [Bool.and_eq_true,Bool.and_eq_true] at hc
     exact eq_of_beq hc.1.1
    ·simp only [if_neg hc,List.lookup_cons,beq_self_eq_true] at h
     cases h
     rcases hk with rfl | rfl
     ·exact absurd rfl (hn _ List.mem_cons_self)
     ·rfl
   ·obtain ⟨z,hz,h1,h2⟩:=ih (fun z hz=>hn z (List.mem_cons_of_mem _ hz)) (by
     rw [List.map_cons] at h
     by_cases hc:(k' == NameKind.free && env.scope.kind == .function && env.kindOf n == some .cell)=true
     ·simp only [if_pos hc,List.lookup_cons,(beq_eq_false_iff_ne.mpr hx)] at h; exact h
     ·simp only [if_neg hc,List.lookup_cons,(beq_eq_false_iff_ne.mpr hx)] at h; exact h)
    exact ⟨z,List.mem_cons_of_mem _ hz,h1,h2⟩
 exact go scope.names hn h
section
variable {X:Cx} {pins:List (Addr×Obj)} {σ:Sg} {H:Hp} {s:Shared}
theorem y8 {scope:Scope} {N' :List Str} {cl:List (Str×Addr)} {fp:List Addr} {h' :Heap} {tk:Nat} {σ' :Sg} (I:L2.Inv X pins σ H s) (S:CSc X scope) (hc:X.calm=true)
  (hcl:∀ x c,cl.lookup x=some c->X.env.cells.lookup x=some c) (hcf:∀ x∈scope.names,x.2=NameKind.free->∃ c,cl.lookup x.1=some c)
  (hfp:∀ b∈fp,wM X pins H b) (hfo:∀ b∈fp,∃ o,s.heap.get? b=some o)
  (hns:h'.Ns s.heap.objs.size (fun _=>none)) (hk:∀ b o,s.heap.get? b=some o->h'.get? b=some o)
  (hl:σ'.length=N'.length) (hσ:∀ (i:Nat) (x:Str) (v:V),N'[i]? =some x->σ'[i]? =some (some v)->∃ j:Nat,X.N[j]? =some x/\σ[j]? =some (some v)/\Vis X.env.scope x/\(scope.names.lookup x=some .free)/\(X.env.kindOf x=some .cell\/X.env.kindOf x=some .free)):
  L2.Inv (cxC X scope N' cl s.heap.objs.size s H fp pins) [] σ' H { s with heap:=h',toks:=tk }:=by
 have stk:=I.stkSub
 have hlt:∀ b∈fp,b < s.heap.objs.size:=fun b hb=>let ⟨o,e⟩:=hfo b hb; Heap.lt_size e
 have fresh:H s.heap.objs.size=none:=I.hok.fresh (Nat.le_refl _)
 refine ⟨⟨I.ok.mod,S.kind,I.ok.glob,I.ok.blt,Nat.le_refl _,fun x y c h1 h2=>I.ok.inj x y c (hcl _ _ h1) (hcl _ _ h2),fun x hx=> ?_,fun x c h _=>(Bool.false_ne_true h).elim,fun _=>I.ok.hd hc,I.ok.frames, .inl rfl,fun b hb=> ?_,I.bs,
   Nat.le_trans I.ok.bsz I.sz,fun b o e hb=> ?_,fun b hb hb' => ?_,I.stack,I.stkFree⟩,rfl,I.bare,Un.kept hk,⟨_,hns,fun i x v h1 h2 h3=> ?_⟩,fun x c e=> ?_,fresh,fun x c e=>I.freeC x c (hcl _ _ e),fun p hp=> ?_,I.hok.kept hk,hl⟩
 ·have hx' :(relabel scope X.env).names.lookup x=some .cell\/(relabel scope X.env).names.lookup x=some .free:=hx
  obtain ⟨y,hy,rfl,hyf⟩:∃ y∈scope.names,y.1=x/\y.2= .free:=by
   rcases hx' with h | h
   ·exact jD h (.inl rfl) S.nocell
   ·exact jD h (.inr rfl) S.nocell
  exact hcf y hy hyf
 ·refine ⟨Nat.ne_of_lt (hlt b hb),fun x c e=>(hfp b hb).2.2.2.2.1 x c (hcl _ _ e)⟩
 ·rcases (hfp b hb).2.2.2.1 with h | h
  ·exact I.ok.noex b o e h
  ·exact absurd (Nat.lt_of_lt_of_le (Heap.lt_size e) (Nat.le_trans I.ok.bsz h)) (Nat.lt_irrefl _)
 ·have q:=hfp b hb
  rcases List.mem_cons.mp (stk b hb') with z | z
  ·exact q.2.1 z
  ·exact q.2.2.1 z
 ·obtain ⟨j,e1,e2,e3,e4,e5⟩:=hσ i x v h1 h2
  obtain ⟨m,hn,hloc⟩:=I.loc
  obtain ⟨u,ru,lk⟩:=hloc j x v e1 e2 e3
  refine ⟨u,ru, .inr ⟨?_, ?_⟩⟩
  ·have h3:Vis (relabel scope X.env) x:=h3
   rcases h3 with h | h | h
   ·exfalso
    have:∀ ns:List (Str×NameKind),ns.lookup x=some .free->(ns.map fun (n,k)=>if (k == NameKind.free && X.env.scope.kind == .function && X.env.kindOf n == some .cell) then (n,NameKind.cell) else (n,k)).lookup x ≠ some .local:=by
     intro ns
     induction ns with
     | nil=>intro z; simp at z
     | cons y ns ih=>
      obtain ⟨n,k⟩:=y
      intro z w
      rw [List.map_cons] at w
      by_cases hx:x=n
      ·subst hx
       have hkf:some k=some NameKind.free:=by simpa [List.lookup_cons] using z
       by_cases hcn:(k == NameKind.free && X.env.scope.kind == .function && X.env.kindOf x == some .cell)=true
       ·simp only [if_pos hcn,List.lookup_cons,beq_self_eq_true] at w; cases w
       ·simp only [if_neg hcn,List.lookup_cons,beq_self_eq_true] at w
        rw [hkf] at w; cases w
      ·have z' :ns.lookup x=some .free:=by rw [List.lookup_cons,(beq_eq_false_iff_ne.mpr hx)] at z; exact z
       refine ih z' ?_
       by_cases hcn:(k == NameKind.free && X.env.scope.kind == .function && X.env.kindOf n == some .cell)=true
       ·simp only [if_pos hcn,List.lookup_cons,(beq_eq_false_iff_ne.mpr hx)] at w; exact w
       ·simp only [if_neg hcn,List.lookup_cons,(beq_eq_false_iff_ne.mpr hx)] at w; exact w
    exact this _ e4 h
   ·exact .inl h
   ·exact .inr h
  ·rcases lk with ⟨hk',_⟩ | ⟨_,c,hc',hcell⟩
   ·rcases e5 with z | z <;> (rw [z] at hk'; cases hk')
   ·obtain ⟨c',hc2⟩:=hcf (x, .free) (PySem.mem_of_lookup e4) rfl
    have:=hcl x c' hc2
    rw [hc'] at this; cases this
    obtain ⟨o,eo,ed⟩:=hcell
    exact ⟨c,hc2,o,hk _ _ eo,ed⟩
 ·obtain ⟨v,o,eo,ed⟩:=I.cell x c (hcl _ _ e)
  exact ⟨v,o,hk _ _ eo,ed⟩
 ·have hp' :p∈X.pn++pins:=by
   have:p∈(X.pn++pins)++[]:=hp
   rwa [List.append_nil] at this
  obtain ⟨e,n,ne,nf,dc⟩:=I.pin p hp'
  refine ⟨hk _ _ e,n,Nat.ne_of_lt (Heap.lt_size e),fun hb=> ?_,dc⟩
  rcases List.mem_cons.mp (stk _ hb) with z | z
  ·exact ne z
  ·exact nf z
end
def PIf (X:Cx) (ifs:List Expr) (t:TT):Prop:=
 ∀ (pins:List (Addr×Obj)) (s:Shared) (σ:Sg) (H:Hp) (Q:Bool->Hp->Prop),L2.Inv X pins σ H s->t σ H Q->
  wpAny (model X.prog X.w) X.A (forIn ifs true fun c r=>if r=true then do let ok ← isTrue c X.env (eval c X.env); pure (ForInStep.yield ok) else pure (ForInStep.yield r)) (TP X pins σ Q) X.xe s
theorem vn {X:Cx}:PIf X [] (fun _ H Q=>Q true H):=fun _ _ σ H _ I h=>wpAny_tests_nil ⟨H,I,h⟩
theorem vo {X:Cx} {c:Expr} {t:TT} (h:PT X c t):PIf X [c] t:=fun pins s σ H Q I q=>wpAny_tests_one (h pins s σ H Q I q)
abbrev XE (X:Cx) (xe:Value->Shared->Prop):Cx:={ X with xe:=xe }
theorem u4 {X:Cx} {pins:List (Addr×Obj)} {σ:Sg} {H:Hp} {s:Shared} {xe:Value->Shared->Prop} (I:L2.Inv X pins σ H s):L2.Inv (XE X xe) pins σ H s:=
 ⟨⟨I.ok.mod,I.ok.kind,I.ok.glob,I.ok.blt,I.ok.above,I.ok.inj,I.ok.has,I.ok.cab,I.ok.hd,I.ok.frames,I.ok.stk,I.ok.exf,I.ok.bs,I.ok.bsz,I.ok.noex,I.ok.exfs,I.ok.funs,I.ok.frf⟩,I.os,I.bare,I.base,I.loc,I.cell,I.free,I.freeC,I.pin,I.hok,I.len⟩
theorem y9 {X:Cx} {pins:List (Addr×Obj)} {σ:Sg} {H:Hp} {s:Shared} {xe:Value->Shared->Prop} (I:L2.Inv (XE X xe) pins σ H s):L2.Inv X pins σ H s:=(u4 I:L2.Inv (XE (XE X xe) X.xe) pins σ H s)
theorem kI {X:Cx} {e:Expr} {t:TG} {xe:Value->Shared->Prop} (hx:X.xe=fun _ _=>False) (h:PG X e t):PG (XE X xe) e t:=fun pins s σ H v u Q I r q=>wpAny_mono (h pins s σ H v u Q (y9 I) r q) (fun _ s' ⟨σ',H',I',q'⟩=>⟨σ',H',u4 I',q'⟩) fun e s' z=>by rw [hx] at z; exact z.elim
theorem xv {X:Cx} {e:List Expr} {t:TT} {xe:Value->Shared->Prop} (hx:X.xe=fun _ _=>False) (h:PIf X e t):PIf (XE X xe) e t:=fun pins s σ H Q I q=>wpAny_mono (h pins s σ H Q (y9 I) q) (fun _ s' ⟨H',I',q'⟩=>⟨H',u4 I',q'⟩) fun e s' z=>by rw [hx] at z; exact z.elim
theorem u5 {α:Type} {M:Model} {A:Around} {m:Sem α} {Q:α->Shared->Prop} {E E' :Value->Shared->Prop} {s:Shared} (hE:∀ e s',E' e s' ->E e s') (h:wpAny M A m Q E' s):wpAny M A m Q E s:=wpAny_mono h (fun _ _ q=>q) hE
def YU (J:It) (D:Addr) (g:TG) (tt:TT) (te:TE) (fin:Sg->Hp->Prop) (W:Nat->Nat->List V->Sg->Hp->Prop):Prop:=
 ∀ i m ys σ H,W i m ys σ H->H D=some (.lst ys)/\((J.stop i H/\fin σ H)\/(J.go i H/\∀ x H2,J.yld i H x H2->g x σ H2 fun σ3 H3=>tt σ3 H3 fun k H4=>
  if k=true then te σ3 H4 fun v H5=>H5 D=some (.lst ys)/\ys.length < sizeLine/\∃ m',m' < m/\W (i+1) m' (ys++[v]) σ3 (upd H5 D (.lst (ys++[v]))) else ∃ m',m' < m/\W (i+1) m' ys σ3 H4))
theorem ya {X:Cx} {R:Result->Shared->Prop} (hx:∀ e s',X.xe e s' ->notedBy (model X.prog X.w) X.A X.env (fun e s' =>R (.error e) s') e s') (hc:X.calm=true) {tg iter elt:Expr} {ifs:List Expr} {scope:Scope} {pos:Pos} {J:It} {fp:List Addr} {it:Addr} {tn:Nat->Heap->Prop} (TJ:Uc X.prog X.w X.K tg J fp it tn)
  {g:TG} {tt:TT} {te:TE} (hg:PG X tg g) (ht:PIf X ifs tt) (he:PE X elt te) {D:Addr} {fin:Sg->Hp->Prop} (W:Nat->Nat->List V->Sg->Hp->Prop) (turn:YU J D g tt te fin W)
  (hR:∀ s σ H,L2.Inv X [] σ H s->fin σ H->R (.ok .next) s) {m0:Nat} {σ0:Sg} {H0:Hp} {s0:Shared} (w0:W 0 m0 [] σ0 H0) (I0:L2.Inv X [] σ0 H0 s0) (t0:tn 0 s0.heap) (f0:∀ b∈fp,wM X [] H0 b):
  codeAny (model X.prog X.w) X.A (.compLoop (.ListComp elt [⟨tg,iter,ifs,0⟩] scope pos) 0 (.ref it) (.ref D) X.env) R s0:=by
 have stat:∀ {H' :Hp},(∀ b∈fp,H' b=none)->∀ b∈fp,wM X [] H' b:=fun hn b hb=>⟨hn b hb,(f0 b hb).2⟩
 refine codeAny_loop rfl (fun n s' =>∃ i ys σ' H',L2.Inv X [] σ' H' s' /\tn i s'.heap/\(∀ b∈fp,H' b=none)/\W i n ys σ' H') (fun n s3 h3=> ?_) m0 ⟨0,[],σ0,H0,I0,t0,fun b hb=>(f0 b hb).1,w0⟩
 obtain ⟨i,ys,σ3,H3,I3,st3,fr3,w3⟩:=h3
 show wpAny _ X.A ((compTurn (.ListComp elt [⟨tg,iter,ifs,0⟩] scope pos) 0 (.ref it) (.ref D) X.env).onRaise (fun x=>do noteFrame x X.env; theTreesLotGoes x)) _ _ s3
 refine wpAny_noted ?_
 rw [compTurn_list]
 obtain ⟨hD,h⟩:=turn i n ys σ3 H3 w3
 rcases h with ⟨stop,qn⟩ | ⟨go,next⟩
 ·refine wpAny_bind (wpAny_standAt (wpAny_bind (thn (TJ.done X rfl rfl rfl hc i [] s3 σ3 H3 _ I3 (stat fr3) st3 stop) fun r s4 ⟨hr,I4⟩=> ?_)))
  subst hr
  exact wpAny_pure (hR s4 σ3 H3 I4 qn)
 ·refine wpAny_bind (wpAny_standAt (wpAny_bind (thn (TJ.item X rfl rfl rfl hc i [] s3 σ3 H3 _ I3 (stat fr3) st3 go) fun r s4 ⟨u,hr,h4⟩=> ?_)))
  subst hr
  refine wpAny_bind (thn h4 fun _ s5 ⟨x,H5,I5,r5,y5,st5,fr5⟩=> ?_)
  have I5' :=I5.pinned (stat fr5) (TJ.obj _ _ st5)
  refine wpAny_bind (u5 hx (thn (hg _ s5 σ3 H5 x u _ I5' r5 (next x H5 y5)) fun _ s6 ⟨σ6,H6,I6,q6⟩=> ?_))
  have again:∀ {σ7:Sg} {H7:Hp} {s7:Shared} {ys' :List V},L2.Inv X ([]++wN fp s5.heap) σ7 H7 s7->(∃ m',m' < n/\W (i+1) m' ys' σ7 H7)->∃ m,m < n/\∃ i ys σ' H',L2.Inv X [] σ' H' s7/\tn i s7.heap/\(∀ b∈fp,H' b=none)/\W i m ys σ' H' :=fun {σ7 H7 s7 ys'} I7 ⟨m',hm,w7⟩=>by
   refine ⟨m',hm,i+1,ys',σ7,H7,I7.unpinned,TJ.keep _ _ _ st5 fun b hb o e=>(I7.pin (b,o) (List.mem_append_right _ (List.mem_append_right _ (jj hb e)))).1,fun b hb=> ?_,w7⟩
   obtain ⟨o,e,d⟩:=TJ.obj _ _ st5 b hb
   exact (I7.pin (b,o) (List.mem_append_right _ (List.mem_append_right _ (jj hb e)))).2.1
  refine wpAny_bind (u5 hx (thn (ht _ s6 σ6 H6 _ I6 q6) fun k s7 ⟨H7,I7,q7⟩=> ?_))
  cases k with
  | false=>exact wpAny_pure ⟨rfl,again I7 q7⟩
  | true=>
   refine wpAny_bind (wpAny_bind (u5 hx (thn (he _ s7 σ6 H7 _ I7 q7) fun v s8 ⟨y,H8,I8,r8,hD8,hlen,q8⟩=> ?_)))
   refine wpAny_bind (u5 hx (thn (wV _ s8 σ6 H8 (.ref D) [y] (.ref D) [v] (fun _ H9=>∃ m',m' < n/\W (i+1) m' (ys++[y]) σ6 H9) I8 rfl (.cons r8 .nil) ⟨D,ys,y,rfl,rfl,hD8,hlen,q8⟩) fun w s9 ⟨_,H9,I9,_,q9⟩=> ?_))
   exact wpAny_pure (wpAny_pure ⟨rfl,again I9 q9⟩)
def YV (k:Nat) (js:List Nat) (σ:Sg):Sg:=List.replicate k none++js.map fun j=>(σ[j]?).getD none
section
variable {X:Cx}
abbrev Vo (X:Cx) (scope:Scope) (N' :List Str) (P:Cx->Prop):Prop:=∀ cl C s3 H3 fp pins,P (cxC X scope N' cl C s3 H3 fp pins)
abbrev kJ (X:Cx) (scope:Scope) (N' :List Str) (E:XK) (P:Cx->Prop):Prop:=∀ cl C s3 H3 fp pins xe,JP (CX1 X.prog X.w) (XE (cxC X scope N' cl C s3 H3 fp pins) xe) E->P (XE (cxC X scope N' cl C s3 H3 fp pins) xe)
structure kK (X:Cx) (scope:Scope) (N' :List Str) (k:Nat) (js:List Nat):Prop where
 len:N'.length=k+js.length
 cap:∀ (i j:Nat),js[i]? =some j->∃ x,N'[k+i]? =some x/\X.N[j]? =some x/\Vis X.env.scope x/\scope.names.lookup x=some .free/\(X.env.kindOf x=some .cell\/X.env.kindOf x=some .free)
theorem u6 {E:XK} (hp:xh X E) {tg iter elt:Expr} {ifs:List Expr} {scope:Scope} {pos pos' :Pos} {N' :List Str} {k:Nat} {js:List Nat} {wi:TI} {g:TG} {tt:TT} {te:TE} {use:Option (Value->Sem Unit)} (S:CSc X scope) (CP:kK X scope N' k js) (hc:X.calm=true)
  (hi:PI X tg iter wi) (hg:Vo X scope N' fun XC=>PG XC tg g) (ht:Vo X scope N' fun XC=>PIf XC ifs tt) (he:kJ X scope N' E fun XC=>PE XC elt te) {pins:List (Addr×Obj)} {σ:Sg} {H:Hp} {s:Shared} {Q:Value->Shared->Prop} {F:Addr->Hp->Prop} (I:L2.Inv X pins σ H s)
  (h:wi σ H fun J H1=>∀ D,H1 D=none->∃ W,(∃ m,W 0 m [] (YV k js σ) (upd H1 D (.lst [])))/\YU J D g tt te (fun _ H' =>F D H') W)
  (hQ:∀ D C H' s',L2.Inv X pins σ H' s' ->F D H' ->H' C=none->(X.s₀.heap.objs.size<=C)->C ≠ X.env.locals->(∀ x c,X.env.cells.lookup x=some c->c ≠ C)->(∀ p∈X.pn++pins,p.1 ≠ C)->(∃ m,s'.heap.Ns C m)->compPost (model X.prog X.w) X.A X.xe use Q (.ref D) C (.ok .next) s')
  (hs:∀ x,foldedSetIterable iter X.env x=pure x:=by intro _; rfl):
  wpAny (model X.prog X.w) X.A (comprehension (.ListComp elt [⟨tg,iter,ifs,0⟩] scope pos) scope X.env pos' (newList []) false (eval iter X.env) use) Q X.xe s:=by
 obtain ⟨cl,ecl,hcl,hcf⟩:=vm (scope:=scope) (env:=X.env) fun x hx hf=>I.ok.has x.1 (S.fre x hx hf)
 refine wpAny_comprehension_free rfl hs ecl S.kind S.loc ?_
 refine thn (hi pins s σ H _ I h) fun v s1 h1=>thn h1 fun itv s2 h2=> ?_
 obtain ⟨it,fp,tn,J,H2,e,I2,TJ,st2,f2,q2⟩:=h2
 subst e
 refine wpAny_newObj_type ?_
 have hD:H2 s2.heap.objs.size=none:=I2.hok.fresh (Nat.le_refl _)
 have I3:L2.Inv X pins σ (upd H2 s2.heap.objs.size (.lst [])) { s2 with heap:=s2.heap.push { cls:= .type "list",data:= .seq ([]:List Value).toArray } }:=
  I2.laid (t' :=s2.toks) (fun b u e=>Heap.get?_push_of_some _ e) (Nat.le_refl _) ⟨Nat.zero_le _,[],_, .nil,Heap.get?_push_size _ rfl⟩
 obtain ⟨W,⟨m0,w0⟩,turn⟩:=q2 s2.heap.objs.size hD
 have f3:∀ b∈fp,wM X pins (upd H2 s2.heap.objs.size (.lst [])) b:=fun b hb=>by
  obtain ⟨o,eo,_⟩:=TJ.obj _ _ st2 b hb
  exact ⟨by rw [zy (Nat.ne_of_lt (Heap.lt_size eo))]; exact (f2 b hb).1,(f2 b hb).2⟩
 have o3:∀ b∈fp,∃ o,(s2.heap.push { cls:= .type "list",data:= .seq ([]:List Value).toArray }).get? b=some o:=fun b hb=>by
  obtain ⟨o,eo,_⟩:=TJ.obj _ _ st2 b hb
  exact ⟨o,Heap.get?_push_of_some _ eo⟩
 refine wpAny_newFunctionEnv S.nocell (by intro y hy; simp at hy) (fun h4 hns4 hsb4=> ?_) S.kind
 generalize hG:s2.heap.push { cls:= .type "list",data:= .seq ([]:List Value).toArray }=G3 at I3 o3 hns4 hsb4 ⊢
 dsimp only at hns4 hsb4 ⊢
 have s3e:∃ s3:Shared,s3={ s2 with heap:=G3 }:=⟨_,rfl⟩
 obtain ⟨s3,es3⟩:=s3e
 have hh3:s3.heap=s2.heap.push { cls:= .type "list",data:= .seq ([]:List Value).toArray }:=by rw [es3,hG]
 have hg3:G3=s3.heap:=by rw [es3]
 rw [← es3] at I3
 have ht3:s2.toks=s3.toks:=by rw [es3]
 rw [hg3] at hns4 hsb4 o3
 have k4:∀ b o,s3.heap.get? b=some o->h4.get? b=some o:=fun b o e=>hsb4.extBut b o (Nat.ne_of_lt (Heap.lt_size e)) (Heap.get?_push_of_some _ e)
 have IC:=y8 (N' :=N') (cl:=cl) (fp:=fp) (σ' :=YV k js σ) (tk:=s3.toks+([]:List (Str×Value)).length) I3 S hc hcl hcf f3 o3 hns4 k4 (by unfold YV; simp [CP.len]) (fun i x v h1 h2=>by
  unfold YV at h2
  by_cases hik:i < k
  ·rw [List.getElem?_append_left (by simpa using hik),List.getElem?_replicate,if_pos hik] at h2
   cases h2
  ·have hk' :k<=i:=by omega
   rw [List.getElem?_append_right (by simpa using hk'),List.length_replicate,List.getElem?_map] at h2
   cases ej:js[i - k]? with
   | none=>rw [ej] at h2; cases h2
   | some j=>
    rw [ej] at h2
    obtain ⟨y,e1,e2,e3,e4,e5⟩:=CP.cap (i - k) j ej
    have:k+(i - k)=i:=by omega
    rw [this,h1] at e1
    cases e1
    refine ⟨j,e2, ?_,e3,e4,e5⟩
    have h2' :some ((σ[j]?).getD none)=some (some v):=h2
    cases ez:σ[j]? with
    | none=>rw [ez] at h2'; cases h2'
    | some z=>rw [ez] at h2'; exact congrArg some (Option.some.inj h2'))
 have TC:Uc (cxC X scope N' cl s3.heap.objs.size s3 (upd H2 s2.heap.objs.size (.lst [])) fp pins).prog (cxC X scope N' cl s3.heap.objs.size s3 (upd H2 s2.heap.objs.size (.lst [])) fp pins).w (cxC X scope N' cl s3.heap.objs.size s3 (upd H2 s2.heap.objs.size (.lst [])) fp pins).K tg J fp it tn:=TJ
 have t4:tn 0 h4:=TJ.keep _ _ _ st2 fun b hb o e=>k4 b o (by rw [hh3]; exact Heap.get?_push_of_some _ e)
 have fC:∀ b∈fp,wM (cxC X scope N' cl s3.heap.objs.size s3 (upd H2 s2.heap.objs.size (.lst [])) fp pins) [] (upd H2 s2.heap.objs.size (.lst [])) b:=fun b hb=>by
  obtain ⟨q0,q1,q2,q3,q4,q5⟩:=f3 b hb
  obtain ⟨o,eo⟩:=o3 b hb
  refine ⟨q0,Nat.ne_of_lt (Heap.lt_size eo),fun hb' => ?_, .inl hb,fun x c e=>q4 x c (hcl _ _ e),fun p hp=> ?_⟩
  ·rcases List.mem_cons.mp (I3.stkSub b hb') with z | z
   ·exact q1 z
   ·exact q2 z
  ·exact q5 p (by
    have:p∈(X.pn++pins)++[]:=hp
    rwa [List.append_nil] at this)
 have fin:∀ (s5:Shared) (σ5:Sg) (H5:Hp),L2.Inv (cxC X scope N' cl s3.heap.objs.size s3 (upd H2 s2.heap.objs.size (.lst [])) fp pins) [] σ5 H5 s5->F s2.heap.objs.size H5->compPost (model X.prog X.w) X.A X.xe use Q (.ref s2.heap.objs.size) s3.heap.objs.size (.ok .next) s5:=fun s5 σ5 H5 I5 q5=>by
  have J5:L2.Inv X pins σ H5 s5:=I3.call' (ch:=fp) I5.os I5.base I5.hok I5.bare fun b hb=>by
   obtain ⟨q0,q1,q2,q3,q4,q5⟩:=f3 b hb
   exact ⟨q3,q1,q4,q5⟩
  refine hQ _ _ H5 s5 J5 q5 I5.free I3.sz (Nat.ne_of_gt I3.lt) (fun x c e z=> ?_) (fun p hp z=> ?_) (let ⟨m,hm,_⟩:=I5.loc; ⟨m,hm⟩)
  ·obtain ⟨v',o,eo,_⟩:=I3.cell x c e
   exact absurd (Heap.lt_size eo) (by rw [z]; exact Nat.lt_irrefl _)
  ·exact absurd (Heap.lt_size (I3.pin p hp).1) (by rw [z]; exact Nat.lt_irrefl _)
 have pass:JP (CX1 X.prog X.w) (XE (cxC X scope N' cl s3.heap.objs.size s3 (upd H2 s2.heap.objs.size (.lst [])) fp pins) (notedBy (model X.prog X.w) X.A (compEnvC scope cl s3.heap.objs.size X.env) fun e s' =>compPost (model X.prog X.w) X.A X.xe use Q (.ref s2.heap.objs.size) s3.heap.objs.size (.error e) s')) E:=by
  intro pins1 σ1 H1 s1 e s' I1 c1
  have J1:L2.Inv X pins σ H1 s1:=I3.call' (ch:=fp) I1.os I1.base I1.hok I1.bare fun b hb=>by
   obtain ⟨q0,q1,q2,q3,q4,q5⟩:=f3 b hb
   exact ⟨q3,q1,q4,q5⟩
  obtain ⟨m1,hm1,_⟩:=I1.loc
  refine thn (hp pins σ H1 s1 e s' s3.heap.objs.size m1 _ (compEnvC scope cl s3.heap.objs.size X.env) J1 hm1 I1.free I3.sz (fun z=> ?_) rfl c1) fun _ s'' q=> ?_
  ·obtain ⟨_,o,eo,_⟩:=I3.stack.mem z
   exact absurd (Heap.lt_size eo) (Nat.lt_irrefl _)
  ·cases use <;> exact q
 have loop:=ya (X:=XE (cxC X scope N' cl s3.heap.objs.size s3 (upd H2 s2.heap.objs.size (.lst [])) fp pins) (notedBy (model X.prog X.w) X.A (compEnvC scope cl s3.heap.objs.size X.env) fun e s' =>compPost (model X.prog X.w) X.A X.xe use Q (.ref s2.heap.objs.size) s3.heap.objs.size (.error e) s')) (iter:=iter) (scope:=scope) (pos:=pos) (R:=compPost (model X.prog X.w) X.A X.xe use Q (.ref s2.heap.objs.size) s3.heap.objs.size) (fun _ _ z=>z) hc TC (kI rfl (hg _ _ _ _ _ _)) (xv rfl (ht _ _ _ _ _ _)) (he _ _ _ _ _ _ _ pass) W turn (fun s5 σ5 H5 I5=>fin s5 σ5 H5 (y9 I5)) w0 (u4 IC) t4 fC
 rw [es3] at loop
 exact codeAny_compStart_list loop (TJ.self _ _ _ _ _ t4 loop)
end
def zF (g:T->En->R En) (ft:En->R Bool) (fe:En->R T):List T->En->R (List T)
 | [],_=> .ok []
 | t :: ts,ρ=>(g t ρ).bind fun ρ1=>(ft ρ1).bind fun k=>if k=true then (fe ρ1).bind fun v=>(zF g ft fe ts ρ1).bind fun vs=> .ok (v :: vs) else zF g ft fe ts ρ1
def YW:Option Sl->Sl
 | some (.vl t)=> .vl t
 | _=> .un
def WF (k:Nat) (js:List Nat) (ρ:En):En:=List.replicate k .un++js.map fun j=>YW ρ[j]?
def quiet {α:Type}:R α->R α
 | .ok a=> .ok a
 | _=> .bad
def Z3 (g:T->En->R En) (ft:En->R Bool) (fe:En->R T) (k:Nat) (js:List Nat) (ρ:En) (ts:List T):R (List T):=if ts.length<=bnd then quiet (zF g ft fe ts (WF k js ρ)) else .bad
def Z0 (fi:En->R (List T)) (g:T->En->R En) (ft:En->R Bool) (fe:En->R T) (k:Nat) (js:List Nat):En->R T:=fun ρ=>(fi ρ).bind fun ts=>(Z3 g ft fe k js ρ ts).bind fun vs=> .ok (.lst vs)
def GOk (tG:TG) (g:T->En->R En):Prop:=∀ Y B ρ σ H v x Q,SI Y B ρ σ H->Rep B v x->(match g x ρ with | .ok ρ' =>∀ σ',SI Y B ρ' σ' H->Q σ' H | _=>False)->tG v σ H Q
theorem Z7 (i:Nat):GOk (wL i) (zG i):=fun Y B ρ σ H v x Q I r q=>q _ (I.setV i r)
theorem jE (K:PySem.W.Frag) (i j:Nat):GOk (kh K 2 (Ul (wL i) (Ul (wL j) kg))) (Zd i j):=fun Y B ρ σ H v t Q I r q=>by
 cases r with
 | @tup l xs ts h r=>
  cases r with
  | nil=>exact q.elim
  | cons r1 rr=>
   cases rr with
   | nil=>exact q.elim
   | cons r2 rr=>
    cases rr with
    | cons _ _=>exact q.elim
    | nil=>exact ⟨l,_,rfl,SqT.of (I.sB _ _ h),rfl,_,_,rfl,_,_,rfl,rfl,q _ ((I.setV i r1).setV j r2)⟩
 | _=>exact q.elim
theorem SI.block {Y:Fx} {B:Hp} {ρ:En} {σ:Sg} {H H3:Hp} {D:Addr} (I:SI Y B ρ σ H) (k:Nat) (js:List Nat) (E:XK) (hD:H D=none) (o:HO):SI ⟨B,H,E,Y.cl⟩ B (WF k js ρ) (YV k js σ) (upd H D o) where
 s0:=I.sB
 sH:=zx.new hD _
 sB:=I.sB.trans (zx.new hD _)
 old:=fun _ _ _=>rfl
 len:=by unfold WF YV; simp
 vl:=fun i t h=>by
  unfold WF at h
  unfold YV
  by_cases hik:i < k
  ·rw [List.getElem?_append_left (by simpa using hik),List.getElem?_replicate,if_pos hik] at h; cases h
  ·have hk' :k<=i:=by omega
   rw [List.getElem?_append_right (by simpa using hk'),List.length_replicate,List.getElem?_map] at h ⊢
   cases ej:js[i - k]? with
   | none=>rw [ej] at h; cases h
   | some j=>
    rw [ej] at h
    have h' :YW ρ[j]? = .vl t:=Option.some.inj h
    unfold YW at h'
    split at h'
    ·rename_i u e
     cases h'
     obtain ⟨v,e1,r⟩:=I.vl j _ e
     exact ⟨v,by show some ((σ[j]?).getD none)=_; rw [e1]; rfl,r⟩
    ·cases h'
 ow:=fun i ts h=>by
  exfalso
  unfold WF at h
  by_cases hik:i < k
  ·rw [List.getElem?_append_left (by simpa using hik),List.getElem?_replicate,if_pos hik] at h; cases h
  ·have hk' :k<=i:=by omega
   rw [List.getElem?_append_right (by simpa using hk'),List.length_replicate,List.getElem?_map] at h
   cases ej:js[i - k]? with
   | none=>rw [ej] at h; cases h
   | some j=>
    rw [ej] at h
    have h' :YW ρ[j]? = .ow ts:=Option.some.inj h
    unfold YW at h'
    split at h' <;> cases h'
 xc:=fun i c h=>by
  exfalso
  unfold WF at h
  by_cases hik:i < k
  ·rw [List.getElem?_append_left (by simpa using hik),List.getElem?_replicate,if_pos hik] at h; cases h
  ·have hk' :k<=i:=by omega
   rw [List.getElem?_append_right (by simpa using hk'),List.length_replicate,List.getElem?_map] at h
   cases ej:js[i - k]? with
   | none=>rw [ej] at h; cases h
   | some j=>
    rw [ej] at h
    have h' :YW ρ[j]? = .xc c:=Option.some.inj h
    unfold YW at h'
    split at h' <;> cases h'
theorem SI.acc {Y:Fx} {B:Hp} {ρ:En} {σ:Sg} {H:Hp} {D:Addr} (I:SI Y B ρ σ H) (hb:B D=none) (h0:Y.H0 D=none) (ho:∀ (i:Nat) (ts:List T),ρ[i]? =some (Sl.ow ts)->σ[i]? ≠ some (some (V.ref D))) (o:HO):SI Y B ρ σ (upd H D o) where
 s0:=I.s0
 sH:=fun b u h=>by
  rw [zy (fun z=>by subst z; rw [h0] at h; cases h)]; exact I.sH b u h
 sB:=fun b u h=>by
  rw [zy (fun z=>by subst z; rw [hb] at h; cases h)]; exact I.sB b u h
 old:=I.old
 len:=I.len
 vl:=I.vl
 ow:=fun i ts h=>by
  obtain ⟨a,xs,e,b0,h0',hh,r,d⟩:=I.ow i ts h
  refine ⟨a,xs,e,b0,h0', ?_,r,d⟩
  rw [zy (fun z=>ho i ts h (by rw [e,z]))]; exact hh
 xc:=I.xc
def vp (ρ:En):Prop:=∀ (i:Nat) (ts:List T),ρ[i]? ≠ some (Sl.ow ts)
theorem YX (k:Nat) (js:List Nat) (ρ:En):vp (WF k js ρ):=fun i ts h=>by
 unfold WF at h
 by_cases hik:i < k
 ·rw [List.getElem?_append_left (by simpa using hik),List.getElem?_replicate,if_pos hik] at h; cases h
 ·have hk' :k<=i:=by omega
  rw [List.getElem?_append_right (by simpa using hk'),List.length_replicate,List.getElem?_map] at h
  cases ej:js[i - k]? with
  | none=>rw [ej] at h; cases h
  | some j=>
   rw [ej] at h
   have h' :YW ρ[j]? = .ow ts:=Option.some.inj h
   unfold YW at h'
   split at h' <;> cases h'
theorem wj {ρ:En} {i:Nat} {t:T} (h:vp ρ):vp (ρ.set i (.vl t)):=fun j ts e=>by
 rcases zY e with ⟨_,z⟩ | ⟨_,z⟩
 ·cases z
 ·exact h j ts z
def GNo (g:T->En->R En):Prop:=(∀ t ρ ρ',vp ρ->g t ρ= .ok ρ' ->vp ρ')/\∀ t ρ c,g t ρ ≠ .ex c
theorem Z8 (i:Nat):GNo (zG i):=⟨fun t ρ ρ' h e=>by
 cases e; exact wj h,fun t ρ c e=>by cases e⟩
theorem jF (i j:Nat):GNo (Zd i j):=⟨fun t ρ ρ' h e=>(by
 unfold Zd at e
 split at e
 ·cases e; exact wj (wj h)
 ·cases e),fun t ρ c e=>by unfold Zd at e; split at e <;> cases e⟩
section
variable {X:Cx} {Y:Fx} {tg iter elt:Expr} {ifs:List Expr} {scope:Scope} {pos pos' :Pos} {N' :List Str} {k:Nat} {js:List Nat} {fi:En->R (List T)} {tG:TG} {g:T->En->R En} {ft:En->R Bool} {fe:En->R T}
structure uS (X:Cx) (Y:Fx) (ifs:List Expr) (f:En->R Bool):Prop where
 mk ::
 go:∀ ρ,PIf X ifs (tS Y rE f ρ)
instance {X:Cx} {Y:Fx} {ifs:List Expr} {f:En->R Bool}:CoeFun (uS X Y ifs f) fun _=>∀ ρ,PIf X ifs (tS Y rE f ρ):=⟨uS.go⟩
theorem PIf.imp {X:Cx} {e:List Expr} {t t' :TT} (h:PIf X e t) (i:∀ σ H Q,t' σ H Q->t σ H Q):PIf X e t' :=fun pins s σ H Q I q=>h pins s σ H Q I (i σ H Q q)
def Z9:En->R Bool:=fun _=> .ok true
theorem Zw {X:Cx}:uS X Y [] Z9:= .mk fun ρ=>PIf.imp vn fun σ H Q ⟨B,I,q⟩=>ZQ I q rfl
theorem xw {X:Cx} {c:Expr} (h:Ws X Y c ft):uS X Y [c] ft:= .mk fun ρ=>vo (h ρ)
def gK (r:R (List T)) (P:List T->Prop) (Z:Nat->Prop):Prop:=match r with
 | .ok vs=>P vs
 | .ex c=>Z c
 | .bad=>False
theorem uT {B1 H1:Hp} {σ:Sg} {ρ:En} {J:It} {ts:List T} {r:R (List T)} {D:Addr} {E0:XK} (hG:GOk tG g) (hN:GNo g) (I:SI Y B1 ρ σ H1) (rI' :rI B1 H1 J ts) (hl:ts.length<=bnd) (ev:zF g ft fe ts (WF k js ρ)=r) (hD:H1 D=none) {F:Hp->Prop}
  (hF:gK r (fun vs=>∀ H' xs B',zx H1 H' ->H' D=some (.lst xs)->zE B' xs vs->zx B' (zR B1 H1 H')->B' D=none->zx B1 B' ->F H') fun c=>∀ d H',zx H1 H' ->zx B1 H' ->E0 (Y.cl c) d H'):
  ∃ W,(∃ m,W 0 m [] (YV k js σ) (upd H1 D (.lst [])))/\YU J D tG (fun σ H Q=>∃ Y' ρ',Y'.cl=Y.cl/\tS Y' rE ft ρ' σ H Q) (fun σ H Q=>∃ Y' ρ',Y'.cl=Y.cl/\Y'.E=E0/\tS Y' rC fe ρ' σ H Q) (fun _ H' =>F H') W:=by
 refine ⟨fun i m ys σ' H' =>m=ts.length - i/\i<=ts.length/\ys.length<=i/\H' D=some (.lst ys)/\∃ ρ' B' us,SI ⟨B1,H1,E0,Y.cl⟩ B' ρ' σ' H' /\vp ρ' /\zx B1 B' /\B' D=none/\zE B' ys us/\((zF g ft fe (ts.drop i) ρ').bind fun ws=> .ok (us++ws))=r,
  ⟨ts.length,by simp,Nat.zero_le _,Nat.zero_le _,Z6,_,B1,[],I.block (H3:=H1) k js _ hD _,YX k js ρ,zx.refl _,I.sB.free hD, .nil,by rw [List.drop_zero,ev]; cases r <;> rfl⟩, ?_⟩
 rintro i m ys σ' H' ⟨rfl,hi,hyl,hDl,ρ',B',us,I',no',s1',bD,r',ew⟩
 refine ⟨hDl, ?_⟩
 obtain ⟨hgo,hyld,hstop⟩:=rI' B' H' s1' I'.sB
 have tD:∀ H2,zx H' H2->zR B' H' H2 D=none:=fun H2 s=>by rw [Zs hDl]; exact bD
 by_cases hlt:i < ts.length
 ·refine .inr ⟨hgo i hlt,fun x H2 y=> ?_⟩
  obtain ⟨s2,r2⟩:=hyld i _ x H2 (List.getElem?_eq_getElem hlt) y
  rw [List.drop_eq_getElem_cons hlt] at ew
  unfold zF at ew
  have I2:=I'.grow s2
  refine hG _ _ ρ' σ' H2 x _ _ I2 r2 ?_
  cases eg:g ts[i] ρ' with
  | bad=>rw [eg] at ew; subst ew; exact hF
  | ex c=>exact (hN.2 _ _ _ eg).elim
  | ok ρ1=>
   rw [eg] at ew
   have no1:vp ρ1:=hN.1 _ _ _ no' eg
   intro σ1 J1
   refine ⟨⟨B1,H1,E0,Y.cl⟩,ρ1,rfl,_,J1, ?_⟩
   have ew1:((ft ρ1).bind (fun k=>if k=true then (fe ρ1).bind fun v=>(zF g ft fe (ts.drop (i+1)) ρ1).bind fun vs=> .ok (v :: vs) else zF g ft fe (ts.drop (i+1)) ρ1)).bind (fun ws=> .ok (us++ws))=r:=ew
   cases ef:ft ρ1 with
   | bad=>rw [ef] at ew1; subst ew1; exact hF
   | ex c=>
    rw [ef] at ew1; subst ew1
    exact fun d H' a b=>hF d H' a ((s1'.trans (zR.ge I'.sB s2)).trans b)
   | ok kk=>
    rw [ef] at ew1
    intro b H3 s3 eb
    have eb' :b=kk:=eb
    subst eb'
    have ew2:(if b=true then (fe ρ1).bind fun v=>(zF g ft fe (ts.drop (i+1)) ρ1).bind fun vs=> .ok (v :: vs) else zF g ft fe (ts.drop (i+1)) ρ1).bind (fun ws=> .ok (us++ws))=r:=ew1
    have J2:=J1.grow s3
    have hD3:H3 D=some (.lst ys):=s3 _ _ (s2 _ _ hDl)
    have bD3:zR (zR B' H' H2) H2 H3 D=none:=by rw [Zs (s2 _ _ hDl)]; exact tD H2 s2
    have sB3:zx B' (zR (zR B' H' H2) H2 H3):=(zR.ge I'.sB s2).trans (zR.ge I2.sB s3)
    cases b with
    | false=>exact ⟨ts.length - (i+1),by omega,rfl,hlt,by omega,hD3,ρ1,_,us,J2,no1,s1'.trans sB3,bD3,r'.mono sB3,ew2⟩
    | true=>
     refine ⟨⟨B1,H1,E0,Y.cl⟩,ρ1,rfl,rfl,_,J2, ?_⟩
     have ew3:((fe ρ1).bind (fun v=>(zF g ft fe (ts.drop (i+1)) ρ1).bind fun vs=> .ok (v :: vs))).bind (fun ws=> .ok (us++ws))=r:=ew2
     cases ee:fe ρ1 with
     | bad=>rw [ee] at ew3; subst ew3; exact hF
     | ex c=>
      rw [ee] at ew3; subst ew3
      exact fun d H' a b=>hF d H' a ((s1'.trans sB3).trans b)
     | ok v=>
      rw [ee] at ew3
      have ew4:((zF g ft fe (ts.drop (i+1)) ρ1).bind (fun vs=> .ok (v :: vs))).bind (fun ws=> .ok (us++ws))=r:=ew3
      have ew5:(zF g ft fe (ts.drop (i+1)) ρ1).bind (fun ws=> .ok ((us++[v])++ws))=r:=by
       rw [← ew4]
       cases zF g ft fe (ts.drop (i+1)) ρ1 with
       | ok ws=>show R.ok _=R.ok _; rw [List.append_assoc]; rfl
       | _=>rfl
      intro w H4 s4 rw4
      have hD4:H4 D=some (.lst ys):=s4 _ _ hD3
      have J3:=J2.grow s4
      have bD4:zR (zR (zR B' H' H2) H2 H3) H3 H4 D=none:=by rw [Zs hD3]; exact bD3
      have sB4:=sB3.trans (zR.ge J2.sB s4)
      refine ⟨hD4,Nat.lt_of_lt_of_le (Nat.lt_of_le_of_lt hyl hlt) (ZM hl),ts.length - (i+1),by omega,rfl,hlt,by rw [List.length_append,List.length_singleton]; omega,Z6,ρ1,_,us++[v], ?_,no1,s1'.trans sB4,bD4,(r'.mono sB4).append (.cons rw4 .nil),ew5⟩
      exact J3.acc bD4 hD (fun j ts' e=>(no1 j ts' e).elim) _
 ·have e:i=ts.length:=by omega
  subst e
  refine .inl ⟨hstop _ (Nat.le_refl _), ?_⟩
  rw [List.drop_length] at ew
  have ew' :R.ok (us++[])=r:=ew
  rw [List.append_nil] at ew'
  subst ew'
  refine hF H' ys B' I'.sH hDl r' (fun b o h=> ?_) bD s1'
  cases q:H1 b with
  | none=>rw [Zv q]; exact I'.sB b o h
  | some u=>
   rw [Zs q]
   have z:B' b=B1 b:=I'.old b u q
   rw [← z]; exact h
theorem W4 {B1 H1:Hp} {σ:Sg} {ρ:En} {J:It} {ts vs:List T} {D:Addr} (hG:GOk tG g) (hN:GNo g) (I:SI Y B1 ρ σ H1) (rI' :rI B1 H1 J ts) (hl:ts.length<=bnd) (ev:zF g ft fe ts (WF k js ρ)= .ok vs) (hD:H1 D=none) {F:Hp->Prop}
  (hF:∀ H' xs B',zx H1 H' ->H' D=some (.lst xs)->zE B' xs vs->zx B' (zR B1 H1 H')->B' D=none->zx B1 B' ->F H'):
  ∃ W,(∃ m,W 0 m [] (YV k js σ) (upd H1 D (.lst [])))/\YU J D tG (fun σ H Q=>∃ Y' ρ',Y'.cl=Y.cl/\tS Y' rE ft ρ' σ H Q) (fun σ H Q=>∃ Y' ρ',Y'.cl=Y.cl/\(Y'.E=fun _ _ _=>False)/\tS Y' rC fe ρ' σ H Q) (fun _ H' =>F H') W:=uT hG hN I rI' hl ev hD hF
structure yb (X:Cx) (Y:Fx) (tg iter elt:Expr) (ifs:List Expr) (scope:Scope) (N' :List Str) (k:Nat) (js:List Nat) (fi:En->R (List T)) (tG:TG) (g:T->En->R En) (ft:En->R Bool) (fe:En->R T):Prop where
 sc:CSc X scope
 cp:kK X scope N' k js
 cm:X.calm=true
 it:Uf X Y tg iter fi
 gt:Vo X scope N' fun XC=>PG XC tg tG
 gk:GOk tG g
 gn:GNo g
 tt:∀ Y',Y'.cl=Y.cl->Vo X scope N' fun XC=>uS XC Y' ifs ft
 el:∀ Y',Y'.cl=Y.cl->kJ X scope N' Y'.E fun XC=>Snd XC Y' elt fe
 hs:∀ x,foldedSetIterable iter X.env x=pure x
theorem ZI (C:yb X Y tg iter elt ifs scope N' k js fi tG g ft fe):Snd X Y (.ListComp elt [⟨tg,iter,ifs,0⟩] scope pos) (Z0 fi g ft fe k js):= .mk fun ρ=>by
 intro pins s σ H Q I ⟨B,J,q⟩
 rw [eval_ListComp]
 refine u6 (JR rfl) (use:=none) (Q:=EP X pins σ Q) (F:=fun D H' =>Q (.ref D) H') (te:=fun σ H Q=>∃ Y' ρ',Y'.cl=Y.cl/\(Y'.E=fun _ _ _=>False)/\tS Y' rC fe ρ' σ H Q) (tt:=fun σ H Q=>∃ Y' ρ',Y'.cl=Y.cl/\tS Y' rE ft ρ' σ H Q) C.sc C.cp C.cm (C.it ρ) C.gt
  (fun cl Cx' s3 H3 fp pins pins' s σ H Q I ⟨Y',ρ',ey,q⟩=>C.tt Y' ey cl Cx' s3 H3 fp pins ρ' pins' s σ H Q I q) (fun cl Cx' s3 H3 fp pins xe hp pins' s σ H Q I ⟨Y',ρ',ey,eE,q⟩=>C.el Y' ey cl Cx' s3 H3 fp pins xe (eE ▸ hp) ρ' pins' s σ H Q I q) I ?_ ?_ C.hs
 ·refine step J q fun ts it' H1 _ s1 r1 J1 q1=> ?_
  intro D hD
  unfold Z3 at q1
  split at q1
  ·rename_i hl
   cases ev:zF g ft fe ts (WF k js ρ) with
   | bad=>rw [ev] at q1; exact q1.elim
   | ex c=>rw [ev] at q1; exact q1.elim
   | ok vs=>
    rw [ev] at q1
    refine W4 C.gk C.gn J1 r1 hl ev hD fun H' xs B' s' e' r' l' b' sb' => ?_
    refine (show Po Y rC _ H1 (.ok (.lst vs)) Q from q1) (.ref D) H' s' ?_
    exact .lst (by rw [Zv hD]; exact e') (r'.mono l')
  ·exact q1.elim
 ·intro D Cc H' s' I' q' hC h0 hL hcell hpin hns
  obtain ⟨m,hm⟩:=hns
  refine ⟨m,hm,fun h' hsb=>⟨.ref D,H', ?_,rfl,q'⟩⟩
  exact I'.turned (t' :=s'.toks) (fun b o hb e=>hsb.extBut b o hb e) hC (Ne.symm hL).symm (.inr h0) hcell hpin
end
section
variable {X:Cx} {Y:Fx} {tg iter elt:Expr} {ifs:List Expr} {scope:Scope} {pos pos' :Pos} {N' :List Str} {k:Nat} {js:List Nat} {fi:En->R (List T)} {tG:TG} {g:T->En->R En} {ft:En->R Bool} {fe:En->R T}
theorem u7 {i:Nat} {x:Str} {pc p' :Pos} (C:yb X Y tg iter elt ifs scope N' k js fi tG g ft fe) (hN:X.N.Nodup) (hi:X.N[i]? =some x) (hx:L2.Loc X.env.scope x)
  (hsw:swapsWith (.ListComp elt [⟨tg,iter,ifs,0⟩] scope pc) (some (.Name x p')) pos.line X.env=pure true) (hf:X.fn x=true\/X.env.scope.names.lookup x=some .local:=by first | exact .inl rfl | exact .inr rfl | assumption):
  Wu X Y (.Assign [.Name x p'] (.ListComp elt [⟨tg,iter,ifs,0⟩] scope pc) pos) (zS i (Z0 fi g ft fe k js)):= .mk fun ρ=>by
 intro pins s σ H D I ⟨B,J,q⟩
 rw [exec_Assign_Name_used _ _ _ _ hsw]
 refine wpAny_bind (wpAny_standAt (wpAny_bind ?_))
 show wpAny _ X.A (do let _ ← comprehension (.ListComp elt [⟨tg,iter,ifs,0⟩] scope pc) scope X.env _ (newList []) false (eval iter X.env) (some (assign (.Name x p') X.env))) _ _ s
 refine wpAny_bind (thn (u6 (JR rfl) (use:=some (assign (.Name x p') X.env)) (Q:=fun _ s' =>SP X pins D .next s') (F:=fun D' H' =>D.nx (σ.set i (some (.ref D'))) H') (te:=fun σ H Q=>∃ Y' ρ',Y'.cl=Y.cl/\(Y'.E=fun _ _ _=>False)/\tS Y' rC fe ρ' σ H Q) (tt:=fun σ H Q=>∃ Y' ρ',Y'.cl=Y.cl/\tS Y' rE ft ρ' σ H Q) C.sc C.cp C.cm (C.it ρ) C.gt
  (fun cl Cx' s3 H3 fp pins pins' s σ H Q I ⟨Y',ρ',ey,q⟩=>C.tt Y' ey cl Cx' s3 H3 fp pins ρ' pins' s σ H Q I q) (fun cl Cx' s3 H3 fp pins xe hp pins' s σ H Q I ⟨Y',ρ',ey,eE,q⟩=>C.el Y' ey cl Cx' s3 H3 fp pins xe (eE ▸ hp) ρ' pins' s σ H Q I q) I ?_ ?_ C.hs) fun _ s' hq=>wpAny_pure (wpAny_pure hq))
 ·have q' :PoS Y B (((fi ρ).s fun ts=>(Z3 g ft fe k js ρ ts).s fun vs=> .nx (ρ.set i (.vl (.lst vs))))) D:=by
   unfold zS Z0 at q
   revert q
   cases fi ρ with
   | bad=>exact fun q=>q
   | ex c=>exact fun q=>q
   | ok ts=>
    intro q
    have q2:PoS Y B (((Z3 g ft fe k js ρ ts).bind fun vs=>R.ok (T.lst vs)).s fun t=>RS.nx (List.set ρ i (Sl.vl t))) D:=q
    show PoS Y B ((Z3 g ft fe k js ρ ts).s fun vs=>RS.nx (List.set ρ i (Sl.vl (T.lst vs)))) D
    revert q2
    cases Z3 g ft fe k js ρ ts with
    | bad=>exact fun q=>q
    | ex c=>exact fun q=>q
    | ok vs=>exact fun q=>q
  refine wf J q' fun ts it' H1 _ s1 r1 J1 q1=> ?_
  intro D' hD
  unfold Z3 at q1
  split at q1
  ·rename_i hl
   cases ev:zF g ft fe ts (WF k js ρ) with
   | bad=>rw [ev] at q1; exact q1.elim
   | ex c=>rw [ev] at q1; exact q1.elim
   | ok vs=>
    rw [ev] at q1
    refine W4 C.gk C.gn J1 r1 hl ev hD fun H' xs B' s' e' r' l' b' sb' => ?_
    have rr:Rep (zR (zR B H H1) H1 H') (.ref D') (.lst vs):= .lst (by rw [Zv hD]; exact e') (r'.mono l')
    exact q1 _ _ _ (zR.ge J1.sB s') ((J1.grow s').setV i rr)
  ·exact q1.elim
 ·intro D' Cc H' s' I' q' hC h0 hL hcell hpin hns
  obtain ⟨m,hm⟩:=hns
  show wpAny _ X.A (assign (.Name x p') X.env (.ref D')) _ _ s'
  refine wpAny_assign_Name (wK (v:= .ref D') I' hN hi hx rfl (fun s'' I'' ⟨a,hsb,ha⟩=> ?_) hf)
  have hne:Cc ≠ a:=by
   rcases ha with rfl | ha
   ·exact hL
   ·exact (hcell x a ha).symm
  refine ⟨m,hm.sameBut hsb hne,fun h' hsb' =>⟨_,H', ?_,q'⟩⟩
  exact I''.turned (t' :=s''.toks) (fun b o hb e=>hsb'.extBut b o hb e) hC hL (.inr h0) hcell hpin
end
def Itc (x:Str):It:=⟨fun i _=>i < x.cps.size,fun i H v H' =>H' =H/\∃ c,x.cps[i]? =some c/\v= .str ⟨#[c]⟩,fun i _=>x.cps.size<=i⟩
theorem JX {P:Program} {w:World} {K:PySem.W.Frag} {tg:Expr} {x:Str} {t:Tok} {ty:String} (it:Addr) (hty:ty="str_ascii_iterator"\/ty="str_iterator"):Uc P w K tg (Itc x) [it] it (fun i h=>h.IsStrIter it ty x t i):=by
 have W:∀ A:Around,A.handled=none->Walks P w A it [it] [it] x.cps.size (SignAt x) (fun i h=>h.IsStrIter it ty x t i):=fun A hA=>by
  rcases hty with rfl | rfl
  ·exact Walks.strAscii hA it x t
  ·exact Walks.strWide hA it x t
 have hn:["enumerate","zip","dict_itemiterator","dict_reverseitemiterator","odict_iterator","itertools.zip_longest","itertools.pairwise"].contains ty=false:=by rcases hty with rfl | rfl <;> decide
 refine ⟨by simp,fun i h st b hb=> ?_,fun i h h' st k=> ?_, ?_, ?_,fun A i s Q E st h=> ?_⟩
 ·have e:b=it:=by simpa using hb
  subst e
  obtain ⟨o,e,c,d⟩:=st
  exact ⟨o,e,fun v z=>by rw [d] at z; cases z⟩
 ·obtain ⟨o,e,r⟩:=st
  exact ⟨o,k it (by simp) o e,r⟩
 ·intro X hP hw hK hc i pins s σ H E I hf st hg
  subst hP hw hK
  obtain ⟨f0,f1,f2,f3,f4,f5⟩:=hf it (by simp)
  refine (W X.A (I.ok.hd hc)).item i s _ _ hg st fun v h' tk hv st' kk=> ?_
  obtain ⟨c,u,hc',rfl⟩:=hv
  have I1:L2.Inv X pins σ H { s with heap:=h',toks:=tk }:=I.turned (fun b o hb e=>kk b o (by simpa using hb) e) f0 f1 f3 f4 f5
  obtain ⟨o,e,cl,d⟩:=id st'
  exact ⟨_,rfl,uF (s:={ s with heap:=h',toks:=tk }) e cl d hn ⟨.str ⟨#[c]⟩,H,I1,⟨u,rfl⟩,⟨rfl,c,hc',rfl⟩,st',fun b hb=>(hf b hb).1⟩⟩
 ·intro X hP hw hK hc i pins s σ H E I hf st hg
  subst hP hw hK
  obtain ⟨f0,f1,f2,f3,f4,f5⟩:=hf it (by simp)
  have hx:x.cps[i]? =none:=Array.getElem?_eq_none hg
  rcases hty with rfl | rfl
  ·exact wpAny_pyNext_ascii_end (I.ok.hd hc) st hx fun h' eb=>⟨rfl,I.turned (t' :=s.toks) (fun b o hb e=>eb b o hb e) f0 f1 f3 f4 f5⟩
  ·exact wpAny_pyNext_wide_end (I.ok.hd hc) st hx fun h' eb=>⟨rfl,I.turned (t' :=s.toks) (fun b o hb e=>eb b o hb e) f0 f1 f3 f4 f5⟩
 ·rcases hty with rfl | rfl
  ·exact wpAny_pyIter_striter_ascii st h
  ·exact wpAny_pyIter_striter_wide st h
def ju (x:Str):List T:=x.cps.toList.map fun c=>T.str ⟨#[c]⟩
theorem YY {B1 H1:Hp} {x:Str}:rI B1 H1 (Itc x) (ju x):=fun B2 H2 s1 s2=>by
 have hl:(ju x).length=x.cps.size:=by unfold ju; simp
 refine ⟨fun i hi=>by rw [hl] at hi; exact hi,fun i t v H3 e y=> ?_,fun i hi=>by rw [hl] at hi; exact hi⟩
 obtain ⟨rfl,c,hc,rfl⟩:=y
 refine ⟨zx.refl _, ?_⟩
 unfold ju at e
 rw [List.getElem?_map] at e
 have hc' :x.cps.toList[i]? =some c:=by simpa using hc
 rw [hc'] at e
 cases e
 exact .str _
section
variable {X:Cx} {Y:Fx} {a b c d tg:Expr} {fa fb fc fd:En->R T} {pos p:Pos}
theorem xx {l:Expr} {tl:TE} (hl:PE X l tl):PI X tg l (fun σ H R=>tl σ H fun x H1=>(∃ a,x= .ref a/\(((∃ xs,SqL X.K H1 a xs)/\R (Itl X.K a) H1)\/((∃ xs,SqT X.K H1 a xs)/\R (Itt X.K a) H1)))\/(∃ z,x= .str z/\R (Itc z) H1)):=by
 intro pins s σ H R I h
 refine thn (hl pins s σ H _ I h) fun v s1 ⟨x,H1,I1,r1,q1⟩=> ?_
 have ok:∀ b∈[s1.heap.objs.size],wM X pins H1 b:=fun b hb=>by
  have e:b=s1.heap.objs.size:=by simpa using hb
  subst e
  exact I1.fpOk (Nat.le_refl _) (I1.hok.fresh (Nat.le_refl _))
 rcases q1 with ⟨a,e,q⟩ | ⟨z,e,q⟩
 ·subst e
  obtain rfl:v=Value.ref a:=r1
  rcases q with ⟨⟨xs,hq⟩,q⟩ | ⟨⟨xs,hq⟩,q⟩
  ·obtain ⟨its,rv,p,hz⟩:=I1.list hq
   exact wpAny_pyIter_list p.isList ⟨s1.heap.objs.size,[s1.heap.objs.size],_,_,H1,rfl,I1.kept (t' :=s1.toks) fun b o e=>Heap.get?_push_of_some _ e,Uo a _,⟨_,Heap.get?_push_size _ rfl,rfl,rfl⟩,ok,q⟩
  ·obtain ⟨its,rv,p,hz⟩:=I1.tuple hq
   exact wpAny_pyIter_tuple (show s1.heap.IsTuple a its.toArray from p) ⟨s1.heap.objs.size,[s1.heap.objs.size],_,_,H1,rfl,I1.kept (t' :=s1.toks) fun b o e=>Heap.get?_push_of_some _ e,uG a _,⟨_,Heap.get?_push_size _ rfl,rfl,rfl⟩,ok,q⟩
 ·subst e
  obtain ⟨t,rfl⟩:=r1
  cases ha:z.cps.all (· < 128)
  ·exact wpAny_pyIter_wide ha ⟨s1.heap.objs.size,[s1.heap.objs.size],_,_,H1,rfl,I1.kept (t' :=s1.toks) fun b o e=>Heap.get?_push_of_some _ e,JX _ (.inr rfl),⟨_,Heap.get?_push_size _ rfl,rfl,rfl⟩,ok,q⟩
  ·exact wpAny_pyIter_ascii ha ⟨s1.heap.objs.size,[s1.heap.objs.size],_,_,H1,rfl,I1.kept (t' :=s1.toks) fun b o e=>Heap.get?_push_of_some _ e,JX _ (.inl rfl),⟨_,Heap.get?_push_size _ rfl,rfl,rfl⟩,ok,q⟩
def Jt:T->R (List T)
 | .lst xs=> .ok xs
 | .tup xs=> .ok xs
 | .str x=> .ok (ju x)
 | _=> .bad
def j2 (fa:En->R T):En->R (List T):=fun ρ=>(fa ρ).bind Jt
theorem jb (ha:Snd X Y a fa):Uf X Y tg a (j2 fa):= .mk fun ρ=>PI.imp (xx (ha ρ)) fun σ H R ⟨B,I,q⟩=>step I q fun t v H1 _ s1 r1 I1 q1=>by
 cases r1 with
 | @tup l xs ts h r=>
  exact .inl ⟨l,rfl, .inr ⟨⟨xs,SqT.of (I1.sB _ _ h)⟩,ZQ I1 (show Po Y rI _ H1 (.ok ts) R from q1) (xr h r)⟩⟩
 | @lst l xs ts h r=>
  exact .inl ⟨l,rfl, .inl ⟨⟨xs,SqL.of (I1.sB _ _ h)⟩,ZQ I1 (show Po Y rI _ H1 (.ok ts) R from q1) (xt h r)⟩⟩
 | str z=>exact .inr ⟨z,rfl,ZQ I1 (show Po Y rI _ H1 (.ok (ju z)) R from q1) YY⟩
 | _=>exact q1.elim
end
theorem Inv.laidT {X:Cx} {pins:List (Addr×Obj)} {σ:Sg} {H:Hp} {s:Shared} {h' :Heap} {tk:Nat} {ch:List Addr} {a:Addr} {xs:List V} (I:L2.Inv X pins σ H s) (hf:∀ b∈ch,wM X pins H b) (k:∀ b o,b ∉ ch->s.heap.get? b=some o->h'.get? b=some o)
  (th:∀ b o,b∈ch->s.heap.get? b=some o->∃ o',h'.get? b=some o') (ha:s.heap.objs.size<=a) (new:ZC X.prog X.w (upd H a (.tup xs)) h' a (.tup xs)):L2.Inv X pins σ (upd H a (.tup xs)) { s with heap:=h',toks:=tk }:=by
 have hn:H a=none:=I.hok.fresh ha
 have nch:∀ b u,H b=some u->b ∉ ch:=fun b u e hb=>by rw [(hf b hb).1] at e; cases e
 refine I.call' (s' :={ s with heap:=h',toks:=tk }) (ch:=ch) rfl ⟨fun b o e n _ hc=>k b o hc e,fun b o e n _ hc=>⟨o.slots,k b o hc e⟩,fun b o e n _=>by rw [zy (Nat.ne_of_lt (Nat.lt_of_lt_of_le (Heap.lt_size e) ha))]; exact n,fun b o e hc=>⟨o,k b o hc e⟩,
  fun b ys e=>by rw [zy (zQ e hn)]; exact e,fun b o u e=>by rw [zy (zQ e hn)]; exact e,fun b ps e=>⟨#[],by rw [zy (zQ e hn),e]; simp⟩⟩ (fun b u e=> ?_) I.bare fun b hb=> ?_
 ·by_cases hb:b=a
  ·subst hb; rw [Z6] at e; cases e; exact new
  ·rw [zy hb] at e
   refine (I.hok b u e).stay (fun c v hc q=> ?_) (fun c q=>by rw [zy (zQ q hn)]; exact q) fun c ys q=>by rw [zy (zQ q hn)]; exact q
   rcases hc with rfl | hc
   ·exact k c v (nch c u e) q
   ·exact k c v (nch c _ hc) q
 ·obtain ⟨f0,f1,f2,f3,f4,f5⟩:=hf b hb
  exact ⟨f3,f1,f4,f5⟩
def Ite (K:PySem.W.Frag) (l:Addr):It:=
 ⟨fun i H=>∃ xs x,SqL K H l xs/\xs[i]? =some x,fun i H v H' =>∃ p x,H p=none/\v= .ref p/\(∀ xs,SqL K H l xs->xs[i]? =some x)/\H' =upd H p (.tup [.int i,x]),fun i H=>∃ xs,SqL K H l xs/\xs.length<=i⟩
theorem yc {P:Program} {w:World} {K:PySem.W.Frag} {elts:List Expr} {kk:Nat} {pt:Pos} (e it l:Addr) (hei:e ≠ it) (hle:l ≠ e) (hli:l ≠ it):
  Uc P w K (.Tuple elts kk pt) (Ite K l) [e,it] e (fun i h=>(∃ old,IsEnum h e it i old)/\h.IsListIter it l i) where
 mem:=by simp
 obj:=fun i h st b hb=>by
  obtain ⟨⟨old,he⟩,o,e1,c,d⟩:=st
  rcases List.mem_cons.mp hb with rfl | hb
  ·exact ⟨_,he,fun v z=>nomatch z⟩
  ·have z:b=it:=by simpa using hb
   subst z
   exact ⟨o,e1,fun v z=>by rw [d] at z; cases z⟩
 keep:=fun i h h' st k=>by
  obtain ⟨⟨old,he⟩,hit⟩:=st
  exact ⟨⟨old,k e (by simp) _ he⟩,hit.at fun o x=>k it (by simp) o x⟩
 item:=by
  intro X hP hw hK hc i pins s σ H E I hf st hg
  subst hP hw hK
  obtain ⟨xs,x,hq,hx⟩:=hg
  obtain ⟨its,rv,p,hz⟩:=I.list hq
  obtain ⟨u,hu,ru⟩:=rv.get hx
  obtain ⟨⟨old,he⟩,hit⟩:=st
  have hi:i < its.toArray.size:=by
   have:=(List.getElem?_eq_some_iff.mp hu).1
   simpa using this
  refine (WalksT.enumerate (prog:=X.prog) (w:=X.w) (I.ok.hd hc) e it l hei hle hli its.toArray).item i s _ _ hi ⟨⟨old,he⟩,hit,p.isList⟩ fun T vals h' tk hP hT hTup hM hk=> ?_
  obtain ⟨t,y,hy,rfl⟩:=hP
  have hyu:y=u:=by
   have:its[i]? =some y:=by simpa using hy
   rw [hu] at this; exact (Option.some.inj this).symm
  subst hyu
  refine ⟨.ref T,rfl, ?_⟩
  refine (WalksT.enumerate (prog:=X.prog) (w:=X.w) (I.ok.hd hc) e it l hei hle hli its.toArray).go elts kk pt i T _ _ _ hM fun h2 hst2 hk2=> ?_
  have hTn:H T=none:=I.hok.fresh hT
  have hTne:∀ b∈[e,it],b ≠ T:=fun b hb z=>by
   obtain ⟨_,_,_,h3,h4⟩:=hM
   rcases List.mem_cons.mp hb with rfl | hb
   ·exact h3 z.symm
   ·have:b=it:=by simpa using hb
    subst this; exact h4 z.symm
  have Uh:IsTup h2 T #[.int i t,y]:=by
   obtain ⟨o,eo,r⟩:=hTup
   exact ⟨o,hk2 T o (fun hb=>hTne T hb rfl) eo,r⟩
  refine ⟨.ref T,upd H T (.tup [.int i,x]),Inv.laidT (s:=s) (h' :=h2) (ch:=[e,it]) (tk:=tk) I hf (fun b o hb e=>hk2 b o hb (hk b o hb e)) (fun b o hb _=> ?_) hT ⟨by rw [sizeLine_eq]; show 2<=16777216; decide,[.int i t,y], .cons ⟨t,rfl⟩ (.cons ru .nil),Uh, .inl ⟨_,_,rfl⟩⟩,rfl,⟨T,x,hTn,rfl,fun ys hy=>by rw [I.list_inj hy hq]; exact hx,rfl⟩,⟨hst2.1,hst2.2.1⟩,fun b hb=> ?_⟩
  ·obtain ⟨⟨old2,he2⟩,⟨o2,eo2,_⟩,_⟩:=hst2
   rcases List.mem_cons.mp hb with rfl | hb
   ·exact ⟨_,he2⟩
   ·have:b=it:=by simpa using hb
    subst this; exact ⟨o2,eo2⟩
  ·rw [zy (hTne b hb)]; exact (hf b hb).1
 done:=by
  intro X hP hw hK hc i pins s σ H E I hf st hg
  subst hP hw hK
  obtain ⟨xs,hq,hx⟩:=hg
  obtain ⟨its,rv,p,hz⟩:=I.list hq
  obtain ⟨⟨old,he⟩,hit⟩:=st
  have hl:=rv.length
  refine wpAny_pyNext_enum_end (I.ok.hd hc) he hit p.isList (Array.getElem?_eq_none (by simp; omega)) fun h' hk=>⟨rfl, ?_⟩
  obtain ⟨f0,f1,f2,f3,f4,f5⟩:=hf it (by simp)
  exact I.turned (t' :=s.toks) (fun b o hb e=>hk b o hb e) f0 f1 f3 f4 f5
 self:=fun _ _ _ _ _ st h=>let ⟨⟨_,he⟩,_⟩:=st; wpAny_pyIter_enum he h
def jv (xs:List T):List T:=(xs.zipIdx).map fun p=>T.tup [.int (p.2:Nat),p.1]
theorem W5 {xs:List T} {i:Nat} {t:T} (h:(jv xs)[i]? =some t):∃ x,xs[i]? =some x/\t= .tup [.int (i:Nat),x]:=by
 unfold jv at h
 rw [List.getElem?_map,List.getElem?_zipIdx] at h
 cases e:xs[i]? with
 | none=>rw [e] at h; cases h
 | some x=>rw [e] at h; cases h; exact ⟨x,rfl,by simp⟩
theorem J4 (xs:List T):(jv xs).length=xs.length:=by unfold jv; simp
theorem vq {K:PySem.W.Frag} {B1 H1:Hp} {a:Addr} {xs:List V} {ts:List T} (h:B1 a=some (.lst xs)) (r:zE B1 xs ts):rI B1 H1 (Ite K a) (jv ts):=fun B2 H2 s1 s2=>by
 have h2:=s2 _ _ (s1 _ _ h)
 rw [J4]
 refine ⟨fun i hi=> ?_,fun i t x H3 e y=> ?_,fun i hi=>⟨xs,SqL.of h2,by rw [r.length]; exact hi⟩⟩
 ·obtain ⟨v,e,_⟩:=r.get (List.getElem?_eq_getElem hi)
  exact ⟨xs,v,SqL.of h2,e⟩
 ·obtain ⟨p,v,hp,rfl,y,rfl⟩:=y
  obtain ⟨t',et,rfl⟩:=W5 e
  obtain ⟨v',e1,r1⟩:=r.get et
  have:=y xs (SqL.of h2)
  rw [e1] at this; cases this
  refine ⟨zx.new hp _, .tup (j9 hp _) (.cons (.int _) (.cons ?_ .nil))⟩
  exact (r1.mono s1).mono (zR.ge s2 (zx.new hp _))
section
variable {X:Cx} {Y:Fx} {a:Expr} {fa:En->R T} {pos p pt:Pos} {elts:List Expr} {kk:Nat}
theorem vt {ta:TA} (hg:Gl X "enumerate") (hm:X.mg "enumerate"=none) (ha:PA X [a] ta) (hs:St1 X a:=by exact st1 rfl):
  PI X (.Tuple elts kk pt) (.Call (.Name "enumerate" p) [a] [] pos) (fun σ H R=>ta σ H fun vs H1=>∃ l xs,vs=[.ref l]/\H1 l=some (.lst xs)/\R (Ite X.K l) H1):=by
 intro pins s σ H R I h
 refine Call_ (j7 I hg hm PyProof.Rows.Boot.«enumerate» (PyProof.Rows.callWith_type1 (thn (ha pos pins s σ H _ I h) fun us s1 ⟨vs,H1,I1,r1,q1⟩=> ?_) hs rfl))
 obtain ⟨l,xs,e,hl,q⟩:=q1
 subst e
 obtain ⟨u,rfl,ru⟩:=j3 r1
 obtain rfl:u=Value.ref l:=ru
 obtain ⟨_,its,n,rv,eo⟩:=(show ZC X.prog X.w H1 s1.heap l (.lst xs) from I1.hok l _ hl)
 have hlt:l < s1.heap.objs.size:=Heap.lt_size eo
 refine call_enumerate_1 eo fun h' he hit hsz hk=>wpAny_pyIter_enum he ?_
 have f:∀ b∈[s1.heap.objs.size+1,s1.heap.objs.size],wM X pins H1 b:=fun b hb=>by
  rcases List.mem_cons.mp hb with rfl | hb
  ·exact I1.fpOk (Nat.le_succ _) (I1.hok.fresh (Nat.le_succ _))
  ·have z:b=s1.heap.objs.size:=by simpa using hb
   subst z
   exact I1.fpOk (Nat.le_refl _) (I1.hok.fresh (Nat.le_refl _))
 exact ⟨s1.heap.objs.size+1,[s1.heap.objs.size+1,s1.heap.objs.size],_,_,H1,rfl,I1.kept (t' :=s1.toks) hk,yc _ _ l (Nat.succ_ne_self _) (Nat.ne_of_lt (Nat.lt_succ_of_lt hlt)) (Nat.ne_of_lt hlt),⟨⟨_,he⟩,hit⟩,f,q⟩
def vv (fa:En->R T):En->R (List T):=fun ρ=>(fa ρ).bind fun t=>match t with
 | .lst xs=> .ok (jv xs)
 | _=> .bad
theorem xy (hg:Gl X "enumerate") (hm:X.mg "enumerate"=none) (ha:Snd X Y a fa) (hs:St1 X a:=by exact st1 rfl):Uf X Y (.Tuple elts kk pt) (.Call (.Name "enumerate" p) [a] [] pos) (vv fa):= .mk fun ρ=>
 PI.imp (vt hg hm (zB (ha ρ) Zi hs) hs) fun σ H R ⟨B,I,q⟩=>step I q fun t v H1 _ s1 r1 I1 q1=>by
  cases r1 with
  | @lst l xs ts h r=>exact ⟨l,xs,rfl,I1.sB _ _ h,ZQ I1 (show Po Y rI _ H1 (.ok (jv ts)) R from q1) (vq h r)⟩
  | _=>exact q1.elim
def Ug:List T->Option (List Str)
 | []=>some []
 | .str x :: r=>match Ug r with | some ys=>some (x :: ys) | none=>none
 | _ :: _=>none
def xz (sep:Str):T->R T
 | .lst ts=>match Ug ts with
  | some ys=>if (ys.map (·.length)).sum+ys.length*sep.length<=16777216 then .ok (.str (Txt.join sep ys)) else .bad
  | none=> .bad
 | _=> .bad
theorem wk {H:Hp}:∀ {xs:List V} {ts:List T} {its:List Value} {ys:List Str},zE H xs ts->Vals xs its->Ug ts=some ys->StrsAre its ys
 | _,_,_,ys, .nil, .nil,h=>by
  have h' :some []=some ys:=h
  cases h'; exact .nil
 | _,_,_,ys, .cons (t:=t) r rs, .cons (b:=u) rv vs,h=>by
  cases r with
  | str x=>
   unfold Ug at h
   split at h
   ·rename_i zs e
    cases h
    obtain ⟨tk,rfl⟩:=rv
    exact .cons x tk (wk rs vs e)
   ·cases h
  | _=>cases h
theorem vw:MtR X "str.join" (fun x xs H Q=>∃ z l zs ts ys,x= .str z/\xs=[.ref l]/\H l=some (.lst zs)/\zE H zs ts/\Ug ts=some ys/\(ys.map (·.length)).sum+ys.length*z.length<=16777216/\Q (.str (Txt.join z ys)) H):=by
 intro pins s σ H x xs v us Q I rx rv h
 obtain ⟨z,l,zs,ts,ys,rfl,rfl,hl,r,e,hb,q⟩:=h
 obtain ⟨t,rfl⟩:=rx
 obtain ⟨u,rfl,ru⟩:=j3 rv
 obtain rfl:u=Value.ref l:=ru
 obtain ⟨its,rv,p,_⟩:=zT I (.inl hl) r
 exact join_list p (by simpa using wk r rv e) hb fun t' k=>⟨.str _,H,I.tok k,⟨t',rfl⟩,q⟩
theorem xA {z:Str} {kc:Nat} {pz pa:Pos} (ha:jY X Y a fa) (hb:attributeBase (.Constant (.str z) kc pz) "join" X.env (eval (.Constant (.str z) kc pz) X.env)=eval (.Constant (.str z) kc pz) X.env:=by rfl) (hs:St1 X a:=by exact st1 rfl)
  (hz:(pa.endLine == p.line)=true:=by rfl):Snd X Y (.Call (.Attribute (.Constant (.str z) kc pz) "join" pa) [a] [] p) (ap1 (xz z) fa):= .mk fun ρ=>by
 have e1:(((((backTo p (starEach [a] X.env)).all fun x=> !x.fst) && (backToKw p (keywordEach [] X.env)).all fun x=>x.fst.isSome) && decide (([a].length+([]:List Keyword).length+if ([]:List Keyword).isEmpty=true then 0 else 1) < 30))=true):=by rw [hs]; rfl
 refine PE.imp (QO PySem.F.plainAttrs_str PySem.F.slot_str_join PySem.F.type_str_join vw qR (zB (ha ρ) Zi hs) hb e1 hz hs rfl) fun σ H Q ⟨B,I,q⟩=> ?_
 refine ⟨rfl,step I q fun t v H1 _ s1 r1 I1 q1=> ?_⟩
 cases r1 with
 | @lst l xs ts h r=>
  have q1:Po Y rC _ H1 (match Ug ts with | some ys=>if (ys.map (·.length)).sum+ys.length*z.length<=16777216 then .ok (.str (Txt.join z ys)) else .bad | none=> .bad) Q:=q1
  split at q1
  ·rename_i ys e
   split at q1
   ·rename_i hl
    exact ⟨z,l,xs,ts,ys,rfl,rfl,h,r,e,hl,po0 I1.sB q1 rfl (.str _)⟩
   ·exact q1.elim
  ·exact q1.elim
 | _=>exact q1.elim
end
def dd:List Str->List Str->List Str
 | acc,[]=>acc
 | acc,x :: r=>dd (if x∈acc then acc else acc++[x]) r
section
variable {prog:Program} {w:World} {A:Around} {R:Result->Shared->Prop} {I:Addr} {fp wr:List Addr} {n:Nat} {P:Nat->Value->Prop} {St:Nat->Heap->Prop}
theorem jm {h h' :Heap} {S:Addr} {f g:Str->Bool} {m k:Nat} (x:h.SetOf (strKind prog w) S f m) (e:∀ o,h.get? S=some o->h'.get? S=some o) (ef:f=g) (em:m=k):h'.SetOf (strKind prog w) S g k:=by
 subst ef em
 obtain ⟨o,es,ep,t,ho,r⟩:=x
 exact ⟨o,es,ep,t,e o ho,r⟩
theorem YZ (W:Walks prog w A.in1 I fp wr n P St) (S:Addr) (hSf:S ∉ fp) (val:Nat->Str) (hval:∀ i v,P i v->∃ t,v=Value.str (val i) t) (hb:n+1 < scanBound):
  ∀ (k i:Nat) (acc:List Str) (s:Shared),n - i=k->i<=n->acc.length<=i->St i s.heap->s.heap.SetOf (strKind prog w) S (fun x=>decide (x∈acc)) acc.length->
   (∀ h' tk,(∀ b o,b ∉ S :: wr->s.heap.get? b=some o->h'.get? b=some o)->h'.SetOf (strKind prog w) S (fun x=>decide (x∈dd acc ((List.range' i k).map val))) (dd acc ((List.range' i k).map val)).length->
    R (.ok (.ret .none)) { s with heap:=h',toks:=tk })->codeAny (model prog w) A (.builtin "set.update.loop" ⟨[.ref S, .ref I],[]⟩) R s:=by
 intro k
 induction k with
 | zero=>
  intro i acc s hk hi hal hst hS hR
  obtain rfl:i=n:=by omega
  refine codeAny_builtin F.entry_set_update_loop ?_
  rw [Around.under_plainId F.plain_set_update_loop _]
  refine wpAny_bind (m:=pyNext (.ref I)) (W.done s _ _ hst fun h' tk hk' =>wpAny_pure ?_)
  exact hR h' tk (fun b o hb e=>hk' b o (fun z=>hb (List.mem_cons_of_mem _ z)) e) (jm hS (fun o e=>hk' S o (fun z=>hSf (W.sub _ z)) e) rfl rfl)
 | succ k ih=>
  intro i acc s hk hi hal hst hS hR
  refine codeAny_builtin F.entry_set_update_loop ?_
  rw [Around.under_plainId F.plain_set_update_loop _]
  refine wpAny_bind (m:=pyNext (.ref I)) (W.item i s _ _ (by omega) hst fun v h1 tk1 hP hst1 hk1=> ?_)
  obtain ⟨t,rfl⟩:=hval i v hP
  have hS1:=jm hS (fun o e=>hk1 S o (fun z=>hSf (W.sub _ z)) e) rfl rfl
  refine wpAny_bind (m:=holding [Value.str (val i) t] (setAdd S (.str (val i) t))) (wpAny_holding ?_)
  unfold setAdd
  have isk:(strKind prog w).is (val i) (.str (val i) t)=true:=strKind_is _ _ _ _
  refine wpAny_holding (wpAny_bind ((strKind prog w).pyHash isk ?_))
  refine wpAny_setAddHashed_of (knd:=strKind prog w) (s:={ s with heap:=h1,toks:=tk1+1 }) isk rfl hS1 (by omega) fun h2 hsb hS2=> ?_
  have e2:(if decide (val i∈acc)=true then acc.length else acc.length+1)=(if val i∈acc then acc else acc++[val i]).length:=by
   by_cases hm:val i∈acc
   ·simp [hm]
   ·simp [hm]
  have e1:(fun x=>decide (x∈acc) || decide (x=val i))=(fun x=>decide (x∈(if val i∈acc then acc else acc++[val i]))):=by
   funext x
   by_cases hm:val i∈acc
   ·simp only [if_pos hm]
    by_cases hx:x=val i
    ·subst hx; simp [hm]
    ·simp [hx]
   ·simp [hm,Bool.decide_or]
  have hS3:=jm (h' :=h2) hS2 (fun o e=>e) e1 e2
  refine wpAny_pure ⟨plainId_quiet F.plain_set_update_loop _,ih (i+1) _ _ (by omega) (by omega) ?_ (W.frame _ h1 _ hst1 fun b hb o e=> ?_) hS3 fun h3 tk3 hk3 hS4=> ?_⟩
  ·split
   ·omega
   ·rw [List.length_append,List.length_singleton]; omega
  ·exact (hsb.2 b (fun z:b=S=>hSf (z ▸ hb))).trans e
  ·rw [List.range'_succ,List.map_cons] at hR
   refine hR h3 tk3 (fun b o hb e=>hk3 b o hb ?_) hS4
   exact (hsb.2 b (fun z:b=S=>hb (z ▸ List.mem_cons_self))).trans (hk1 b o (fun z=>hb (List.mem_cons_of_mem _ z)) e)
end
section
variable {prog:Program} {w:World} {A:Around} {E:Value->Shared->Prop} {s:Shared}
set_option maxRecDepth 100000 in
set_option maxHeartbeats 3200000 in
theorem yd {l:Addr} {its:List Value} {ys:List Str} {Q:Value->Shared->Prop} (hh:A.handled=none) (hl:s.heap.IsList l its.toArray) (hi:StrsAre its ys) (hb:its.length+1 < scanBound)
  (h:∀ (h' :Heap) (tk:Nat),h'.SetOf (strKind prog w) s.heap.objs.size (fun x=>decide (x∈dd [] ys)) (dd [] ys).length->(∀ b o,b < s.heap.objs.size->s.heap.get? b=some o->h'.get? b=some o)->
   Q (.ref s.heap.objs.size) { s with heap:=h',toks:=tk }):wpAny (model prog w) A (call (.type "set") [.ref l]) Q E s:=by
 have getv:∀ {its:List Value} {ys:List Str},StrsAre its ys->its.length=ys.length/\∀ (i:Nat) (v:Value),its[i]? =some v->∃ t,v=Value.str (ys.getD i ⟨#[]⟩) t:=fun {its ys} hi=>by
  induction hi with
  | nil=>exact ⟨rfl,fun i v e=>by simp at e⟩
  | cons y t _ ih=>
   refine ⟨by simp [ih.1],fun i v e=> ?_⟩
   cases i with
   | zero=>exact ⟨t,by simpa using e.symm⟩
   | succ i=>exact ih.2 i v (by simpa using e)
 obtain ⟨hlen,hget⟩:=getv hi
 have hys:(List.range' 0 its.length).map (fun i=>ys.getD i ⟨#[]⟩)=ys:=by
  rw [hlen]
  refine List.ext_getElem? fun i=> ?_
  rw [List.getElem?_map]
  by_cases hi' :i < ys.length
  ·rw [List.getElem?_range' hi',List.getElem?_eq_getElem hi']
   simp [List.getElem?_eq_getElem hi']
  ·rw [List.getElem?_eq_none (by simp; omega),List.getElem?_eq_none (by omega)]
   rfl
 obtain ⟨c,tl,hmro⟩:=F.called_set.mro
 have hmade:=F.called_set.made
 have hsub:=F.called_set.sub
 have h1:=F.called_set.notType
 have h2:=F.called_set.canCreate
 have hct:=F.typeCall_set_1 (.ref l)
 refine wpAny_call (codeAny_of_tree (show wpAny _ _ (callAny (.type "set") _) _ _ _ from ?_))
 refine wpAny_pure ⟨Code.quiet_builtin _ (by decide+kernel),codeAny_builtin F.entry_type_call ?_⟩
 rw [Around.under_plain (weight_type_call_type "set" [.ref l] []) rfl]
 repeat any_goals (first | assumption | wp_step)
 refine codeAny_mono (code_set_new_1 (.ref l) (E:=E) (Q₁:=fun obj s₁=>∃ led:Bool,obj= .ref s.heap.objs.size/\s₁={ s with heap:=s.heap.push { cls:= .type "set",dict:=none,data:= .set #[] 0 (.fresh 0 0 led) } }) fun led=>⟨led,rfl,rfl⟩) fun r s₁ hr=> ?_
 cases r with
 | error e=>exact hr
 | ok fl=>
  cases fl with
  | ret obj=>
   obtain ⟨led,rfl,rfl⟩:=hr
   generalize hG:s.heap.push { cls:= .type "set",dict:=none,data:= .set #[] 0 (.fresh 0 0 led) }=G
   have hS:G.get? s.heap.objs.size=some { cls:= .type "set",dict:=none,data:= .set #[] 0 (.fresh 0 0 led) }:=by rw [← hG]; exact Heap.get?_push_size _ rfl
   have hGs:G.objs.size=s.heap.objs.size+1:=by rw [← hG,Heap.size_push]
   have hGk:∀ b o,s.heap.get? b=some o->G.get? b=some o:=fun b o e=>by rw [← hG]; exact Heap.get?_push_of_some _ e
   have hT:Shared.TypeIs { s with heap:=G } (.ref s.heap.objs.size) "set":=⟨_,hS,rfl⟩
   have hli:=F.called_set.init.lookup
   have hbi:=F.called_set.init.bind (.ref s.heap.objs.size)
   repeat any_goals (first | assumption | wp_step)
   refine codeAny_mono (codeAny_call_builtin (R:=wants (fun r s₂=>r= .none/\∃ h' tk,s₂={ s with heap:=h',toks:=tk }/\h'.SetOf (strKind prog w) s.heap.objs.size (fun x=>decide (x∈dd [] ys)) (dd [] ys).length/\
     (∀ b o,b < s.heap.objs.size->s.heap.get? b=some o->h'.get? b=some o)) E) F.called_set.init.plain F.entry_set_init (check_set_init_1 hT ?_)) fun r₂ s₂ hr₂=> ?_
   ·obtain ⟨⟨ocls,odict,odata,oslots⟩,hol,hcl,nl,hdl⟩:=hl
    simp only at hcl hdl
    subst hcl; subst hdl
    have hol' :=hGk _ _ hol
    have hsls:=F.sub_list_set
    have hslf:=F.sub_list_frozenset
    have hne:(Value.type "list" == Value.type "dict")=false:=by decide
    have hl1:G.IsList l its.toArray:=⟨_,hol',rfl,nl,rfl⟩
    have hlS:l < s.heap.objs.size:=Heap.lt_size hol
    unfold Builtin.«set.__init__» noKeywords Builtin.Frozenset.updateFrom
    generalize hPI:pyIter=PI
    wp_walk
    subst hPI
    refine wpAny_pyIter_list hl1 (wpAny_bind (wpAny_runValue ?_))
    have hSf:s.heap.objs.size ∉ [G.objs.size,l]:=by
     rw [hGs]
     intro z
     rcases List.mem_cons.mp z with z | z
     ·exact absurd z (Nat.ne_of_lt (Nat.lt_succ_self _))
     ·exact absurd (List.mem_singleton.mp z) (Nat.ne_of_gt hlS)
    refine YZ (Walks.list (A:=A.in1.in1.in1) (by simp [hh]) G.objs.size l (by rw [hGs]; exact Nat.ne_of_lt (Nat.lt_succ_of_lt hlS)) its.toArray) s.heap.objs.size hSf (fun i=>ys.getD i ⟨#[]⟩) (fun i v e=>hget i v (by simpa using e)) (by simpa using hb) its.length 0 [] _ (by simp) (Nat.zero_le _) (Nat.le_refl _)
     ⟨⟨_,Heap.get?_push_size _ rfl,rfl,rfl⟩,hl1.push _⟩ ?_ ?_
    ·have hget' :(G.push { cls:= .type "list_iterator",data:= .fields #[.ref l, .int 0 0] }).get? s.heap.objs.size=some { cls:= .type "set",dict:=none,data:= .set #[] 0 (.fresh 0 0 led) }:=Heap.get?_push_of_some _ hS
     exact jm ((PyProof.Rows.setObjOf_fresh (knd:=strKind prog w) led).setOf hget' (by unfold scanBound; omega)) (fun o e=>e) (by funext x; simp) rfl
    ·intro h' tk' hm hS'
     rw [hys] at hS'
     refine wpAny_pure (show wpAny _ _ (ret Value.none) _ _ _ from wpAny_pure ⟨rfl,h',tk',rfl,hS',fun b o hb e=> ?_⟩)
     refine hm b o (fun z=> ?_) (Heap.get?_push_of_some _ (hGk b o e))
     rcases List.mem_cons.mp z with z | z
     ·exact absurd z (Nat.ne_of_lt hb)
     ·have z' :b=G.objs.size:=List.mem_singleton.mp z
      rw [hGs] at z'
      exact absurd z' (Nat.ne_of_lt (Nat.lt_succ_of_lt hb))
   ·cases r₂ with
    | error e=>exact hr₂
    | ok fl₂=>
     cases fl₂ with
     | ret r=>
      obtain ⟨rfl,h',tk,rfl,hS',hk'⟩:=hr₂
      repeat any_goals (first | assumption | wp_step)
      exact h _ _ hS' hk'
     | _=>exact hr₂.elim
  | _=>exact hr.elim
end
section
variable {X:Cx} {Y:Fx} {a b:Expr} {fa fb:En->R T} {pos pos' p p' :Pos}
theorem ye (hh:X.A.handled=none):ZD X (.type "set") (fun vs H Q=>∃ l xs ts ys,vs=[.ref l]/\H l=some (.lst xs)/\zE H xs ts/\Ug ts=some ys/\ts.length+1 < 4096/\
  ∀ q,H q=none->Q (.ref q) (upd H q (.ext fun h=>h.SetOf (strKind X.prog X.w) q (fun x=>decide (x∈dd [] ys)) (dd [] ys).length))):=by
 intro pins s σ H vs us Q I rv h
 obtain ⟨l,xs,ts,ys,rfl,hl,r,ey,hb,q⟩:=h
 obtain ⟨u,rfl,ru⟩:=j3 rv
 obtain rfl:u=Value.ref l:=ru
 obtain ⟨its,rv,pl,hln,_⟩:=zT I (.inl hl) r
 refine yd hh pl (wk r rv ey) (by unfold scanBound; omega) fun h' tk hS hk=> ?_
 refine ⟨.ref s.heap.objs.size,_,I.laid (t' :=tk) (fun b u e=>hk b u (Heap.lt_size e) e) (Nat.le_refl _) ?_,rfl,q _ (I.hok.fresh (Nat.le_refl _))⟩
 obtain ⟨o,es,ep,t,ho,rr⟩:=id hS
 exact ⟨hS,⟨o,ho⟩,fun h1 h2 ⟨o1,es1,ep1,t1,ho1,rr1⟩ e=>⟨o1,es1,ep1,t1,e _ ho1,rr1⟩⟩
theorem yf:ZD X (.builtin "len") (fun vs H Q=>∃ q φ f n,vs=[.ref q]/\H q=some (.ext φ)/\(∀ h:Heap,φ h->h.SetOf (strKind X.prog X.w) q f n)/\Q (.int n) H):=by
 intro pins s σ H vs us Q I rv h
 obtain ⟨l,φ,f,n,rfl,hl,hφ,q⟩:=h
 obtain ⟨u,rfl,ru⟩:=j3 rv
 obtain rfl:u=Value.ref l:=ru
 obtain ⟨h1,_,_⟩:=(show ZC X.prog X.w H s.heap l (.ext φ) from I.hok l _ hl)
 obtain ⟨o,es,ep,t,ho,hex,hd,_,_,hb,hf,hn⟩:=hφ _ h1
 refine call_len_set ho hex hd hf ?_ ⟨.int es.size,H,I.tok _,⟨_,rfl⟩,by rw [hn]; exact q⟩
 have:es.size < 4096:=hb
 omega
def qa:T->R T
 | .lst ts=>match Ug ts with
  | some ys=>if ts.length+1 < 4096 then .ok (.int (dd [] ys).length) else .bad
  | none=> .bad
 | _=> .bad
theorem xB (hh:X.A.handled=none) (gl:Gl X "len") (mg:X.mg "len"=none) (gl' :Gl X "set") (mg' :X.mg "set"=none) (ha:jY X Y a fa) (hs:St1 X a:=by exact st1 rfl) (hs' :St1 X (.Call (.Name "set" p') [a] [] pos'):=by exact st1 rfl):
  Snd X Y (.Call (.Name "len" p) [.Call (.Name "set" p') [a] [] pos'] [] pos) (ap1 qa fa):= .mk fun ρ=>
 PE.imp (jk yf gl mg PySem.boot_len (zB (jy (ye hh) gl' mg' PyProof.Rows.Boot.«set» (zB (ha ρ) Zi hs) (by decide) (by decide) hs rfl) Zi hs') (by decide) (by decide) hs' rfl) fun σ H Q ⟨B,I,q⟩=>
  step I q fun t v H1 _ s1 r1 I1 q1=>by
   cases r1 with
   | @lst l xs ts h r=>
    have q1:Po Y rC _ H1 (match Ug ts with | some ys=>if ts.length+1 < 4096 then .ok (.int (dd [] ys).length) else .bad | none=> .bad) Q:=q1
    split at q1
    ·rename_i ys e
     split at q1
     ·rename_i hl
      refine ⟨l,xs,ts,ys,rfl,h,r,e,hl,fun z hz=>⟨z,_,_,_,rfl,Z6,fun h hh=>hh, ?_⟩⟩
      exact q1 _ _ (zx.new hz _) (.int _)
     ·exact q1.elim
    ·exact q1.elim
   | _=>exact q1.elim
end
theorem kL {X:Cx} {E:XK}:JP CX0 X E:=fun _ _ _ _ _ _ _ h=>h.elim
section
variable {X:Cx} {Y:Fx} {a b:Expr} {fa fb:En->R T} {pos pos' p p' :Pos}
theorem vx {cl:Nat->Value} {k j n:Nat} {f:Addr} {fd:FuncData} {ps:List Str} {g:List T->R T} {x:Str} {es:List Expr} {ga:En->R (List T)} (hy:Y.cl=cl) (F:Zz X.prog X.w X.K X.mg X.base CX0 j f fd ps (spP cl n g)) (hr:Jk k X.A) (hj:j<=k) (gl:Gl X x)
  (mg:X.mg x=some (.ref f)) (kp:PySem.W.keepIn X.K (.ref f)=true) (bd:L2.Binds X.K fd ps []) (ha:UF X Y (a :: es) ga) (hd:(x == ("__debug__":Str))=false:=by decide)
  (hs:starEach (a :: es) X.env=(false,eval a X.env) :: starEach es X.env:=by exact ZB rfl) (hz:((backTo pos (starEach es X.env)).any fun x=>x.fst)=false:=by exact jA rfl):Snd X Y (.Call (.Name x p) (a :: es) [] pos) (zc n g ga):=by
 subst hy
 exact xq F (hr.mono hj) gl mg kp bd kL ha hd hs hz
theorem yg {x:Str} {i:Int} {u:Value} (gl:Gl X x) (mg:X.mg x=some u) (hu:∃ t,u=Value.int i t) (hd:(x == ("__debug__":Str))=false:=by decide):Snd X Y (.Name x pos) (cE (.int i)):= .mk fun ρ=>
 PE.imp (Qw (v:= .int i) gl mg hu hd) fun σ H Q ⟨B,I,q⟩=>ZQ I q (.int i)
end
def kM (scope sc0:Scope):Bool:=(scope.kind == .function) && scope.names.all (fun x=>x.2 != .cell) && scope.names.all (fun x=>x.2 != .local || scope.names.lookup x.1 == some .local) &&
 scope.names.all (fun x=>x.2 != .free || sc0.names.lookup x.1 == some .cell || sc0.names.lookup x.1 == some .free)
theorem xC {X:Cx} {scope:Scope} (sc0:Scope) (h0:X.env.scope=sc0) (h:kM scope sc0=true):CSc X scope:=by
 unfold kM at h
 simp only [Bool.and_eq_true,List.all_eq_true] at h
 obtain ⟨⟨⟨h1,h2⟩,h3⟩,h4⟩:=h
 refine ⟨eq_of_beq h1,fun x hx=>by simpa using h2 x hx,fun x hx hl=> ?_,fun x hx hf=> ?_⟩
 ·have:=h3 x hx
  rw [hl] at this
  simpa using this
 ·have:=h4 x hx
  rw [hf] at this
  show X.env.scope.names.lookup x.1=_\/X.env.scope.names.lookup x.1=_
  rw [h0]
  simpa using this
def kN (N N' :List Str) (scope sc0:Scope) (k:Nat) (js:List Nat):Bool:=(N'.length == k+js.length) && (List.range js.length).all fun i=>match js[i]? with
 | none=>true
 | some j=>match N'[k+i]?,N[j]? with
  | some x,some y=>(x == y) && (sc0.names.lookup x == some .cell || sc0.names.lookup x == some .free) && (scope.names.lookup x == some .free)
  | _,_=>false
theorem vy {X:Cx} {scope:Scope} {N' :List Str} {k:Nat} {js:List Nat} (N:List Str) (sc0:Scope) (hN:X.N=N) (h0:X.env.scope=sc0) (h:kN N N' scope sc0 k js=true):kK X scope N' k js:=by
 unfold kN at h
 simp only [Bool.and_eq_true,List.all_eq_true] at h
 obtain ⟨h1,h2⟩:=h
 refine ⟨eq_of_beq h1,fun i j e=> ?_⟩
 have hi:i < js.length:=(List.getElem?_eq_some_iff.mp e).1
 have q:=h2 i (List.mem_range.mpr hi)
 rw [e] at q
 dsimp only at q
 split at q
 ·rename_i x y e1 e2
  simp only [Bool.and_eq_true,Bool.or_eq_true,beq_iff_eq] at q
  obtain ⟨⟨rfl,q2⟩,q3⟩:=q
  refine ⟨x,e1,by rw [hN]; exact e2, ?_,q3, ?_⟩
  ·unfold Vis
   rw [h0]
   exact .inr q2
  ·show X.env.scope.names.lookup x=_\/X.env.scope.names.lookup x=_
   rw [h0]
   exact q2
 ·cases q
theorem Zt {X:Cx} {Y:Fx} {tg iter elt:Expr} {ifs:List Expr} {scope:Scope} {k:Nat} {js:List Nat} {fi:En->R (List T)} {tG:TG} {g:T->En->R En} {ft:En->R Bool} {fe:En->R T} (N' :List Str) (N:List Str) (sc0:Scope) (hN:X.N=N) (h0:X.env.scope=sc0)
  (h:(kM scope sc0 && kN N N' scope sc0 k js)=true) (cm:X.calm=true) (it:Uf X Y tg iter fi) (gt:Vo X scope N' fun XC=>PG XC tg tG) (gk:GOk tG g) (gn:GNo g) (tt:∀ Y',Y'.cl=Y.cl->Vo X scope N' fun XC=>uS XC Y' ifs ft)
  (el:∀ Y',Y'.cl=Y.cl->kJ X scope N' Y'.E fun XC=>Snd XC Y' elt fe) (hs:∀ x,foldedSetIterable iter X.env x=pure x:=by intro _; rfl):yb X Y tg iter elt ifs scope N' k js fi tG g ft fe:=by
 rw [Bool.and_eq_true] at h
 exact ⟨xC sc0 h0 h.1,vy N sc0 hN h0 h.2,cm,it,gt,gk,gn,tt,el,hs⟩
end PV
namespace PV
open PySem PySem.Spec PyProof.Rows L2 PySem.W
section
variable {X:Cx} {Y:Fx} {a b:Expr} {fa fb:En->R T} {pos pos' p p' :Pos}
end
section
variable {P:Program} {w:World} {K:PySem.W.Frag} {mg:Str->Option Value} {base:Heap} {N:List Str} {qual:Str} {scope:Scope} {f:Addr} {cd:Value} {A:Around} {outer:List Env} {s:Shared} {H:Hp} {E:XK} {Y:Fx}
end
end PV
namespace PySem.W
open PySem PySem.Calls PyProof.Rows PySem.Spec Builtin Builtin.ObjectAttr Builtin.Getset_descriptor
section
variable {prog:Program} {w:World} {A:Around} {E:Value->Shared->Prop} {s:Shared} {K:Frag} {x C:Addr}
end
end PySem.W
namespace PySem.W
open PySem PySem.Calls PyProof.Rows PySem.Spec Builtin Builtin.ObjectAttr Builtin.Getset_descriptor
section
variable {prog:Program} {w:World} {A:Around} {E:Value->Shared->Prop} {s:Shared} {K:Frag} {x C:Addr}
end
end PySem.W
namespace PySem.W
open PySem PySem.Calls PyProof.Rows PySem.Spec Builtin Builtin.ObjectAttr Builtin.Getset_descriptor
section
variable {prog:Program} {w:World} {A:Around} {E:Value->Shared->Prop} {s:Shared} {K:Frag} {x C:Addr}
end
end PySem.W
namespace PV
open PySem PySem.Spec PyProof.Rows L2 PySem.W
section
variable {X:Cx} {Y:Fx} {a b:Expr} {fa fb:En->R T} {pos pos' p p' :Pos}
end
section
variable {P:Program} {w:World} {K:PySem.W.Frag} {mg:Str->Option Value} {base:Heap}
end
end PV
namespace PySem.ZG
open PySem PySem.Spec PySem.Builtin.SmallTypes
structure WG (i:Addr) (fp:List Addr) (v:Nat->Option Value) (St:Nat->Heap->Prop):Prop where
 mem:i∈fp
 item:∀ {prog:Program} {w:World} {A:Around} {E:Value->Shared->Prop} {s:Shared} {Q:Value->Shared->Prop} {k:Nat} {x:Value},St k s.heap->v k=some x->(∀ h',St (k+1) h' ->Heap.SameBut i s.heap h' ->Q x { s with heap:=h' })->wpAny (model prog w) A (nextOf (.ref i)) Q E s
 stop:∀ {prog:Program} {w:World} {A:Around} {E:Value->Shared->Prop} {s:Shared} {Q:Value->Shared->Prop} {k:Nat},A.handled=none->St k s.heap->v k=none->(∀ h' e,Heap.ExtBut i s.heap h' ->(∃ o,h'.get? e=some o/\o.cls= .type "StopIteration")->E (.ref e) { s with heap:=h' })->wpAny (model prog w) A (nextOf (.ref i)) Q E s
 keep:∀ {k:Nat} {h h' :Heap},St k h->(∀ b∈fp,∀ o,h.get? b=some o->h'.get? b=some o)->St k h'
 there:∀ {k:Nat} {h:Heap},St k h->∀ b∈fp,∃ o,h.get? b=some o
theorem WG.but {i:Addr} {fp:List Addr} {v:Nat->Option Value} {St:Nat->Heap->Prop} (N:WG i fp v St) {k:Nat} {h h' :Heap} {b:Addr} (x:St k h) (e:Heap.ExtBut b h h') (n:b ∉ fp):St k h' :=
 N.keep x fun c hc o q=>e c o (fun z=>n (z ▸ hc)) q
theorem vz {i l:Addr} (hil:l ≠ i) (xs:Array Value):WG i [i,l] (fun k=>xs[k]?) (fun k h=>h.IsListIter i l k/\h.IsList l xs) where
 mem:= .head _
 item:=fun st hx h=>wpAny_nextOf_list_item st.1 st.2 hx fun h' a b=>h h' ⟨a,st.2.extBut b.extBut hil⟩ b
 stop:=fun hh st hx h=>wpAny_nextOf_list_end hh st.1 st.2 hx h
 keep:=fun st k=>⟨st.1.at fun o e=>k i (.head _) o e,st.2.at fun o e=>k l (.tail _ (.head _)) o e⟩
 there:=fun st b hb=>by
  obtain ⟨⟨o,e,_⟩,o2,e2,_⟩:=st
  rcases List.mem_cons.mp hb with z | hb
  ·exact ⟨o,z ▸ e⟩
  ·exact ⟨o2,(List.mem_singleton.mp hb) ▸ e2⟩
end PySem.ZG
namespace PySem.ZG
open PySem PySem.Spec PySem.Builtin.SmallTypes
section
variable {prog:Program} {w:World} {A:Around} {E:Value->Shared->Prop} {s:Shared} {it l:Addr} {k:Nat} {xs:Array Value} {Q:Value->Shared->Prop}
theorem u8 (hit:s.heap.IsTupleIter it l k) (h:wpAny (model prog w) A.in1 (Builtin.«tuple_iterator.__next__» ⟨[.ref it],[]⟩) (fun fin s' =>∃ v,fin= .done (.ret v)/\Q v s') E s):wpAny (model prog w) A (nextOf (.ref it)) Q E s:=by
 unfold nextOf
 exact wpAny_bind (wpAny_callSpecial?_slot (name:=Str.ofString "__next__") hit.typeIs PySem.F.slot_tuple_iterator_next (wpAny_call_entry PySem.F.slot_tuple_iterator_next hit.typeIs PySem.F.entry_tuple_iterator_next
  (wpAny_mono h (fun fin s' ⟨v,e,q⟩=>⟨v,e,wpAny_pure q⟩) fun _ _ z=>z) (PySem.F.args_tuple_iterator_next_1 _)))
theorem tup_item (hit:s.heap.IsTupleIter it l k) (ht:s.heap.IsTuple l xs) {x:Value} (hx:xs[k]? =some x) (h:∀ h',h'.IsTupleIter it l (k+1)->Heap.SameBut it s.heap h' ->Q x { s with heap:=h' }):wpAny (model prog w) A (nextOf (.ref it)) Q E s:=by
 refine u8 hit ?_
 obtain ⟨o,ho,hc,hd⟩:=id hit
 obtain ⟨ol,hol,_,nl,hdl⟩:=ht
 refine wpAny_bind (m:=field (.ref it) 0) (wpAny_field ho hd (x:= .ref l) rfl ?_)
 rw [if_neg (show ¬((Value.ref l == Value.none)=true) by exact Bool.false_ne_true)]
 refine wpAny_bind (m:=field (.ref it) 1) (wpAny_field ho hd (x:= .int k 0) rfl (wpAny_bind (m:=seqItems? (.ref l)) (wpAny_seqItems hol hdl ?_)))
 simp only [Int.toNat_natCast,hx]
 have g:=Heap.get?_update_self (Obj.mapFields (·.setIfInBounds 1 (rawInt (k+1:Nat)))) ho (Obj.isFreed_of_fields (Obj.data_mapFields hd _))
 refine wpAny_bind (wpAny_setField ho hd (by simp) (wpAny_pure ⟨x,rfl,h _ ⟨_,g,(Obj.cls_mapFields ..).trans hc, ?_⟩ (Heap.SameBut.update ..)⟩))
 rw [Obj.data_mapFields hd]; simp [rawInt]
theorem tup_stop (hh:A.handled=none) (hit:s.heap.IsTupleIter it l k) (ht:s.heap.IsTuple l xs) (hx:xs[k]? =none)
  (h:∀ h' e,Heap.ExtBut it s.heap h' ->(∃ o,h'.get? e=some o/\o.cls= .type "StopIteration")->E (.ref e) { s with heap:=h' }):wpAny (model prog w) A (nextOf (.ref it)) Q E s:=by
 refine u8 hit ?_
 obtain ⟨o,ho,hc,hd⟩:=id hit
 obtain ⟨ol,hol,_,nl,hdl⟩:=ht
 refine wpAny_bind (m:=field (.ref it) 0) (wpAny_field ho hd (x:= .ref l) rfl ?_)
 rw [if_neg (show ¬((Value.ref l == Value.none)=true) by exact Bool.false_ne_true)]
 refine wpAny_bind (m:=field (.ref it) 1) (wpAny_field ho hd (x:= .int k 0) rfl (wpAny_bind (m:=seqItems? (.ref l)) (wpAny_seqItems hol hdl ?_)))
 simp only [Int.toNat_natCast,hx]
 refine wpAny_bind (wpAny_rule (wpAny_bind (wpAny_setField ho hd (by simp) (wpAny_bind (m:=newExc (.type "StopIteration") []) ?_))))
 simp only [newExc,newTuple]
 refine wpAny_bind (wpAny_newObj_type (wpAny_bind (m:=firstArgMember _ _) (wpAny_of_eq (a:=Value.none) (by first | rfl | (simp only [firstArgMember]; rfl)) (wpAny_newObj_type ?_ (by size_fits)))) (by size_fits))
 simp only [raiseNew]
 refine wpAny_bind (wpAny_handled ?_)
 rw [show A.in1.handled=none from hh]
 exact wpAny_bind (wpAny_pure (wpAny_throw (h _ _ (((Heap.SameBut.update ..).extBut.push _).push _) ⟨_,Heap.get?_push_size _ rfl,rfl⟩)))
end
theorem nx_tup {i l:Addr} (hil:l ≠ i) (xs:Array Value):WG i [i,l] (fun k=>xs[k]?) (fun k h=>h.IsTupleIter i l k/\h.IsTuple l xs) where
 mem:= .head _
 item:=fun st hx h=>tup_item st.1 st.2 hx fun h' a b=>h h' ⟨a,st.2.extBut b.extBut hil⟩ b
 stop:=fun hh st hx h=>tup_stop hh st.1 st.2 hx h
 keep:=fun st k=>by
  obtain ⟨⟨o,e,r⟩,o2,e2,r2⟩:=st
  exact ⟨⟨o,k i (.head _) o e,r⟩,o2,k l (.tail _ (.head _)) o2 e2,r2⟩
 there:=fun st b hb=>by
  obtain ⟨⟨o,e,_⟩,o2,e2,_⟩:=st
  rcases List.mem_cons.mp hb with z | hb
  ·exact ⟨o,z ▸ e⟩
  ·exact ⟨o2,(List.mem_singleton.mp hb) ▸ e2⟩
end PySem.ZG
namespace PySem.ZG
open PySem PySem.Spec PySem.Builtin.SmallTypes
structure Ap (z TI TO i1 i2:Addr) (fp1 fp2:List Addr):Prop where
 Iz:TI ≠ z
 Oz:TO ≠ z
 IO:TI ≠ TO
 I1:TI ≠ i1
 I2:TI ≠ i2
 z1:z ∉ fp1
 z2:z ∉ fp2
 O1:TO ∉ fp1
 O2:TO ∉ fp2
 a:i1 ∉ fp2
 b:i2 ∉ fp1
section
variable {prog:Program} {w:World} {A:Around} {E:Value->Shared->Prop} {s:Shared} {z TI TO i1 i2:Addr} {fp1 fp2:List Addr} {v1 v2:Nat->Option Value} {S1 S2:Nat->Heap->Prop} {k:Nat} {x y a b:Value}
theorem Ap.ne1 (D:Ap z TI TO i1 i2 fp1 fp2) (N1:WG i1 fp1 v1 S1):i1 ≠ z/\i1 ≠ TO:=⟨fun e=>D.z1 (e ▸ N1.mem),fun e=>D.O1 (e ▸ N1.mem)⟩
theorem Ap.ne2 (D:Ap z TI TO i1 i2 fp1 fp2) (N2:WG i2 fp2 v2 S2):i2 ≠ z/\i2 ≠ TO:=⟨fun e=>D.z2 (e ▸ N2.mem),fun e=>D.O2 (e ▸ N2.mem)⟩
theorem vA {Q:Value->Shared->Prop} (N1:WG i1 fp1 v1 S1) (N2:WG i2 fp2 v2 S2) (D:Ap z TI TO i1 i2 fp1 fp2) (hz:IsZip s.heap z TI TO .none) (hTI:IsPair s.heap TI (.ref i1) (.ref i2)) (hTO:IsPair s.heap TO a b) (p1:S1 k s.heap) (p2:S2 k s.heap) (hx:v1 k=some x) (hy:v2 k=some y)
  (hQ:∀ h',IsZip h' z TI TO (rawInt s.heap.objs.size)->IsPair h' TO x y->S1 (k+1) h' ->S2 (k+1) h' ->IsPair h' s.heap.objs.size x y->
   (∀ c o,c ≠ z->c ≠ TO->c ≠ i1->c ≠ i2->s.heap.get? c=some o->h'.get? c=some o)->Q (.ref s.heap.objs.size) { s with heap:=h' }):
  wpAny (model prog w) A (Builtin.«zip.__next__» ⟨[.ref z],[]⟩) (fun fin s' =>∃ v,fin= .done (.ret v)/\Q v s') E s:=by
 refine wpAny_bind (m:=field (.ref z) 2) (wpAny_field hz rfl (x:= .bool false) rfl (wpAny_bind (m:=field (.ref z) 3) (wpAny_field hz rfl (x:= .ref TI) rfl (wpAny_bind (wpAny_seqItems hTI rfl ?_)))))
 refine wpAny_bind (m:=ownedTupleIsFree (.ref z)) ?_
 unfold ownedTupleIsFree
 refine wpAny_bind (wpAny_field hz rfl (x:= .none) rfl (wpAny_pure ?_))
 simp only [if_true]
 refine wpAny_bind (wpAny_rule (wpAny_bind (wpAny_field hz rfl (x:= .ref TO) rfl (wpAny_bind (wpAny_setField_rec hz (by simp) fun g1 z1 e1=> ?_)))))
 replace z1:IsZip g1 z TI TO .ellipsis:=z1
 refine wpAny_bind ?_
 simp only [List.zipIdx_cons,List.zipIdx_nil,List.forIn_cons,List.forIn_nil]
 refine wpAny_bind (wpAny_bind (wpAny_onRaise (wpAny_bind (m:=nextOf (.ref i1)) (N1.item (N1.but p1 e1.extBut D.z1) hx fun g2 q1 e2=>wpAny_pure ?_))))
 have t2:IsPair g2 TO a b:=e2.extBut _ _ (D.ne1 N1).2.symm (e1.extBut _ _ D.Oz hTO)
 refine wpAny_bind (wpAny_seqItems t2 rfl (wpAny_bind (wpAny_updateSeq_pair t2 fun g3 t3 e3=> ?_)))
 replace t3:IsPair g3 TO x b:=t3
 refine wpAny_bind (wpAny_letGo (wpAny_pure ?_))
 refine wpAny_bind (wpAny_bind (wpAny_onRaise (wpAny_bind (m:=nextOf (.ref i2)) (N2.item (N2.but (N2.but (N2.but p2 e1.extBut D.z2) e2.extBut D.a) e3.extBut D.O2) hy fun g4 q2 e4=>wpAny_pure ?_))))
 have t4:IsPair g4 TO x b:=e4.extBut _ _ (D.ne2 N2).2.symm t3
 refine wpAny_bind (wpAny_seqItems t4 rfl (wpAny_bind (wpAny_updateSeq_pair t4 fun g5 t5 e5=> ?_)))
 replace t5:IsPair g5 TO x y:=t5
 refine wpAny_bind (wpAny_letGo (wpAny_pure (wpAny_pure ?_)))
 refine wpAny_bind (wpAny_seqItems t5 rfl (wpAny_bind (wpAny_newTuple ?_)))
 have sz:g5.objs.size=s.heap.objs.size:=by rw [e5.1,e4.1,e3.1,e2.1,e1.1]
 have z5:IsZip g5 z TI TO .ellipsis:=e5.extBut _ _ D.Oz.symm (e4.extBut _ _ (D.ne2 N2).1.symm (e3.extBut _ _ D.Oz.symm (e2.extBut _ _ (D.ne1 N1).1.symm z1)))
 have k5:∀ c o,c ≠ z->c ≠ TO->c ≠ i1->c ≠ i2->s.heap.get? c=some o->g5.get? c=some o:=fun c o c1 c2 c3 c4 e=>
  e5.extBut _ _ c2 (e4.extBut _ _ c4 (e3.extBut _ _ c2 (e2.extBut _ _ c3 (e1.extBut _ _ c1 e))))
 have r1:S1 (k+1) g5:=N1.but (N1.but (N1.but q1 e3.extBut D.O1) e4.extBut D.b) e5.extBut D.O1
 have r2:S2 (k+1) g5:=N2.but q2 e5.extBut D.O2
 refine wpAny_bind (m:=ownedTupleHandOut (.ref z) (.ref g5.objs.size)) ?_
 unfold ownedTupleHandOut
 have z6:IsZip (g5.push { cls:= .type "tuple",data:= .seq #[x,y] }) z TI TO .ellipsis:=Heap.get?_push_of_some _ z5
 refine wpAny_bind (wpAny_setField_rec z6 (by simp) fun g7 z7 e7=> ?_)
 replace z7:IsZip g7 z TI TO (rawInt g5.objs.size):=z7
 refine wpAny_setField_rec z7 (by simp) fun g8 z8 e8=> ?_
 replace z8:IsZip g8 z TI TO (rawInt g5.objs.size):=z8
 have up:∀ c o,c ≠ z->g5.get? c=some o->g8.get? c=some o:=fun c o c1 e=>e8.extBut _ _ c1 (e7.extBut _ _ c1 (Heap.get?_push_of_some _ e))
 have hn:g5.objs.size ≠ z:=Nat.ne_of_gt (Heap.lt_size z5)
 have t8:IsPair g8 g5.objs.size x y:=e8.extBut _ _ hn (e7.extBut _ _ hn (Heap.get?_push_size _ rfl))
 rw [sz] at z8 t8
 refine wpAny_pure ⟨_,rfl, ?_⟩
 show Q (.ref g5.objs.size) _
 rw [sz]
 exact hQ g8 z8 (up _ _ D.Oz t5) (N1.keep r1 fun c hc o e=>up c o (fun q=>D.z1 (q ▸ hc)) e) (N2.keep r2 fun c hc o e=>up c o (fun q=>D.z2 (q ▸ hc)) e) t8 fun c o c1 c2 c3 c4 e=>up c o c1 (k5 c o c1 c2 c3 c4 e)
theorem vC {Q:Fin->Shared->Prop} (hh:A.handled=none) (N1:WG i1 fp1 v1 S1) (N2:WG i2 fp2 v2 S2) (D:Ap z TI TO i1 i2 fp1 fp2) (hz:IsZip s.heap z TI TO .none) (hTI:IsPair s.heap TI (.ref i1) (.ref i2)) (hTO:IsPair s.heap TO a b) (p1:S1 k s.heap) (p2:S2 k s.heap) (hend:v1 k=none\/v2 k=none)
  (hE:∀ h' e,(∀ c o,c ≠ z->c ≠ TO->c ≠ i1->c ≠ i2->s.heap.get? c=some o->h'.get? c=some o)->(∃ o,h'.get? e=some o/\o.cls= .type "StopIteration")->E (.ref e) { s with heap:=h' }):
  wpAny (model prog w) A (Builtin.«zip.__next__» ⟨[.ref z],[]⟩) Q E s:=by
 refine wpAny_bind (m:=field (.ref z) 2) (wpAny_field hz rfl (x:= .bool false) rfl (wpAny_bind (m:=field (.ref z) 3) (wpAny_field hz rfl (x:= .ref TI) rfl (wpAny_bind (wpAny_seqItems hTI rfl ?_)))))
 refine wpAny_bind (m:=ownedTupleIsFree (.ref z)) ?_
 unfold ownedTupleIsFree
 refine wpAny_bind (wpAny_field hz rfl (x:= .none) rfl (wpAny_pure ?_))
 simp only [if_true]
 refine wpAny_bind (wpAny_rule (wpAny_bind (wpAny_field hz rfl (x:= .ref TO) rfl (wpAny_bind (wpAny_setField_rec hz (by simp) fun g1 z1 e1=> ?_)))))
 replace z1:IsZip g1 z TI TO .ellipsis:=z1
 refine wpAny_bind ?_
 simp only [List.zipIdx_cons,List.zipIdx_nil,List.forIn_cons,List.forIn_nil]
 have off:∀ {g:Heap} {e:Addr} {oe:Obj},IsZip g z TI TO .ellipsis->g.get? e=some oe->oe.cls= .type "StopIteration"->e ≠ z:=fun hg he hc q=>by
  subst q; rw [hg] at he; cases he; simp at hc
 cases hx:v1 k with
 | none=>
  refine wpAny_bind (wpAny_bind (wpAny_onRaise (wpAny_bind (m:=nextOf (.ref i1)) (N1.stop hh (N1.but p1 e1.extBut D.z1) hx fun g2 e e2 he=> ?_))))
  obtain ⟨oe,ho,hc⟩:=he
  have z2:IsZip g2 z TI TO .ellipsis:=e2 _ _ (D.ne1 N1).1.symm z1
  exact wpAny_setField_rec z2 (by simp) fun g3 _ e3=>hE g3 e (fun c o c1 _ c3 _ q=>e3.extBut _ _ c1 (e2 _ _ c3 (e1.extBut _ _ c1 q))) ⟨oe,e3.extBut _ _ (off z2 ho hc) ho,hc⟩
 | some x=>
  have hy:v2 k=none:=by
   rcases hend with q | q
   ·rw [hx] at q; cases q
   ·exact q
  refine wpAny_bind (wpAny_bind (wpAny_onRaise (wpAny_bind (m:=nextOf (.ref i1)) (N1.item (N1.but p1 e1.extBut D.z1) hx fun g2 q1 e2=>wpAny_pure ?_))))
  have t2:IsPair g2 TO a b:=e2.extBut _ _ (D.ne1 N1).2.symm (e1.extBut _ _ D.Oz hTO)
  refine wpAny_bind (wpAny_seqItems t2 rfl (wpAny_bind (wpAny_updateSeq_pair t2 fun g3 t3 e3=>wpAny_bind (wpAny_letGo (wpAny_pure ?_)))))
  refine wpAny_bind (wpAny_bind (wpAny_onRaise (wpAny_bind (m:=nextOf (.ref i2)) (N2.stop hh (N2.but (N2.but (N2.but p2 e1.extBut D.z2) e2.extBut D.a) e3.extBut D.O2) hy fun g4 e e4 he=> ?_))))
  obtain ⟨oe,ho,hc⟩:=he
  have z4:IsZip g4 z TI TO .ellipsis:=e4 _ _ (D.ne2 N2).1.symm (e3.extBut _ _ D.Oz.symm (e2.extBut _ _ (D.ne1 N1).1.symm z1))
  exact wpAny_setField_rec z4 (by simp) fun g5 _ e5=>hE g5 e (fun c o c1 c2 c3 c4 q=>e5.extBut _ _ c1 (e4 _ _ c4 (e3.extBut _ _ c2 (e2.extBut _ _ c3 (e1.extBut _ _ c1 q))))) ⟨oe,e5.extBut _ _ (off z4 ho hc) ho,hc⟩
theorem vD {Q:Option Value->Shared->Prop} (N1:WG i1 fp1 v1 S1) (N2:WG i2 fp2 v2 S2) (D:Ap z TI TO i1 i2 fp1 fp2) (hz:IsZip s.heap z TI TO .none) (hTI:IsPair s.heap TI (.ref i1) (.ref i2)) (hTO:IsPair s.heap TO a b) (p1:S1 k s.heap) (p2:S2 k s.heap) (hx:v1 k=some x) (hy:v2 k=some y)
  (hQ:∀ h',IsZip h' z TI TO (rawInt s.heap.objs.size)->IsPair h' TO x y->S1 (k+1) h' ->S2 (k+1) h' ->IsPair h' s.heap.objs.size x y->
   (∀ c o,c ≠ z->c ≠ TO->c ≠ i1->c ≠ i2->s.heap.get? c=some o->h'.get? c=some o)->Q (some (.ref s.heap.objs.size)) { s with heap:=h' }):wpAny (model prog w) A (pyNext (.ref z)) Q E s:=by
 have ty:s.TypeIs (.ref z) "zip":=⟨_,hz,rfl⟩
 unfold pyNext
 exact wpAny_bind (wpAny_attempt (wpAny_callSpecial?_slot (name:=Str.ofString "__next__") ty PySem.F.slot_zip_next (wpAny_call_entry PySem.F.slot_zip_next ty PySem.F.entry_zip_next
  (vA N1 N2 D hz hTI hTO p1 p2 hx hy fun h' a1 a2 a3 a4 a5 a6=>wpAny_pure (hQ h' a1 a2 a3 a4 a5 a6)) (PySem.F.args_zip_next_1 _))))
theorem vF {Q:Option Value->Shared->Prop} (hh:A.handled=none) (N1:WG i1 fp1 v1 S1) (N2:WG i2 fp2 v2 S2) (D:Ap z TI TO i1 i2 fp1 fp2) (hz:IsZip s.heap z TI TO .none) (hTI:IsPair s.heap TI (.ref i1) (.ref i2)) (hTO:IsPair s.heap TO a b) (p1:S1 k s.heap) (p2:S2 k s.heap) (hend:v1 k=none\/v2 k=none)
  (hQ:∀ h',(∀ c o,c ≠ z->c ≠ TO->c ≠ i1->c ≠ i2->s.heap.get? c=some o->h'.get? c=some o)->Q none { s with heap:=h' }):wpAny (model prog w) A (pyNext (.ref z)) Q E s:=by
 have ty:s.TypeIs (.ref z) "zip":=⟨_,hz,rfl⟩
 unfold pyNext
 refine wpAny_bind (wpAny_attempt (wpAny_callSpecial?_slot (name:=Str.ofString "__next__") ty PySem.F.slot_zip_next (wpAny_call_entry PySem.F.slot_zip_next ty PySem.F.entry_zip_next
  (vC hh N1 N2 D hz hTI hTO p1 p2 hend fun h' e kp he=> ?_) (PySem.F.args_zip_next_1 _))))
 obtain ⟨o,ho,hc⟩:=he
 exact wpAny_bind (wpAny_isInstance (T:="StopIteration") (b:=true) ⟨o,ho,hc⟩ isSubtype_stop (wpAny_pure (hQ _ kp)))
end
end PySem.ZG
namespace PySem.ZG
open PySem PySem.Spec PySem.Builtin.SmallTypes
structure vG (l:Addr) (o:Obj) (P:Heap->Prop):Prop where
 go:∀ {prog:Program} {w:World} {A:Around} {E:Value->Shared->Prop} {s:Shared} {Q:Value->Shared->Prop},P s.heap->Q (.ref s.heap.objs.size) { s with heap:=s.heap.push o }->wpAny (model prog w) A (pyIter (.ref l)) Q E s
 push:∀ {h:Heap} (o' :Obj),P h->P (h.push o')
 fresh:o.isFreed=false
abbrev oL (l:Addr):Obj:={ cls:= .type "list_iterator",data:= .fields #[.ref l, .int 0 0] }
abbrev oT (l:Addr):Obj:={ cls:= .type "tuple_iterator",data:= .fields #[.ref l, .int 0 0] }
theorem vH (l:Addr) (xs:Array Value):vG l (oL l) (fun h=>h.IsList l xs):=⟨fun p q=>wpAny_pyIter_list p q,fun o p=>Heap.IsList.push p o,rfl⟩
theorem xD (l:Addr) (xs:Array Value):vG l (oT l) (fun h=>h.IsTuple l xs):=⟨fun p q=>wpAny_pyIter_tuple p q,fun o p=>Heap.IsTuple.push p o,rfl⟩
abbrev zh2 (h:Heap) (o1 o2:Obj):Heap:=(h.push o1).push o2
abbrev zh3 (h:Heap) (o1 o2:Obj):Heap:=(zh2 h o1 o2).push { cls:= .type "tuple",data:= .seq #[.ref h.objs.size, .ref (h.push o1).objs.size] }
abbrev zh4 (h:Heap) (o1 o2:Obj):Heap:=(zh3 h o1 o2).push { cls:= .type "tuple",data:= .seq #[.none, .none] }
abbrev zh5 (h:Heap) (o1 o2:Obj):Heap:=(zh4 h o1 o2).push { cls:= .type "zip",data:= .fields #[.none, .bool false, .bool false, .ref (zh2 h o1 o2).objs.size, .ref (zh3 h o1 o2).objs.size] }
theorem xE {l1 l2:Addr} {o1 o2:Obj} {P1 P2:Heap->Prop} (J1:vG l1 o1 P1) (J2:vG l2 o2 P2):
  Meets (Builtin.«zip.__new__» ⟨[.type "zip", .ref l1, .ref l2],[]⟩) (fun _ R s=>P1 s.heap/\P2 s.heap/\R (.ok (.ret (.ref (zh4 s.heap o1 o2).objs.size))) { s with heap:=zh5 s.heap o1 o2 }):=
 .of_wp fun prog w A R s h=>by
  obtain ⟨hp,g,d,tk,os⟩:=s
  obtain ⟨q1,q2,h⟩:=h
  have hsub:=sub_zip
  have c1:P1 (Shared.heap ⟨hp,g,d,tk,os⟩):=q1
  have c2:P2 (Shared.heap ⟨hp.push o1,g,d,tk,os⟩):=J2.push o1 q2
  wp_walk using J1.go c1,J2.go c2
  exact ⟨_,rfl,h⟩
end PySem.ZG
namespace PySem.ZG
open PySem PySem.Spec PySem.Builtin.SmallTypes
theorem vI {prog:Program} {w:World} {A:Around} {E:Value->Shared->Prop} {s:Shared} {l1 l2:Addr} {o1 o2:Obj} {P1 P2:Heap->Prop} {Q:Value->Shared->Prop} (J1:vG l1 o1 P1) (J2:vG l2 o2 P2) (q1:P1 s.heap) (q2:P2 s.heap)
  (h:∀ h' n,n=s.heap.objs.size->IsZip h' (n+4) (n+2) (n+3) .none->IsPair h' (n+2) (.ref n) (.ref (n+1))->IsPair h' (n+3) .none .none->h'.get? n=some o1->h'.get? (n+1)=some o2->
   (∀ c o,s.heap.get? c=some o->h'.get? c=some o)->Q (.ref (n+4)) { s with heap:=h' }):wpAny (model prog w) A (call (.type "zip") [.ref l1, .ref l2]) Q E s:=by
 refine callType_new PySem.F.called_zip (by decide) (PySem.F.typeCall_zip_2 _ _) (PySem.F.newCall_zip_2 _ _) (fun obj=>PySem.F.args_object_init_3 obj _ _) PySem.F.entry_zip_new (xE J1 J2) ⟨q1,q2, ?_⟩
 have n1:(s.heap.push o1).objs.size=s.heap.objs.size+1:=Heap.size_push ..
 have n2:(zh2 s.heap o1 o2).objs.size=s.heap.objs.size+2:=by rw [Heap.size_push,n1]
 have n3:(zh3 s.heap o1 o2).objs.size=s.heap.objs.size+3:=by rw [Heap.size_push,n2]
 have n4:(zh4 s.heap o1 o2).objs.size=s.heap.objs.size+4:=by rw [Heap.size_push,n3]
 have up:∀ {h:Heap} {c:Addr} {o:Obj} (o' :Obj),h.get? c=some o->(h.push o').get? c=some o:=fun o' e=>Heap.get?_push_of_some o' e
 have e5:(zh5 s.heap o1 o2).get? (zh4 s.heap o1 o2).objs.size=some _:=Heap.get?_push_size _ rfl
 have e4:(zh5 s.heap o1 o2).get? (zh3 s.heap o1 o2).objs.size=some _:=up _ (Heap.get?_push_size _ rfl)
 have e3:(zh5 s.heap o1 o2).get? (zh2 s.heap o1 o2).objs.size=some _:=up _ (up _ (Heap.get?_push_size _ rfl))
 have e2:(zh5 s.heap o1 o2).get? (s.heap.push o1).objs.size=some _:=up _ (up _ (up _ (Heap.get?_push_size _ J2.fresh)))
 have e1:(zh5 s.heap o1 o2).get? s.heap.objs.size=some _:=up _ (up _ (up _ (up _ (Heap.get?_push_size _ J1.fresh))))
 show _/\_
 rw [n2,n3,n4] at e5
 rw [n1,n2] at e3
 rw [n3] at e4
 rw [n1] at e2
 rw [n4]
 exact ⟨⟨_,e5,rfl⟩,h _ _ rfl e5 e3 e4 e1 e2 fun c o q=>up _ (up _ (up _ (up _ (up _ q))))⟩
end PySem.ZG
namespace PV
open PySem PySem.Spec PyProof.Rows L2 PySem.ZG
inductive SK where
 | l | t
def SK.it:SK->Heap->Addr->Addr->Nat->Prop
 | .l=>fun h i l k=>h.IsListIter i l k
 | .t=>fun h i l k=>h.IsTupleIter i l k
def SK.has:SK->Heap->Addr->Array Value->Prop
 | .l=>fun h l xs=>h.IsList l xs
 | .t=>fun h l xs=>h.IsTuple l xs
def SK.sq (K:PySem.W.Frag):SK->Hp->Addr->List V->Prop
 | .l=>fun H a xs=>SqL K H a xs
 | .t=>fun H a xs=>SqT K H a xs
def SK.tr:SK->List V->HO
 | .l=> .lst
 | .t=> .tup
def SK.ob:SK->Addr->Obj
 | .l=>oL
 | .t=>oT
theorem SK.nx (k:SK) {i l:Addr} (h:l ≠ i) (xs:Array Value):WG i [i,l] (fun n=>xs[n]?) (fun n hp=>k.it hp i l n/\k.has hp l xs):=by
 cases k with
 | l=>exact vz h xs
 | t=>exact nx_tup h xs
theorem SK.of (k:SK) (l:Addr) (xs:Array Value):vG l (k.ob l) (fun h=>k.has h l xs):=by
 cases k with
 | l=>exact vH l xs
 | t=>exact xD l xs
theorem SK.start (k:SK) {h:Heap} {i l:Addr} (e:h.get? i=some (k.ob l)):k.it h i l 0:=by
 cases k with
 | l=>exact ⟨_,e,rfl,rfl⟩
 | t=>exact ⟨_,e,rfl,rfl⟩
theorem SK.obj {k:SK} {h:Heap} {i l:Addr} {n:Nat} (x:k.it h i l n):∃ o,h.get? i=some o/\∀ v,o.data ≠ .cell v:=by
 cases k with
 | l=>obtain ⟨o,e,_,d⟩:=x; exact ⟨o,e,fun v z=>by rw [d] at z; cases z⟩
 | t=>obtain ⟨o,e,_,d⟩:=x; exact ⟨o,e,fun v z=>by rw [d] at z; cases z⟩
theorem SK.at_ {k:SK} {h h' :Heap} {i l:Addr} {n:Nat} (x:k.it h i l n) (q:∀ o,h.get? i=some o->h'.get? i=some o):k.it h' i l n:=by
 cases k with
 | l=>obtain ⟨o,e,r⟩:=x; exact ⟨o,q o e,r⟩
 | t=>obtain ⟨o,e,r⟩:=x; exact ⟨o,q o e,r⟩
theorem SK.sqOf {K:PySem.W.Frag} (k:SK) {H:Hp} {a:Addr} {xs:List V} (e:H a=some (k.tr xs)):k.sq K H a xs:=by
 cases k with
 | l=>exact SqL.of e
 | t=>exact SqT.of e
theorem Inv.seq {X:Cx} {pins:List (Addr×Obj)} {σ:Sg} {H:Hp} {s:Shared} (I:L2.Inv X pins σ H s) (k:SK) {a:Addr} {xs:List V} (h:k.sq X.K H a xs):∃ its:List Value,Vals xs its/\k.has s.heap a its.toArray/\∃ o,s.heap.get? a=some o:=by
 cases k with
 | l=>
  obtain ⟨its,r,p,_⟩:=I.list h
  obtain ⟨o,_,e,_⟩:=id p
  exact ⟨its,r,p.isList,o,e⟩
 | t=>
  obtain ⟨its,r,p,_⟩:=I.tuple h
  obtain ⟨o,e,_⟩:=id p
  exact ⟨its,r,p,o,e⟩
def Itz (K:PySem.W.Frag) (k1 k2:SK) (l1 l2:Addr):It:=
 ⟨fun i H=>∃ xs ys x y,k1.sq K H l1 xs/\k2.sq K H l2 ys/\xs[i]? =some x/\ys[i]? =some y,fun i H v H' =>∃ p x y,H p=none/\v= .ref p/\(∀ xs,k1.sq K H l1 xs->xs[i]? =some x)/\(∀ ys,k2.sq K H l2 ys->ys[i]? =some y)/\H' =upd H p (.tup [x,y]),
  fun i H=>∃ xs ys,k1.sq K H l1 xs/\k2.sq K H l2 ys/\(xs.length<=i\/ys.length<=i)⟩
theorem Inv.seq_inj {X:Cx} {pins:List (Addr×Obj)} {σ:Sg} {H:Hp} {s:Shared} (I:L2.Inv X pins σ H s) (k:SK) {a:Addr} {xs ys:List V} (h:k.sq X.K H a xs) (h' :k.sq X.K H a ys):xs=ys:=by
 cases k with
 | l=>exact I.list_inj h h'
 | t=>exact I.tuple_inj h h'
theorem nN {a b:Nat} (h:a ≠ b): @Ne Addr a b:=h
theorem nM {a b c:Nat} (h:a ≠ b) (h' :a ≠ c):¬ @Membership.mem Addr (List Addr) _ [b,c] a:=fun q=>by
 rcases List.mem_cons.mp q with z | z
 ·exact h z
 ·exact h' (List.mem_singleton.mp z)
theorem qb {P:Program} {w:World} {K:PySem.W.Frag} {elts:List Expr} {kk:Nat} {pt:Pos} (k1 k2:SK) {n l1 l2:Nat} (h1:l1 < n) (h2:l2 < n):
  Uc P w K (.Tuple elts kk pt) (Itz K k1 k2 l1 l2) [n+4,n+2,n+3,n,n+1] (n+4)
   (fun i h=>IsZip h (n+4) (n+2) (n+3) .none/\IsPair h (n+2) (.ref n) (.ref (n+1))/\(∃ a b,IsPair h (n+3) a b)/\k1.it h n l1 i/\k2.it h (n+1) l2 i):=by
 have D:Ap (n+4) (n+2) (n+3) n (n+1) [n,l1] [n+1,l2]:=by
  refine ⟨nN (by omega),nN (by omega),nN (by omega),nN (by omega),nN (by omega),nM (by omega) (by omega),nM (by omega) (by omega),nM (by omega) (by omega),nM (by omega) (by omega),nM (by omega) (by omega),nM (by omega) (by omega)⟩
 refine ⟨by simp,fun i h st b hb=> ?_,fun i h h' st k=> ?_, ?_, ?_, ?_⟩
 ·obtain ⟨hz,hI,⟨a,c,hO⟩,p1,p2⟩:=st
  simp only [List.mem_cons,List.not_mem_nil,or_false] at hb
  rcases hb with rfl | rfl | rfl | rfl | rfl
  ·exact ⟨_,hz,fun v z=>nomatch z⟩
  ·exact ⟨_,hI,fun v z=>nomatch z⟩
  ·exact ⟨_,hO,fun v z=>nomatch z⟩
  ·exact SK.obj p1
  ·exact SK.obj p2
 ·obtain ⟨hz,hI,⟨a,c,hO⟩,p1,p2⟩:=st
  exact ⟨k _ (by simp) _ hz,k _ (by simp) _ hI,⟨a,c,k _ (by simp) _ hO⟩,SK.at_ p1 fun o e=>k n (by simp) o e,SK.at_ p2 fun o e=>k (n+1) (by simp) o e⟩
 ·intro X hP hw hK hc i pins s σ H E I hf st hg
  subst hP hw hK
  obtain ⟨xs,ys,x,y,s1,s2,hx,hy⟩:=hg
  obtain ⟨hz,hI,⟨a,c,hO⟩,p1,p2⟩:=st
  obtain ⟨its1,r1,b1,_⟩:=Inv.seq I k1 s1
  obtain ⟨its2,r2,b2,_⟩:=Inv.seq I k2 s2
  obtain ⟨u,hu,ru⟩:=r1.get hx
  obtain ⟨v,hv,rv⟩:=r2.get hy
  refine vD (k1.nx (Nat.ne_of_lt h1) its1.toArray) (k2.nx (i:=n+1) (nN (by omega)) its2.toArray) D hz hI hO ⟨p1,b1⟩ ⟨p2,b2⟩ (x:=u) (y:=v) (by simpa using hu) (by simpa using hv) fun g a1 a2 a3 a4 a5 kp=>⟨_,rfl, ?_⟩
  refine wpAny_letOwnedTupleGo_zip a1 fun g2 z2 e2=> ?_
  have hlt:n+4 < s.heap.objs.size:=Heap.lt_size hz
  have ne:∀ b:Nat,b<=n+4->s.heap.objs.size ≠ b:=fun b hb=>by
   have hlt:n+4 < s.heap.objs.size:=hlt
   omega
  have kp2:∀ b o,b ∉ [n+4,n+2,n+3,n,n+1]->s.heap.get? b=some o->g2.get? b=some o:=fun b o hb e=>by
   simp only [List.mem_cons,List.not_mem_nil,or_false,not_or] at hb
   exact e2.extBut _ _ hb.1 (kp b o hb.1 hb.2.2.1 hb.2.2.2.1 hb.2.2.2.2 e)
  have g2P:IsPair g2 s.heap.objs.size u v:=e2.extBut _ _ (ne _ (Nat.le_refl _)) a5
  have g2I:IsPair g2 (n+2) (.ref n) (.ref (n+1)):=e2.extBut _ _ D.Iz (kp _ _ D.Iz D.IO D.I1 D.I2 hI)
  have g2O:IsPair g2 (n+3) u v:=e2.extBut _ _ D.Oz a2
  have q1:k1.it g2 n l1 (i+1):=SK.at_ a3.1 fun o e=>e2.extBut _ _ (nN (by omega)) e
  have q2:k2.it g2 (n+1) l2 (i+1):=SK.at_ a4.1 fun o e=>e2.extBut _ _ (nN (by omega)) e
  have hfr:H s.heap.objs.size=none:=I.hok.fresh (Nat.le_refl _)
  refine ⟨.ref s.heap.objs.size,upd H s.heap.objs.size (.tup [x,y]),Inv.laidT (s:=s) (h' :=g2) (ch:=[n+4,n+2,n+3,n,n+1]) (tk:=s.toks) I hf kp2 (fun b o hb _=> ?_) (Nat.le_refl _)
   ⟨by rw [sizeLine_eq]; show 2<=16777216; decide,[u,v], .cons ru (.cons rv .nil),⟨_,g2P,rfl,_,rfl⟩, .inr ⟨_,g2P,rfl⟩⟩,rfl,⟨_,x,y,hfr,rfl,fun zs hq=>by rw [← Inv.seq_inj I k1 s1 hq]; exact hx,fun zs hq=>by rw [← Inv.seq_inj I k2 s2 hq]; exact hy,rfl⟩,⟨z2,g2I,⟨u,v,g2O⟩,q1,q2⟩,fun b hb=> ?_⟩
  ·simp only [List.mem_cons,List.not_mem_nil,or_false] at hb
   rcases hb with rfl | rfl | rfl | rfl | rfl
   ·exact ⟨_,z2⟩
   ·exact ⟨_,g2I⟩
   ·exact ⟨_,g2O⟩
   ·obtain ⟨o',e',_⟩:=SK.obj q1; exact ⟨o',e'⟩
   ·obtain ⟨o',e',_⟩:=SK.obj q2; exact ⟨o',e'⟩
  ·have hb2:(b:Nat)<=n+4:=by
    have hb:b=n+4\/b=n+2\/b=n+3\/b=n\/b=n+1:=by simpa using hb
    rcases hb with rfl | rfl | rfl | rfl | rfl
    ·exact Nat.le_refl _
    ·exact Nat.add_le_add_left (by decide) n
    ·exact Nat.add_le_add_left (by decide) n
    ·exact Nat.le_add_right _ _
    ·exact Nat.add_le_add_left (by decide) n
   rw [zy fun z=>ne b hb2 z.symm]
   exact (hf b hb).1
 ·intro X hP hw hK hc i pins s σ H E I hf st hg
  subst hP hw hK
  obtain ⟨xs,ys,s1,s2,hend⟩:=hg
  obtain ⟨hz,hI,⟨a,c,hO⟩,p1,p2⟩:=st
  obtain ⟨its1,r1,b1,_⟩:=Inv.seq I k1 s1
  obtain ⟨its2,r2,b2,_⟩:=Inv.seq I k2 s2
  have l1' :=r1.length
  have l2' :=r2.length
  refine vF (I.ok.hd hc) (k1.nx (Nat.ne_of_lt h1) its1.toArray) (k2.nx (i:=n+1) (nN (by omega)) its2.toArray) D hz hI hO ⟨p1,b1⟩ ⟨p2,b2⟩ (k:=i) ?_ fun g kp=>⟨rfl, ?_⟩
  ·rcases hend with q | q
   ·exact .inl (Array.getElem?_eq_none (by rw [List.size_toArray,← l1']; exact q))
   ·exact .inr (Array.getElem?_eq_none (by rw [List.size_toArray,← l2']; exact q))
  ·have kp2:∀ b o,b ∉ [n+4,n+3,n,n+1]->s.heap.get? b=some o->g.get? b=some o:=fun b o hb e=>by
    simp only [List.mem_cons,List.not_mem_nil,or_false,not_or] at hb
    exact kp b o hb.1 hb.2.1 hb.2.2.1 hb.2.2.2 e
   have nch:∀ b u,H b=some u->b ∉ [n+4,n+3,n,n+1]:=fun b u e hb=>by
    have hb' :b∈[n+4,n+2,n+3,n,n+1]:=by
     simp only [List.mem_cons,List.not_mem_nil,or_false] at hb ⊢
     rcases hb with q | q | q | q
     ·exact .inl q
     ·exact .inr (.inr (.inl q))
     ·exact .inr (.inr (.inr (.inl q)))
     ·exact .inr (.inr (.inr (.inr q)))
    rw [(hf b hb').1] at e; cases e
   refine I.call' (s' :={ s with heap:=g }) (ch:=[n+4,n+3,n,n+1]) rfl ⟨fun b o e _ _ hc=>kp2 b o hc e,fun b o e _ _ hc=>⟨o.slots,kp2 b o hc e⟩,fun b o e q _=>q,fun b o e hc=>⟨o,kp2 b o hc e⟩,fun b ys e=>e,fun b o u e=>e,fun b ps e=>⟨#[],by rw [e]; simp⟩⟩ (fun b u e=> ?_) I.bare fun b hb=> ?_
   ·refine (I.hok b u e).stay (fun c v hc q=>kp2 c v ?_ q) (fun _ q=>q) fun _ _ q=>q
    rcases hc with rfl | hc
    ·exact nch c u e
    ·exact nch c _ hc
   ·have hb' :b∈[n+4,n+2,n+3,n,n+1]:=by
     simp only [List.mem_cons,List.not_mem_nil,or_false] at hb ⊢
     rcases hb with q | q | q | q
     ·exact .inl q
     ·exact .inr (.inr (.inl q))
     ·exact .inr (.inr (.inr (.inl q)))
     ·exact .inr (.inr (.inr (.inr q)))
    obtain ⟨f0,f1,f2,f3,f4,f5⟩:=hf b hb'
    exact ⟨f3,f1,f4,f5⟩
 ·intro A i s Q E st h
  exact wpAny_pyIter_zip st.1 h
def Q3 (xs ys:List T):List T:=(xs.zip ys).map fun p=>T.tup [p.1,p.2]
theorem qc {xs ys:List T} {i:Nat} {t:T} (h:(Q3 xs ys)[i]? =some t):∃ x y,xs[i]? =some x/\ys[i]? =some y/\t= .tup [x,y]:=by
 unfold Q3 at h
 rw [List.getElem?_map] at h
 cases e:(xs.zip ys)[i]? with
 | none=>rw [e] at h; cases h
 | some p=>
  rw [e] at h
  cases h
  have:=List.getElem?_zip_eq_some.mp e
  exact ⟨p.1,p.2,this.1,this.2,rfl⟩
theorem WH (xs ys:List T):(Q3 xs ys).length=min xs.length ys.length:=by unfold Q3; simp
theorem xF {K:PySem.W.Frag} {B1 H1:Hp} {k1 k2:SK} {a b:Addr} {xs ys:List V} {ts us:List T} (ha:B1 a=some (k1.tr xs)) (hb:B1 b=some (k2.tr ys)) (ra:zE B1 xs ts) (rb:zE B1 ys us):rI B1 H1 (Itz K k1 k2 a b) (Q3 ts us):=fun B2 H2 s1 s2=>by
 have a2:=k1.sqOf (K:=K) (s2 _ _ (s1 _ _ ha))
 have b2:=k2.sqOf (K:=K) (s2 _ _ (s1 _ _ hb))
 rw [WH]
 refine ⟨fun i hi=> ?_,fun i t x H3 e y=> ?_,fun i hi=>⟨xs,ys,a2,b2, ?_⟩⟩
 ·obtain ⟨v,e1,_⟩:=ra.get (List.getElem?_eq_getElem (show i < ts.length by omega))
  obtain ⟨u,e2,_⟩:=rb.get (List.getElem?_eq_getElem (show i < us.length by omega))
  exact ⟨xs,ys,v,u,a2,b2,e1,e2⟩
 ·obtain ⟨p,v,u,hp,rfl,y1,y2,rfl⟩:=y
  obtain ⟨t1,t2,et,eu,rfl⟩:=qc e
  obtain ⟨v',e1,r1⟩:=ra.get et
  obtain ⟨u',e2,r2⟩:=rb.get eu
  have q1:=y1 xs a2
  have q2:=y2 ys b2
  rw [e1] at q1; cases q1
  rw [e2] at q2; cases q2
  have up:=zR.ge s2 (zx.new hp (.tup [v,u]))
  exact ⟨zx.new hp _, .tup (j9 hp _) (.cons ((r1.mono s1).mono up) (.cons ((r2.mono s1).mono up) .nil))⟩
 ·rw [ra.length,rb.length]; omega
section
variable {X:Cx} {Y:Fx} {a b:Expr} {fa fb:En->R T} {pos p pt:Pos} {elts:List Expr} {kk:Nat}
theorem xG {ta:TA} (hg:Gl X "zip") (hm:X.mg "zip"=none) (ha:PA X [a,b] ta) (hs:starEach [a,b] X.env=[(false,eval a X.env),(false,eval b X.env)]) (hs2:starEach [b] X.env=[(false,eval b X.env)]):
  PI X (.Tuple elts kk pt) (.Call (.Name "zip" p) [a,b] [] pos) (fun σ H R=>ta σ H fun vs H1=>∃ k1 k2 l1 l2 xs ys,vs=[.ref l1, .ref l2]/\H1 l1=some (SK.tr k1 xs)/\H1 l2=some (SK.tr k2 ys)/\R (Itz X.K k1 k2 l1 l2) H1):=by
 intro pins s σ H R I h
 refine Call_ (j7 I hg hm PyProof.Rows.Boot.«zip» (PyProof.Rows.callWith_type1 (thn (ha pos pins s σ H _ I h) fun us s1 ⟨vs,H1,I1,r1,q1⟩=> ?_) (by rw [hs,hs2]) (by rw [hs2]; rfl)))
 obtain ⟨k1,k2,l1,l2,xs,ys,e,h1,h2,q⟩:=q1
 subst e
 obtain ⟨u,v,rfl,ru,rv⟩:=Ut r1
 obtain rfl:u=Value.ref l1:=ru
 obtain rfl:v=Value.ref l2:=rv
 obtain ⟨its1,_,b1,o1,e1⟩:=Inv.seq I1 k1 (k1.sqOf h1)
 obtain ⟨its2,_,b2,o2,e2⟩:=Inv.seq I1 k2 (k2.sqOf h2)
 refine vI (k1.of l1 its1.toArray) (k2.of l2 its2.toArray) b1 b2 fun g n hn z1 z2 z3 z4 z5 kp=>wpAny_pyIter_zip z1 ?_
 subst hn
 have f:∀ b∈[s1.heap.objs.size+4,s1.heap.objs.size+2,s1.heap.objs.size+3,s1.heap.objs.size,s1.heap.objs.size+1],wM X pins H1 b:=fun b hb=>by
  have hb' :s1.heap.objs.size<=b:=by
   simp only [List.mem_cons,List.not_mem_nil,or_false] at hb
   rcases hb with rfl | rfl | rfl | rfl | rfl
   ·exact Nat.le_add_right _ _
   ·exact Nat.le_add_right _ _
   ·exact Nat.le_add_right _ _
   ·exact Nat.le_refl _
   ·exact Nat.le_add_right _ _
  exact I1.fpOk hb' (I1.hok.fresh hb')
 exact ⟨s1.heap.objs.size+4,_,_,_,H1,rfl,I1.kept (t' :=s1.toks) kp,qb k1 k2 (Heap.lt_size e1) (Heap.lt_size e2),⟨z1,z2,⟨_,_,z3⟩,SK.start k1 z4,SK.start k2 z5⟩,f,q⟩
def jG:T->R (List T)
 | .lst xs=> .ok xs
 | .tup xs=> .ok xs
 | _=> .bad
def xH (fa fb:En->R T):En->R (List T):=fun ρ=>(fa ρ).bind fun t=>(fb ρ).bind fun u=>(jG t).bind fun xs=>(jG u).bind fun ys=> .ok (Q3 xs ys)
theorem yh {B:Hp} {v:V} {t:T} {xs:List T} (r:Rep B v t) (e:jG t= .ok xs):∃ (k:SK) (a:Addr) (vs:List V),v= .ref a/\B a=some (k.tr vs)/\zE B vs xs:=by
 cases r with
 | lst h r=>cases e; exact ⟨.l,_,_,rfl,h,r⟩
 | tup h r=>cases e; exact ⟨.t,_,_,rfl,h,r⟩
 | _=>cases e
theorem u9 (t:T) (c:Nat):jG t ≠ .ex c:=by cases t <;> exact fun z=>nomatch z
theorem kO (hg:Gl X "zip") (hm:X.mg "zip"=none) (ha:Snd X Y a fa) (hb:Snd X Y b fb) (hs:starEach [a,b] X.env=[(false,eval a X.env),(false,eval b X.env)]:=by exact st2 rfl rfl) (hs2:starEach [b] X.env=[(false,eval b X.env)]:=by exact st1 rfl):
  Uf X Y (.Tuple elts kk pt) (.Call (.Name "zip" p) [a,b] [] pos) (xH fa fb):= .mk fun ρ=>
 PI.imp (xG hg hm (zB (ha ρ) (zB (hb ρ) Zi hs2) (by rw [hs,hs2])) hs hs2) fun σ H R ⟨B,I,q⟩=>step I q fun t v H1 _ s1 r1 I1 q1=>step I1 q1 fun u v' H2 _ s2 r2 I2 q2=>by
  cases e1:jG t with
  | bad=>rw [e1] at q2; exact q2.elim
  | ex c=>exact absurd e1 (u9 _ _)
  | ok xs=>
   rw [e1] at q2
   cases e2:jG u with
   | bad=>rw [e2] at q2; exact q2.elim
   | ex c=>exact absurd e2 (u9 _ _)
   | ok ys=>
    rw [e2] at q2
    obtain ⟨k1,a1,vs1,rfl,h1,w1⟩:=yh (r1.mono (zR.ge I1.sB s2)) e1
    obtain ⟨k2,a2,vs2,rfl,h2,w2⟩:=yh r2 e2
    exact ⟨k1,k2,a1,a2,vs1,vs2,rfl,I2.sB _ _ h1,I2.sB _ _ h2,ZQ I2 (show Po Y rI _ H2 (.ok (Q3 xs ys)) R from q2) (xF h1 h2 w1 w2)⟩
end
end PV
namespace PV
open PySem PySem.Spec PyProof.Rows L2
section
variable {X:Cx} {Y:Fx} {a b:Expr} {fa fb:En->R T} {pos p p' pos' :Pos}
def wJ:T->R T
 | .bl b=> .ok (.int (b2 b))
 | .int i=> .ok (.int i)
 | _=> .bad
theorem kP (v:V) (t:T) (B H:Hp) (Q:VK) (r:Rep B v t) (sB:zx B H) (q:Po Y rC B H (wJ t) Q):
  (∃ i,[v]=[V.int i]/\Q (.int i) H)\/∃ k,[v]=[V.bl k]/\Q (.int (if k then 1 else 0)) H:=by
 cases r with
 | int i=>exact .inl ⟨i,rfl,po0 sB q rfl (.int i)⟩
 | bl k=>exact .inr ⟨k,rfl,po0 sB q rfl (by cases k <;> exact .int _)⟩
 | _=>exact q.elim
theorem ua (gl:Gl X "int") (mg:X.mg "int"=none) (ha:Snd X Y a fa) (hs:St1 X a:=by exact st1 rfl):Snd X Y (.Call (.Name "int" p) [a] [] pos) (ap1 wJ fa):=
 UU Uw kP gl mg (PyProof.Rows.Boot.«int») ha hs
theorem yi:ZD X (.type "range") (fun xs H Q=>∃ i j,xs=[.int i, .int j]/\∀ r,H r=none->Q (.ref r) (upd H r (.rng i j))):=by
 intro pins s σ H xs us Q I r h
 obtain ⟨i,j,rfl,q⟩:=h
 obtain ⟨u,v,rfl,ru,rv⟩:=Ut r
 obtain ⟨t,rfl⟩:=ru
 obtain ⟨t',rfl⟩:=rv
 exact call_range_2 ⟨.ref s.heap.objs.size,_,I.laid (t' :=s.toks+1) (fun b o e=>Heap.get?_push_of_some _ e) (Nat.le_refl _) (show ZC X.prog X.w _ _ _ (.rng i j) from ⟨_,_,_,Heap.get?_push_size _ rfl⟩),rfl,q _ (I.hok.fresh (Nat.le_refl _))⟩
def Yx (lo:Int) (n:Nat):List V:=(List.range n).map fun (i:Nat)=>V.int (lo+(i:Int))
theorem wm (hh:X.A.handled=none):ZD X (.type "list") (fun xs H Q=>∃ r lo hi,xs=[.ref r]/\H r=some (.rng lo hi)/\(-1000000 < lo/\lo < 1000000/\ -1000000 < hi/\hi < 1000000)/\∀ l,H l=none->Q (.ref l) (upd H l (.lst (Yx lo (hi - lo).toNat)))):=by
 intro pins s σ H xs us Q I rv h
 obtain ⟨r,lo,hi,rfl,e,⟨c1,c2,c3,c4⟩,q⟩:=h
 obtain ⟨u,rfl,ru⟩:=j3 rv
 obtain rfl:u=Value.ref r:=ru
 obtain ⟨t,v,v',eo⟩:=(show ZC X.prog X.w H s.heap r (.rng lo hi) from I.hok r _ e)
 have hn:Builtin.Range.rangeSize lo hi 1=((hi - lo).toNat:Int):=by rw [rangeSize_one]; split <;> omega
 refine call_list_range (n:=(hi - lo).toNat) hh eo (small_one (by omega) (by omega) (by omega) (by omega)) hn (by omega) fun h' tk acc c kp eo' hacc=> ?_
 have hv:Vals (Yx lo (hi - lo).toNat) acc.toList:=by
  have key:∀ (n:Nat) (lo:Int) (vs:List Value),vs.length=n->(∀ (j:Nat) (v:Value),vs[j]? =some v->∃ t,v=Value.int (lo+(j:Int)) t)->Vals (Yx lo n) vs:=by
   intro n
   induction n with
   | zero=>
    intro lo vs hl _
    rw [List.eq_nil_of_length_eq_zero hl]
    exact .nil
   | succ n ih=>
    intro lo vs hl hv
    cases vs with
    | nil=>cases hl
    | cons v vs=>
     have e:Yx lo (n+1)=V.int (lo+0) :: Yx (lo+1) n:=by
      unfold Yx
      rw [List.range_succ_eq_map,List.map_cons,List.map_map]
      refine congrArg _ (List.map_congr_left fun j _=> ?_)
      show V.int (lo+((j+1:Nat):Int))=V.int (lo+1+(j:Int))
      congr 1; omega
     rw [e]
     refine .cons (hv 0 v rfl) (ih (lo+1) vs (by simpa using hl) fun j x hx=> ?_)
     obtain ⟨t,z⟩:=hv (j+1) x (by simpa using hx)
     exact ⟨t,by rw [z]; congr 1; omega⟩
  refine key _ lo acc.toList (by simpa using hacc.1) fun j v hj=> ?_
  obtain ⟨t,z⟩:=hacc.2 j v (by simpa using hj)
  exact ⟨t,by rw [z]; congr 1; omega⟩
 have hz:(Yx lo (hi - lo).toNat).length<=sizeLine:=by
  rw [sizeLine_eq]; unfold Yx; rw [List.length_map,List.length_range]; omega
 exact ⟨.ref s.heap.objs.size,_,I.laid (t' :=tk) kp (Nat.le_refl _) (show ZC X.prog X.w _ h' _ (.lst _) from ⟨hz,acc.toList,c,hv,by simpa using eo'⟩),rfl,q _ (I.hok.fresh (Nat.le_refl _))⟩
def XJ (fi:En->R (List T)):En->R T:=fun ρ=>(fi ρ).bind fun ts=> .ok (.lst ts)
theorem yj {B:Hp} (lo:Int) (n:Nat):zE B (Yx lo n) (rng lo n):=by
 unfold Yx rng
 induction List.range n with
 | nil=>exact .nil
 | cons i is ih=>exact .cons (.int _) ih
theorem vJ (hh:X.A.handled=none) (gl:Gl X "list") (mg:X.mg "list"=none) (gl' :Gl X "range") (mg' :X.mg "range"=none) (ha:Snd X Y a fa) (hb:Snd X Y b fb)
  (hs:starEach [a,b] X.env=[(false,eval a X.env),(false,eval b X.env)]:=by exact st2 rfl rfl) (hs2:St1 X b:=by exact st1 rfl):Snd X Y (.Call (.Name "list" p) [.Call (.Name "range" p') [a,b] [] pos'] [] pos) (XJ (Jd fa fb)):= .mk fun ρ=>
 PE.imp (jy (wm hh) gl mg PyProof.Rows.Boot.«list» (zB (jy yi gl' mg' boot_range (zB (ha ρ) (zB (hb ρ) Zi hs2) (by rw [hs,hs2])) (by decide) (by decide) (by rw [hs,hs2]) (by rw [hs2]; rfl)) Zi (st1 rfl)) (by decide) (by decide) (st1 rfl) rfl) fun σ H Q ⟨B,I,q⟩=>by
  have q:Po Y rC B H ((fa ρ).bind fun t=>(fb ρ).bind fun t' =>(match t,t' with | .int i, .int j=>if -1000000 < i/\i < 1000000/\ -1000000 < j/\j < 1000000 then R.ok (rng i (j - i).toNat) else .bad | _,_=> .bad).bind fun ts=> .ok (.lst ts)) Q:=by
   revert q
   unfold XJ Jd
   cases fa ρ with
   | ok t=>cases fb ρ <;> exact fun q=>q
   | ex c=>exact fun q=>q
   | bad=>exact fun q=>q
  refine step I q fun t v H1 _ s1 r1 I1 q1=>step I1 q1 fun t' v' H2 _ s2 r2 I2 q2=> ?_
  cases r1 with
  | int i=>
   cases r2 with
   | int j=>
    by_cases c: -1000000 < i/\i < 1000000/\ -1000000 < j/\j < 1000000
    ·dsimp only at q2
     rw [if_pos c] at q2
     refine ⟨i,j,rfl,fun r hr=>⟨r,i,j,rfl,Z6,c,fun l hl=> ?_⟩⟩
     have hlr:l ≠ r:=fun z=>by rw [z,Z6] at hl; cases hl
     have hl2:H2 l=none:=by rw [zy hlr] at hl; exact hl
     refine q2 _ _ (zx.new hr _ |>.trans (zx.new hl _)) (.lst ?_ (yj _ _))
     rw [Zv hl2,Z6]
    ·dsimp only at q2
     rw [if_neg c] at q2
     exact q2.elim
   | _=>exact q2.elim
  | _=>cases r2 <;> exact q2.elim
def mvS (i j:Nat):En->RS:=fun ρ=>match ρ[j]? with
 | some (.ow ts)=> .nx ((ρ.set j (.vl (.lst ts))).set i (.vl (.lst ts)))
 | _=> .bad
theorem SI.give {Y:Fx} {B:Hp} {ρ:En} {σ:Sg} {H:Hp} (I:SI Y B ρ σ H) {j:Nat} {ts:List T} (hj:ρ[j]? =some (.ow ts)):∃ (a:Addr) (B' :Hp),σ[j]? =some (some (V.ref a))/\zx B B' /\Rep B' (.ref a) (.lst ts)/\SI Y B' (ρ.set j (.vl (.lst ts))) σ H:=by
 obtain ⟨a,xs,e,b0,h0,hh,rr,d⟩:=I.ow j ts hj
 have s1:zx B (upd B a (.lst xs)):=zx.new b0 _
 have rp:Rep (upd B a (.lst xs)) (.ref a) (.lst ts):= .lst Z6 (rr.mono s1)
 refine ⟨a,_,e,s1,rp,⟨I.s0,I.sH,fun b o q=> ?_,fun b o q=> ?_,by rw [List.length_set]; exact I.len,fun k t q=> ?_,fun k us q=> ?_,fun k c q=> ?_⟩⟩
 ·by_cases hb:b=a
  ·subst hb; rw [Z6] at q; cases q; exact hh
  ·rw [zy hb] at q; exact I.sB b o q
 ·rw [zy fun z=>by rw [z,h0] at q; cases q]; exact I.old b o q
 ·rcases zY q with ⟨rfl,z⟩ | ⟨_,z⟩
  ·cases z; exact ⟨_,e,rp⟩
  ·obtain ⟨v,e1,r⟩:=I.vl k t z; exact ⟨v,e1,r.mono s1⟩
 ·rcases zY q with ⟨rfl,z⟩ | ⟨hk,z⟩
  ·cases z
  ·obtain ⟨a',xs',e',b0',h0',hh',rr',d'⟩:=I.ow k us z
   have hne:a' ≠ a:=fun w=>by subst w; exact d k us hk z e'
   refine ⟨a',xs',e',by rw [zy hne]; exact b0',h0',hh',rr'.mono s1,fun m ws hm hw=> ?_⟩
   rcases zY hw with ⟨rfl,w⟩ | ⟨_,w⟩
   ·cases w
   ·exact d' m ws hm w
 ·rcases zY q with ⟨rfl,z⟩ | ⟨_,z⟩
  ·cases z
  ·obtain ⟨a',e',r⟩:=I.xc k c z; exact ⟨a',e',s1 _ _ r⟩
theorem gL {i j:Nat} {x y:Str} {yp:Pos} (hv:PE X (.Name y yp) (Qv j)) (hN:X.N.Nodup) (hi:X.N[i]? =some x) (hx:L2.Loc X.env.scope x) (hs:swapsWith (.Name y yp) (some (.Name x p')) pos.line X.env=pure false:=by rfl)
  (hf:X.fn x=true\/X.env.scope.names.lookup x=some .local:=by first | exact .inl rfl | exact .inr rfl | assumption):Wu X Y (.Assign [.Name x p'] (.Name y yp) pos) (mvS i j):= .mk fun ρ=>
 PS.imp (Um hN hi hx hv hs hf) fun D σ H ⟨B,I,q⟩=>by
  unfold mvS at q
  split at q
  ·rename_i ts e
   obtain ⟨a,B',e1,s1,r,J⟩:=I.give e
   exact ⟨_,e1,q _ _ B' s1 (J.setV i r)⟩
  ·exact q.elim
end
section
variable {X:Cx} {Y:Fx} {a b:Expr} {fa fb:En->R T} {pos p p' pos' :Pos}
end
def J6:List T->Option (List Int)
 | []=>some []
 | .int i :: r=>match J6 r with | some l=>some (i :: l) | none=>none
 | _ :: _=>none
def XL:T->R T
 | .lst ts=>match J6 ts with | some l=> .ok (.int l.sum) | none=> .bad
 | _=> .bad
def kQ:En->RS:=fun _=> .bad
theorem xI {X:Cx} {Y:Fx} {st:Stmt}:Wu X Y st kQ:= .mk fun ρ=>fun pins s σ H D I ⟨B,J,q⟩=>q.elim
theorem yk:∀ {H:Hp} {xs:List V} {ts:List T} {its:List Value} {is:List Int},zE H xs ts->Vals xs its->J6 ts=some is->∃ ps:List (Int×Tok),its=ps.map (fun p=>Value.int p.1 p.2)/\ps.map (·.1)=is
 | _,_,_,_,is, .nil, .nil,h=>by
  have h' :some []=some is:=h
  cases h'
  exact ⟨[],rfl,rfl⟩
 | H,_,_,_,is, .cons (v:=x) (t:=t) r rs, .cons (b:=u) rv vs,h=>by
  cases r with
  | int i=>
   unfold J6 at h
   split at h
   ·rename_i l e
    cases h
    obtain ⟨ps,h1,h2⟩:=yk rs vs e
    obtain ⟨tk,rfl⟩:=rv
    exact ⟨(i,tk) :: ps,by rw [h1]; rfl,by rw [List.map_cons,h2]⟩
   ·cases h
  | _=>cases h
section
variable {X:Cx} {Y:Fx} {a b:Expr} {fa fb:En->R T} {pos p p' pos' :Pos}
theorem yl (hh:X.A.handled=none):ZD X (.builtin "sum") (fun vs H Q=>∃ l xs ts is,vs=[.ref l]/\H l=some (.lst xs)/\zE H xs ts/\J6 ts=some is/\Q (.int is.sum) H):=by
 intro pins s σ H vs us Q I rv h
 obtain ⟨l,xs,ts,is,rfl,hl,r,hk,q⟩:=h
 obtain ⟨u,rfl,ru⟩:=j3 rv
 obtain rfl:u=Value.ref l:=ru
 obtain ⟨its,rv,p,_⟩:=zT I (.inl hl) r
 obtain ⟨ps,h1,h2⟩:=yk r rv hk
 have e:its.toArray=intItems ps.toArray:=by rw [h1]; simp [intItems]
 rw [e] at p
 refine sum_intListG hh p fun h' tk t' kp=> ?_
 have e2:preSum (numAt ps.toArray) ps.toArray.size=is.sum:=by
  rw [preSum_eq,List.take_of_length_le (by simp),← h2]
 rw [e2]
 exact ⟨.int is.sum,H,I.kept (t' :=tk) kp,⟨t',rfl⟩,q⟩
theorem kR (hh:X.A.handled=none) (gl:Gl X "sum") (mg:X.mg "sum"=none) (ha:jY X Y a fa) (hs:St1 X a:=by exact st1 rfl):Snd X Y (.Call (.Name "sum" p) [a] [] pos) (ap1 XL fa):=
 UT (yl hh) (fun v t B H Q r sB q=>by
  cases r with
  | @lst l xs ts h r=>
   have q:Po Y rC B H (match J6 ts with | some k=> .ok (.int k.sum) | none=> .bad) Q:=q
   split at q
   ·rename_i k e
    exact ⟨l,xs,ts,k,rfl,h,r,e,po0 sB q rfl (.int _)⟩
   ·exact q.elim
  | _=>exact q.elim) gl mg boot_sum ha hs
end
section
variable {X:Cx} {Y:Fx} {a b:Expr} {fa fb:En->R T} {pos p p' pos' :Pos}
end
section
variable {X:Cx} {Y:Fx} {tg iter elt:Expr} {ifs:List Expr} {scope:Scope} {pos pos' :Pos} {N' :List Str} {k:Nat} {js:List Nat} {fi:En->R (List T)} {tG:TG} {g:T->En->R En} {ft:En->R Bool} {fe:En->R T}
end
section
variable {P:Program} {w:World} {K:PySem.W.Frag} {mg:Str->Option Value} {base:Heap}
end
end PV
namespace PySem.RV
open PySem PySem.Spec PyProof.Rows PySem.Builtin.SmallTypes
theorem ub:Manifest.owners.lookup (String.ofList "desrever".toList.reverse)=some Manifest.sig_reversed:=by kernel_rfl
theorem jd:Slot "reversed" "__next__" "reversed.__next__":=
 .of (owner:="reversed") (n:="__next__") (by rw [typeLookup_type,builtinLookup_eq_fast]; kernel_rfl) (by decide+kernel) (by decide+kernel) (by decide+kernel)
  (by first | exact .inl (by decide+kernel) | exact .inr (by decide+kernel)) (by rw [isSubtype_type]; kernel_rfl)
theorem JY:entryFor table "reversed.__next__"=some Builtin.«reversed.__next__»:=entryFor_of_tree (by kernel_rfl)
theorem W6 (a:Value):argsOk "reversed.__next__" ⟨[a],[]⟩:=by
 unfold argsOk; rw [signature?_of (id:="reversed.__next__") (n:="__txen__".toList) (o:="desrever".toList) (by kernel_rfl) ub]; kernel_rfl
theorem W7:Slot "reversed" "__iter__" "reversed.__iter__":=
 .of (owner:="reversed") (n:="__iter__") (by rw [typeLookup_type,builtinLookup_eq_fast]; kernel_rfl) (by decide+kernel) (by decide+kernel) (by decide+kernel)
  (by first | exact .inl (by decide+kernel) | exact .inr (by decide+kernel)) (by rw [isSubtype_type]; kernel_rfl)
theorem ym (a:Value):argsOk "reversed.__iter__" ⟨[a],[]⟩:=by
 unfold argsOk; rw [signature?_of (id:="reversed.__iter__") (n:="__reti__".toList) (o:="desrever".toList) (by kernel_rfl) ub]; kernel_rfl
theorem uU:entryFor table "reversed.__iter__"=some Builtin.«dict_keyiterator.__iter__»:=
 entryFor_alias (id' :="dict_keyiterator.__iter__") (by kernel_rfl) (by first | rfl | decide+kernel | (unfold String.splitOn; simp+decide [String.splitOnAux])) (by decide+kernel) (by kernel_rfl)
theorem xJ:typeLookup (.type "tuple") "__reversed__"=pure none:=by rw [typeLookup_type,builtinLookup_eq_fast]; kernel_rfl
theorem xK:isSubtype (.type "tuple") (.type "dict")=pure false:=by rw [isSubtype_type]; kernel_rfl
abbrev IsRv (h:Heap) (it:Addr) (v:Value) (i:Int):Prop:=h.get? it=some { cls:= .type "reversed",data:= .fields #[v,rawInt i] }
section
variable {prog:Program} {w:World} {A:Around} {E:Value->Shared->Prop} {s:Shared} {it l:Addr} {xs:Array Value}
theorem WI {v:Value} {i:Int} (x:IsRv s.heap it v i):s.TypeIs (.ref it) "reversed":=⟨_,x,rfl⟩
theorem next_item {i:Nat} {x:Value} {Q:Option Value->Shared->Prop} (hit:IsRv s.heap it (.ref l) (i:Int)) (ht:IsTup s.heap l xs) (hf:(xs.size:Int) < 2 ^ 63) (hx:xs[i]? =some x)
  (hQ:∀ h' tk,IsRv h' it (.ref l) ((i:Int) - 1)->Heap.SameBut it s.heap h' ->Q (some x) { s with heap:=h',toks:=tk }):wpAny (model prog w) A (pyNext (.ref it)) Q E s:=by
 unfold pyNext
 refine wpAny_bind (wpAny_attempt (wpAny_callSpecial?_slot (name:=Str.ofString "__next__") (WI hit) jd (wpAny_call_entry jd (WI hit) JY ?_ (W6 _))))
 unfold Builtin.«reversed.__next__»
 refine wpAny_bind (wpAny_of_eq (a:=(Value.ref it,[])) rfl ?_)
 dsimp only
 refine wpAny_bind (wpAny_field hit rfl (x:= .ref l) rfl ?_)
 refine wpAny_bind (wpAny_field hit rfl (x:=rawInt (i:Int)) rfl ?_)
 show wpAny _ _ (if (i:Int) < 0 then _ else _) _ _ s
 rw [if_neg (by omega)]
 have hi:i < xs.size:=(Array.getElem?_eq_some_iff.mp hx).1
 have hT:=ht.typeIs (s:=s)
 refine wpAny_bind (wpAny_specialOf hT slot_tuple_getitem.lookup ?_)
 show wpAny _ _ (if (some _:Option Value).isNone=true then _ else _) _ _ s
 rw [if_neg (by simp)]
 refine wpAny_bind (wpAny_mkInt ?_)
 refine wpAny_bind (wpAny_attempt (getItem_tuple (s:={ s with toks:=s.toks+1 }) ht (by omega) (by omega) (seqIndex_of (by omega) (by omega)) (by simpa using hx) ?_))
 dsimp only
 refine wpAny_bind (wpAny_field (s:={ s with toks:=s.toks+1 }) hit rfl (x:=rawInt (i:Int)) rfl ?_)
 show wpAny _ _ (setField (.ref it) 1 (rawInt ((i:Int) - 1)) >>= _) _ _ _
 refine wpAny_bind (wpAny_setField_rec (s:={ s with toks:=s.toks+1 }) hit (by simp) fun g1 z1 e1=> ?_)
 exact wpAny_pure ⟨x,rfl,wpAny_pure (hQ g1 _ z1 e1)⟩
theorem next_end {Q:Option Value->Shared->Prop} (hh:A.handled=none) (hit:IsRv s.heap it (.ref l) (-1))
  (hQ:∀ h',Heap.ExtBut it s.heap h' ->Q none { s with heap:=h' }):wpAny (model prog w) A (pyNext (.ref it)) Q E s:=by
 unfold pyNext
 refine wpAny_bind (wpAny_attempt (wpAny_callSpecial?_slot (name:=Str.ofString "__next__") (WI hit) jd (wpAny_call_entry jd (WI hit) JY ?_ (W6 _))))
 unfold Builtin.«reversed.__next__»
 refine wpAny_bind (wpAny_of_eq (a:=(Value.ref it,[])) rfl ?_)
 dsimp only
 refine wpAny_bind (wpAny_field hit rfl (x:= .ref l) rfl ?_)
 refine wpAny_bind (wpAny_field hit rfl (x:=rawInt (-1)) rfl ?_)
 show wpAny _ _ (if (-1:Int) < 0 then _ else _) _ _ s
 rw [if_pos (by decide)]
 refine wpAny_bind (wpAny_rule ?_)
 refine wpAny_bind (show wpAny _ _ (do setField (.ref it) 1 (rawInt (-1)); setField (.ref it) 0 .none) _ _ _ from ?_)
 refine wpAny_bind (wpAny_setField_rec hit (by simp) fun g1 z1 e1=> ?_)
 refine wpAny_setField_rec (s:={ s with heap:=g1 }) z1 (by simp) fun g2 z2 e2=> ?_
 refine wpAny_bind (show wpAny _ _ (newExc (.type "StopIteration") [] >>= fun e=>raiseNew e) _ _ _ from ?_)
 refine wpAny_bind ?_
 simp only [newExc,newTuple]
 refine wpAny_bind (wpAny_newObj_type (wpAny_bind (m:=firstArgMember _ _) (wpAny_of_eq (a:=Value.none) (by first | rfl | (simp only [firstArgMember]; rfl)) (wpAny_newObj_type ?_ (by size_fits)))) (by size_fits))
 simp only [raiseNew]
 refine wpAny_bind (wpAny_handled ?_)
 rw [show A.in1.handled=none from hh]
 refine wpAny_bind (wpAny_pure (wpAny_throw ?_))
 refine wpAny_bind (wpAny_isInstance (T:="StopIteration") (b:=true) ⟨_,Heap.get?_push_size _ rfl,rfl⟩ isSubtype_stop ?_)
 exact wpAny_pure (hQ _ (((e1.extBut.trans e2.extBut).push _).push _))
theorem iter_rv {v:Value} {i:Int} {Q:Value->Shared->Prop} (hit:IsRv s.heap it v i) (h:Q (.ref it) s):wpAny (model prog w) A (pyIter (.ref it)) Q E s:=by
 refine wpAny_pyIter_slot (WI hit) W7 (wpAny_call_entry W7 (WI hit) uU ?_ (ym _))
 show wpAny _ _ (ret (.ref it)) _ _ s
 exact wpAny_pure ⟨_,rfl,"reversed",_,WI hit,jd.lookup,h⟩
theorem Q4:mroOf (.type "reversed")=pure [.type "reversed", .type "object"]:=by rw [mroOf_type]; kernel_rfl
theorem xL:typeLookup (.type "reversed") "__new__"=pure (some (.builtin "reversed.__new__")):=by rw [typeLookup_type,builtinLookup_eq_fast]; kernel_rfl
theorem vK:Bind.madeBy (.type "reversed")=pure (some "reversed.__new__"):=madeBy_type Q4 xL (by decide+kernel)
theorem xM:isSubtype (.type "reversed") (.type "reversed")=pure true:=by rw [isSubtype_type]; kernel_rfl
theorem xN (a:Value):newClass "reversed" ⟨[.type "reversed",a],[]⟩=pure (.type "reversed",[a]):=by
 unfold newClass
 simp only [isType,xM,pure_bind,Bool.not_true,Bool.false_eq_true,if_false]
theorem yn:entryFor table "reversed.__new__"=some Builtin.«reversed.__new__»:=entryFor_of_tree (by kernel_rfl)
theorem qd {Q:Fin->Shared->Prop} (ht:IsTup s.heap l xs) (hf:(xs.size:Int) < 2 ^ 63)
  (h:∀ tk,Q (.done (.ret (.ref s.heap.objs.size))) { s with heap:=s.heap.push { cls:= .type "reversed",data:= .fields #[.ref l,rawInt ((xs.size:Int) - 1)] },toks:=tk }):
  wpAny (model prog w) A (Builtin.«reversed.__new__» ⟨[.type "reversed", .ref l],[]⟩) Q E s:=by
 have hT:=ht.typeIs (s:=s)
 unfold Builtin.«reversed.__new__»
 refine wpAny_bind (wpAny_of_eq (xN _) ?_)
 try dsimp only
 refine wpAny_bind (wpAny_of_eq (a:=()) (by first | rfl | kernel_rfl) ?_)
 refine wpAny_bind (wpAny_of_eq (a:=()) (by first | rfl | kernel_rfl) ?_)
 try dsimp only
 refine wpAny_bind (wpAny_specialOf hT xJ ?_)
 try dsimp only
 refine wpAny_bind (m:=(do
   if ← isInstance (.ref l) (.type "dict") then return false
   match ← specialOf (.ref l) "__getitem__" with
   | none=>return false
   | some (.builtin id)=>
    if ["tuple.__getitem__","str.__getitem__","bytes.__getitem__","bytearray.__getitem__","memoryview.__getitem__","numpy.ndarray.__getitem__","sqlite3.Row.__getitem__"].contains id then return true
    if id == "sqlite3.Blob.__getitem__" then return false
    unsupported "reversed.__new__:is-it-a-sequence"
   | some _=>return true)) ?_
 refine wpAny_bind (wpAny_isInstance hT xK ?_); rw [if_neg (by simp)]
 refine wpAny_bind (wpAny_specialOf hT slot_tuple_getitem.lookup ?_)
 dsimp only
 rw [if_pos (by decide)]
 refine wpAny_pure ?_
 rw [if_neg (by simp)]
 refine wpAny_bind (len_tuple ht hf ?_)
 refine wpAny_bind (wpAny_of_eq (a:=some (xs.size:Int)) rfl ?_)
 dsimp only
 refine wpAny_bind (show wpAny _ _ (newObj (.type "reversed") (.fields #[.ref l,rawInt ((xs.size:Int) - 1)])) _ _ _ from ?_)
 exact wpAny_newObj_type (wpAny_pure (h _)) (by size_fits)
theorem yo:Slot "reversed" "__init__" "object.__init__":=
 .of (owner:="object") (n:="__init__") (by rw [typeLookup_type,builtinLookup_eq_fast]; kernel_rfl) (by decide+kernel) (by decide+kernel) (by decide+kernel)
  (by first | exact .inl (by decide+kernel) | exact .inr (by decide+kernel)) (by rw [isSubtype_type]; kernel_rfl)
theorem yq:TypeCalled "reversed" "reversed.__new__" "object.__init__":=
 ⟨by decide+kernel,by decide+kernel,⟨_,_,Q4⟩,vK,by decide+kernel,by rw [isSubtype_type]; kernel_rfl,yo⟩
theorem qe (a:Value):checkTypeCall "reversed" ⟨[a],[]⟩=pure ():=by kernel_rfl
theorem qf (a:Value):checkBuiltinCall "reversed.__new__" ⟨[.type "reversed",a],[]⟩=pure ():=by kernel_rfl
theorem call_rvT {Q:Value->Shared->Prop} (ht:IsTup s.heap l xs) (hf:(xs.size:Int) < 2 ^ 63)
  (h:∀ tk,Q (.ref s.heap.objs.size) { s with heap:=s.heap.push { cls:= .type "reversed",data:= .fields #[.ref l,rawInt ((xs.size:Int) - 1)] },toks:=tk }):wpAny (model prog w) A (call (.type "reversed") [.ref l]) Q E s:=by
 refine callType_new (S:=fun _ R s=>(∃ xs,IsTup s.heap l xs/\(xs.size:Int) < 2 ^ 63/\∀ tk,R (.ok (.ret (.ref s.heap.objs.size))) { s with heap:=s.heap.push { cls:= .type "reversed",data:= .fields #[.ref l,rawInt ((xs.size:Int) - 1)] },toks:=tk })) yq (by decide) (qe _) (qf _) (fun obj=>PySem.F.args_object_init_2 obj _) yn (.of_wp fun prog w A R s h=> ?_) ⟨xs,ht,hf,fun tk=> ?_⟩
 ·obtain ⟨xs,h1,h2,h3⟩:=h
  exact qd h1 h2 fun tk=>⟨_,rfl,h3 tk⟩
 ·exact ⟨⟨_,Heap.get?_push_size _ rfl,rfl⟩,h tk⟩
end
end PySem.RV
namespace PySem.RV
open PySem PySem.Spec PyProof.Rows
theorem qg:typeLookup (.type "list_reverseiterator") "__len__"=pure none:=by rw [typeLookup_type,builtinLookup_eq_fast]; kernel_rfl
theorem vL:typeLookup (.type "list_reverseiterator") "__length_hint__"=pure (some (.builtin "list_reverseiterator.__length_hint__")):=by rw [typeLookup_type,builtinLookup_eq_fast]; kernel_rfl
section
variable {prog:Program} {w:World} {A:Around} {E:Value->Shared->Prop} {s:Shared} {I:Addr} {fp wr:List Addr} {G:Array GenState->Array GenState->Prop} {n:Nat} {P:Nat->Value->Prop} {St:Nat->Shared->Prop}
theorem uV {Q:List Value->Shared->Prop} (W:WalksS prog w A.in1 I fp wr G n P St) (hT:∀ i s,St i s->s.TypeIs (.ref I) "list_reverseiterator") (hst:St 0 s) (hfp:∀ b∈fp,b < s.heap.objs.size) (hI:I∈fp)
  (hQ:∀ s' acc,Moved wr G s s' ->ItemsOf P acc n->Q acc.toList s') (hn:n<=sizeLine):wpAny (model prog w) A (collect (.ref I)) Q E s:=by
 have nf:s.heap.objs.size ∉ fp:=fun z=>Nat.lt_irrefl _ (hfp _ z)
 have nI:s.heap.objs.size ≠ I:=fun z=>nf (z ▸ hI)
 unfold collect
 refine wpAny_bind (wpAny_runValue (codeAny_builtin F.entry_proto_collect ?_))
 rw [Around.under_plainId F.plain_proto_collect _]
 refine (show wpAny _ A.in1 (newList [] >>= fun l=>again (.builtin "list.__iadd__" ⟨[l, .ref I],[]⟩)) _ _ s from ?_)
 refine wpAny_bind (wpAny_newObj_type (wpAny_pure ⟨plainId_quiet F.plain_list_iadd _,codeAny_builtin F.entry_list_iadd ?_⟩))
 rw [Around.under_plainId F.plain_list_iadd _]
 have g0:=W.frame 0 s (s.heap.push { cls:= .type "list",data:= .seq ([]:List Value).toArray }) s.toks hst (Nat.le_refl _) fun b _ o e=>Heap.get?_push_of_some _ e
 have g1:(s.heap.push { cls:= .type "list",data:= .seq ([]:List Value).toArray }).get? s.heap.objs.size=some { cls:= .type "list",data:= .seq ([]:List Value).toArray }:=Heap.get?_push_size _ rfl
 have g2:Builtin.List.listSameRef (.ref s.heap.objs.size) (.ref I)=false:=by simp [Builtin.List.listSameRef,nI]
 refine (show wpAny _ A.in1 (Builtin.List.listExtendWith (.ref s.heap.objs.size) (.ref I) (.ref s.heap.objs.size)) _ _ _ from ?_)
 unfold Builtin.List.listExtendWith
 refine wpAny_bind (wpAny_typeOf (hT 0 _ g0) ?_)
 rw [if_neg (by rw [g2]; decide)]
 refine wpAny_bind (W.self 0 _ _ _ g0 (wpAny_bind (wpAny_holding ?_)))
 unfold Builtin.List.listLengthHint
 refine wpAny_bind (wpAny_specialOf (hT 0 _ g0) qg ?_)
 refine (show wpAny _ A.in1 (specialOf (Value.ref I) (Str.ofString "__length_hint__") >>= _) _ _ _ from ?_)
 refine wpAny_bind (wpAny_specialOf (hT 0 _ g0) vL ?_)
 generalize hid:("list_reverseiterator.__length_hint__":String)=id0
 wp_delta
 rw [show splitId id0=some ("list_reverseiterator","__length_hint__") from by subst hid; decide+kernel]
 subst hid
 refine wpAny_bind (wpAny_isInstance (b:=true) (hT 0 _ g0) (by rw [isSubtype_type]; kernel_rfl) ?_)
 refine wpAny_pure ?_
 rw [if_neg (by decide)]
 refine wpAny_pure ⟨plainId_quiet F.plain_extend_loop _,codeAny_extend_loopS W hn _ nf _ n 0 _ _ _ rfl (Nat.zero_le _) g0 g1 (ItemsOf.nil P) fun s' acc' c' hm hS' hacc=> ?_⟩
 refine (show wpAny _ A (load s.heap.objs.size >>= _) _ _ s' from ?_)
 exact wpAny_bind (wpAny_load hS' (wpAny_pure (hQ s' acc' (Moved.drop_new (o:={ cls:= .type "list",data:= .seq ([]:List Value).toArray }) (tk:=s.toks) hm (Nat.le_refl _)) hacc)))
theorem xO {Q₁:Value->Shared->Prop} (W:WalksS prog w A.in1.in1 I fp wr G n P St) (hT:∀ i s,St i s->s.TypeIs (.ref I) "list_reverseiterator") (hst:St 0 s) (hfp:∀ b∈fp,b < s.heap.objs.size) (hI:I∈fp)
  (h:∀ s' acc,Moved wr G s s' ->ItemsOf P acc n->Q₁ (.ref s'.heap.objs.size) { s' with heap:=s'.heap.push { cls:= .type "tuple",data:= .seq acc } }) (hsz:n<=sizeLine):
  codeAny (model prog w) A (.call (.builtin "tuple.__new__") ⟨[.type "tuple", .ref I],[]⟩) (wants Q₁ E) s:=by
 refine codeAny_of_tree ?_
 refine (show wpAny _ A.in1 (do checkBuiltinCall "tuple.__new__" ⟨[.type "tuple", .ref I],[]⟩; again (.builtin "tuple.__new__" ⟨[.type "tuple", .ref I],[]⟩)) _ _ s from ?_)
 refine wpAny_bind (wpAny_of_eq (F.newCall_tuple_1 _) (wpAny_pure ⟨plainId_quiet F.plain_tuple_new _,codeAny_builtin F.entry_tuple_new ?_⟩))
 rw [Around.under_plainId F.plain_tuple_new _]
 have hsub:=sub_tuple_self
 have hinit:=init_tuple_lookup
 have hmh:=madeHere_tuple
 have ty:=hT 0 s hst
 wp_walk using wpAny_typeOf ty,uV (hn:=hsz) W hT hst hfp hI
 intro s' acc hm hacc
 have e:acc.toList.toArray=acc:=by simp
 refine (show wpAny _ _ (Builtin.Tuple.tupleExact acc.toList.toArray >>= fun v=>ret v) _ _ _ from ?_)
 unfold Builtin.Tuple.tupleExact
 refine wpAny_bind (wpAny_newObj_type (wpAny_pure ?_) (by rw [e]; show acc.size<=sizeLine; rw [hacc.1]; exact hsz))
 rw [e]
 exact h s' acc hm hacc
theorem tuple_lr {Q:Value->Shared->Prop} (W:WalksS prog w A.in1.in1.in1 I fp wr G n P St) (hT:∀ i s,St i s->s.TypeIs (.ref I) "list_reverseiterator") (hst:St 0 s) (hfp:∀ b∈fp,b < s.heap.objs.size) (hI:I∈fp)
  (hQ:∀ s' acc,Moved wr G s s' ->ItemsOf P acc n->Q (.ref s'.heap.objs.size) { s' with heap:=s'.heap.push { cls:= .type "tuple",data:= .seq acc } }) (hsz:n<=sizeLine):
  wpAny (model prog w) A (call (.type "tuple") [.ref I]) Q E s:=
 callType_codes (Q₁:=fun obj s₁=>s₁.TypeIs obj "tuple"/\Q obj s₁) F.called_tuple (F.typeCall_tuple_1 _) F.entry_object_init
  (xO (hsz:=hsz) W hT hst hfp hI fun s' acc hm hacc=>⟨⟨_,Heap.get?_push_size _ rfl,rfl⟩,hQ s' acc hm hacc⟩) fun obj s₁ h₁=>
   ⟨h₁.1,F.args_object_init_2 obj _,object_init_meets F.called_tuple.init.lookup F.called_tuple.made (by decide) prog w A.in1 _ s₁ ⟨h₁.1,rfl,h₁.2⟩⟩
end
end PySem.RV
namespace PV
open PySem PySem.Spec PyProof.Rows L2
def kS (K:PySem.W.Frag) (a:Addr) (n:Nat):It:=
 ⟨fun i H=>∃ xs x,SqT K H a xs/\xs.length=n/\xs.reverse[i]? =some x,fun i H x H' =>H' =H/\∀ xs,SqT K H a xs->xs.reverse[i]? =some x,fun i H=>∃ xs,SqT K H a xs/\xs.length=n/\n<=i⟩
def kT (K:PySem.W.Frag) (a:Addr) (n:Nat):It:=
 ⟨fun i H=>∃ xs x,SqL K H a xs/\xs.length=n/\xs.reverse[i]? =some x,fun i H x H' =>H' =H/\∀ xs,SqL K H a xs->xs.reverse[i]? =some x,fun i H=>∃ xs,SqL K H a xs/\xs.length=n/\n<=i⟩
theorem Q5 {α:Type} {xs:List α} {i:Nat} {x:α} (h:xs.reverse[i]? =some x):i < xs.length/\xs[xs.length - 1 - i]? =some x:=by
 have hi:=(List.getElem?_eq_some_iff.mp h).1
 rw [List.length_reverse] at hi
 rw [List.getElem?_reverse hi] at h
 exact ⟨hi,h⟩
theorem qh {P:Program} {w:World} {K:PySem.W.Frag} {tg:Expr} (a it:Addr) (n:Nat):Uc P w K tg (kS K a n) [it] it (fun i h=>i<=n/\RV.IsRv h it (.ref a) ((n:Int) - 1 - (i:Int))) where
 mem:=by simp
 obj:=fun i h st b hb=>by
  have e:b=it:=by simpa using hb
  subst e
  exact ⟨_,st.2,fun v z=>nomatch z⟩
 keep:=fun i h h' st k=>⟨st.1,k it (by simp) _ st.2⟩
 item:=by
  intro X hP hw hK hc i pins s σ H E I hf st hg
  subst hP hw hK
  obtain ⟨xs,x,hq,hn,hx⟩:=hg
  obtain ⟨its,rv,p,hz⟩:=I.tuple hq
  obtain ⟨hi,hx'⟩:=Q5 hx
  obtain ⟨u,hu,ru⟩:=rv.get hx'
  obtain ⟨f0,f1,f2,f3,f4,f5⟩:=hf it (by simp)
  have hl:=rv.length
  have e:(n:Int) - 1 - (i:Int)=((xs.length - 1 - i:Nat):Int):=by omega
  have hit:=st.2
  rw [e] at hit
  have hb:(its.toArray.size:Int) < 2 ^ 63:=by
   rw [sizeLine_eq] at hz
   simp; omega
  refine RV.next_item hit p hb (x:=u) (by simpa using hu) fun h' tk st' sb=> ?_
  have I1:Inv X pins σ H { s with heap:=h',toks:=tk }:=I.turned (t' :=tk) (fun b o hb e=>(sb.2 b hb).trans e) f0 f1 f3 f4 f5
  have e2:((xs.length - 1 - i:Nat):Int) - 1=(n:Int) - 1 - ((i+1:Nat):Int):=by omega
  rw [e2] at st'
  exact ⟨u,rfl,uF (s:={ s with heap:=h',toks:=tk }) st' rfl rfl (by decide) ⟨x,H,I1,ru,⟨rfl,fun ys hy=>by rw [I.tuple_inj hy hq]; exact hx⟩,⟨by omega,st'⟩,fun b hb=>(hf b hb).1⟩⟩
 done:=by
  intro X hP hw hK hc i pins s σ H E I hf st hg
  subst hP hw hK
  obtain ⟨xs,hq,hn,hx⟩:=hg
  obtain ⟨f0,f1,f2,f3,f4,f5⟩:=hf it (by simp)
  have hit:=st.2
  have h1:=st.1
  rw [show (n:Int) - 1 - (i:Int)= -1 by omega] at hit
  exact RV.next_end (I.ok.hd hc) hit fun h' eb=>⟨rfl,I.turned (t' :=s.toks) (fun b o hb e=>eb b o hb e) f0 f1 f3 f4 f5⟩
 self:=fun _ _ _ _ _ st h=>RV.iter_rv st.2 h
theorem qi {P:Program} {w:World} {K:PySem.W.Frag} {tg:Expr} (a it:Addr) (n:Nat):Uc P w K tg (kT K a n) [it] it (fun i h=>i<=n/\h.IsRevIter it a ((n:Int) - 1 - (i:Int))) where
 mem:=by simp
 obj:=fun i h st b hb=>by
  have e:b=it:=by simpa using hb
  subst e
  obtain ⟨o,e,c,d⟩:=st.2
  exact ⟨o,e,fun v z=>by rw [d] at z; cases z⟩
 keep:=fun i h h' st k=>⟨st.1,st.2.at fun o e=>k it (by simp) o e⟩
 item:=by
  intro X hP hw hK hc i pins s σ H E I hf st hg
  subst hP hw hK
  obtain ⟨xs,x,hq,hn,hx⟩:=hg
  obtain ⟨its,rv,p,hz⟩:=I.list hq
  obtain ⟨hi,hx'⟩:=Q5 hx
  obtain ⟨u,hu,ru⟩:=rv.get hx'
  obtain ⟨f0,f1,f2,f3,f4,f5⟩:=hf it (by simp)
  have e:(n:Int) - 1 - (i:Int)=((xs.length - 1 - i:Nat):Int):=by omega
  have hit:=st.2
  rw [e] at hit
  refine wpAny_pyNext_rev_item hit p.isList (x:=u) (by simpa using hu) fun h' st' sb=> ?_
  have I1:Inv X pins σ H { s with heap:=h' }:=I.turned (t' :=s.toks) (fun b o hb e=>(sb.2 b hb).trans e) f0 f1 f3 f4 f5
  have e2:((xs.length - 1 - i:Nat):Int) - 1=(n:Int) - 1 - ((i+1:Nat):Int):=by omega
  rw [e2] at st'
  obtain ⟨o,e,c,d⟩:=id st'
  exact ⟨u,rfl,uF (s:={ s with heap:=h' }) e c d (by decide) ⟨x,H,I1,ru,⟨rfl,fun ys hy=>by rw [I.list_inj hy hq]; exact hx⟩,⟨by omega,st'⟩,fun b hb=>(hf b hb).1⟩⟩
 done:=by
  intro X hP hw hK hc i pins s σ H E I hf st hg
  subst hP hw hK
  obtain ⟨xs,hq,hn,hx⟩:=hg
  obtain ⟨f0,f1,f2,f3,f4,f5⟩:=hf it (by simp)
  have hit:=st.2
  have h1:=st.1
  rw [show (n:Int) - 1 - (i:Int)= -1 by omega] at hit
  exact wpAny_pyNext_rev_end (I.ok.hd hc) hit fun h' eb=>⟨rfl,I.turned (t' :=s.toks) (fun b o hb e=>eb b o hb e) f0 f1 f3 f4 f5⟩
 self:=fun _ _ _ _ _ st h=>wpAny_pyIter_revIter st.2 h
theorem zE.rev {H:Hp}:∀ {vs:List V} {ts:List T},zE H vs ts->zE H vs.reverse ts.reverse
 | _,_, .nil=> .nil
 | _,_, .cons r t=>by rw [List.reverse_cons,List.reverse_cons]; exact (zE.rev t).append (.cons r .nil)
theorem xP {K:PySem.W.Frag} {B1 H1:Hp} {a:Addr} {xs:List V} {ts:List T} (h:B1 a=some (.tup xs)) (r:zE B1 xs ts):rI B1 H1 (kS K a xs.length) ts.reverse:=fun B2 H2 s1 s2=>by
 have h2:=s2 _ _ (s1 _ _ h)
 have hr:=r.rev
 refine ⟨fun i hi=> ?_,fun i t x H3 e y=> ?_,fun i hi=>⟨xs,SqT.of h2,rfl,by rw [List.length_reverse] at hi; rw [r.length]; exact hi⟩⟩
 ·obtain ⟨v,e,_⟩:=hr.get (List.getElem?_eq_getElem hi)
  exact ⟨xs,v,SqT.of h2,rfl,e⟩
 ·obtain ⟨rfl,y⟩:=y
  obtain ⟨v,e1,r1⟩:=hr.get e
  have:=y xs (SqT.of h2)
  rw [e1] at this; cases this
  refine ⟨zx.refl _, ?_⟩
  rw [zR.self B2 _ s2]
  exact r1.mono s1
theorem xQ {K:PySem.W.Frag} {B1 H1:Hp} {a:Addr} {xs:List V} {ts:List T} (h:B1 a=some (.lst xs)) (r:zE B1 xs ts):rI B1 H1 (kT K a xs.length) ts.reverse:=fun B2 H2 s1 s2=>by
 have h2:=s2 _ _ (s1 _ _ h)
 have hr:=r.rev
 refine ⟨fun i hi=> ?_,fun i t x H3 e y=> ?_,fun i hi=>⟨xs,SqL.of h2,rfl,by rw [List.length_reverse] at hi; rw [r.length]; exact hi⟩⟩
 ·obtain ⟨v,e,_⟩:=hr.get (List.getElem?_eq_getElem hi)
  exact ⟨xs,v,SqL.of h2,rfl,e⟩
 ·obtain ⟨rfl,y⟩:=y
  obtain ⟨v,e1,r1⟩:=hr.get e
  have:=y xs (SqL.of h2)
  rw [e1] at this; cases this
  refine ⟨zx.refl _, ?_⟩
  rw [zR.self B2 _ s2]
  exact r1.mono s1
def kU (fa:En->R T):En->R (List T):=fun ρ=>(fa ρ).bind fun t=>(jG t).bind fun xs=> .ok xs.reverse
def qj:T->R T
 | .lst xs=>if xs.length<=bnd then .ok (.tup xs.reverse) else .bad
 | _=> .bad
section
variable {X:Cx} {Y:Fx} {a b tg:Expr} {fa fb:En->R T} {pos p p' pos' :Pos}
theorem xR {ta:TA} (hg:Gl X "reversed") (hm:X.mg "reversed"=none) (ha:PA X [a] ta) (hs:St1 X a:=by exact st1 rfl):
  PI X tg (.Call (.Name "reversed" p) [a] [] pos) (fun σ H R=>ta σ H fun vs H1=>∃ l xs,vs=[.ref l]/\((H1 l=some (.lst xs)/\R (kT X.K l xs.length) H1)\/(H1 l=some (.tup xs)/\R (kS X.K l xs.length) H1))):=by
 intro pins s σ H R I h
 refine Call_ (j7 I hg hm boot_reversed (PyProof.Rows.callWith_type1 (thn (ha pos pins s σ H _ I h) fun us s1 ⟨vs,H1,I1,r1,q1⟩=> ?_) hs rfl))
 obtain ⟨l,xs,e,q⟩:=q1
 subst e
 obtain ⟨u,rfl,ru⟩:=j3 r1
 obtain rfl:u=Value.ref l:=ru
 have ok:∀ b∈[s1.heap.objs.size],wM X pins H1 b:=fun b hb=>by
  have e:b=s1.heap.objs.size:=by simpa using hb
  subst e
  exact I1.fpOk (Nat.le_refl _) (I1.hok.fresh (Nat.le_refl _))
 rcases q with ⟨hl,q⟩ | ⟨hl,q⟩
 ·obtain ⟨its,rv,p,hz⟩:=I1.list (SqL.of hl)
  have e:((its.toArray.size:Nat):Int) - 1=(xs.length:Int) - 1 - ((0:Nat):Int):=by have:=rv.length; simp; omega
  refine call_reversed_list p.isList ?_
  rw [e]
  have st:(s1.heap.push (revObj l ((xs.length:Int) - 1 - ((0:Nat):Int)))).IsRevIter s1.heap.objs.size l ((xs.length:Int) - 1 - ((0:Nat):Int)):=⟨_,Heap.get?_push_size _ rfl,rfl,rfl⟩
  refine wpAny_pyIter_revIter (s:={ s1 with heap:=s1.heap.push (revObj l ((xs.length:Int) - 1 - ((0:Nat):Int))) }) st ?_
  exact ⟨s1.heap.objs.size,[s1.heap.objs.size],_,_,H1,rfl,I1.kept (t' :=s1.toks) (fun b o e=>Heap.get?_push_of_some _ e),qi l _ xs.length,⟨Nat.zero_le _,st⟩,ok,q⟩
 ·obtain ⟨its,rv,p,hz⟩:=I1.tuple (SqT.of hl)
  have hlen:=rv.length
  have e:((its.toArray.size:Nat):Int) - 1=(xs.length:Int) - 1 - ((0:Nat):Int):=by simp; omega
  refine RV.call_rvT p (by rw [sizeLine_eq] at hz; simp; omega) fun tk=> ?_
  rw [e]
  refine RV.iter_rv (s:={ s1 with heap:=_,toks:=tk }) (Heap.get?_push_size _ rfl) ?_
  exact ⟨s1.heap.objs.size,[s1.heap.objs.size],_,_,H1,rfl,I1.kept (t' :=tk) (fun b o e=>Heap.get?_push_of_some _ e),qh l _ xs.length,⟨Nat.zero_le _,Heap.get?_push_size _ rfl⟩,ok,q⟩
theorem kW (hg:Gl X "reversed") (hm:X.mg "reversed"=none) (ha:Snd X Y a fa) (hs:St1 X a:=by exact st1 rfl):Uf X Y tg (.Call (.Name "reversed" p) [a] [] pos) (kU fa):= .mk fun ρ=>
 PI.imp (xR hg hm (zB (ha ρ) Zi hs) hs) fun σ H R ⟨B,I,q⟩=>step I q fun t v H1 _ s1 r1 I1 q1=>by
  cases r1 with
  | @tup l xs ts h r=>exact ⟨l,xs,rfl, .inr ⟨I1.sB _ _ h,ZQ I1 (show Po Y rI _ H1 (.ok ts.reverse) R from q1) (xP h r)⟩⟩
  | @lst l xs ts h r=>exact ⟨l,xs,rfl, .inl ⟨I1.sB _ _ h,ZQ I1 (show Po Y rI _ H1 (.ok ts.reverse) R from q1) (xQ h r)⟩⟩
  | _=>exact q1.elim
theorem uc:∀ {xs ys:List V} {us ws:List Value},Vals xs us->Vals ys ws->Vals (xs++ys) (us++ws)
 | _,_,_,_, .nil,q=>q
 | _,_,_,_, .cons r t,q=> .cons r (uc t q)
theorem ud:∀ {xs:List V} {us:List Value},Vals xs us->Vals xs.reverse us.reverse
 | _,_, .nil=> .nil
 | _,_, .cons r t=>by rw [List.reverse_cons,List.reverse_cons]; exact uc (ud t) (.cons r .nil)
theorem vM {its:List Value} {acc:Array Value} (h:ItemsOf (fun i v=>its.toArray[its.toArray.size - 1 - i]? =some v) acc its.toArray.size):acc.toList=its.reverse:=by
 have h1:acc.size=its.length:=by
  have:=h.1
  simpa using this
 have h2:=h.2
 refine List.ext_getElem? fun i=> ?_
 by_cases hi:i < its.length
 ·have hlt:i < acc.toList.length:=by simp; omega
  have e:=List.getElem?_eq_getElem hlt
  have:=h2 i _ (by rw [← Array.getElem?_toList]; exact e)
  rw [List.getElem?_reverse hi,e,← this]
  simp
 ·rw [List.getElem?_eq_none (by simp; omega),List.getElem?_eq_none (by simp; omega)]
theorem xS (hh:X.A.handled=none) (gl:Gl X "tuple") (mg:X.mg "tuple"=none) (gl' :Gl X "reversed") (mg' :X.mg "reversed"=none) (ha:Snd X Y a fa) (hs:St1 X a:=by exact st1 rfl) (hs' :St1 X (.Call (.Name "reversed" p') [a] [] pos'):=by exact st1 rfl):
  Snd X Y (.Call (.Name "tuple" p) [.Call (.Name "reversed" p') [a] [] pos'] [] pos) (ap1 qj fa):= .mk fun ρ=>by
 intro pins s σ H Q I ⟨B,J,q⟩
 have hq:tS Y rC fa ρ σ H (fun v H1=>∃ l xs,v= .ref l/\H1 l=some (.lst xs)/\xs.length<=sizeLine/\∀ t,H1 t=none->Q (.ref t) (upd H1 t (.tup xs.reverse))):=by
  refine step J q fun t v H1 _ s1 r1 I1 q1=> ?_
  cases r1 with
  | @lst l xs ts h r=>
   have q1:Po Y rC _ H1 (if ts.length<=bnd then .ok (.tup ts.reverse) else .bad) Q:=q1
   split at q1
   ·rename_i hb
    exact ⟨l,xs,rfl,I1.sB _ _ h,by rw [r.length]; exact ZM hb,fun t ht=>xi I1.sB q1 rfl r.rev ht⟩
   ·exact q1.elim
  | _=>exact q1.elim
 refine wpAny_Call_Name_kw (j7 I gl mg PyProof.Rows.Boot.«tuple» (PyProof.Rows.callWith_type1 (e:= .Call (.Name "reversed" p') [a] [] pos') (rest:=[]) ?_ hs' rfl))
 rw [hs']
 show wpAny _ _ (spliced [(false,eval (.Call (.Name "reversed" p') [a] [] pos') X.env)]) _ _ s
 refine Calls.spliced_cons (wpAny_Call_Name_kw (j7 I gl' mg' boot_reversed (PyProof.Rows.callWith_type1 (e:=a) (rest:=[]) ?_ hs rfl)))
 refine thn ((zB (ha ρ) Zi hs) pos' pins s σ H (fun vs H1=>∃ l xs,vs=[.ref l]/\H1 l=some (.lst xs)/\xs.length<=sizeLine/\∀ t,H1 t=none->Q (.ref t) (upd H1 t (.tup xs.reverse))) I ?_) fun us s1 ⟨vs,H1,I1,r1,l,xs,e,hl,hz,q1⟩=> ?_
 ·obtain ⟨B',J',q'⟩:=hq
  refine ⟨B',J', ?_⟩
  revert q'
  cases fa ρ with
  | bad=>exact fun q' =>q'
  | ex c=>exact fun q' =>q'
  | ok t=>
   intro q' v H1 s1 r1
   obtain ⟨l,xs,rfl,h⟩:=q' v H1 s1 r1
   exact ⟨l,xs,rfl,h⟩
 subst e
 obtain ⟨u,rfl,ru⟩:=j3 r1
 obtain rfl:u=Value.ref l:=ru
 obtain ⟨its,rv,pl,_⟩:=I1.list (SqL.of hl)
 have hlt:l < s1.heap.objs.size:=I1.hok.lt hl
 refine call_reversed_list pl.isList (Calls.spliced_nil ?_)
 have e0:((its.toArray.size:Nat):Int) - 1 - ((0:Nat):Int)=((its.toArray.size:Nat):Int) - 1:=by omega
 refine RV.tuple_lr (s:={ s1 with heap:=s1.heap.push (revObj l ((its.toArray.size:Int) - 1)) }) (Walks.listRev (A:=X.A.in1.in1.in1) hh s1.heap.objs.size l (Nat.ne_of_lt hlt) its.toArray).toS (fun i s st=>st.2.1.typeIs) ⟨Nat.zero_le _,⟨_,Heap.get?_push_size _ rfl,rfl,by rw [e0]; rfl⟩,pl.isList.push _⟩ (fun b hb=> ?_) (by simp) (fun s' acc hm hacc=> ?_) (by rw [List.size_toArray,← rv.length]; exact hz)
 ·have hb:b=s1.heap.objs.size\/b=l:=by simpa using hb
  rcases hb with rfl | rfl
  ·rw [Heap.size_push]; exact Nat.lt_succ_self _
  ·rw [Heap.size_push]; exact Nat.lt_succ_of_lt hlt
 obtain ⟨h',g',d',tk',os'⟩:=s'
 have e1:g' =s1.gens:=hm.gens
 have e2:d' =s1.drawn:=hm.drawn
 have e3:os' =s1.os:=hm.os
 subst e1 e2 e3
 have kp:∀ b o,s1.heap.get? b=some o->h'.get? b=some o:=fun b o e=>hm.heap b o (fun z=>by
  have z:b=s1.heap.objs.size:=by simpa using z
  have:=Heap.lt_size e
  rw [z] at this
  exact Nat.lt_irrefl _ this) (Heap.get?_push_of_some _ e)
 have I2:Inv X pins σ H1 { s1 with heap:=h',toks:=tk' }:=I1.kept (t' :=tk') kp
 have ea:acc=its.reverse.toArray:=by rw [← vM hacc]
 rw [ea]
 refine ⟨.ref h'.objs.size,upd H1 h'.objs.size (.tup xs.reverse),I2.laid (t' :=tk') (fun b u e=>Heap.get?_push_of_some _ e) (Nat.le_refl _) ⟨by rw [List.length_reverse]; exact hz,its.reverse,ud rv,⟨_,Heap.get?_push_size _ rfl,rfl,_,rfl⟩, .inr ⟨_,Heap.get?_push_size _ rfl,rfl⟩⟩,rfl,q1 _ (I2.hok.fresh (Nat.le_refl _))⟩
end
section
variable {X:Cx} {Y:Fx} {a b:Expr} {fa fb:En->R T} {pos p p' pos' pt:Pos} {elts:List Expr} {kk:Nat}
end
section
variable {X:Cx} {Y:Fx} {a b:Expr} {fa fb:En->R T} {pos p p' pos' pt:Pos} {elts:List Expr} {kk:Nat}
end
end PV
namespace PySem.RV
open PySem PySem.Spec PyProof.Rows PySem.Builtin.SmallTypes
theorem draws_tup {prog:Program} {w:World} {A:Around} (hh:A.handled=none) (it l:Addr) (hne:l ≠ it) (items:Array Value):Draws prog w A it [it,l] items.size (fun i v=>items[i]? =some v) (fun i h=>h.IsTupleIter it l i/\h.IsTuple l items) where
 live:=fun i h st=>(ZG.nx_tup hne items).there st it (.head _)
 frame:=fun i h h' st hk=>(ZG.nx_tup hne items).keep st hk
 item:=fun i s Q E hi st hQ=>ZG.tup_item st.1 st.2 (x:=items[i]) (by simp [hi]) fun h' a b=>hQ _ h' s.toks (by simp [hi]) ⟨a,st.2.extBut b.extBut hne⟩ b
 done:=fun s Q E st hE=>ZG.tup_stop hh st.1 st.2 (by simp) hE
abbrev eOb (i:Addr):Obj:={ cls:= .type "enumerate",data:= .fields #[.none, .bool false, .ref i,rawInt 0, .none, .none] }
theorem yr (l:Addr) (items:Array Value) (n:Nat) (dct:Option Addr) (sl:Array (Option Value)):
  Meets (Builtin.«enumerate.__new__» ⟨[.type "enumerate", .ref l],[]⟩) (fun _ R s=>s.heap.get? l=some { cls:= .type "tuple",dict:=dct,data:= .seq items n,slots:=sl }/\
   R (.ok (.ret (.ref (s.heap.push (ZG.oT l)).objs.size))) { s with heap:=(s.heap.push (ZG.oT l)).push (eOb s.heap.objs.size) }):=
 .of_wp fun prog w A R s h=>by
  obtain ⟨hp,g,d,tk,os⟩:=s
  obtain ⟨hl,h⟩:=h
  have hsub:=sub_enumerate
  have hL:Heap.IsTuple (Shared.heap ⟨hp,g,d,tk,os⟩) l items:=⟨_,hl,rfl,n,rfl⟩
  wp_walk using PySem.AutoSeq1.wpAny_loadPart' hl
  refine wpAny_stack_any fun st=>wpAny_pure ?_
  split
  ·rename_i c _ _ _ _ _
   cases (c == Value.type "enumerate") <;> (wp_walk using PySem.AutoSeq1.wpAny_loadPart' hl,wpAny_pyIter_tuple hL; exact ⟨_,rfl,h⟩)
  ·wp_walk using PySem.AutoSeq1.wpAny_loadPart' hl,wpAny_pyIter_tuple hL
   exact ⟨_,rfl,h⟩
theorem enum_callT {prog:Program} {w:World} {A:Around} {E:Value->Shared->Prop} {s:Shared} {l:Addr} {items:Array Value} {Q:Value->Shared->Prop} (hL:s.heap.IsTuple l items)
  (h:∀ h',IsEnum h' (s.heap.objs.size+1) s.heap.objs.size 0 .none->h'.IsTupleIter s.heap.objs.size l 0->(∀ b o,s.heap.get? b=some o->h'.get? b=some o)->Q (.ref (s.heap.objs.size+1)) { s with heap:=h' }):
  wpAny (model prog w) A (call (.type "enumerate") [.ref l]) Q E s:=by
 obtain ⟨⟨c,dct,dt,sl⟩,hl,hc,n,hd⟩:=hL
 obtain rfl:c= .type "tuple":=hc
 obtain rfl:dt= .seq items n:=hd
 refine callType_new F.called_enumerate (by decide) (F.typeCall_enumerate_1 _) (F.newCall_enumerate_1 _) (fun obj=>F.args_object_init_2 obj _) F.entry_enumerate_new (yr l items n dct sl) ⟨hl, ?_⟩
 have hz:(s.heap.push (ZG.oT l)).objs.size=s.heap.objs.size+1:=Heap.size_push ..
 have e1:((s.heap.push (ZG.oT l)).push (eOb s.heap.objs.size)).get? (s.heap.push (ZG.oT l)).objs.size=some _:=Heap.get?_push_size _ rfl
 rw [hz] at e1
 refine (show _/\_ from ?_)
 rw [hz]
 exact ⟨⟨_,e1,rfl⟩,h _ e1 ⟨_,Heap.get?_push_of_some _ (Heap.get?_push_size _ rfl),rfl,rfl⟩ fun b o x=>Heap.get?_push_of_some _ (Heap.get?_push_of_some _ x)⟩
end PySem.RV
namespace PV
open PySem PySem.Spec PyProof.Rows L2
def kX (K:PySem.W.Frag) (l:Addr) (n:Nat):It:=
 ⟨fun i H=>∃ xs x,SqT K H l xs/\xs.length=n/\xs[i]? =some x,fun i H v H' =>∃ p x,H p=none/\v= .ref p/\(∀ xs,SqT K H l xs->xs[i]? =some x)/\H' =upd H p (.tup [.int i,x]),fun i H=>∃ xs,SqT K H l xs/\xs.length=n/\n<=i⟩
theorem uW {P:Program} {w:World} {K:PySem.W.Frag} {elts:List Expr} {kk:Nat} {pt:Pos} (e it l:Addr) (n:Nat) (hei:e ≠ it) (hle:l ≠ e) (hli:l ≠ it):
  Uc P w K (.Tuple elts kk pt) (kX K l n) [e,it] e (fun i h=>i<=n/\(∃ old,IsEnum h e it i old)/\h.IsTupleIter it l i) where
 mem:=by simp
 obj:=fun i h st b hb=>by
  obtain ⟨_,⟨old,he⟩,o,e1,c,d⟩:=st
  rcases List.mem_cons.mp hb with rfl | hb
  ·exact ⟨_,he,fun v z=>nomatch z⟩
  ·have z:b=it:=by simpa using hb
   subst z
   exact ⟨o,e1,fun v z=>by rw [d] at z; cases z⟩
 keep:=fun i h h' st k=>by
  obtain ⟨hn,⟨old,he⟩,o,e1,r⟩:=st
  exact ⟨hn,⟨old,k e (by simp) _ he⟩,o,k it (by simp) o e1,r⟩
 item:=by
  intro X hP hw hK hc i pins s σ H E I hf st hg
  subst hP hw hK
  obtain ⟨xs,x,hq,hxn,hx⟩:=hg
  obtain ⟨its,rv,p,hz⟩:=I.tuple hq
  obtain ⟨u,hu,ru⟩:=rv.get hx
  obtain ⟨hin,⟨old,he⟩,hit⟩:=st
  have hi:i < its.toArray.size:=by
   have:=(List.getElem?_eq_some_iff.mp hu).1
   simpa using this
  have D:=RV.draws_tup (prog:=X.prog) (w:=X.w) (A:=X.A.in1) (I.ok.hd hc) it l hli its.toArray
  have hef:e ∉ [it,l]:=fun z=>by
   rcases List.mem_cons.mp z with z | z
   ·exact hei z
   ·exact hle (List.mem_singleton.mp z).symm
  have WE:=WalksT.enumerateD D e hei hef (.head _)
  refine WE.item i s _ _ hi ⟨⟨old,he⟩,hit,p⟩ fun T vals h' tk hP hT hTup hM hk=> ?_
  obtain ⟨t,y,hy,rfl⟩:=hP
  have hyu:y=u:=by
   have:its[i]? =some y:=by simpa using hy
   rw [hu] at this; exact (Option.some.inj this).symm
  subst hyu
  refine ⟨.ref T,rfl, ?_⟩
  refine WE.go elts kk pt i T _ _ _ hM fun h2 hst2 hk2=> ?_
  have hTn:H T=none:=I.hok.fresh hT
  have hTne:∀ b∈[e,it],b ≠ T:=fun b hb z=>by
   obtain ⟨_,_,h3,h4⟩:=hM
   rcases List.mem_cons.mp hb with rfl | hb
   ·exact h3 z.symm
   ·have:b=it:=by simpa using hb
    subst this; exact h4 z.symm
  have Uh:IsTup h2 T #[.int i t,y]:=by
   obtain ⟨o,eo,r⟩:=hTup
   exact ⟨o,hk2 T o (fun hb=>hTne T hb rfl) eo,r⟩
  refine ⟨.ref T,upd H T (.tup [.int i,x]),Inv.laidT (s:=s) (h' :=h2) (ch:=[e,it]) (tk:=tk) I hf (fun b o hb e=>hk2 b o hb (hk b o hb e)) (fun b o hb _=> ?_) hT ⟨by rw [sizeLine_eq]; show 2<=16777216; decide,[.int i t,y], .cons ⟨t,rfl⟩ (.cons ru .nil),Uh, .inl ⟨_,_,rfl⟩⟩,rfl,⟨T,x,hTn,rfl,fun ys hy=>by rw [I.tuple_inj hy hq]; exact hx,rfl⟩,⟨by have:=(List.getElem?_eq_some_iff.mp hx).1; omega,hst2.1,hst2.2.1⟩,fun b hb=> ?_⟩
  ·obtain ⟨⟨old2,he2⟩,⟨o2,eo2,_⟩,_⟩:=hst2
   rcases List.mem_cons.mp hb with rfl | hb
   ·exact ⟨_,he2⟩
   ·have:b=it:=by simpa using hb
    subst this; exact ⟨o2,eo2⟩
  ·rw [zy (hTne b hb)]; exact (hf b hb).1
 done:=by
  intro X hP hw hK hc i pins s σ H E I hf st hg
  subst hP hw hK
  obtain ⟨xs,hq,hxn,hx⟩:=hg
  obtain ⟨its,rv,p,hz⟩:=I.tuple hq
  obtain ⟨hin,⟨old,he⟩,hit⟩:=st
  have hl:=rv.length
  have D:=RV.draws_tup (prog:=X.prog) (w:=X.w) (A:=X.A.in1) (I.ok.hd hc) it l hli its.toArray
  have hn:its.toArray.size=i:=by simp; omega
  refine wpAny_pyNext_enum_endD D he (by rw [hn]; exact ⟨hit,p⟩) fun h' hk=>⟨rfl, ?_⟩
  obtain ⟨f0,f1,f2,f3,f4,f5⟩:=hf it (by simp)
  exact I.turned (t' :=s.toks) (fun b o hb e=>hk b o hb e) f0 f1 f3 f4 f5
 self:=fun _ _ _ _ _ st h=>let ⟨_,⟨_,he⟩,_⟩:=st; wpAny_pyIter_enum he h
theorem qk {K:PySem.W.Frag} {B1 H1:Hp} {a:Addr} {xs:List V} {ts:List T} (h:B1 a=some (.tup xs)) (r:zE B1 xs ts):rI B1 H1 (kX K a xs.length) (jv ts):=fun B2 H2 s1 s2=>by
 have h2:=s2 _ _ (s1 _ _ h)
 rw [J4]
 refine ⟨fun i hi=> ?_,fun i t x H3 e y=> ?_,fun i hi=>⟨xs,SqT.of h2,rfl,by rw [r.length]; exact hi⟩⟩
 ·obtain ⟨v,e,_⟩:=r.get (List.getElem?_eq_getElem hi)
  exact ⟨xs,v,SqT.of h2,rfl,e⟩
 ·obtain ⟨p,v,hp,rfl,y,rfl⟩:=y
  obtain ⟨t',et,rfl⟩:=W5 e
  obtain ⟨v',e1,r1⟩:=r.get et
  have:=y xs (SqT.of h2)
  rw [e1] at this; cases this
  refine ⟨zx.new hp _, .tup (j9 hp _) (.cons (.int _) (.cons ?_ .nil))⟩
  exact (r1.mono s1).mono (zR.ge s2 (zx.new hp _))
def W8 (fa:En->R T):En->R (List T):=fun ρ=>(fa ρ).bind fun t=>match t with
 | .tup xs=> .ok (jv xs)
 | _=> .bad
section
variable {X:Cx} {Y:Fx} {a:Expr} {fa:En->R T} {pos p pt:Pos} {elts:List Expr} {kk:Nat}
theorem qm {ta:TA} (hg:Gl X "enumerate") (hm:X.mg "enumerate"=none) (ha:PA X [a] ta) (hs:St1 X a:=by exact st1 rfl):
  PI X (.Tuple elts kk pt) (.Call (.Name "enumerate" p) [a] [] pos) (fun σ H R=>ta σ H fun vs H1=>∃ l xs,vs=[.ref l]/\H1 l=some (.tup xs)/\R (kX X.K l xs.length) H1):=by
 intro pins s σ H R I h
 refine Call_ (j7 I hg hm PyProof.Rows.Boot.«enumerate» (PyProof.Rows.callWith_type1 (thn (ha pos pins s σ H _ I h) fun us s1 ⟨vs,H1,I1,r1,q1⟩=> ?_) hs rfl))
 obtain ⟨l,xs,e,hl,q⟩:=q1
 subst e
 obtain ⟨u,rfl,ru⟩:=j3 r1
 obtain rfl:u=Value.ref l:=ru
 obtain ⟨its,rv,pl,hz⟩:=I1.tuple (SqT.of hl)
 have hlt:l < s1.heap.objs.size:=I1.hok.lt hl
 refine RV.enum_callT (show s1.heap.IsTuple l its.toArray from pl) fun h' he hit hk=>wpAny_pyIter_enum he ?_
 have f:∀ b∈[s1.heap.objs.size+1,s1.heap.objs.size],wM X pins H1 b:=fun b hb=>by
  rcases List.mem_cons.mp hb with rfl | hb
  ·exact I1.fpOk (Nat.le_succ _) (I1.hok.fresh (Nat.le_succ _))
  ·have z:b=s1.heap.objs.size:=by simpa using hb
   subst z
   exact I1.fpOk (Nat.le_refl _) (I1.hok.fresh (Nat.le_refl _))
 exact ⟨s1.heap.objs.size+1,[s1.heap.objs.size+1,s1.heap.objs.size],_,_,H1,rfl,I1.kept (t' :=s1.toks) hk,uW _ _ l xs.length (Nat.succ_ne_self _) (Nat.ne_of_lt (Nat.lt_succ_of_lt hlt)) (Nat.ne_of_lt hlt),⟨Nat.zero_le _,⟨_,he⟩,hit⟩,f,q⟩
theorem vN (hg:Gl X "enumerate") (hm:X.mg "enumerate"=none) (ha:Snd X Y a fa) (hs:St1 X a:=by exact st1 rfl):Uf X Y (.Tuple elts kk pt) (.Call (.Name "enumerate" p) [a] [] pos) (W8 fa):= .mk fun ρ=>
 PI.imp (qm hg hm (zB (ha ρ) Zi hs) hs) fun σ H R ⟨B,I,q⟩=>step I q fun t v H1 _ s1 r1 I1 q1=>by
  cases r1 with
  | @tup l xs ts h r=>exact ⟨l,xs,rfl,I1.sB _ _ h,ZQ I1 (show Po Y rI _ H1 (.ok (jv ts)) R from q1) (qk h r)⟩
  | _=>exact q1.elim
end
end PV
namespace PySem.RW37
open PySem PySem.Spec PyProof.Rows L2
section
variable {X:Cx} {pos:Pos}
end
end PySem.RW37
namespace PV
open PySem PySem.Spec PyProof.Rows L2 PySem.RW37
section
variable {X:Cx} {Y:Fx} {pos:Pos} {a b c:Expr}
end
end PV
namespace PV
open PySem PySem.Spec PyProof.Rows L2
def wn (t t' :T):R T:=match t,t' with
 | .int i, .int j=> .ok (.int (if j > i then j else i))
 | _,_=> .bad
section
variable {X:Cx} {Y:Fx} {a b:Expr} {fa fb:En->R T} {pos p p' pos' pt:Pos} {elts:List Expr} {kk:Nat}
theorem yt (hc:X.calm=true) (gl:Gl X "max") (mg:X.mg "max"=none) (ha:Snd X Y a fa) (hb:Snd X Y b fb)
  (hs:starEach [a,b] X.env=[(false,eval a X.env),(false,eval b X.env)]:=by exact st2 rfl rfl) (hs2:starEach [b] X.env=[(false,eval b X.env)]:=by exact st1 rfl):
  Snd X Y (.Call (.Name "max" p) [a,b] [] pos) (ze wn fa fb):= .mk fun ρ=>
 PE.imp (jk (Uu hc) gl mg PyProof.Rows.Boot.«max» (zB (ha ρ) (zB (hb ρ) Zi hs2) (by rw [hs,hs2])) (by decide) (by decide) (by rw [hs,hs2]) (by rw [hs2]; rfl)) fun σ H Q ⟨B,I,q⟩=>
  step I q fun t v H1 _ s1 r1 I1 q1=>step I1 q1 fun t' v' H2 _ s2 r2 I2 q2=>by
   cases r1 with
   | int i=>
    cases r2 with
    | int j=>exact ⟨i,j,rfl,po0 I2.sB q2 rfl (.int _)⟩
    | _=>exact q2.elim
   | _=>cases r2 <;> exact q2.elim
end
section
variable {X:Cx} {Y:Fx} {tg iter elt:Expr} {ifs:List Expr} {scope:Scope} {pos pos' :Pos} {N' :List Str} {k:Nat} {js:List Nat} {fi:En->R (List T)} {tG:TG} {g:T->En->R En} {ft:En->R Bool} {fe:En->R T}
end
section
variable {prog:Program} {w:World} {A:Around} {R:Result->Shared->Prop} {I:Addr} {fp wr:List Addr} {n:Nat} {P:Nat->Value->Prop} {St:Nat->Heap->Prop}
end
section
variable {prog:Program} {w:World} {A:Around} {E:Value->Shared->Prop} {s:Shared} {l:Addr} {xs:Array (Int×Tok)}
end
section
variable {X:Cx} {Y:Fx} {a b:Expr} {fa fb:En->R T} {pos p p' pos' pt kp:Pos} {elts:List Expr} {kk:Nat}
end
section
variable {prog:Program} {w:World} {K:Type} [DecidableEq K] {knd:KeyKind prog w K} {A:Around} {E:Value->Shared->Prop} {s:Shared}
end
section
variable {prog:Program} {w:World} {A:Around} {E:Value->Shared->Prop} {s:Shared} {I S:Addr} {i ep j:Nat} {o:Obj} {es:Array (Int×Value)} {t:SetTable}
end
section
variable {prog:Program} {w:World} {A:Around} {E:Value->Shared->Prop} {s:Shared} {I S P:Addr} {i ep j:Nat} {es:Array (Int×Value)} {t:SetTable}
end
section
variable {prog:Program} {w:World} {A:Around} {E:Value->Shared->Prop} {s:Shared} {S:Addr} {ep:Nat} {es:Array (Int×Value)} {t:SetTable}
end
section
variable {prog:Program} {w:World} {A:Around} {E:Value->Shared->Prop} {s:Shared} {S:Addr}
end
section
variable {prog:Program} {w:World} {A:Around} {R:Result->Shared->Prop} {I:Addr} {fp wr:List Addr} {n:Nat} {P:Nat->Value->Prop} {St:Nat->Heap->Prop}
end
section
variable {prog:Program} {w:World} {A:Around} {E:Value->Shared->Prop} {s:Shared}
end
section
variable {prog:Program} {w:World} {A:Around} {E:Value->Shared->Prop} {s:Shared} {S:Addr}
end
section
variable {X:Cx} {Y:Fx} {a b:Expr} {fa fb:En->R T} {pos pos' p p' :Pos}
end
section
variable {X:Cx} {Y:Fx} {a b:Expr} {fa fb:En->R T} {pos:Pos}
end
section
variable {X:Cx} {Y:Fx} {a b:Expr} {fa fb:En->R T} {pos:Pos}
end
section
variable {prog:Program} {w:World} {A:Around} {E:Value->Shared->Prop} {s:Shared}
end
section
variable {prog:Program} {w:World} {A:Around} {E:Value->Shared->Prop} {s:Shared}
end
section
variable {prog:Program} {w:World} {A:Around} {R:Result->Shared->Prop} {I:Addr} {fp wr:List Addr} {n:Nat} {P:Nat->Value->Prop} {St:Nat->Heap->Prop}
end
section
variable {prog:Program} {w:World} {A:Around} {E:Value->Shared->Prop} {s:Shared}
end
section
variable {X:Cx} {Y:Fx} {a b:Expr} {fa fb:En->R T} {pos pos' p p' :Pos}
end
section
variable {X:Cx} {Y:Fx} {a:Expr} {fa:En->R T} {pos pos' p p' :Pos}
end
def qo:T->T->R T
 | .tup ts, .int k=>if k=1/\ts ≠ [] then .ok (.tup ts) else Z2 (.tup ts) (.int k)
 | _,_=> .bad
theorem uX (l:Addr) (items:Array Value) (n:Nat) (dd:Option Addr) (sl:Array (Option Value)) (u:Tok):
  Meets (Builtin.«tuple.__mul__» ⟨[.ref l, .int 1 u],[]⟩) (fun _ R s=>s.heap.get? l=some { cls:= .type "tuple",dict:=dd,data:= .seq items n,slots:=sl }/\R (.ok (.ret (Value.ref l))) s):=
 .of_wp fun prog w A R s h=>by
  obtain ⟨hp,g,d,tk,os⟩:=s; obtain ⟨hl,h⟩:=h
  have f1:=AutoSeq1.idx_int
  unfold Builtin.«tuple.__mul__»
  wp_walk using wpAny_loadPart' hl
  exact ⟨_,rfl,h⟩
theorem qp {prog:Program} {w:World} {A:Around} {E:Value->Shared->Prop} {s:Shared} {l:Addr} {its:List Value} {t:Tok} {Q:Value->Shared->Prop} (p:IsTup s.heap l its.toArray) (q:Q (.ref l) s):
  wpAny (model prog w) A (binaryOp .Mult (.ref l) (.int 1 t)) Q E s:=by
 obtain ⟨⟨cls,dd,data,sl⟩,ho,hc,n,hd⟩:=id p
 simp only at hc hd
 subst hc hd
 exact wpAny_binaryOp_repeat_ref (T:="tuple") (U:="int") (by decide) ⟨_,ho,rfl⟩ (fun s' =>typeIs_int s' 1 t) j1 F.fills_int_mul F.slot_int_rmul jZ F.slot_int_index.lookup
  (call_meets F.slot_int_rmul (typeIs_int s 1 t) F.entry_int_rmul (F.args_int_rmul_2 _ _) (jp 1 t l its.toArray n dd sl)
   ⟨ho,rfl,⟨_,ho,rfl⟩,call_meets F.slot_tuple_mul ⟨_,ho,rfl⟩ F.entry_tuple_mul (F.args_tuple_mul_2 _ _) (uX l its.toArray n dd sl t) ⟨ho,q⟩⟩)
section
variable {X:Cx} {Y:Fx} {a b:Expr} {fa fb:En->R T} {pos:Pos}
theorem vO:OpR X (binaryOp .Mult) (rG Y qo):=by
 intro pins s σ H x y v u Q I rx ry h
 obtain ⟨B,t,t',sB,r,r',q⟩:=id h
 cases r with
 | @tup l xs ts h1 r1=>
  cases r' with
  | int k=>
   by_cases hk:k=1/\ts ≠ []
   ·have eg:qo (.tup ts) (.int k)= .ok (.tup ts):=if_pos hk
    obtain rfl:v=Value.ref l:=rx
    obtain ⟨tk,rfl⟩:=ry
    obtain ⟨rfl,_⟩:=hk
    obtain ⟨its,rv,p,_⟩:=I.tuple (SqT.of (sB _ _ h1))
    exact qp p ⟨.ref l,H,I,rfl,po0 sB q eg (.tup h1 r1)⟩
   ·have eg:qo (.tup ts) (.int k)=Z2 (.tup ts) (.int k):=if_neg hk
    rw [eg] at q
    exact UJ pins s σ H _ _ v u Q I rx ry ⟨B, .tup ts, .int k,sB, .tup h1 r1, .int k,q⟩
  | _=>exact q.elim
 | _=>cases r' <;> exact q.elim
theorem kY (ha:Snd X Y a fa) (hb:Snd X Y b fb):Snd X Y (.BinOp a .Mult b pos) (ze qo fa fb):=uO vO ha hb
end
section
variable {X:Cx} {Y:Fx} {a:Expr} {fa:En->R T} {pos p2 p3 p4:Pos} {kc:Nat}
end
end PV
namespace PySem.RV
open PySem PySem.Spec PyProof.Rows PySem.Builtin.SmallTypes
section
variable {prog:Program} {w:World} {A:Around} {E:Value->Shared->Prop} {s:Shared} {I l:Addr} {xs:Array Value}
end
end PySem.RV
namespace PV
open PySem PySem.Spec PyProof.Rows L2
section
variable {X:Cx} {Y:Fx} {a:Expr} {fa:En->R T} {pos p p' pos' :Pos}
end
section
variable {X:Cx} {Y:Fx} {a b c:Expr} {fa fb fc:En->R T} {pos p:Pos}
section
variable {pa:Pos}
end
end
def vP (i:Int):Str:=Str.ofString (toString i)
def txO:T->Option Str
 | .int i=>if i.natAbs < 1000000 then some (vP i) else none
 | .str x=>if x.length<=1000000 then some x else none
 | _=>none
def txV:V->Option Str
 | .int i=>if i.natAbs < 1000000 then some (vP i) else none
 | .str x=>if x.length<=1000000 then some x else none
 | _=>none
def Q6 (t:T):R T:=match txO t with
 | some x=> .ok (.str x)
 | none=> .bad
def rdI (x:Str):Option Int:=((List.range 199).map fun (k:Nat)=>(k:Int) - 99).find? fun n=>vP n == x
theorem W9 {i:Int} (h:i.natAbs < 1000000):i.natAbs.log2 < 1920:=by
 by_cases h0:i.natAbs=0
 ·rw [h0]; decide
 ·have:i.natAbs.log2 < 20:=(Nat.log2_lt h0).mpr (by omega)
  omega
section
variable {X:Cx} {Y:Fx} {a b c:Expr} {fa fb fc:En->R T} {pos p p1 p2 p3:Pos} {kc:Nat}
theorem qq:ZD X (.type "str") (fun xs H Q=>∃ v x,xs=[v]/\txV v=some x/\Q (.str x) H):=by
 intro pins s σ H xs us Q I r h
 obtain ⟨v,x,rfl,e,q⟩:=h
 obtain ⟨u,rfl,ru⟩:=j3 r
 unfold txV at e
 split at e
 ·split at e
  ·rename_i i hi
   obtain ⟨t,rfl⟩:=ru
   cases e
   exact P.str_of_int (W9 hi) ⟨.str _,H,I.tok _,⟨_,rfl⟩,q⟩
  ·cases e
 ·split at e
  ·obtain ⟨t,rfl⟩:=ru
   cases e
   exact P.str_of_str ⟨.str _,H,I,⟨_,rfl⟩,q⟩
  ·cases e
 ·cases e
theorem xT {H:Hp} {v:V} {t:T} {x:Str} (r:Rep H v t) (e:txO t=some x):txV v=some x:=by
 cases r with
 | int i=>exact e
 | str y=>exact e
 | _=>cases e
end
section
variable {X:Cx} {Y:Fx} {a:Expr} {fa:En->R T} {pos p pt:Pos} {elts:List Expr} {kk:Nat}
end
end PV
namespace PV
open PySem PySem.W PyProof.Rows
section
variable {α β:Type}
def Gd (lt:Nat->Nat->Bool) (n:Nat):KasT α->(α->Prop)->Prop
 | .ret a,P=>P a
 | .ask i j k,P=>(i < n/\j < n/\i ≠ j)/\Gd lt n (k (lt i j)) P
theorem Gd.mono {lt:Nat->Nat->Bool} {n:Nat} {P P' :α->Prop} (h:∀ a,P a->P' a):∀ (t:KasT α),Gd lt n t P->Gd lt n t P'
 | .ret a,g=>h a g
 | .ask i j k,⟨h1,g⟩=>⟨h1,Gd.mono h _ g⟩
theorem Gd.bind {lt:Nat->Nat->Bool} {n:Nat} {P:β->Prop} {f:α->KasT β}:∀ (t:KasT α),Gd lt n t (fun a=>Gd lt n (f a) P)->Gd lt n (t.bind f) P
 | .ret a,g=>g
 | .ask i j k,⟨h1,g⟩=>⟨h1,Gd.bind _ g⟩
theorem Gd.wp {lt:Nat->Nat->Bool} {n:Nat} {cmp:Nat->Nat->(Bool->Shared->Prop)->Shared->Prop} {J:Shared->Prop} (ha:∀ i j C s,i < n->j < n->i ≠ j->J s->(∀ s',J s' ->C (lt i j) s')->cmp i j C s) {P:α->Prop} {Q:α->Shared->Prop} (hq:∀ a s,P a->J s->Q a s):∀ (t:KasT α) (s:Shared),Gd lt n t P->J s->t.kasWp cmp Q s
 | .ret a,s,g,j=>hq a s g j
 | .ask i j k,s,⟨⟨h1,h2,h3⟩,g⟩,js=>ha i j _ s h1 h2 h3 js fun s' js' =>Gd.wp ha hq _ s' g js'
end
section
variable {O:KeyOrd} {n:Nat} {key:Nat->O.α}
abbrev kp (key:Nat->O.α) (p:Array Nat) (i:Nat):O.α:=key (p.getD i 0)
structure Pm (n:Nat) (p:Array Nat):Prop where
 sz:p.size=n
 pm:p.toList.Perm (List.range n)
theorem Pm.lt {p:Array Nat} (h:Pm n p) {i:Nat} (hi:i < n):p.getD i 0 < n:=by
 have hs:i < p.size:=by rw [h.sz]; exact hi
 have e:p.getD i 0=p[i]:=by simp [Array.getD,hs]
 rw [e]
 exact List.mem_range.mp (h.pm.mem_iff.mp (Array.getElem_mem_toList hs))
theorem Pm.inj {p:Array Nat} (h:Pm n p) {i j:Nat} (hi:i < n) (hj:j < n) (e:p.getD i 0=p.getD j 0):i=j:=by
 have hs:i < p.size:=by rw [h.sz]; exact hi
 have hs' :j < p.size:=by rw [h.sz]; exact hj
 have e1:p.getD i 0=p[i]:=by simp [Array.getD,hs]
 have e2:p.getD j 0=p[j]:=by simp [Array.getD,hs']
 rw [e1,e2] at e
 have nd:p.toList.Nodup:=h.pm.nodup_iff.mpr List.nodup_range
 have:=(List.getElem_inj (i:=i) (j:=j) (h₀:=by simpa using hs) (h₁:=by simpa using hs') nd).mp (by simpa using e)
 exact this
def So (key:Nat->O.α) (p:Array Nat) (m:Nat):Prop:=∀ i j,i < j->j < m->O.klt (kp key p i) (kp key p j)
theorem wo {p q:Array Nat} {i j:Nat} (h:p[i]? =q[j]?):p.getD i 0=q.getD j 0:=by
 have e:∀ (a:Array Nat) (k:Nat),a.getD k 0=(a[k]?).getD 0:=fun a k=>by simp
 rw [e,e,h]
variable (hk:∀ i j,i < n->j < n->key i=key j->i=j)
include hk
theorem vQ {p:Array Nat} (h:Pm n p) {i j:Nat} (hi:i < n) (hj:j < n) (hij:i ≠ j) (hf:O.blt (kp key p i) (kp key p j)=false):O.klt (kp key p j) (kp key p i):=by
 cases q:O.blt (kp key p j) (kp key p i) with
 | true=>exact q
 | false=>exact absurd (h.inj hi hj (hk _ _ (h.lt hi) (h.lt hj) (O.total _ _ hf q))) hij
omit hk in
theorem So.snoc {p:Array Nat} {m:Nat} (h:So key p m) (h1:1<=m) (hl:O.klt (kp key p (m - 1)) (kp key p m)):So key p (m+1):=fun i j hij hj=>by
 by_cases hjm:j=m
 ·subst hjm
  by_cases him:i=j - 1
  ·rw [him]; exact hl
  ·exact KeyOrd.klt_of_klt_of_kle (h i (j - 1) (by omega) (by omega)) (KeyOrd.kle_of_klt hl)
 ·exact h i j hij (by omega)
theorem yu {p:Array Nat} (hp:Pm n p):∀ (f m:Nat),1<=m->m+f=n->So key p m->Gd (fun i j=>O.blt (key i) (key j)) n (kas_asc p f m) fun r=>m<=r/\r<=n/\So key p r/\(r < n->O.klt (kp key p r) (kp key p (r - 1)))
 | 0,m,_,hm,h=>⟨Nat.le_refl _,by omega,h,fun z=>by omega⟩
 | f+1,m,h1,hm,h=>by
  refine ⟨⟨hp.lt (by omega),hp.lt (by omega),fun z=>absurd (hp.inj (by omega) (by omega) z) (by omega)⟩, ?_⟩
  show Gd _ n (if O.blt (kp key p m) (kp key p (m - 1))=true then .ret m else kas_asc p f (m+1)) _
  cases q:O.blt (kp key p m) (kp key p (m - 1)) with
  | true=>exact ⟨Nat.le_refl _,by omega,h,fun _=>q⟩
  | false=>
   rw [if_neg (by simp)]
   exact Gd.mono (fun r ⟨a,b,c⟩=>⟨by omega,b,c⟩) _ (yu hp f (m+1) (by omega) (by omega) (h.snoc h1 (vQ hk hp (by omega) (by omega) (by omega) q)))
def De (key:Nat->O.α) (p:Array Nat) (m:Nat):Prop:=∀ i j,i < j->j < m->O.klt (kp key p j) (kp key p i)
theorem yv {p:Array Nat} (hp:Pm n p):∀ (f m:Nat),2<=m->m+f=n->De key p m->Gd (fun i j=>O.blt (key i) (key j)) n (kas_desc f p m 0) fun r=>r.1=p/\r.2.2=0/\m<=r.2.1/\r.2.1<=n/\De key p r.2.1
 | 0,m,_,hm,h=>⟨rfl,rfl,Nat.le_refl _,by show m<=n; omega,h⟩
 | f+1,m,h1,hm,h=>by
  refine ⟨⟨hp.lt (by omega),hp.lt (by omega),fun z=>absurd (hp.inj (by omega) (by omega) z) (by omega)⟩, ?_⟩
  show Gd _ n (if O.blt (kp key p m) (kp key p (m - 1))=true then (if 0 > 0 then kas_desc f (kas_rev p (m - (0+1)) m) (m+1) 0 else kas_desc f p (m+1) 0) else .ask (p.getD (m - 1) 0) (p.getD m 0) fun d=>if d=true then .ret (p,m,0) else kas_desc f p (m+1) (0+1)) _
  cases q:O.blt (kp key p m) (kp key p (m - 1)) with
  | true=>
   rw [if_pos rfl,if_neg (by omega)]
   refine Gd.mono (fun r ⟨a,b,c,d⟩=>⟨a,b,by omega,d⟩) _ (yv hp f (m+1) (by omega) (by omega) fun i j hij hj=> ?_)
   by_cases hjm:j=m
   ·subst hjm
    by_cases him:i=j - 1
    ·rw [him]; exact q
    ·exact KeyOrd.klt_of_klt_of_kle (show O.klt (kp key p j) (kp key p (j - 1)) from q) (KeyOrd.kle_of_klt (h i (j - 1) (by omega) (by omega)))
   ·exact h i j hij (by omega)
  | false=>
   rw [if_neg (by simp)]
   refine ⟨⟨hp.lt (by omega),hp.lt (by omega),fun z=>absurd (hp.inj (by omega) (by omega) z) (by omega)⟩, ?_⟩
   have q2:O.blt (kp key p (m - 1)) (kp key p m)=true:=vQ hk hp (by omega) (by omega) (by omega) q
   show Gd _ n (if O.blt (kp key p (m - 1)) (kp key p m)=true then .ret (p,m,0) else _) _
   rw [if_pos q2]
   exact ⟨rfl,rfl,Nat.le_refl _,by show m<=n; omega,h⟩
omit hk in
theorem Q7 {p:Array Nat} (hp:Pm n p) (i j:Nat):Pm n (kas_rev p i j):=⟨(mirror_size _ _ _ _).trans hp.sz,(Array.perm_iff_toList_perm.mp (mirror_perm p i j _)).trans hp.pm⟩
omit hk in
theorem yw {p:Array Nat} (hp:Pm n p) {m k:Nat} (hm:m<=n) (hk' :k < m):(kas_rev p 0 m).getD k 0=p.getD (m - 1 - k) 0:=by
 refine wo ?_
 unfold kas_rev
 rw [getElem?_mirror_all (by rw [hp.sz]; exact hm),if_pos ⟨Nat.zero_le _,hk'⟩]
 congr 1
 omega
theorem ZN {p:Array Nat} (hp:Pm n p) (h2:2<=n):Gd (fun i j=>O.blt (key i) (key j)) n (kas_count n p) fun r=>1<=r.1/\r.1<=n/\Pm n r.2/\So key r.2 r.1:=by
 unfold kas_count
 refine Gd.bind _ (Gd.mono (fun m ⟨a,b,c,d⟩=> ?_) _ (yu hk hp (n - 1) 1 (Nat.le_refl _) (by omega) fun i j hij hj=>by omega))
 by_cases hmn:m=n
 ·rw [if_pos (by simpa using hmn)]
  exact ⟨a,b,hp,c⟩
 ·rw [if_neg (by simpa using hmn)]
  by_cases hm1:m > 1
  ·rw [if_pos hm1]
   refine ⟨⟨hp.lt (by omega),hp.lt (by omega),fun z=>absurd (hp.inj (by omega) (by omega) z) (by omega)⟩, ?_⟩
   have q:O.blt (kp key p 0) (kp key p (m - 1))=true:=c 0 (m - 1) (by omega) (by omega)
   show Gd _ n (if O.blt (kp key p 0) (kp key p (m - 1))=true then .ret (m,p) else _) _
   rw [if_pos q]
   exact ⟨a,b,hp,c⟩
  ·rw [if_neg hm1]
   have e:m=1:=by omega
   subst e
   unfold kas_descPart
   have d1:=d (by omega)
   refine Gd.bind _ (Gd.mono (fun r ⟨r1,r2,r3,r4,r5⟩=> ?_) _ (yv hk hp (n - (1+1)) (1+1) (by omega) (by omega) fun i j hij hj=>by
    have:i=0/\j=1:=by omega
    rw [this.1,this.2]; exact d1))
   rw [r2,if_neg (by omega),r1]
   unfold kas_tail3
   refine Gd.bind _ (Gd.mono (fun m' ⟨x1,x2,x3,_⟩=>⟨by show 1<=m'; omega,x2,Q7 hp 0 r.2.1,x3⟩) _ (yu hk (Q7 hp 0 r.2.1) (n - r.2.1) r.2.1 (by omega) (by omega) fun i j hij hj=> ?_))
   unfold kp
   rw [yw hp r4 (by omega),yw hp r4 hj]
   exact r5 _ _ (by omega) (by omega)
theorem wq {p:Array Nat} (hp:Pm n p) {k:Nat} (hkn:k < n) (hs:So key p k):∀ (f l r:Nat),r<=k->l<=r->r - l<=f->(∀ i,i < l->O.klt (kp key p i) (kp key p k))->(∀ i,r<=i->i < k->O.klt (kp key p k) (kp key p i))->
  Gd (fun i j=>O.blt (key i) (key j)) n (kas_place p k f l r) fun m=>m<=k/\(∀ i,i < m->O.klt (kp key p i) (kp key p k))/\∀ i,m<=i->i < k->O.klt (kp key p k) (kp key p i)
 | 0,l,r,h1,h2,h3,h4,h5=>⟨by omega,h4,fun i hi hik=>h5 i (by omega) hik⟩
 | f+1,l,r,h1,h2,h3,h4,h5=>by
  unfold kas_place
  by_cases hlr:l ≥ r
  ·rw [if_pos hlr]
   exact ⟨by omega,h4,fun i hi hik=>h5 i (by omega) hik⟩
  ·rw [if_neg hlr]
   refine ⟨⟨hp.lt hkn,hp.lt (by omega),fun z=>absurd (hp.inj hkn (by omega) z) (by omega)⟩, ?_⟩
   show Gd _ n (if O.blt (kp key p k) (kp key p ((l+r) / 2))=true then kas_place p k f l ((l+r) / 2) else kas_place p k f ((l+r) / 2+1) r) _
   cases q:O.blt (kp key p k) (kp key p ((l+r) / 2)) with
   | true=>
    rw [if_pos rfl]
    refine wq hp hkn hs f l ((l+r) / 2) (by omega) (by omega) (by omega) h4 fun i hi hik=> ?_
    by_cases e:i=(l+r) / 2
    ·rw [e]; exact q
    ·exact KeyOrd.klt_of_klt_of_kle (show O.klt _ _ from q) (KeyOrd.kle_of_klt (hs _ _ (by omega) hik))
   | false=>
    rw [if_neg (by simp)]
    refine wq hp hkn hs f ((l+r) / 2+1) r h1 (by omega) (by omega) (fun i hi=> ?_) h5
    have ql:=vQ hk hp hkn (show (l+r) / 2 < n by omega) (by omega) q
    by_cases e:i=(l+r) / 2
    ·rw [e]; exact ql
    ·exact KeyOrd.klt_of_klt_of_kle (hs _ _ (by omega) (by omega)) (KeyOrd.kle_of_klt ql)
omit hk in
theorem yx {p:Array Nat} (hp:Pm n p) {k l i:Nat} (hkn:k < n) (hl:l<=k):(bubble p k (k - l)).getD i 0=if i=l then p.getD k 0 else if l < i/\i<=k then p.getD (i - 1) 0 else p.getD i 0:=by
 have h:=getElem?_bubble (xs:=p) (src:=k) (by rw [hp.sz]; exact hkn) (k - l) (by omega) i
 rw [show k - (k - l)=l by omega] at h
 repeat' split at h
 all_goals first | (rw [if_pos (by assumption)]; exact wo h) | (rw [if_neg (by assumption),if_pos (by assumption)]; exact wo h) | (rw [if_neg (by assumption),if_neg (by assumption)]; exact wo h)
theorem Q8:∀ (f:Nat) (p:Array Nat) (k:Nat),Pm n p->k+f=n->So key p k->Gd (fun i j=>O.blt (key i) (key j)) n (kas_bin f p k) fun q=>Pm n q/\So key q n
 | 0,p,k,hp,hkf,h=>⟨hp,by rw [← hkf]; exact h⟩
 | f+1,p,k,hp,hkf,h=>by
  unfold kas_bin
  refine Gd.bind _ (Gd.mono (fun l ⟨a,b,c⟩=> ?_) _ (wq hk hp (show k < n by omega) h k 0 k (Nat.le_refl _) (Nat.zero_le _) (by omega) (fun i hi=>by omega) fun i hi hik=>by omega))
  refine Q8 f (bubble p k (k - l)) (k+1) ⟨(bubble_size _ _ _).trans hp.sz,(Array.perm_iff_toList_perm.mp (bubble_perm p k (k - l))).trans hp.pm⟩ (by omega) fun i j hij hj=> ?_
  unfold kp
  rw [yx hp (by omega) a,yx hp (by omega) a]
  by_cases hi:i=l
  ·rw [if_pos hi,if_neg (by omega),if_pos ⟨by omega,by omega⟩]
   exact c _ (by omega) (by omega)
  ·rw [if_neg hi]
   by_cases hj' :j=l
   ·rw [if_pos hj',if_neg (by omega)]
    exact b i (by omega)
   ·rw [if_neg hj']
    by_cases x:l < i/\i<=k
    ·rw [if_pos x,if_pos ⟨by omega,by omega⟩]
     exact h _ _ (by omega) (by omega)
    ·rw [if_neg x]
     by_cases y:l < j/\j<=k
     ·rw [if_pos y]
      exact h _ _ (by omega) (by omega)
     ·rw [if_neg y]
      exact h _ _ hij (by omega)
theorem vR (h2:2<=n):Gd (fun i j=>O.blt (key i) (key j)) n (kas_sort n) fun q=>Pm n q/\So key q n:=by
 unfold kas_sort
 refine Gd.bind _ (Gd.mono (fun r ⟨a,b,c,d⟩=> ?_) _ (ZN hk ⟨by simp,by simp⟩ h2))
 by_cases h:r.1 < n
 ·rw [if_pos h,show max r.1 1=r.1 by omega]
  exact Q8 hk _ _ _ c (by omega) d
 ·rw [if_neg h]
  exact ⟨c,by rw [show n=r.1 by omega]; exact d⟩
end
end PV
namespace PV
open PySem PySem.Spec PyProof.Rows L2
mutual
def toD:T->PyData
 | .non=> .none
 | .bl b=> .bool b
 | .int i=> .int i
 | .str x=> .str x
 | .tup xs=> .tuple (WJ xs)
 | .lst xs=> .list (WJ xs)
 | .fz xs=> .list (WJ xs)
def WJ:List T->List PyData
 | []=>[]
 | x :: xs=>toD x :: WJ xs
end
mutual
def okD:T->Bool
 | .non=>true
 | .bl _=>true
 | .int i=>decide (i.natAbs < 1000000)
 | .str _=>true
 | .tup xs=>yy xs
 | .lst _=>false
 | .fz _=>false
def yy:List T->Bool
 | []=>true
 | x :: xs=>okD x && yy xs
end
def Wa (t:T):R T:=match t with
 | .tup xs=>if yy xs=true/\(toD (.tup xs)).depth<=20/\(toD (.tup xs)).shown.length<=10000 then .ok (.str (toD (.tup xs)).shown) else .bad
 | t=>Q6 t
section
variable {P:Program} {w:World} {H:Hp} {h:Heap}
mutual
theorem ue (hk:HOk P w H h):∀ (t:T) (v:V) (u:Value),Rep H v t->okD t=true->L2.RelV v u->∃ as,Reads h u (toD t) as
 | .non,_,_, .non,_,ru=>by
  obtain rfl:_=Value.none:=ru
  exact ⟨_,by rw [toD]; exact .none⟩
 | .bl b,_,_, .bl _,_,ru=>by
  obtain rfl:_=Value.bool b:=ru
  exact ⟨_,by rw [toD]; exact .bool b⟩
 | .int i,_,_, .int _,_,ru=>by
  obtain ⟨t,rfl⟩:=ru
  exact ⟨_,by rw [toD]; exact .int i t⟩
 | .str x,_,_, .str _,_,ru=>by
  obtain ⟨t,rfl⟩:=ru
  exact ⟨_,by rw [toD]; exact .str x t⟩
 | .tup ts,_,u, .tup (a:=l) e r,ho,ru=>by
  obtain rfl:u=Value.ref l:=ru
  rw [okD] at ho
  obtain ⟨_,its,rv,⟨o,e1,e2,n,e3⟩,_⟩:=hk l _ e
  obtain ⟨as,ra⟩:=Wb hk ts _ its r ho rv
  exact ⟨as,by rw [toD]; exact .tuple e1 e2 e3 (by simpa using ra)⟩
 | .lst _,_,_,_,ho,_=>by rw [okD] at ho; cases ho
 | .fz _,_,_,_,ho,_=>by rw [okD] at ho; cases ho
theorem Wb (hk:HOk P w H h):∀ (ts:List T) (vs:List V) (us:List Value),zE H vs ts->yy ts=true->L2.Vals vs us->∃ as,ReadsAll h us (WJ ts) as
 | [],_,_, .nil,_, .nil=>⟨_,by rw [WJ]; exact .nil⟩
 | t :: ts,_,_, .cons r rs,ho, .cons rv rvs=>by
  rw [yy,Bool.and_eq_true] at ho
  obtain ⟨as,h1⟩:=ue hk t _ _ r ho.1 rv
  obtain ⟨bs,h2⟩:=Wb hk ts _ _ rs ho.2 rvs
  exact ⟨_,by rw [WJ]; exact .cons h1 h2⟩
end
mutual
theorem yz:∀ t:T,okD t=true->(toD t).showable=true/\(toD t).hasDict=false
 | .non,_=>by rw [toD]; exact ⟨by simp only [PyData.showable],by simp only [PyData.hasDict]⟩
 | .bl b,_=>by rw [toD]; exact ⟨by simp only [PyData.showable],by simp only [PyData.hasDict]⟩
 | .int i,ho=>by
  rw [okD,decide_eq_true_eq] at ho
  rw [toD]; exact ⟨by simp only [PyData.showable]; exact decide_eq_true (W9 ho),by simp only [PyData.hasDict]⟩
 | .str x,_=>by rw [toD]; exact ⟨by simp only [PyData.showable],by simp only [PyData.hasDict]⟩
 | .tup ts,ho=>by
  rw [okD] at ho
  obtain ⟨a,b⟩:=uf ts ho
  rw [toD]; exact ⟨by simp only [PyData.showable]; exact a,by simp only [PyData.hasDict]; exact b⟩
 | .lst _,ho=>by rw [okD] at ho; cases ho
 | .fz _,ho=>by rw [okD] at ho; cases ho
theorem uf:∀ ts:List T,yy ts=true->PyData.showableAll (WJ ts)=true/\PyData.hasDictAll (WJ ts)=false
 | [],_=>by rw [WJ]; exact ⟨by simp only [PyData.showableAll],by simp only [PyData.hasDictAll]⟩
 | t :: ts,ho=>by
  rw [yy,Bool.and_eq_true] at ho
  obtain ⟨a1,b1⟩:=yz t ho.1
  obtain ⟨a2,b2⟩:=uf ts ho.2
  rw [WJ]
  exact ⟨by simp only [PyData.showableAll,a1,a2,Bool.and_self],by simp only [PyData.hasDictAll,b1,b2,Bool.or_self]⟩
end
end
section
variable {X:Cx} {Y:Fx} {a:Expr} {fa:En->R T} {p pos:Pos}
theorem yA {k:Nat} (hr:Jk k X.A):ZD X (.type "str") (fun xs H Q=>(∃ v x,xs=[v]/\txV v=some x/\Q (.str x) H)\/∃ a ts,xs=[.ref a]/\Rep H (.ref a) (.tup ts)/\yy ts=true/\(toD (.tup ts)).depth<=20/\(toD (.tup ts)).shown.length<=10000/\Q (.str (toD (.tup ts)).shown) H):=by
 intro pins s σ H xs us Q I r h
 rcases h with h | ⟨a,ts,rfl,rp,ho,hd,hl,q⟩
 ·exact qq pins s σ H xs us Q I r h
 ·obtain ⟨u,rfl,ru⟩:=j3 r
  obtain rfl:u=Value.ref a:=ru
  have ho' :okD (.tup ts)=true:=by rw [okD]; exact ho
  obtain ⟨as,rd⟩:=ue I.hok (.tup ts) (.ref a) (.ref a) rp ho' rfl
  obtain ⟨s1,s2⟩:=yz (.tup ts) ho'
  have hu:=hr.units
  refine str_of_reads rd s1 (fun z=>by rw [s2] at z; cases z) hr.gd (by omega) (fun _ _ e=>e) (fun h' u tk hk=>⟨.str _,H,I.kept hk,⟨u,rfl⟩,q⟩) (Nat.le_trans hl (by decide))
theorem xU {k:Nat} (hr:Jk k X.A) (gl:Gl X "str") (mg:X.mg "str"=none) (ha:Snd X Y a fa) (hs:St1 X a:=by exact st1 rfl):Snd X Y (.Call (.Name "str" p) [a] [] pos) (ap1 Wa fa):=
 UU (yA hr) (fun v t B H Q r sB q=>by
  unfold Wa at q
  split at q
  ·rename_i xs
   split at q
   ·rename_i hc
    cases r with
    | @tup l ys _ e rr=>exact .inr ⟨l,xs,rfl,(Rep.tup e rr).mono sB,hc.1,hc.2.1,hc.2.2,po0 sB q rfl (.str _)⟩
   ·exact q.elim
  ·rename_i t' _
   unfold Q6 at q
   split at q
   ·rename_i x e
    exact .inl ⟨v,x,rfl,xT r e,po0 sB q rfl (.str _)⟩
   ·exact q.elim) gl mg (PyProof.Rows.Boot.«str») ha hs
end
def kkT:T->List Nat
 | .tup [.str x,_]=>x.cps.toList
 | _=>[]
def Vp:T->Bool
 | .tup [.str _,_]=>true
 | _=>false
def leP (a b:T):Bool:= !decide (kkT b < kkT a)
def Wv (ts:List T):List T:=ts.mergeSort leP
def ug:T->R T
 | .lst ts=>if ts.all Vp=true/\(ts.map kkT).Nodup/\ts.length < 64 then .ok (.lst (Wv ts)) else .bad
 | _=> .bad
theorem Ju (a b:T):leP a b=true↔kkT a<=kkT b:=by
 unfold leP
 rw [Bool.not_eq_true',decide_eq_false_iff_not,List.not_lt]
theorem Wc (ts:List T):(Wv ts).Perm ts:=List.mergeSort_perm _ _
theorem vS (ts:List T):(Wv ts).Pairwise fun a b=>leP a b=true:=List.pairwise_mergeSort (fun a b c h1 h2=>by
 rw [Ju] at*; exact List.le_trans h1 h2) (fun a b=>by
 rw [Bool.or_eq_true,Ju,Ju]; exact List.le_total _ _) ts
theorem yB {l ts:List T} (hp:l.Perm ts) (hn:(ts.map kkT).Nodup) (hw:l.Pairwise fun a b=>leP a b=true):l=Wv ts:=by
 refine List.Perm.eq_of_pairwise (le:=fun a b=>leP a b=true) (fun a b ha hb h1 h2=> ?_) hw (vS ts) (hp.trans (Wc ts).symm)
 rw [Ju] at h1 h2
 have e:kkT a=kkT b:=List.le_antisymm h1 h2
 have ha' :=hp.mem_iff.mp ha
 have hb' :=(Wc ts).mem_iff.mp hb
 obtain ⟨i,hi,rfl⟩:=List.mem_iff_getElem.mp ha'
 obtain ⟨j,hj,rfl⟩:=List.mem_iff_getElem.mp hb'
 have:=(List.getElem_inj (i:=i) (j:=j) (h₀:=by simpa using hi) (h₁:=by simpa using hj) hn).mp (by simpa using e)
 subst this; rfl
section
variable {prog:Program} {w:World} {A:Around} {E:Value->Shared->Prop} {s:Shared}
open PySem.W PySem.Calls
def qr (h:Heap) (v:Value) (x:List Nat):Prop:=∃ a o y t r n,v= .ref a/\h.get? a=some o/\o.cls= .type "tuple"/\o.data= .seq (#[Value.str y t]++r) n/\y.cps.toList=x
theorem qr.keep {h h' :Heap} {v:Value} {x:List Nat} (k:∀ b o,h.get? b=some o->(o.cls= .type "tuple")->h'.get? b=some o):qr h v x->qr h' v x
 | ⟨a,o,y,t,r,n,e1,e2,e3,e4,e5⟩=>⟨a,o,y,t,r,n,e1,k _ _ e2 e3,e3,e4,e5⟩
theorem yC {h:Heap}:∀ (vs:List Value) (xs:List (List Nat)),vs.length=xs.length->(∀ (i:Nat) (v:Value) (x:List Nat),vs[i]? =some v->xs[i]? =some x->qr h v x)->∃ fs:List Value,KatTups h vs fs/\fs.length=vs.length/\∀ f∈fs,∃ y t,f=Value.str y t
 | [],_,_,_=>⟨[],trivial,rfl,fun f hf=>by cases hf⟩
 | v :: vs,[],hl,_=>by cases hl
 | v :: vs,x :: xs,hl,H=>by
  obtain ⟨fs,k,l,q⟩:=yC vs xs (by simpa using hl) fun i v x h1 h2=>H (i+1) v x (by simpa using h1) (by simpa using h2)
  obtain ⟨a,o,y,t,r,n,rfl,e2,e3,e4,e5⟩:=H 0 v x rfl rfl
  refine ⟨.str y t :: fs,⟨⟨a,o,_,n,rfl,e2,e3,e4,by rw [Array.getElem?_append_left (by simp)]; rfl⟩,k⟩,by simp [l],fun f hf=> ?_⟩
  rcases List.mem_cons.mp hf with rfl | hf
  ·exact ⟨y,t,rfl⟩
  ·exact q f hf
theorem xV {vs:List Value} {xs:List (List Nat)} (hl:vs.length=xs.length) (H:∀ (i:Nat) (v:Value) (x:List Nat),vs[i]? =some v->xs[i]? =some x->qr s.heap v x) (hn:xs.Nodup) {i j:Nat} (hi:i < vs.length) (hj:j < vs.length) (hij:i ≠ j) {C:Bool->Shared->Prop} (hc:C (decide (xs.getD i [] < xs.getD j [])) s):
  kas_ask prog w A (tuples' true) vs i j C s:=by
 unfold kas_ask
 have gv:∀ k,k < vs.length->vs[k]? =some (vs.getD k Value.none):=fun k h=>by simp [h]
 have gx:∀ k,k < vs.length->xs[k]? =some (xs.getD k []):=fun k h=>by
  have:k < xs.length:=by omega
  simp [this]
 obtain ⟨a,o,y,t,r,n,e1,e2,e3,e4,e5⟩:=H i _ _ (gv i hi) (gx i hi)
 obtain ⟨a',o',y',t',r',n',f1,f2,f3,f4,f5⟩:=H j _ _ (gv j hj) (gx j hj)
 rw [e1,f1]
 refine kat_lt e2 e4 f2 f4 ?_
 have ez:((#[Value.str y t]++r).toList.zip (#[Value.str y' t']++r').toList)=(Value.str y t,Value.str y' t') :: r.toList.zip r'.toList:=by simp
 rw [ez]
 refine kat_cons (wpAny_eqBool_str ?_)
 have hne:y ≠ y' :=fun z=>by
  have e6:xs.getD i []=xs.getD j []:=by rw [← e5,← f5,z]
  have hi' :i < xs.length:=by omega
  have hj' :j < xs.length:=by omega
  exact hij ((List.getElem_inj (i:=i) (j:=j) (h₀:=hi') (h₁:=hj') hn).mp (by simpa [hi',hj'] using e6))
 rw [decide_eq_false hne]
 refine kat_no (oneLt_str ?_)
 rw [e5,f5]
 exact hc
theorem yD {a:Addr} {vs:List Value} {xs:List (List Nat)} {n:Nat} {P:PySem.Fin->Shared->Prop} (ho:s.heap.get? a=some (seqObj "list" vs.toArray n)) (hl:vs.length=xs.length) (H:∀ (i:Nat) (v:Value) (x:List Nat),vs[i]? =some v->xs[i]? =some x->qr s.heap v x) (hn:xs.Nodup) (h64:vs.length < 64)
  (h:∀ p:Array Nat,Pm vs.length p->So (O:=strKind.toKeyOrd) (fun i=>xs.getD i []) p vs.length->P (.done (.ret .none)) { s with heap:=sortedHeap s.heap a vs (p.toList.map fun i=>vs.getD i Value.none).toArray }):
  wpAny (model prog w) A (Builtin.«list.sort» ⟨[.ref a],[]⟩) P E s:=by
 have ha:a < s.heap.objs.size:=Heap.lt_size ho
 rw [list_sort_plain]
 refine wpAny_bind (listItems_at ho rfl (wpAny_bind (listUpdate_at ho rfl ?_)))
 obtain ⟨e1,ho1⟩:∃ e1,(s.heap.update a (Obj.mapSeq fun _=> #[])).get? a=some (seqObj "list" #[] e1):=⟨_,get?_update_seq ho fun _=> #[]⟩
 refine wpAny_bind (seqEpoch_at ho1 rfl (wpAny_bind (wpAny_newTuple (wpAny_bind (wpAny_newList (wpAny_holding ?_))))))
 have ho6:(((s.heap.update a (Obj.mapSeq fun _=> #[])).push (seqObj "tuple" vs.toArray 0)).push (seqObj "list" #[] 0)).get? a=some (seqObj "list" #[] e1):=Heap.get?_push_of_some _ (Heap.get?_push_of_some _ ho1)
 show wpAny (model prog w) A _ P E { s with heap:=((s.heap.update a (Obj.mapSeq fun _=> #[])).push (seqObj "tuple" vs.toArray 0)).push (seqObj "list" #[] 0) }
 have keep:∀ b o,s.heap.get? b=some o->o.cls= .type "tuple"->(((s.heap.update a (Obj.mapSeq fun _=> #[])).push (seqObj "tuple" vs.toArray 0)).push (seqObj "list" #[] 0)).get? b=some o:=fun b o e c=>by
  have hb:b ≠ a:=fun z=>by subst z; rw [ho] at e; cases e; have c' :Value.type "list"=Value.type "tuple":=c; injection c' with c2; exact absurd c2 (by decide)
  exact Heap.get?_push_of_some _ (Heap.get?_push_of_some _ ((Heap.get?_update_ne _ _ _ _ hb).trans e))
 dsimp only
 have hsz:vs.toArray.size=vs.length:=by simp
 by_cases h2:vs.toArray.size < 2
 ·rw [if_pos h2,if_pos h2]
  refine wpAny_bind (wpAny_pure ?_)
  rw [StateT.run_pure]
  refine wpAny_bind (wpAny_pure ?_)
  dsimp only
  refine wpAny_bind (seqEpoch_at ho6 rfl (wpAny_bind (listUpdate_at ho6 rfl ?_ (hsz2:=by rw [Array.size_map]; show (pairsOf vs).size<=_; rw [pairsOf_size,sizeLine_eq]; omega))))
  simp only [bne_self_eq_false,Bool.false_eq_true,if_false]
  have hp:=h (List.range vs.length).toArray ⟨by simp,by simp⟩ fun i j hij hj=>by omega
  have e:((arrOf (SortSt.mk' general' (vs.toArray.zip vs.toArray) #[] 7 none)).map (·.2))=(((List.range vs.length).toArray).toList.map fun i=>vs.getD i Value.none).toArray:=by
   show (vs.toArray.zip vs.toArray).map (·.2)=_
   have:vs.length=0\/vs.length=1:=by omega
   match vs,this with
   | [],_=>simp
   | [v],_=>simp
  rw [e]
  exact wpAny_pure hp
 ·rw [if_neg h2,if_neg h2]
  have h2' :2<=vs.length:=by omega
  obtain ⟨fs,kt,fl,fq⟩:=yC (h:=((s.heap.update a (Obj.mapSeq fun _=> #[])).push (seqObj "tuple" vs.toArray 0)).push (seqObj "list" #[] 0)) vs xs hl fun i v x q1 q2=>(H i v x q1 q2).keep keep
  refine wpAny_bind (kat_kind (T:= .type "str") kt (by omega) (fun v hv=> ?_) (by decide) ?_)
  ·obtain ⟨y,t,rfl⟩:=fq v hv
   exact Looks.now
  refine wpAny_bind (wpAny_mono (kat_run (ks:=vs) (vs:=vs) (κ:=tuples' true) (Q:=fun st' s' =>s' ={ s with heap:=((s.heap.update a (Obj.mapSeq fun _=> #[])).push (seqObj "tuple" vs.toArray 0)).push (seqObj "list" #[] 0) }/\failedOf st' =none/\∃ p:Array Nat,Pm vs.length p/\So (O:=strKind.toKeyOrd) (fun i=>xs.getD i []) p vs.length/\(arrOf st').map (·.2)=(p.toList.map fun i=>vs.getD i Value.none).toArray)
   (G:=fun p s' =>s' ={ s with heap:=((s.heap.update a (Obj.mapSeq fun _=> #[])).push (seqObj "tuple" vs.toArray 0)).push (seqObj "list" #[] 0) }/\Pm vs.length p/\So (O:=strKind.toKeyOrd) (fun i=>xs.getD i []) p vs.length) rfl h2' h64 (fun p st' s' z1 z2 z3 ⟨z4,z5,z6⟩=>⟨z4,z3,p,z5,z6,kat_snds rfl z2⟩) ?_) ?_ fun _ _ z=>z)
  ·refine Gd.wp (J:=fun s' =>s' ={ s with heap:=((s.heap.update a (Obj.mapSeq fun _=> #[])).push (seqObj "tuple" vs.toArray 0)).push (seqObj "list" #[] 0) }) (lt:=fun i j=>strKind.blt (xs.getD i []) (xs.getD j [])) (n:=vs.length) (fun i j C s' hi hj hij js hc=> ?_) (fun p s' ⟨q1,q2⟩ js=>⟨js,q1,q2⟩) _ _ (vR (O:=strKind.toKeyOrd) (key:=fun i=>xs.getD i []) (fun i j hi hj e=> ?_) h2') rfl
   ·subst js
    exact xV hl (fun i v x q1 q2=>(H i v x q1 q2).keep keep) hn hi hj hij (hc _ rfl)
   ·have hi' :i < xs.length:=by omega
    have hj' :j < xs.length:=by omega
    exact (List.getElem_inj (i:=i) (j:=j) (h₀:=hi') (h₁:=hj') hn).mp (by simpa [hi',hj'] using e)
  ·rintro ⟨⟨⟩,st'⟩ s' ⟨rfl,hf,p,q1,q2,q3⟩
   dsimp only at hf q3 ⊢
   refine wpAny_bind (seqEpoch_at ho6 rfl (wpAny_bind (listUpdate_at ho6 rfl ?_ (hsz2:=by rw [q3,List.size_toArray,List.length_map,Array.length_toList,q1.sz,sizeLine_eq]; omega))))
   rw [hf]
   simp only [bne_self_eq_false,Bool.false_eq_true,if_false]
   rw [q3]
   exact wpAny_pure (h p q1 q2)
theorem uY {l:Addr} {vs:List Value} {xs:List (List Nat)} {Q:Value->Shared->Prop} (hls:s.heap.IsList l vs.toArray) (hl:vs.length=xs.length) (H:∀ (i:Nat) (v:Value) (x:List Nat),vs[i]? =some v->xs[i]? =some x->qr s.heap v x) (hn:xs.Nodup) (h64:vs.length < 64)
  (h:∀ p:Array Nat,Pm vs.length p->So (O:=strKind.toKeyOrd) (fun i=>xs.getD i []) p vs.length->Q (.ref (s.heap.objs.size+1)) { s with heap:=sortedAll s.heap vs (p.toList.map fun i=>vs.getD i Value.none).toArray }):
  wpAny (model prog w) A (call (.builtin "sorted") [.ref l]) Q E s:=by
 refine call_function_entry kind_sorted plain_sorted entry_sorted (args_sorted1 _) ?_
 unfold Builtin.«sorted»
 refine wpAny_bind (m:=checkCount "sorted" 1 1 _) (wpAny_pure (wpAny_bind (collect_list hls (wpAny_bind (wpAny_newList ?_)))))
 have z:((s.heap.push (seqObj "list" #[] 0)).update s.heap.objs.size (Obj.mapSeq (·++vs.toArray))).objs.size=s.heap.objs.size+1:=by rw [Heap.size_update,size_push']
 have hoL:(((s.heap.push (seqObj "list" #[] 0)).update s.heap.objs.size (Obj.mapSeq (·++vs.toArray))).push (seqObj "list" vs.toArray 0)).get? (s.heap.objs.size+1)=some (seqObj "list" vs.toArray 0):=z ▸ Heap.get?_push_size _ rfl
 show wpAny _ _ _ _ _ { s with heap:=((s.heap.push (seqObj "list" #[] 0)).update s.heap.objs.size (Obj.mapSeq (·++vs.toArray))).push (seqObj "list" vs.toArray 0) }
 rw [z]
 have kp:∀ b o,s.heap.get? b=some o->o.cls= .type "tuple"->(((s.heap.push (seqObj "list" #[] 0)).update s.heap.objs.size (Obj.mapSeq (·++vs.toArray))).push (seqObj "list" vs.toArray 0)).get? b=some o:=fun b o e _=>
  Heap.get?_push_of_some _ ((Heap.get?_update_ne _ _ _ _ (Nat.ne_of_lt (Heap.lt_size e))).trans (Heap.get?_push_of_some _ e))
 refine wpAny_bind (wpAny_holding (wpAny_call_entry slot_list_sort ⟨_,hoL,rfl⟩ entry_list_sort (yD hoL hl (fun i v x q1 q2=>(H i v x q1 q2).keep kp) hn h64 fun p q1 q2=>⟨_,rfl,wpAny_pure ⟨_,rfl,h p q1 q2⟩⟩) (args_list_sort _)))
end
section
variable {X:Cx} {Y:Fx} {a:Expr} {fa:En->R T} {p pos:Pos}
theorem kZ {h:Heap} {l:Addr} {o:Obj} {x:Str} {t:Tok} {us:List Value} {n:Nat} (e1:h.get? l=some o) (e2:o.cls= .type "tuple") (e3:o.data= .seq (Value.str x t :: us).toArray n):qr h (.ref l) x.cps.toList:=
 ⟨l,o,x,t,us.toArray,n,rfl,e1,e2,e3.trans (by simp),rfl⟩
theorem K0 {H:Hp} {pins:List (Addr×Obj)} {σ:Sg} {s:Shared} (I:L2.Inv X pins σ H s) {v:V} {u:Value} {t:T} (r:Rep H v t) (ru:L2.RelV v u) (h:Vp t=true):qr s.heap u (kkT t):=by
 unfold Vp at h
 split at h
 ·rename_i x w
  cases r with
  | @tup l ys _ e rr=>
   obtain rfl:u=Value.ref l:=ru
   obtain ⟨_,its,rv,⟨o,e1,e2,n,e3⟩,_⟩:=I.hok l _ e
   cases rr with
   | cons r1 rr=>
    cases rr with
    | cons r2 rr=>
     cases rr with
     | nil=>
      cases r1 with
      | str x=>
       cases rv with
       | cons q1 rv=>
        obtain ⟨t,rfl⟩:=q1
        exact kZ e1 e2 e3
 ·cases h
theorem Wd {H:Hp} {xs:List V} {ts:List T} (r:zE H xs ts):∀ (is:List Nat),(∀ i∈is,i < ts.length)->zE H (is.map fun i=>xs.getD i V.non) (is.map fun i=>ts.getD i T.non)
 | [],_=> .nil
 | i :: is,h=>by
  have hi:=h i List.mem_cons_self
  obtain ⟨v,e1,e2⟩:=r.get (List.getElem?_eq_getElem hi)
  have e3:xs.getD i V.non=v:=by rw [List.getD_eq_getElem?_getD,e1]; rfl
  have e4:ts.getD i T.non=ts[i]:=by rw [List.getD_eq_getElem?_getD,List.getElem?_eq_getElem hi]; rfl
  rw [List.map_cons,List.map_cons,e3,e4]
  exact .cons e2 (Wd r is fun j hj=>h j (List.mem_cons_of_mem _ hj))
theorem We {xs:List V} {us:List Value} (r:L2.Vals xs us):∀ (is:List Nat),(∀ i∈is,i < xs.length)->L2.Vals (is.map fun i=>xs.getD i V.non) (is.map fun i=>us.getD i Value.none)
 | [],_=> .nil
 | i :: is,h=>by
  have hi:=h i List.mem_cons_self
  obtain ⟨u,e1,e2⟩:=r.get (List.getElem?_eq_getElem hi)
  have e3:us.getD i Value.none=u:=by rw [List.getD_eq_getElem?_getD,e1]; rfl
  have e4:xs.getD i V.non=xs[i]:=by rw [List.getD_eq_getElem?_getD,List.getElem?_eq_getElem hi]; rfl
  rw [List.map_cons,List.map_cons,e3,e4]
  exact .cons e2 (We r is fun j hj=>h j (List.mem_cons_of_mem _ hj))
theorem qt {ts:List T} (hn:(ts.map kkT).Nodup) {q:Array Nat} (h1:Pm ts.length q) (h2:So (O:=strKind.toKeyOrd) (fun i=>(ts.map kkT).getD i []) q ts.length):(q.toList.map fun i=>ts.getD i T.non)=Wv ts:=by
 refine yB ?_ hn ?_
 ·have e:(List.range ts.length).map (fun i=>ts.getD i T.non)=ts:=by
   refine List.ext_getElem (by simp) fun i h1 h2=> ?_
   simp at h1 ⊢
   simp [h1]
  exact (h1.pm.map _).trans (by rw [e])
 ·rw [List.pairwise_map,List.pairwise_iff_getElem]
  intro i j hi hj hij
  rw [Array.length_toList,h1.sz] at hi hj
  have h3:=h2 i j hij hj
  have li:=h1.lt hi
  have lj:=h1.lt hj
  have gi:∀ k (hk:k < q.toList.length),q.toList[k]=q.getD k 0:=fun k hk=>by
   have hk' :k < q.size:=by simpa using hk
   simp [Array.getD,hk']
  have gk:∀ k,k < ts.length->(ts.map kkT).getD k []=kkT (ts.getD k T.non):=fun k hk=>by simp [hk]
  rw [gi,gi,Ju]
  have h4:decide (kkT (ts.getD (q.getD i 0) T.non) < kkT (ts.getD (q.getD j 0) T.non))=true:=by
   rw [← gk _ li,← gk _ lj]; exact h3
  exact List.le_of_lt (of_decide_eq_true h4)
theorem uZ:ZD X (.builtin "sorted") (fun vs H Q=>∃ l xs ts,vs=[.ref l]/\H l=some (.lst xs)/\zE H xs ts/\ts.all Vp=true/\(ts.map kkT).Nodup/\ts.length < 64/\∀ r ys,H r=none->(∀ B:Hp,zE B xs ts->zE B ys (Wv ts))->Q (.ref r) (upd H r (.lst ys))):=by
 intro pins s σ H vs us Q I rv h
 obtain ⟨l,xs,ts,rfl,hl,r,hp,hn,h64,q⟩:=h
 obtain ⟨u,rfl,ru⟩:=j3 rv
 obtain rfl:u=Value.ref l:=ru
 obtain ⟨its,rv,pl,hlen,hz⟩:=zT I (.inl hl) r
 have hxl:xs.length=ts.length:=r.length
 have hle:s.heap.objs.size<=s.heap.objs.size+1:=Nat.le_succ _
 refine uY (xs:=ts.map kkT) pl (by rw [List.length_map,hlen]) (fun i v x q1 q2=> ?_) hn (by omega) fun pm a1 a2=> ?_
 ·rw [List.getElem?_map] at q2
  cases e:ts[i]? with
  | none=>rw [e] at q2; cases q2
  | some t=>
   rw [e] at q2
   obtain rfl:kkT t=x:=Option.some.inj q2
   obtain ⟨v',e1,e2⟩:=r.get e
   obtain ⟨u',e3,e4⟩:=rv.get e1
   rw [q1] at e3
   cases e3
   exact K0 I e2 e4 (List.all_eq_true.mp hp t (List.mem_of_getElem? e))
 ·rw [← hlen] at a1 a2
  obtain ⟨n,he⟩:=sortedAll_at s.heap its (pm.toList.map fun i=>its.getD i Value.none).toArray
  have hin:∀ i∈pm.toList,i < ts.length:=fun i hi=>List.mem_range.mp (a1.pm.mem_iff.mp hi)
  have rr:∀ B:Hp,zE B xs ts->zE B (pm.toList.map fun i=>xs.getD i V.non) (Wv ts):=fun B rb=>by
   have:=Wd rb pm.toList hin
   rw [qt hn a1 a2] at this
   exact this
  refine ⟨.ref (s.heap.objs.size+1),upd H (s.heap.objs.size+1) (.lst (pm.toList.map fun i=>xs.getD i V.non)),I.laid (t' :=s.toks) (fun b u e=>sortedAll_old e) hle ?_,rfl,q _ _ (I.hok.fresh hle) rr⟩
  exact ⟨by rw [List.length_map,Array.length_toList,a1.sz,sizeLine_eq]; omega,(pm.toList.map fun i=>its.getD i Value.none),n,We rv pm.toList (fun i hi=>by rw [hxl]; exact hin i hi),he⟩
theorem vT {id:String} {x:Str} {r:List V->Hp->VK->Prop} {g:T->R T} (hc:ZD X (.builtin id) r) (hr:∀ v t B H Q,Rep B v t->zx B H->Po Y rC B H (g t) Q->r [v] H Q)
  (gl:Gl X x) (mg:X.mg x=none) (bt:bootBuiltins x=some (.builtin id)) (ha:Snd X Y a fa) (hs:St1 X a:=by exact st1 rfl) (hn:x ≠ "__name__":=by decide) (hd:(x == ("__debug__":Str))=false:=by decide):Snd X Y (.Call (.Name x p) [a] [] pos) (ap1 g fa):= .mk fun ρ=>
 PE.imp (jk hc gl mg bt (zB (ha ρ) Zi hs) hn hd hs rfl) fun σ H Q ⟨B,I,q⟩=>step I q fun t v H1 _ s1 r1 I1 q1=>hr v t _ H1 Q r1 I1.sB q1
theorem vU (gl:Gl X "sorted") (mg:X.mg "sorted"=none) (ha:Snd X Y a fa) (hs:St1 X a:=by exact st1 rfl):Snd X Y (.Call (.Name "sorted" p) [a] [] pos) (ap1 ug fa):=
 vT uZ (fun v t B H Q r sB q=>by
  cases r with
  | @lst l xs ts h r=>
   have q:Po Y rC B H (if ts.all Vp=true/\(ts.map kkT).Nodup/\ts.length < 64 then .ok (.lst (Wv ts)) else .bad) Q:=q
   split at q
   ·rename_i hc
    refine ⟨l,xs,ts,rfl,sB _ _ h,r.mono sB,hc.1,hc.2.1,hc.2.2,fun z ys hz rr=> ?_⟩
    exact q _ _ (zx.new hz _) (.lst (j9 hz _) ((rr B r).mono (zR.ge sB (zx.new hz _))))
   ·exact q.elim
  | _=>exact q.elim) gl mg PyProof.Rows.Boot.«sorted» ha hs
end
end PV
namespace G
open PySem PySem.Spec PyProof.Rows L2 PV
def KI:En->RS:=
  zu (ifS (zv ltC (vB 1) (ap1 ZX (vB 0))) (zK (ze ixT (vE 0) (vE 1))) (nxS))
  (zu (ifS (zv eqC (vB 0) (Jn (zg))) (zK (cE (.int 0))) (nxS))
  (zK (ze zz (ze Z2 (ze ixT (vE 0) (ze JH (vE 1) (ap1 ZX (vB 0)))) (cE (.int 31))) (vE 1))))
def xW:List T->R T:=fun ts=>zn (KI  (en0 2 ts))
def b_3 (c_14:List T->R T):En->RS:=
  zu (zS 3 (ze JH (ze Z2 (ze zz (zc 2 c_14 (z9 (vE 0) (z9 (vE 1) (zg)))) (ze Z2 (cE (.int 6151)) (ze zz (vE 1) (cE (.int 1))))) (cE (.int 40692))) (cE (.int 2147483399))))
  (zK (ze JH (ze JH (ze zz (ze Z2 (vE 3) (vE 3)) (ze Jo (vE 3) (cE (.int 31)))) (cE (.int 2147483629))) (vE 2)))
def f_3:List T->R T:=fun ts=>zn (b_3 (xW) (en0 4 ts))
def b_u (c_3:List T->R T):En->RS:=
  zu (zS 2 (cE (.str "abcdefghijklmnopqrstuvwxyz")))
  (zu (ifS (zv gtC (zc 3 c_3 (z9 (vE 0) (z9 (vE 1) (z9 (cE (.int 6)) (zg))))) (cE (.int 0))) (zK (ze ixT (Jn (z9 (cE (.str "a")) (z9 (cE (.str "b")) (z9 (cE (.str "ab")) (z9 (cE (.str "cab")) (zg)))))) (zc 3 c_3 (z9 (vE 0) (z9 (ze zz (vE 1) (cE (.int 1))) (z9 (cE (.int 4)) (zg))))))) (nxS))
  (zK (ap1 (xz "") (Z0 (j5 (ze zz (cE (.int 1)) (zc 3 c_3 (z9 (vE 0) (z9 (ze zz (vE 1) (cE (.int 1))) (z9 (cE (.int 3)) (zg))))))) (zG 0) (Z9) (ze ixT (vE 3) (zc 3 c_3 (z9 (vE 1) (z9 (ze zz (ze zz (vE 2) (cE (.int 2))) (vE 0)) (z9 (cE (.int 26)) (zg)))))) 1 [0,1,2]))))
def f_u:List T->R T:=fun ts=>zn (b_u (f_3) (en0 3 ts))
def b_p (c_3:List T->R T) (c_u:List T->R T):En->RS:=
  zu (ifS (zv gtC (zc 3 c_3 (z9 (vE 0) (z9 (vE 1) (z9 (cE (.int 3)) (zg))))) (cE (.int 0))) (zu (zS 2 (ze WA (zc 3 c_3 (z9 (vE 0) (z9 (ze zz (vE 1) (cE (.int 1))) (z9 (cE (.int 7)) (zg))))) (cE (.int 3))))
  (zu (ifS (zv eqC (zc 3 c_3 (z9 (vE 0) (z9 (ze zz (vE 1) (cE (.int 3))) (z9 (cE (.int 8)) (zg))))) (cE (.int 0))) (zS 2 (ze ixT (Jn (z9 (qW (cE (.int 20))) (z9 (cE (.int 17)) (z9 (cE (.int 20)) (zg))))) (zc 3 c_3 (z9 (vE 0) (z9 (ze zz (vE 1) (cE (.int 4))) (z9 (cE (.int 3)) (zg))))))) (nxS))
  (zK (Zo (z9 (cE (.str "whole")) (z9 (vE 2) (z9 (ze jC (cE (.int 20)) (ze zz (vE 2) (zc 3 c_3 (z9 (vE 0) (z9 (ze zz (vE 1) (cE (.int 2))) (z9 (cE (.int 4)) (zg))))))) (zg)))))))) (nxS))
  (zu (Yw 3 (zg))
  (zu (Je (j5 (ze zz (cE (.int 1)) (zc 3 c_3 (z9 (vE 0) (z9 (ze zz (vE 1) (cE (.int 1))) (z9 (cE (.int 4)) (zg))))))) (zG 4) (zu (zS 5 (zc 2 c_u (z9 (vE 0) (z9 (ze zz (ze zz (vE 1) (cE (.int 5))) (ze Z2 (cE (.int 5)) (vE 4))) (zg)))))
  (ifS (zv YN (vB 5) (vB 3)) (YT 3 (vE 5)) (nxS))))
  (zK (Zo (z9 (cE (.str "pick")) (z9 (ap1 qY (Z0 (vv (vE 3)) (Zd 0 1) (Z9) (Zo (z9 (vE 1) (z9 (ze zz (cE (.int 1)) (zc 3 c_3 (z9 (vE 2) (z9 (ze zz (ze zz (vE 3) (cE (.int 30))) (vE 0)) (z9 (cE (.int 20)) (zg)))))) (zg)))) 2 [0,1])) (zg)))))))
def f_p:List T->R T:=fun ts=>zn (b_p (f_3) (f_u) (en0 6 ts))
def b_c (c_3:List T->R T) (c_p:List T->R T) (c_c:List T->R T):En->RS:=
  zu (zS 3 (zc 3 c_3 (z9 (vE 0) (z9 (vE 1) (z9 (cE (.int 5)) (zg))))))
  (zu (ifS (orT (zv eqC (vB 2) (cE (.int 1))) (zv ltC (vB 3) (cE (.int 2)))) (zK (zc 2 c_p (z9 (vE 0) (z9 (ze zz (vE 1) (cE (.int 1))) (zg))))) (nxS))
  (zu (ifS (zv ltC (vB 3) (cE (.int 4))) (zu (zS 4 (Z0 (j5 (ze zz (cE (.int 1)) (zc 3 c_3 (z9 (vE 0) (z9 (ze zz (vE 1) (cE (.int 1))) (z9 (cE (.int 3)) (zg))))))) (zG 0) (Z9) (zc 3 c_c (z9 (vE 1) (z9 (ze zz (ze zz (ze Z2 (cE (.int 3)) (vE 2)) (cE (.int 40))) (ze Z2 (cE (.int 50)) (vE 0))) (z9 (ze WA (vE 3) (cE (.int 1))) (zg))))) 1 [0,1,2]))
  (zK (Zo (z9 (cE (.str "row")) (z9 (ap1 qY (vE 4)) (zg)))))) (nxS))
  (zu (zS 5 (zc 3 c_3 (z9 (vE 0) (z9 (ze zz (vE 1) (cE (.int 1))) (z9 (cE (.int 3)) (zg))))))
  (zK (Zo (z9 (cE (.str "many")) (z9 (zc 3 c_c (z9 (vE 0) (z9 (ze zz (ze Z2 (cE (.int 3)) (vE 1)) (cE (.int 40))) (z9 (ze WA (vE 2) (cE (.int 1))) (zg))))) (z9 (vE 5) (z9 (ze jC (cE (.int 3)) (ze zz (vE 5) (zc 3 c_3 (z9 (vE 0) (z9 (ze zz (vE 1) (cE (.int 2))) (z9 (cE (.int 3)) (zg))))))) (zg))))))))))
def S_c:Nat->Nat->List T->R T
 | 0,_=>fun _=> .bad
 | n+1,_=>fun ts=>zn (b_c (f_3) (f_p) (S_c n 0) (en0 6 ts))
abbrev f_c (n:Nat):List T->R T:=S_c n 0
def b_a:En->RS:=
  zu (zS 1 (Jn (z9 (Zo (zg)) (zg))))
  (zu (Je (j2 (vE 0)) (zG 2) (zu (Yw 3 (zg))
  (zu (Je (j2 (vE 1)) (zG 4) (Vn 3 (Z0 (j2 (vE 2)) (zG 0) (Z9) (ze zz (vE 1) (Zo (z9 (vE 0) (zg)))) 1 [4])))
  (mvS 1 3))))
  (zK (vE 1)))
def f_a:List T->R T:=fun ts=>zn (b_a  (en0 5 ts))
def b_6 (c_6:List T->R T) (c_a:List T->R T):En->RS:=
  zu (ifS (zv eqC (ze ixT (vE 0) (cE (.int 0))) (cE (.str "whole"))) (zK (XJ (Jd (ze ixT (vE 0) (cE (.int 1))) (ze zz (ze ixT (vE 0) (cE (.int 2))) (cE (.int 1)))))) (nxS))
  (zu (ifS (zv eqC (ze ixT (vE 0) (cE (.int 0))) (cE (.str "pick"))) (zK (Z0 (j2 (ze ixT (vE 0) (cE (.int 1)))) (Zd 0 1) (Z9) (vE 0) 2 [])) (nxS))
  (zu (ifS (zv eqC (ze ixT (vE 0) (cE (.int 0))) (cE (.str "row"))) (zK (zc 1 c_a (z9 (Z0 (j2 (ze ixT (vE 0) (cE (.int 1)))) (zG 0) (Z9) (zc 1 c_6 (z9 (vE 0) (zg))) 1 []) (zg)))) (nxS))
  (zu (Yw 1 (zg))
  (zu (Je (Jd (ze ixT (vE 0) (cE (.int 2))) (ze zz (ze ixT (vE 0) (cE (.int 3))) (cE (.int 1)))) (zG 2) (Vn 1 (zc 1 c_a (z9 (ze Z2 (Jn (z9 (zc 1 c_6 (z9 (ze ixT (vE 0) (cE (.int 1))) (zg))) (zg))) (vE 2)) (zg)))))
  (zK (vE 1))))))
def S_6:Nat->Nat->List T->R T
 | 0,_=>fun _=> .bad
 | n+1,_=>fun ts=>zn (b_6 (S_6 n 0) (f_a) (en0 3 ts))
abbrev f_6 (n:Nat):List T->R T:=S_6 n 0
def b_7 (c_6:List T->R T) (c_7:List T->R T):En->RS:=
  zu (ifS (zv inC (ze ixT (vE 0) (cE (.int 0))) (Zo (z9 (cE (.str "whole")) (z9 (cE (.str "pick")) (zg))))) (zK (ap1 ZX (zc 1 c_6 (z9 (vE 0) (zg))))) (nxS))
  (zu (zS 1 (ifE (zv eqC (ze ixT (vE 0) (cE (.int 0))) (cE (.str "row"))) (Z0 (j2 (ze ixT (vE 0) (cE (.int 1)))) (zG 0) (Z9) (zc 1 c_7 (z9 (vE 0) (zg))) 1 []) (Jn (zg))))
  (zu (zS 2 (cE (.int 1)))
  (zu (Je (j2 (vE 1)) (zG 3) (zS 2 (ze Z2 (vE 2) (vE 3))))
  (zu (ifS (zv eqC (ze ixT (vE 0) (cE (.int 0))) (cE (.str "many"))) (zu (zS 4 (zc 1 c_7 (z9 (ze ixT (vE 0) (cE (.int 1))) (zg))))
  (zu (zS 2 (ze zz (ap1 wJ (jl eqC (ze ixT (vE 0) (cE (.int 2))) (cE (.int 0)))) (ze Z2 (vE 4) (ap1 wJ (chE leC leC (ze ixT (vE 0) (cE (.int 2))) (cE (.int 1)) (ze ixT (vE 0) (cE (.int 3))))))))
  (zu (zS 2 (ze zz (vE 2) (ze Z2 (ze Z2 (vE 4) (vE 4)) (ap1 wJ (chE leC leC (ze ixT (vE 0) (cE (.int 2))) (cE (.int 2)) (ze ixT (vE 0) (cE (.int 3))))))))
  (zS 2 (ze zz (vE 2) (ze Z2 (ze Z2 (ze Z2 (vE 4) (vE 4)) (vE 4)) (ap1 wJ (jl eqC (ze ixT (vE 0) (cE (.int 3))) (cE (.int 3)))))))))) (nxS))
  (zK (vE 2))))))
def S_7:Nat->Nat->List T->R T
 | 0,_=>fun _=> .bad
 | n+1,_=>fun ts=>zn (b_7 (f_6 8) (S_7 n 0) (en0 5 ts))
abbrev f_7 (n:Nat):List T->R T:=S_7 n 0
def b_o (c_c:List T->R T) (c_7:List T->R T):En->RS:=
  zu (zS 3 (zc 3 c_c (z9 (vE 0) (z9 (vE 1) (z9 (cE (.int 3)) (zg))))))
  (zu (Je (j5 (cE (.int 3))) (zG 4) (zu (ifS (zv leC (zc 1 c_7 (z9 (vE 3) (zg))) (vB 2)) (zK (vE 3)) (nxS))
  (zS 3 (zc 3 c_c (z9 (vE 0) (z9 (ze zz (ze zz (vE 1) (cE (.int 500))) (ze Z2 (cE (.int 700)) (vE 4))) (z9 (cE (.int 2)) (zg))))))))
  (zK (ifE (zv leC (zc 1 c_7 (z9 (vE 3) (zg))) (vB 2)) (vE 3) (Zo (z9 (cE (.str "whole")) (z9 (qW (cE (.int 1))) (z9 (cE (.int 2)) (zg))))))))
def f_o:List T->R T:=fun ts=>zn (b_o (f_c 8) (f_7 8) (en0 5 ts))
def b_b (c_3:List T->R T) (c_b:List T->R T):En->RS:=
  zu (ifS (zv eqC (ze ixT (vE 2) (cE (.int 0))) (cE (.str "whole"))) (zu (zS 3 (ze zz (ze ixT (vE 2) (cE (.int 1))) (zc 3 c_3 (z9 (vE 0) (z9 (vE 1) (z9 (cE (.int 2)) (zg)))))))
  (zK (Zo (z9 (cE (.str "whole")) (z9 (ze jC (vE 3) (ze ixT (vE 2) (cE (.int 2)))) (z9 (ze ixT (vE 2) (cE (.int 2))) (zg))))))) (nxS))
  (zu (ifS (zv eqC (ze ixT (vE 2) (cE (.int 0))) (cE (.str "pick"))) (zK (Zo (z9 (cE (.str "pick")) (z9 (slE (ze ixT (vE 2) (cE (.int 1))) (noO) (UX (ze wn (cE (.int 1)) (ze WA (ap1 ZX (ze ixT (vE 2) (cE (.int 1)))) (zc 3 c_3 (z9 (vE 0) (z9 (vE 1) (z9 (cE (.int 2)) (zg))))))))) (zg))))) (nxS))
  (zu (ifS (zv eqC (ze ixT (vE 2) (cE (.int 0))) (cE (.str "row"))) (zK (Zo (z9 (cE (.str "row")) (z9 (ap1 qY (Z0 (W8 (ze ixT (vE 2) (cE (.int 1)))) (Zd 0 1) (Z9) (zc 3 c_b (z9 (vE 2) (z9 (ze zz (vE 3) (ze Z2 (cE (.int 7)) (vE 0))) (z9 (vE 1) (zg))))) 2 [0,1])) (zg))))) (nxS))
  (zK (Zo (z9 (cE (.str "many")) (z9 (zc 3 c_b (z9 (vE 0) (z9 (ze zz (vE 1) (cE (.int 3))) (z9 (ze ixT (vE 2) (cE (.int 1))) (zg))))) (z9 (ze jC (ze zz (ze ixT (vE 2) (cE (.int 2))) (zc 3 c_3 (z9 (vE 0) (z9 (vE 1) (z9 (cE (.int 2)) (zg)))))) (ze ixT (vE 2) (cE (.int 3)))) (z9 (ze ixT (vE 2) (cE (.int 3))) (zg)))))))))
def S_b:Nat->Nat->List T->R T
 | 0,_=>fun _=> .bad
 | n+1,_=>fun ts=>zn (b_b (f_3) (S_b n 0) (en0 4 ts))
abbrev f_b (n:Nat):List T->R T:=S_b n 0
def b_n:En->RS:=
  zK (JI (ap1 (vd "int") (vB 0)) (KH (ap1 (vd "bool") (vB 0))))
def f_n:List T->R T:=fun ts=>zn (b_n  (en0 1 ts))
def KJ (c_n:List T->R T):En->RS:=
  zK (JI (zc 1 c_n (z9 (vE 0) (zg))) (JI (zc 1 c_n (z9 (vE 1) (zg))) (KG leC leC leC (vB 2) (vB 0) (vB 1) (vB 3))))
def XM:List T->R T:=fun ts=>zn (KJ (f_n) (en0 4 ts))
def b_g:En->RS:=
  zK (JI (ap1 (vd "tuple") (vB 0)) (chE leC leC (vB 1) (ap1 ZX (vB 0)) (vB 2)))
def f_g:List T->R T:=fun ts=>zn (b_g  (en0 3 ts))
def b_z:En->RS:=
  zu (ifS (orT (WW (wI (ap1 (vd "str") (vB 0)))) (WW (chT leC leC (cE (.int 1)) (ap1 ZX (vB 0)) (cE (.int 3))))) (zK (cE (.bl false))) (nxS))
  (zK (ap1 vi (Z0 (j2 (vE 0)) (zG 0) (Z9) (chE leC leC (cE (.str "a")) (vB 0) (cE (.str "z"))) 1 [])))
def f_z:List T->R T:=fun ts=>zn (b_z  (en0 1 ts))
def b_y (c_n:List T->R T) (c_g:List T->R T) (c_z:List T->R T):En->RS:=
  zK (JI (zc 3 c_g (z9 (vE 0) (z9 (cE (.int 2)) (z9 (cE (.int 2)) (zg))))) (JI (zc 1 c_z (z9 (ze ixT (vE 0) (cE (.int 0))) (zg))) (JI (zc 1 c_n (z9 (ze ixT (vE 0) (cE (.int 1))) (zg))) (chE leC leC (cE (.int 1)) (ze ixT (vE 0) (cE (.int 1))) (cE (.int 20))))))
def f_y:List T->R T:=fun ts=>zn (b_y (f_n) (f_g) (f_z) (en0 1 ts))
def b_r (c_g:List T->R T) (c_y:List T->R T):En->RS:=
  zu (ifS (orT (WW (wI (zc 3 c_g (z9 (vE 0) (z9 (cE (.int 1)) (z9 (cE (.int 4)) (zg))))))) (WW (wI (ap1 vi (Z0 (j2 (vE 0)) (zG 0) (Z9) (zc 1 c_y (z9 (vE 0) (zg))) 1 []))))) (zK (cE (.bl false))) (nxS))
  (zu (zS 1 (Z0 (j2 (vE 0)) (zG 0) (Z9) (ze ixT (vE 0) (cE (.int 0))) 1 []))
  (zK (jl eqC (ap1 qa (vB 1)) (ap1 ZX (vB 1)))))
def f_r:List T->R T:=fun ts=>zn (b_r (f_g) (f_y) (en0 2 ts))
def b_9 (c_10:List T->R T) (c_9:List T->R T) (c_r:List T->R T) (c_13:List T->R T):En->RS:=
  zu (ifS (orT (zv eqC (vB 1) (cE (.int 0))) (orT (WW (wI (ap1 (vd "tuple") (vB 0)))) (zv eqC (ap1 ZX (vB 0)) (cE (.int 0))))) (zK (cE (.bl false))) (nxS))
  (zu (ifS (zv eqC (ze ixT (vE 0) (cE (.int 0))) (cE (.str "whole"))) (zK (JI (jl eqC (ap1 ZX (vB 0)) (cE (.int 3))) (zc 4 c_10 (z9 (ze ixT (vE 0) (cE (.int 1))) (z9 (ze ixT (vE 0) (cE (.int 2))) (z9 (qW (cE (.int 20))) (z9 (cE (.int 20)) (zg)))))))) (nxS))
  (zu (ifS (zv eqC (ze ixT (vE 0) (cE (.int 0))) (cE (.str "pick"))) (zK (JI (jl eqC (ap1 ZX (vB 0)) (cE (.int 2))) (zc 1 c_r (z9 (ze ixT (vE 0) (cE (.int 1))) (zg))))) (nxS))
  (zu (ifS (zv eqC (ze ixT (vE 0) (cE (.int 0))) (cE (.str "row"))) (zK (JI (jl eqC (ap1 ZX (vB 0)) (cE (.int 2))) (zc 2 c_13 (z9 (ze ixT (vE 0) (cE (.int 1))) (z9 (ze WA (vE 1) (cE (.int 1))) (zg)))))) (nxS))
  (zu (ifS (zv eqC (ze ixT (vE 0) (cE (.int 0))) (cE (.str "many"))) (zK (JI (jl eqC (ap1 ZX (vB 0)) (cE (.int 4))) (JI (zc 4 c_10 (z9 (ze ixT (vE 0) (cE (.int 2))) (z9 (ze ixT (vE 0) (cE (.int 3))) (z9 (cE (.int 0)) (z9 (cE (.int 3)) (zg)))))) (zc 2 c_9 (z9 (ze ixT (vE 0) (cE (.int 1))) (z9 (ze WA (vE 1) (cE (.int 1))) (zg))))))) (nxS))
  (zK (cE (.bl false)))))))
def XN (c_g:List T->R T) (c_9:List T->R T):En->RS:=
  zK (JI (zc 3 c_g (z9 (vE 0) (z9 (cE (.int 1)) (z9 (cE (.int 3)) (zg))))) (ap1 vi (Z0 (j2 (vE 0)) (zG 0) (Z9) (zc 2 c_9 (z9 (vE 0) (z9 (vE 1) (zg)))) 1 [1])))
def S_9:Nat->Nat->List T->R T
 | 0,_=>fun _=> .bad
 | n+1,0=>fun ts=>zn (b_9 (XM) (S_9 n 0) (f_r) (S_9 n 1) (en0 2 ts))
 | n+1,_=>fun ts=>zn (XN (f_g) (S_9 n 0) (en0 2 ts))
abbrev f_9 (n:Nat):List T->R T:=S_9 n 0
abbrev gM (n:Nat):List T->R T:=S_9 n 1
def b_4 (c_9:List T->R T):En->RS:=
  zK (zc 2 c_9 (z9 (vE 0) (z9 (cE (.int 3)) (zg))))
def f_4:List T->R T:=fun ts=>zn (b_4 (f_9 20) (en0 1 ts))
def b_e (c_4:List T->R T):En->RS:=
  ifS (WW (wI (zc 1 c_4 (z9 (vE 0) (zg))))) (kQ) (nxS)
def f_e:List T->R T:=fun ts=>zn (b_e (f_4) (en0 1 ts))
def b_w:En->RS:=
  zu (zS 2 (ze wn (ze ixT (vE 0) (cE (.int 1))) (ze ixT (vE 1) (cE (.int 1)))))
  (zu (zS 3 (ze jC (ze ixT (vE 0) (cE (.int 2))) (ze ixT (vE 1) (cE (.int 2)))))
  (zK (ifE (zv leC (vB 2) (vB 3)) (Zo (z9 (cE (.str "whole")) (z9 (vE 2) (z9 (vE 3) (zg))))) (cE .non))))
def f_w:List T->R T:=fun ts=>zn (b_w  (en0 4 ts))
def b_j:En->RS:=
  zK (Z0 (j2 (ze ixT (vE 0) (cE (.int 1)))) (zG 0) (Z9) (ze ixT (vE 0) (cE (.int 0))) 1 [])
def f_j:List T->R T:=fun ts=>zn (b_j  (en0 1 ts))
def b_v (c_j:List T->R T):En->RS:=
  zu (zS 2 (zc 1 c_j (z9 (vE 1) (zg))))
  (zu (zS 3 (Z0 (j2 (ze ixT (vE 0) (cE (.int 1)))) (zG 0) (zv inC (ze ixT (vE 0) (cE (.int 0))) (vB 1)) (vE 0) 1 [2]))
  (zK (ifE (zv gtC (ap1 ZX (vB 3)) (cE (.int 0))) (Zo (z9 (cE (.str "pick")) (z9 (ap1 qY (vE 3)) (zg)))) (cE .non))))
def f_v:List T->R T:=fun ts=>zn (b_v (f_j) (en0 4 ts))
def b_t:En->RS:=
  zu (ifS (zv eqC (ze ixT (vE 0) (cE (.int 0))) (cE (.str "row"))) (zK (ze ixT (vE 0) (cE (.int 1)))) (nxS))
  (zu (ifS (Ud (zv eqC (ze ixT (vE 0) (cE (.int 0))) (cE (.str "many"))) (chT leC leC (ze ixT (vE 0) (cE (.int 2))) (vB 1) (ze ixT (vE 0) (cE (.int 3))))) (zK (ze qo (Zo (z9 (ze ixT (vE 0) (cE (.int 1))) (zg))) (vE 1))) (nxS))
  (zK (Zo (zg))))
def f_t:List T->R T:=fun ts=>zn (b_t  (en0 2 ts))
def b_5 (c_t:List T->R T) (c_x:List T->R T) (c_w:List T->R T) (c_v:List T->R T) (c_12:List T->R T):En->RS:=
  zu (ifS (zv eqC (ze ixT (vE 0) (cE (.int 0))) (cE (.str "row"))) (zK (zc 2 c_x (z9 (ze ixT (vE 0) (cE (.int 1))) (z9 (zc 2 c_t (z9 (vE 1) (z9 (ap1 ZX (ze ixT (vE 0) (cE (.int 1)))) (zg)))) (zg))))) (nxS))
  (zu (ifS (zv eqC (ze ixT (vE 1) (cE (.int 0))) (cE (.str "row"))) (zK (zc 2 c_x (z9 (zc 2 c_t (z9 (vE 0) (z9 (ap1 ZX (ze ixT (vE 1) (cE (.int 1)))) (zg)))) (z9 (ze ixT (vE 1) (cE (.int 1))) (zg))))) (nxS))
  (zu (ifS (zv neC (ze ixT (vE 0) (cE (.int 0))) (ze ixT (vE 1) (cE (.int 0)))) (zK (cE .non)) (nxS))
  (zu (ifS (zv eqC (ze ixT (vE 0) (cE (.int 0))) (cE (.str "whole"))) (zK (zc 2 c_w (z9 (vE 0) (z9 (vE 1) (zg))))) (nxS))
  (zu (ifS (zv eqC (ze ixT (vE 0) (cE (.int 0))) (cE (.str "pick"))) (zK (zc 2 c_v (z9 (vE 0) (z9 (vE 1) (zg))))) (nxS))
  (zK (zc 2 c_12 (z9 (vE 0) (z9 (vE 1) (zg)))))))))
def b_x (c_5:List T->R T):En->RS:=
  zu (ifS (zv neC (ap1 ZX (vB 0)) (ap1 ZX (vB 1))) (zK (cE .non)) (nxS))
  (zu (zS 2 (Z0 (xH (vE 0) (vE 1)) (Zd 0 1) (Z9) (zc 2 c_5 (z9 (vE 0) (z9 (vE 1) (zg)))) 2 []))
  (zu (ifS (zv inC (cE .non) (vB 2)) (zK (cE .non)) (nxS))
  (zK (Zo (z9 (cE (.str "row")) (z9 (ap1 qY (vE 2)) (zg)))))))
def XO (c_5:List T->R T):En->RS:=
  zu (zS 2 (ze wn (ze ixT (vE 0) (cE (.int 2))) (ze ixT (vE 1) (cE (.int 2)))))
  (zu (zS 3 (ze jC (ze ixT (vE 0) (cE (.int 3))) (ze ixT (vE 1) (cE (.int 3)))))
  (zu (ifS (zv gtC (vB 2) (vB 3)) (zK (cE .non)) (nxS))
  (zu (zS 4 (zc 2 c_5 (z9 (ze ixT (vE 0) (cE (.int 1))) (z9 (ze ixT (vE 1) (cE (.int 1))) (zg)))))
  (zu (ifS (zv ZH (vB 4) (cE .non)) (zK (Zo (z9 (cE (.str "many")) (z9 (vE 4) (z9 (vE 2) (z9 (vE 3) (zg))))))) (nxS))
  (zK (ifE (zv eqC (vB 2) (cE (.int 0))) (Zo (z9 (cE (.str "many")) (z9 (ze ixT (vE 0) (cE (.int 1))) (z9 (cE (.int 0)) (z9 (cE (.int 0)) (zg)))))) (cE .non)))))))
def S_5:Nat->Nat->List T->R T
 | 0,_=>fun _=> .bad
 | n+1,0=>fun ts=>zn (b_5 (f_t) (S_5 n 1) (f_w) (f_v) (S_5 n 2) (en0 2 ts))
 | n+1,1=>fun ts=>zn (b_x (S_5 n 0) (en0 3 ts))
 | n+1,_=>fun ts=>zn (XO (S_5 n 0) (en0 5 ts))
abbrev f_5 (n:Nat):List T->R T:=S_5 n 0
abbrev f_x (n:Nat):List T->R T:=S_5 n 1
abbrev gN (n:Nat):List T->R T:=S_5 n 2
def b_2 (c_e:List T->R T) (c_5:List T->R T):En->RS:=
  zu (WD (zc 1 c_e (z9 (vE 0) (zg))))
  (zu (WD (zc 1 c_e (z9 (vE 1) (zg))))
  (zK (zc 2 c_5 (z9 (vE 0) (z9 (vE 1) (zg))))))
def f_2:List T->R T:=fun ts=>zn (b_2 (f_e) (f_5 20) (en0 2 ts))
def b_f (c_2:List T->R T):En->RS:=
  zK (ifE (orT (zv Jf (vB 0) (cE .non)) (zv Jf (vB 1) (cE .non))) (cE .non) (zc 2 c_2 (z9 (vE 0) (z9 (vE 1) (zg)))))
def f_f:List T->R T:=fun ts=>zn (b_f (f_2) (en0 2 ts))
def b_1 (c_l:List T->R T) (c_h:List T->R T):En->RS:=
  zu (ifS (zv eqC (ze ixT (vE 0) (cE (.int 0))) (cE (.str "whole"))) (zK (ze zz (ze WA (ze ixT (vE 0) (cE (.int 2))) (ze ixT (vE 0) (cE (.int 1)))) (cE (.int 1)))) (nxS))
  (zu (ifS (zv eqC (ze ixT (vE 0) (cE (.int 0))) (cE (.str "pick"))) (zK (ap1 ZX (ze ixT (vE 0) (cE (.int 1))))) (nxS))
  (zu (ifS (zv eqC (ze ixT (vE 0) (cE (.int 0))) (cE (.str "row"))) (zK (zc 1 c_l (z9 (ze ixT (vE 0) (cE (.int 1))) (zg)))) (nxS))
  (zK (zc 2 c_h (z9 (vE 0) (z9 (ze zz (ze ixT (vE 0) (cE (.int 3))) (cE (.int 1))) (zg)))))))
def b_l (c_1:List T->R T):En->RS:=
  zu (zS 1 (cE (.int 1)))
  (zu (Je (j2 (vE 0)) (zG 2) (zS 1 (ze Z2 (vE 1) (zc 1 c_1 (z9 (vE 2) (zg))))))
  (zK (vE 1)))
def b_h (c_l:List T->R T):En->RS:=
  zK (ap1 XL (Z0 (Jd (ze ixT (vE 0) (cE (.int 2))) (vE 1)) (zG 0) (Z9) (zc 1 c_l (z9 (ze Z2 (Jn (z9 (ze ixT (vE 1) (cE (.int 1))) (zg))) (vE 0)) (zg))) 1 [0]))
def S_1:Nat->Nat->List T->R T
 | 0,_=>fun _=> .bad
 | n+1,0=>fun ts=>zn (b_1 (S_1 n 1) (S_1 n 2) (en0 1 ts))
 | n+1,1=>fun ts=>zn (b_l (S_1 n 0) (en0 3 ts))
 | n+1,_=>fun ts=>zn (b_h (S_1 n 1) (en0 2 ts))
abbrev f_1 (n:Nat):List T->R T:=S_1 n 0
abbrev f_l (n:Nat):List T->R T:=S_1 n 1
abbrev f_h (n:Nat):List T->R T:=S_1 n 2
def b_d (c_j:List T->R T) (c_11:List T->R T) (c_k:List T->R T):En->RS:=
  zu (ifS (zv eqC (ze ixT (vE 0) (cE (.int 0))) (cE (.str "whole"))) (zK (ze zz (ze ixT (vE 0) (cE (.int 1))) (vE 1))) (nxS))
  (zu (ifS (zv eqC (ze ixT (vE 0) (cE (.int 0))) (cE (.str "pick"))) (zK (ze ixT (zc 1 c_j (z9 (vE 0) (zg))) (vE 1))) (nxS))
  (zu (ifS (zv eqC (ze ixT (vE 0) (cE (.int 0))) (cE (.str "row"))) (zK (zc 2 c_k (z9 (ze ixT (vE 0) (cE (.int 1))) (z9 (vE 1) (zg))))) (nxS))
  (zK (zc 2 c_11 (z9 (vE 0) (z9 (vE 1) (zg)))))))
def Vq (c_h:List T->R T) (c_k:List T->R T):En->RS:=
  zu (zS 2 (ze ixT (vE 0) (cE (.int 2))))
  (zu (ZV (zv leC (zc 2 c_h (z9 (vE 0) (z9 (ze zz (vE 2) (cE (.int 1))) (zg)))) (vB 1)) (zS 2 (ze zz (vE 2) (cE (.int 1)))) (8))
  (zK (zc 2 c_k (z9 (ze Z2 (Jn (z9 (ze ixT (vE 0) (cE (.int 1))) (zg))) (vE 2)) (z9 (ze WA (vE 1) (zc 2 c_h (z9 (vE 0) (z9 (vE 2) (zg))))) (zg))))))
def b_k (c_1:List T->R T) (c_d:List T->R T):En->RS:=
  zu (Yw 2 (zg))
  (zu (zS 3 (vE 1))
  (zu (Je (kU (vE 0)) (zG 4) (zu (zS 5 (zc 1 c_1 (z9 (vE 4) (zg))))
  (zu (YT 2 (zc 2 c_d (z9 (vE 4) (z9 (ze JH (vE 3) (vE 5)) (zg)))))
  (zS 3 (ze Jo (vE 3) (vE 5))))))
  (zK (ap1 qj (vE 2)))))
def S_d:Nat->Nat->List T->R T
 | 0,_=>fun _=> .bad
 | n+1,0=>fun ts=>zn (b_d (f_j) (S_d n 1) (S_d n 2) (en0 2 ts))
 | n+1,1=>fun ts=>zn (Vq (f_h 20) (S_d n 2) (en0 3 ts))
 | n+1,_=>fun ts=>zn (b_k (f_1 20) (S_d n 0) (en0 6 ts))
abbrev f_d (n:Nat):List T->R T:=S_d n 0
abbrev gO (n:Nat):List T->R T:=S_d n 1
abbrev f_k (n:Nat):List T->R T:=S_d n 2
def b_s (c_e:List T->R T) (c_1:List T->R T) (c_d:List T->R T):En->RS:=
  zu (WD (zc 1 c_e (z9 (vE 0) (zg))))
  (zu (zS 1 (zc 1 c_1 (z9 (vE 0) (zg))))
  (zu (ifS (zv gtC (vB 1) (cE (.int 500))) (kQ) (nxS))
  (zK (Z0 (j5 (vE 1)) (zG 0) (Z9) (zc 2 c_d (z9 (vE 1) (z9 (vE 0) (zg)))) 1 [0]))))
def f_s:List T->R T:=fun ts=>zn (b_s (f_e) (f_1 20) (f_d 20) (en0 2 ts))
def b_i (c_s:List T->R T):En->RS:=
  zu (ifS (zv Jf (vB 0) (cE .non)) (zK (Jn (zg))) (nxS))
  (zK (Z0 (j2 (ap1 ug (Z0 (j2 (zc 1 c_s (z9 (vE 0) (zg)))) (zG 0) (Z9) (Zo (z9 (ap1 Wa (vE 0)) (z9 (vE 0) (zg)))) 1 []))) (Zd 0 1) (Z9) (vE 1) 2 []))
def f_i:List T->R T:=fun ts=>zn (b_i (f_s) (en0 1 ts))
def b_8 (c_1:List T->R T) (c_2:List T->R T):En->RS:=
  zu (zS 2 (zc 2 c_2 (z9 (vE 0) (z9 (vE 1) (zg)))))
  (zK (JI (jl ZH (vB 2) (cE .non)) (jl eqC (zc 1 c_1 (z9 (vE 2) (zg))) (zc 1 c_1 (z9 (vE 0) (zg))))))
def f_8:List T->R T:=fun ts=>zn (b_8 (f_1 20) (f_2) (en0 3 ts))
def b_m (c_2:List T->R T):En->RS:=
  zK (jl Jf (zc 2 c_2 (z9 (vE 0) (z9 (vE 1) (zg)))) (cE .non))
def f_m:List T->R T:=fun ts=>zn (b_m (f_2) (en0 2 ts))
def b_q (c_e:List T->R T) (c_1:List T->R T):En->RS:=
  zu (WD (zc 1 c_e (z9 (vE 0) (zg))))
  (zK (zc 1 c_1 (z9 (vE 0) (zg))))
def f_q:List T->R T:=fun ts=>zn (b_q (f_e) (f_1 20) (en0 1 ts))
def b_0 (c_q:List T->R T) (c_3:List T->R T) (c_o:List T->R T) (c_2:List T->R T) (c_8:List T->R T) (c_m:List T->R T) (c_b:List T->R T) (c_f:List T->R T) (c_i:List T->R T):En->RS:=
  zu (zS 1 (zc 3 c_o (z9 (vE 0) (z9 (cE (.int 0)) (z9 (cE (.int 30)) (zg))))))
  (zu (zS 2 (zc 3 c_b (z9 (vE 0) (z9 (cE (.int 4000)) (z9 (vE 1) (zg))))))
  (zu (zS 3 (ifE (zv gtC (zc 3 c_3 (z9 (vE 0) (z9 (cE (.int 4200)) (z9 (cE (.int 3)) (zg))))) (cE (.int 0))) (zc 3 c_b (z9 (vE 0) (z9 (cE (.int 4100)) (z9 (vE 1) (zg))))) (zc 3 c_o (z9 (vE 0) (z9 (cE (.int 4300)) (z9 (cE (.int 30)) (zg)))))))
  (zu (zS 4 (zc 2 c_f (z9 (zc 2 c_f (z9 (vE 1) (z9 (vE 2) (zg)))) (z9 (vE 3) (zg)))))
  (zu (ifS (zv neC (zc 1 c_i (z9 (vE 4) (zg))) (zc 1 c_i (z9 (zc 2 c_f (z9 (vE 1) (z9 (zc 2 c_f (z9 (vE 2) (z9 (vE 3) (zg)))) (zg)))) (zg)))) (zK (cE (.bl false))) (nxS))
  (zu (ifS (zv neC (zc 1 c_i (z9 (vE 4) (zg))) (zc 1 c_i (z9 (zc 2 c_f (z9 (zc 2 c_f (z9 (vE 3) (z9 (vE 1) (zg)))) (z9 (vE 2) (zg)))) (zg)))) (zK (cE (.bl false))) (nxS))
  (zu (ifS (orT (zv ZH (zc 2 c_8 (z9 (vE 2) (z9 (vE 1) (zg)))) (cE (.bl true))) (zv ZH (zc 2 c_8 (z9 (zc 3 c_b (z9 (vE 0) (z9 (cE (.int 4400)) (z9 (vE 2) (zg))))) (z9 (vE 1) (zg)))) (cE (.bl true)))) (zK (cE (.bl false))) (nxS))
  (zu (Je (j2 (Zo (z9 (Zo (z9 (vE 1) (z9 (vE 2) (zg)))) (z9 (Zo (z9 (vE 2) (z9 (vE 3) (zg)))) (z9 (Zo (z9 (vE 3) (z9 (vE 1) (zg)))) (zg)))))) (Zd 5 6) (zu (zS 7 (zc 2 c_2 (z9 (vE 5) (z9 (vE 6) (zg)))))
  (zu (ifS (orT (zv neC (jl Jf (vB 7) (cE .non)) (zc 2 c_m (z9 (vE 5) (z9 (vE 6) (zg))))) (zv neC (zc 2 c_m (z9 (vE 5) (z9 (vE 6) (zg)))) (zc 2 c_m (z9 (vE 6) (z9 (vE 5) (zg)))))) (zK (cE (.bl false))) (nxS))
  (zu (ifS (Ud (zv ZH (vB 7) (cE .non)) (WW (Ud (wI (zc 2 c_8 (z9 (vE 7) (z9 (vE 5) (zg))))) (wI (zc 2 c_8 (z9 (vE 7) (z9 (vE 6) (zg)))))))) (zK (cE (.bl false))) (nxS))
  (ifS (zv neC (zc 2 c_8 (z9 (vE 5) (z9 (vE 6) (zg)))) (JI (jl ZH (vB 7) (cE .non)) (jl eqC (zc 1 c_q (z9 (vE 7) (zg))) (zc 1 c_q (z9 (vE 5) (zg)))))) (zK (cE (.bl false))) (nxS))))))
  (zu (ifS (Ud (wI (zc 2 c_8 (z9 (vE 3) (z9 (vE 2) (zg))))) (WW (wI (zc 2 c_8 (z9 (vE 3) (z9 (vE 1) (zg))))))) (zK (cE (.bl false))) (nxS))
  (zK (orE (jl Jf (vB 4) (cE .non)) (JI (zc 2 c_8 (z9 (vE 4) (z9 (vE 1) (zg)))) (JI (zc 2 c_8 (z9 (vE 4) (z9 (vE 2) (zg)))) (zc 2 c_8 (z9 (vE 4) (z9 (vE 3) (zg))))))))))))))))
def f_0:List T->R T:=fun ts=>zn (b_0 (f_q) (f_3) (f_o) (f_2) (f_8) (f_m) (f_b 8) (f_f) (f_i) (en0 8 ts))
end G
namespace G
open PySem L2 PV
abbrev scr (ns:List Int):T:= .fz (ns.map T.int)
theorem vV (ns:List Int) (k:Int) (h0:0<=k):∃ c,xW [scr ns, .int k]= .ok (.int c):=by
 have e1:xW [scr ns, .int k]=zn (if decide (k < ((ns.map T.int).length:Int))=true then (atT (ns.map T.int) k).s (fun t=> .rt t) else
   match (eqC (scr ns) (.lst [])).s (fun b=>if b=true then RS.rt (.int 0) else .nx [.vl (scr ns), .vl (.int k)]) with
   | .nx ρ' =>zK (ze zz (ze Z2 (ze ixT (vE 0) (ze JH (vE 1) (ap1 ZX (vB 0)))) (cE (.int 31))) (vE 1)) ρ'
   | r=>r):=by
  show zn (match (if decide (k < ((ns.map T.int).length:Int))=true then (atT (ns.map T.int) k).s (fun t=>RS.rt t) else .nx [.vl (scr ns), .vl (.int k)]) with
   | .nx ρ' =>_
   | r=>r)=_
  cases decide (k < ((ns.map T.int).length:Int)) with
  | true=>
   rw [if_pos rfl,if_pos rfl]
   unfold atT
   cases atI (ns.map T.int) k <;> rfl
  | false=>rfl
 rw [e1,List.length_map]
 by_cases hk:k < (ns.length:Int)
 ·obtain ⟨v,hv⟩:∃ v,ns[k.toNat]? =some v:=⟨ns[k.toNat]'(by omega),List.getElem?_eq_getElem (by omega)⟩
  have ea:atI (ns.map T.int) k=some (.int v):=by
   have:k=((k.toNat:Nat):Int):=by omega
   rw [this]
   exact jt (by rw [List.getElem?_map,hv]; rfl)
  rw [decide_eq_true hk,if_pos rfl]
  exact ⟨v,by unfold atT; rw [ea]; rfl⟩
 ·rw [decide_eq_false hk,if_neg Bool.false_ne_true]
  cases ns with
  | nil=>exact ⟨0,rfl⟩
  | cons x xs=>
   have hm0:=Int.emod_nonneg k (show (((x :: xs).length:Nat):Int) ≠ 0 by simp only [List.length_cons]; omega)
   have hm1:=Int.emod_lt_of_pos k (show (0:Int) < (((x :: xs).length:Nat):Int) by simp only [List.length_cons]; omega)
   obtain ⟨v,hv⟩:∃ v,(x :: xs)[(k % (((x :: xs).length:Nat):Int)).toNat]? =some v:=⟨_,List.getElem?_eq_getElem (by omega)⟩
   have ea:atI ((x :: xs).map T.int) (k % (((x :: xs).length:Nat):Int))=some (.int v):=by
    have e:k % (((x :: xs).length:Nat):Int)=(((k % (((x :: xs).length:Nat):Int)).toNat:Nat):Int):=by omega
    rw [e]
    exact jt (by rw [List.getElem?_map,hv]; rfl)
   have cm:wH v 31:= .inr ⟨by decide,by decide⟩
   have hp:(0:Int) < (((x :: xs).map T.int).length:Int):=by simp only [List.length_map,List.length_cons]; omega
   refine ⟨v*31+k, ?_⟩
   show zn (((((if 0 < (((x :: xs).map T.int).length:Int) then R.ok (T.int (k % (((x :: xs).map T.int).length:Int))) else .bad).bind fun y=>ixT (scr (x :: xs)) y).bind fun a=>Z2 a (.int 31)).bind fun a=>zz a (.int k)).s fun t=> .rt t)=_
   rw [if_pos hp]
   show zn ((((atT ((x :: xs).map T.int) (k % (((x :: xs).map T.int).length:Int))).bind fun a=>Z2 a (.int 31)).bind fun a=>zz a (.int k)).s fun t=> .rt t)=_
   rw [List.length_map]
   unfold atT
   rw [ea]
   show zn ((((if wH v 31 then R.ok (T.int (v*31)) else .bad)).bind fun a=>zz a (.int k)).s fun t=> .rt t)=_
   rw [if_pos cm]
   rfl
theorem Za (ns:List Int) (k m:Int) (h0:0<=k) (hm:0 < m):∃ p,f_3 [scr ns, .int k, .int m]= .ok (.int p)/\0<=p/\p < m:=by
 obtain ⟨c,hc⟩:=vV ns k h0
 have cm1:wH 6151 (k+1):= .inl ⟨by decide,by decide⟩
 have cm2:wH (c+6151*(k+1)) 40692:= .inr ⟨by decide,by decide⟩
 generalize hd:(c+6151*(k+1))*40692 % 2147483399=d
 have hd0:0<=d:=by rw [← hd]; exact Int.emod_nonneg _ (by decide)
 have hd1:d < 2147483399:=by rw [← hd]; exact Int.emod_lt_of_pos _ (by decide)
 have cm3:wH d d:= .inl ⟨by omega,by omega⟩
 refine ⟨(d*d+d / 31) % 2147483629 % m, ?_,Int.emod_nonneg _ (by omega),Int.emod_lt_of_pos _ hm⟩
 have e1:f_3 [scr ns, .int k, .int m]=zn (match ((((((xW [scr ns, .int k]).bind fun x=>(Z2 (.int 6151) (.int (k+1))).bind fun y=>zz x y).bind fun x=>Z2 x (.int 40692)).bind fun x=>JH x (.int 2147483399))).s fun t=>RS.nx [.vl (scr ns), .vl (.int k), .vl (.int m), .vl t]) with
   | .nx ρ' =>zK (ze JH (ze JH (ze zz (ze Z2 (vE 3) (vE 3)) (ze Jo (vE 3) (cE (.int 31)))) (cE (.int 2147483629))) (vE 2)) ρ'
   | r=>r):=rfl
 rw [e1,hc]
 show zn (match (((((if wH 6151 (k+1) then R.ok (T.int (6151*(k+1))) else .bad).bind fun y=>zz (.int c) y).bind fun x=>Z2 x (.int 40692)).bind fun x=>JH x (.int 2147483399)).s fun t=>RS.nx [.vl (scr ns), .vl (.int k), .vl (.int m), .vl t]) with
   | .nx ρ' =>_
   | r=>r)=_
 rw [if_pos cm1]
 show zn (match ((((if wH (c+6151*(k+1)) 40692 then R.ok (T.int ((c+6151*(k+1))*40692)) else .bad)).bind fun x=>JH x (.int 2147483399)).s fun t=>RS.nx [.vl (scr ns), .vl (.int k), .vl (.int m), .vl t]) with
   | .nx ρ' =>_
   | r=>r)=_
 rw [if_pos cm2]
 show zn (zK (ze JH (ze JH (ze zz (ze Z2 (vE 3) (vE 3)) (ze Jo (vE 3) (cE (.int 31)))) (cE (.int 2147483629))) (vE 2)) [.vl (scr ns), .vl (.int k), .vl (.int m), .vl (.int ((c+6151*(k+1))*40692 % 2147483399))])=_
 rw [hd]
 show zn (((((if wH d d then R.ok (T.int (d*d)) else .bad).bind fun x=>zz x (.int (d / 31))).bind fun x=>JH x (.int 2147483629)).bind fun x=>JH x (.int m)).s fun t=>RS.rt t)=_
 rw [if_pos cm3]
 show zn ((if 0 < m then R.ok (T.int ((d*d+d / 31) % 2147483629 % m)) else .bad).s fun t=>RS.rt t)=_
 rw [if_pos hm]
 rfl
theorem yE {ft:En->R Bool} {fe:En->R T}:∀ (ts:List T) (ρ:En) (x:Sl),zF (zG 0) ft fe ts (ρ.set 0 x)=zF (zG 0) ft fe ts ρ
 | [],_,_=>rfl
 | t :: ts,ρ,x=>by
  unfold zF zG
  rw [List.set_set]
theorem je {ft:En->R Bool} {fe:En->R T} {p:T->Bool} {h:T->T}:∀ (ts:List T) (ρ:En),(∀ t∈ts,ft (ρ.set 0 (.vl t))= .ok (p t)/\(p t=true->fe (ρ.set 0 (.vl t))= .ok (h t)))->zF (zG 0) ft fe ts ρ= .ok ((ts.filter p).map h)
 | [],_,_=>rfl
 | t :: ts,ρ,H=>by
  obtain ⟨h1,h2⟩:=H t List.mem_cons_self
  have ih:=je ts ρ fun u hu=>H u (List.mem_cons_of_mem _ hu)
  have e:zF (zG 0) ft fe (t :: ts) ρ=(ft (ρ.set 0 (.vl t))).bind fun k=>if k=true then (fe (ρ.set 0 (.vl t))).bind fun v=>(zF (zG 0) ft fe ts (ρ.set 0 (.vl t))).bind fun vs=> .ok (v :: vs) else zF (zG 0) ft fe ts (ρ.set 0 (.vl t)):=rfl
  rw [e,h1,yE,ih]
  show (if p t=true then _ else _)=_
  cases hp:p t with
  | true=>rw [if_pos rfl,h2 hp,List.filter_cons_of_pos hp]; rfl
  | false=>rw [if_neg Bool.false_ne_true,List.filter_cons_of_neg (by rw [hp]; exact Bool.false_ne_true)]
theorem yF {fe:En->R T} {h:T->T} (ts:List T) (ρ:En) (H:∀ t∈ts,fe (ρ.set 0 (.vl t))= .ok (h t)):zF (zG 0) Z9 fe ts ρ= .ok (ts.map h):=by
 have:=je (ft:=Z9) (fe:=fe) (p:=fun _=>true) (h:=h) ts ρ fun t ht=>⟨rfl,fun _=>H t ht⟩
 rw [this,List.filter_eq_self.mpr (fun _ _=>rfl)]
theorem Zb {fe:En->R T} {h:T->T} {k:Nat} {js:List Nat} {ρ:En} (ts:List T) (hl:ts.length<=bnd) (H:∀ t∈ts,fe ((WF k js ρ).set 0 (.vl t))= .ok (h t)):Z3 (zG 0) Z9 fe k js ρ ts= .ok (ts.map h):=by
 unfold Z3
 rw [if_pos hl,yF ts _ H]
 rfl
theorem Jg (p:T->Bool):∀ ts:List T,Ue (ts.map fun t=>T.bl (p t))=some (ts.all p)
 | []=>rfl
 | t :: ts=>by
  show (match Ue (ts.map fun t=>T.bl (p t)) with | some j=>some (p t && j) | none=>none)=_
  rw [Jg p ts]; rfl
def isW:T->Bool
 | .int _=>true
 | _=>false
theorem qu (t:T):f_n [t]= .ok (.bl (isW t)):=by cases t <;> rfl
def U0 (a b:Nat):T->Bool
 | .tup xs=>decide (a<=xs.length) && decide (xs.length<=b)
 | _=>false
theorem jw (t:T) (a b:Nat):f_g [t, .int a, .int b]= .ok (.bl (U0 a b t)):=by
 cases t with
 | tup xs=>
  show zn ((if decide ((a:Int)<=(xs.length:Int))=true then R.ok (T.bl (decide ((xs.length:Int)<=(b:Int)))) else .ok (.bl false)).s fun t=> .rt t)=_
  have e1:decide ((a:Int)<=(xs.length:Int))=decide (a<=xs.length):=by simp
  have e2:decide ((xs.length:Int)<=(b:Int))=decide (xs.length<=b):=by simp
  rw [e1,e2]
  show _=R.ok (T.bl (decide (a<=xs.length) && decide (xs.length<=b)))
  cases decide (a<=xs.length) <;> rfl
 | _=>rfl
def J7 (lo hi:Int):T->T->Bool
 | .int i, .int j=>decide (lo<=i) && decide (i<=j) && decide (j<=hi)
 | _,_=>false
theorem yG (t u:T) (lo hi:Int):XM [t,u, .int lo, .int hi]= .ok (.bl (J7 lo hi t u)):=by
 cases t with
 | int i=>
  cases u with
  | int j=>
   show zn ((if decide (lo<=i)=true then (if decide (i<=j)=true then R.ok (T.bl (decide (j<=hi))) else .ok (.bl false)) else .ok (.bl false)).s fun t=> .rt t)=_
   show _=R.ok (T.bl (decide (lo<=i) && decide (i<=j) && decide (j<=hi)))
   cases decide (lo<=i) <;> cases decide (i<=j) <;> rfl
  | _=>rfl
 | _=>cases u <;> rfl
def Ze (c:Nat):Bool:=decide (97<=c) && decide (c<=122)
def Zk:T->Bool
 | .str x=>decide (1<=x.length) && decide (x.length<=3) && x.cps.toList.all Ze
 | _=>false
theorem Q9 (a b:Nat):decide ([a] < [b])=decide (a < b):=by
 by_cases h:a < b
 ·rw [decide_eq_true h]; exact decide_eq_true (List.Lex.rel h)
 ·rw [decide_eq_false h]
  refine decide_eq_false fun z=> ?_
  cases z with
  | rel h' =>exact h h'
  | cons h' =>cases h'
theorem vW (c:Nat) (ρ:En):chE leC leC (cE (.str "a")) (vB 0) (cE (.str "z")) ((Sl.vl (.str ⟨#[c]⟩)) :: ρ)= .ok (.bl (Ze c)):=by
 have e1:leC (.str "a") (.str ⟨#[c]⟩)= .ok (decide (97<=c)):=by
  show R.ok (!decide ([c] < [97]))=_
  rw [Q9]
  by_cases h:c < 97
  ·rw [decide_eq_true h,decide_eq_false (by omega)]; rfl
  ·rw [decide_eq_false h,decide_eq_true (by omega)]; rfl
 have e2:leC (.str ⟨#[c]⟩) (.str "z")= .ok (decide (c<=122)):=by
  show R.ok (!decide ([122] < [c]))=_
  rw [Q9]
  by_cases h:122 < c
  ·rw [decide_eq_true h,decide_eq_false (by omega)]; rfl
  ·rw [decide_eq_false h,decide_eq_true (by omega)]; rfl
 show (leC (.str "a") (.str ⟨#[c]⟩)).bind (fun k=>if k=true then (leC (.str ⟨#[c]⟩) (.str "z")).bind fun k' =>R.ok (T.bl k') else R.ok (T.bl false))=_
 rw [e1,e2]
 unfold Ze
 show (if decide (97<=c)=true then R.ok (T.bl (decide (c<=122))) else .ok (.bl false))=_
 cases decide (97<=c) <;> rfl
def xX:T->Prop
 | .str x=>x.length<=bnd
 | _=>True
theorem vX (t:T) (ht:xX t):f_z [t]= .ok (.bl (Zk t)):=by
 cases t with
 | str x=>
  have hx:x.length<=bnd:=ht
  have e0:ZX (.str x)= .ok (.int x.length):=if_pos hx
  have ec:Z3 (zG 0) Z9 (chE leC leC (cE (.str "a")) (vB 0) (cE (.str "z"))) 1 [] [.vl (.str x)] (ju x)= .ok (x.cps.toList.map fun c=>T.bl (Ze c)):=by
   have hs:(ju x).length<=bnd:=by unfold ju; rw [List.length_map,Array.length_toList]; exact hx
   have:=Zb (fe:=chE leC leC (cE (.str "a")) (vB 0) (cE (.str "z"))) (h:=fun t=>match t with | .str y=>T.bl (Ze (y.cps.toList.headD 0)) | t=>t) (k:=1) (js:=[]) (ρ:=[.vl (.str x)]) (ju x) hs fun t ht=>by
    unfold ju at ht
    obtain ⟨c,_,rfl⟩:=List.mem_map.mp ht
    exact vW c []
   rw [this]
   unfold ju
   rw [List.map_map]
   rfl
  have ea:Ue (x.cps.toList.map fun c=>T.bl (Ze c))=some (x.cps.toList.all Ze):=by
   have:=Jg (fun t=>match t with | .str y=>Ze (y.cps.toList.headD 0) | _=>true) (ju x)
   unfold ju at this
   rw [List.map_map,List.all_map] at this
   exact this
  have e1:f_z [.str x]=zn (match ((((ZX (.str x)).bind fun y=>(leC (.int 1) y).bind fun k=>if k=true then leC y (.int 3) else .ok false).bind fun b=> .ok (!b)).s fun k=>if k=true then RS.rt (.bl false) else .nx [.vl (.str x)]) with
    | .nx ρ' =>zK (ap1 vi (Z0 (j2 (vE 0)) (zG 0) (Z9) (chE leC leC (cE (.str "a")) (vB 0) (cE (.str "z"))) 1 [])) ρ'
    | r=>r):=rfl
  rw [e1,e0]
  have c1:decide ((1:Int)<=(x.length:Int))=decide (1<=x.length):=by
   by_cases h:1<=x.length
   ·rw [decide_eq_true h]; exact decide_eq_true (by omega)
   ·rw [decide_eq_false h]; exact decide_eq_false (by omega)
  have c2:decide ((x.length:Int)<=(3:Int))=decide (x.length<=3):=by
   by_cases h:x.length<=3
   ·rw [decide_eq_true h]; exact decide_eq_true (by omega)
   ·rw [decide_eq_false h]; exact decide_eq_false (by omega)
  show zn (match ((((if decide ((1:Int)<=(x.length:Int))=true then R.ok (decide ((x.length:Int)<=(3:Int))) else .ok false)).bind fun b=> .ok (!b)).s fun k=>if k=true then RS.rt (.bl false) else .nx [.vl (.str x)]) with
    | .nx ρ' =>_
    | r=>r)=_
  rw [c1,c2]
  show _=R.ok (T.bl (decide (1<=x.length) && decide (x.length<=3) && x.cps.toList.all Ze))
  cases decide (1<=x.length) with
  | false=>rfl
  | true=>
   cases decide (x.length<=3) with
   | false=>rfl
   | true=>
    show zn ((((Z3 (zG 0) Z9 (chE leC leC (cE (.str "a")) (vB 0) (cE (.str "z"))) 1 [] [.vl (.str x)] (ju x)).bind fun vs=> .ok (.lst vs)).bind vi).s fun t=> .rt t)=_
    rw [ec]
    show zn ((match Ue (x.cps.toList.map fun c=>T.bl (Ze c)) with | some k=>R.ok (T.bl k) | none=> .bad).s fun t=> .rt t)=_
    rw [ea]
    rfl
 | _=>rfl
theorem bOk {α β:Type} (a:α) (f:α->R β):(R.ok a).bind f=f a:=rfl
theorem ZL {α:Type} (a:α) (f:α->RS):(R.ok a).s f=f a:=rfl
theorem jH (r:R T):zn (r.s fun t=> .rt t)=r:=by cases r <;> rfl
theorem Zr (f:En->R T) (ρ:En):zK f ρ=(f (frz ρ)).s fun t=> .rt t:=rfl
theorem Zh {g:List T->R T} {f:En->R T} {ρ:En}:zc 1 g (z9 f zg) ρ=(f ρ).bind fun x=>g [x]:=by
 unfold zc z9 zg
 cases f ρ <;> rfl
theorem zO {g:List T->R T} {f f' :En->R T} {ρ:En}:zc 2 g (z9 f (z9 f' zg)) ρ=(f ρ).bind fun x=>(f' ρ).bind fun y=>g [x,y]:=by
 unfold zc z9 zg
 cases f ρ with
 | ok a=>cases f' ρ <;> rfl
 | ex c=>rfl
 | bad=>rfl
theorem Zu {g:List T->R T} {f f' f'' :En->R T} {ρ:En}:zc 3 g (z9 f (z9 f' (z9 f'' zg))) ρ=(f ρ).bind fun x=>(f' ρ).bind fun y=>(f'' ρ).bind fun z=>g [x,y,z]:=by
 unfold zc z9 zg
 cases f ρ with
 | ok a=>
  cases f' ρ with
  | ok b=>cases f'' ρ <;> rfl
  | ex c=>rfl
  | bad=>rfl
 | ex c=>rfl
 | bad=>rfl
theorem K1 {g:List T->R T} {f f' f'' f3:En->R T} {ρ:En}:zc 4 g (z9 f (z9 f' (z9 f'' (z9 f3 zg)))) ρ=(f ρ).bind fun x=>(f' ρ).bind fun y=>(f'' ρ).bind fun z=>(f3 ρ).bind fun w=>g [x,y,z,w]:=by
 unfold zc z9 zg
 cases f ρ with
 | ok a=>
  cases f' ρ with
  | ok b=>
   cases f'' ρ with
   | ok c=>cases f3 ρ <;> rfl
   | ex c=>rfl
   | bad=>rfl
  | ex c=>rfl
  | bad=>rfl
 | ex c=>rfl
 | bad=>rfl
def XQ (r k:R T):R T:=r.bind fun x=>match x with
 | .bl true=>k
 | .bl false=> .ok (.bl false)
 | _=> .bad
theorem Jv (f g:En->R T) (ρ:En):JI f g ρ=XQ (f ρ) (g ρ):=rfl
theorem Zx (a:Bool) (k:R T):XQ (.ok (.bl a)) k=if a=true then k else .ok (.bl false):=by cases a <;> rfl
theorem v0 {t:T} {ρ:En}:vE 0 (.vl t :: ρ)= .ok t:=rfl
theorem v1 {t:T} {a:Sl} {ρ:En}:vE 1 (a :: .vl t :: ρ)= .ok t:=rfl
theorem w0 {t:T} {ρ:En}:vB 0 (.vl t :: ρ)= .ok t:=rfl
theorem w1 {t:T} {a:Sl} {ρ:En}:vB 1 (a :: .vl t :: ρ)= .ok t:=rfl
theorem zV {t:T} {ρ:En}:cE t ρ= .ok t:=rfl
theorem zo {g:T->T->R T} {f f' :En->R T} {ρ:En}:ze g f f' ρ=(f ρ).bind fun x=>(f' ρ).bind fun y=>g x y:=rfl
theorem jf {t:T} {ρ:En}:frz (.vl t :: ρ)= .vl t :: frz ρ:=rfl
theorem JK {ρ:En}:frz (.un :: ρ)= .un :: frz ρ:=rfl
theorem jo:frz []=[]:=rfl
theorem xY {g g' :T->T->R Bool} {fa fb fc:En->R T} {ρ:En}:chE g g' fa fb fc ρ=(fa ρ).bind fun x=>(fb ρ).bind fun y=>(g x y).bind fun k=>if k=true then (fc ρ).bind fun z=>(g' y z).bind fun k' => .ok (.bl k') else .ok (.bl false):=rfl
theorem ZJ {g:T->R T} {f:En->R T} {ρ:En}:ap1 g f ρ=(f ρ).bind g:=rfl
theorem yH {i j:Int}:leC (.int i) (.int j)= .ok (decide (i<=j)):=rfl
theorem ZY {g:T->T->R Bool} {f f' :En->R T} {ρ:En}:jl g f f' ρ=(f ρ).bind fun x=>(f' ρ).bind fun y=>(g x y).bind fun b=> .ok (.bl b):=rfl
theorem Jw {xs:List T}:ZX (.tup xs)= .ok (.int xs.length):=rfl
theorem xZ {xs:List T}:ZX (.lst xs)= .ok (.int xs.length):=rfl
mutual
def sOk:T->Prop
 | .str x=>x.length<=bnd
 | .tup xs=>Ww xs
 | .lst xs=>Ww xs
 | .fz xs=>Ww xs
 | _=>True
def Ww:List T->Prop
 | []=>True
 | t :: ts=>sOk t/\Ww ts
end
theorem jI:∀ {ts:List T} {t:T},Ww ts->t∈ts->sOk t
 | u :: ts,t,h,hm=>by
  have h' :sOk u/\Ww ts:=by simpa only [Ww] using h
  rcases List.mem_cons.mp hm with rfl | hm
  ·exact h'.1
  ·exact jI h'.2 hm
theorem sOk.str {t:T} (h:sOk t):xX t:=by
 cases t with
 | str x=>
  have h' :x.length<=bnd:=by simpa only [sOk] using h
  exact h'
 | _=>trivial
theorem wt {xs:List T} (h:sOk (.tup xs)):Ww xs:=by simpa only [sOk] using h
def zH:T->Bool
 | .tup [w, .int i]=>Zk w && decide (1<=i) && decide (i<=20)
 | _=>false
theorem yI (t:T) (ht:sOk t):f_y [t]= .ok (.bl (zH t)):=by
 have e:f_y [t]=zn (b_y f_n f_g f_z [.vl t]):=rfl
 rw [e,b_y]
 simp only [Zr,jH,jf,jo,Jv,Zu,Zh,v0,zV,bOk,zo,xY]
 rw [show f_g [t, .int 2, .int 2]= .ok (.bl (U0 2 2 t)) from jw t 2 2,Zx]
 cases t with
 | tup xs=>
  match xs,ht with
  | [],_=>rfl
  | [_],_=>rfl
  | _ :: _ :: _ :: _,_=>simp [U0,zH]
  | [w,n],ht=>
   have hw:sOk w:=jI (wt ht) (by simp)
   show (if true=true then XQ (f_z [w]) (XQ (f_n [n]) ((leC (.int 1) n).bind fun k=>if k=true then (leC n (.int 20)).bind fun k' =>R.ok (T.bl k') else .ok (.bl false))) else _)=_
   rw [if_pos rfl,vX w hw.str,qu,Zx,Zx]
   cases n with
   | int i=>
    show (if Zk w=true then (if true=true then (if decide (1<=i)=true then R.ok (T.bl (decide (i<=20))) else .ok (.bl false)) else _) else _)=R.ok (T.bl (Zk w && decide (1<=i) && decide (i<=20)))
    cases Zk w <;> cases decide (1<=i) <;> rfl
   | _=>
    show (if Zk w=true then (if false=true then _ else R.ok (T.bl false)) else R.ok (T.bl false))=R.ok (T.bl false)
    cases Zk w <;> rfl
 | _=>rfl
theorem Z1 (f g:En->RS) (ρ:En):zu f g ρ=match f ρ with | .nx ρ' =>g ρ' | r=>r:=rfl
theorem j6 (g:En->R Bool) (f1 f2:En->RS) (ρ:En):ifS g f1 f2 ρ=(g ρ).s fun k=>if k=true then f1 ρ else f2 ρ:=rfl
theorem yJ (f g:En->R Bool) (ρ:En):orT f g ρ=(f ρ).bind fun x=>if x=true then .ok true else g ρ:=rfl
theorem Wf (f:En->R Bool) (ρ:En):WW f ρ=(f ρ).bind fun x=> .ok (!x):=rfl
theorem Jx (f:En->R T) (ρ:En):wI f ρ=(f ρ).bind tru:=rfl
theorem J8 (k:Bool):tru (.bl k)= .ok k:=rfl
theorem Jy (i:Nat) (f:En->R T) (ρ:En):zS i f ρ=(f ρ).s fun t=> .nx (ρ.set i (.vl t)):=rfl
theorem zC {g:T->T->R Bool} {f f' :En->R T} {ρ:En}:zv g f f' ρ=(f ρ).bind fun x=>(f' ρ).bind fun y=>g x y:=rfl
theorem Z4 {fi:En->R (List T)} {g:T->En->R En} {ft:En->R Bool} {fe:En->R T} {k:Nat} {js:List Nat} {ρ:En}:Z0 fi g ft fe k js ρ=(fi ρ).bind fun ts=>(Z3 g ft fe k js ρ ts).bind fun vs=> .ok (.lst vs):=rfl
theorem jg {f:En->R T} {ρ:En}:j2 f ρ=(f ρ).bind Jt:=rfl
def Zf:T->Str
 | .tup (.str w :: _)=>w
 | _=>⟨#[]⟩
def uh:T->Bool
 | .tup cs=>decide (1<=cs.length) && decide (cs.length<=4) && cs.all zH && decide ((dd [] (cs.map Zf)).length=cs.length)
 | _=>false
theorem Wg {c:T} (h:zH c=true):∃ w n,c= .tup [.str w,n]:=by
 unfold zH at h
 split at h
 ·rename_i w i
  cases w with
  | str x=>exact ⟨x,_,rfl⟩
  | _=>cases h
 ·cases h
theorem JZ:∀ {cs:List T},cs.all zH=true->Ug (cs.map fun c=>T.str (Zf c))=some (cs.map Zf)
 | [],_=>rfl
 | c :: cs,h=>by
  rw [List.all_cons,Bool.and_eq_true] at h
  have ih:=JZ h.2
  show (match Ug (cs.map fun c=>T.str (Zf c)) with | some ys=>some (Zf c :: ys) | none=>none)=_
  rw [ih]; rfl
theorem U1 (t:T) (ht:sOk t):f_r [t]= .ok (.bl (uh t)):=by
 have e:f_r [t]=zn (b_r f_g f_y [.vl t, .un]):=rfl
 rw [e,b_r]
 simp only [Z1,j6,yJ,Wf,Jx,Zu,v0,zV,bOk]
 rw [show f_g [t, .int 1, .int 4]= .ok (.bl (U0 1 4 t)) from jw t 1 4]
 simp only [bOk,J8]
 cases t with
 | tup cs=>
  have hl:U0 1 4 (.tup cs)=(decide (1<=cs.length) && decide (cs.length<=4)):=rfl
  rw [hl]
  show _=R.ok (T.bl (decide (1<=cs.length) && decide (cs.length<=4) && cs.all zH && decide ((dd [] (cs.map Zf)).length=cs.length)))
  cases h14:(decide (1<=cs.length) && decide (cs.length<=4)) with
  | false=>rfl
  | true=>
   rw [Bool.and_eq_true,decide_eq_true_eq,decide_eq_true_eq] at h14
   have hb:cs.length<=bnd:=Nat.le_trans h14.2 (by decide)
   have ec:Z3 (zG 0) Z9 (zc 1 f_y (z9 (vE 0) zg)) 1 [] [.vl (.tup cs), .un] cs= .ok (cs.map fun c=>T.bl (zH c)):=
    Zb (h:=fun c=>T.bl (zH c)) cs hb fun c hc=>by
     show zc 1 f_y (z9 (vE 0) zg) [.vl c]=_
     rw [Zh,v0,bOk]
     exact yI c (jI (wt ht) hc)
   simp only [Bool.not_true,Bool.false_eq_true,if_false,ZJ,Z4,jg,v0,bOk,Jt,ec]
   have ea:vi (.lst (cs.map fun c=>T.bl (zH c)))= .ok (.bl (cs.all zH)):=by
    show (match Ue (cs.map fun c=>T.bl (zH c)) with | some k=>R.ok (T.bl k) | none=> .bad)=_
    rw [Jg]
   rw [ea]
   simp only [bOk,J8,ZL]
   cases hall:cs.all zH with
   | false=>rfl
   | true=>
    have ew:Z3 (zG 0) Z9 (ze ixT (vE 0) (cE (.int 0))) 1 [] [.vl (.tup cs), .un] cs= .ok (cs.map fun c=>T.str (Zf c)):=
     Zb (h:=fun c=>T.str (Zf c)) cs hb fun c hc=>by
      obtain ⟨w,n,rfl⟩:=Wg (List.all_eq_true.mp hall c hc)
      rfl
    simp only [Bool.not_true,Bool.false_eq_true,if_false,nxS,Jy,Z4,jg,v0,bOk,Jt,ew,ZL,Zr]
    show zn (((qa (.lst (cs.map fun c=>T.str (Zf c)))).bind fun x=>(ZX (.lst (cs.map fun c=>T.str (Zf c)))).bind fun y=>(eqC x y).bind fun b=>R.ok (T.bl b)).s fun t=> .rt t)=_
    have el:qa (.lst (cs.map fun c=>T.str (Zf c)))= .ok (.int (dd [] (cs.map Zf)).length):=by
     show (match Ug (cs.map fun c=>T.str (Zf c)) with | some ys=>if (cs.map fun c=>T.str (Zf c)).length+1 < 4096 then R.ok (T.int (dd [] ys).length) else .bad | none=> .bad)=_
     rw [JZ hall]
     exact if_pos (by rw [List.length_map]; omega)
    rw [el,xZ,List.length_map,jH]
    show R.ok (T.bl (((dd [] (cs.map Zf)).length:Int) == (cs.length:Int)))=_
    congr 2
    by_cases hq:(dd [] (cs.map Zf)).length=cs.length
    ·rw [decide_eq_true hq,hq]; simp
    ·rw [decide_eq_false hq]
     simp only [Bool.true_and,beq_eq_false_iff_ne]
     omega
 | _=>rfl
def isS (w:Str):T->Bool
 | .str s=>s == w
 | _=>false
theorem eqS (h:T) (w:Str):eqC h (.str w)= .ok (isS w h):=by cases h <;> rfl
theorem eqI (i j:Int):eqC (.int i) (.int j)= .ok (i == j):=rfl
theorem at0 {h:T} {r:List T}:ixT (.tup (h :: r)) (.int 0)= .ok h:=by
 show atT (h :: r) 0=_
 unfold atT
 rw [show atI (h :: r) 0=some h from jt (j:=0) rfl]
theorem at1 {h a:T} {r:List T}:ixT (.tup (h :: a :: r)) (.int 1)= .ok a:=by
 show atT (h :: a :: r) 1=_
 unfold atT
 rw [show atI (h :: a :: r) 1=some a from jt (j:=1) rfl]
theorem at2 {h a b:T} {r:List T}:ixT (.tup (h :: a :: b :: r)) (.int 2)= .ok b:=by
 show atT (h :: a :: b :: r) 2=_
 unfold atT
 rw [show atI (h :: a :: b :: r) 2=some b from jt (j:=2) rfl]
theorem at3 {h a b c:T} {r:List T}:ixT (.tup (h :: a :: b :: c :: r)) (.int 3)= .ok c:=by
 show atT (h :: a :: b :: c :: r) 3=_
 unfold atT
 rw [show atI (h :: a :: b :: c :: r) 3=some c from jt (j:=3) rfl]
def Jz (k:T->Bool):T->Bool
 | .tup ks=>decide (1<=ks.length) && decide (ks.length<=3) && ks.all k
 | _=>false
def Wh:List T->Bool
 | [a,b]=>J7 (-20) 20 a b
 | _=>false
def yK:List T->Bool
 | [c]=>uh c
 | _=>false
def X0 (k:T->Bool):List T->Bool
 | [c]=>Jz k c
 | _=>false
def yL (k:T->Bool):List T->Bool
 | [c,a,b]=>J7 0 3 a b && k c
 | _=>false
def U2 (k:T->Bool):T->Bool
 | .tup (h :: r)=>if isS "whole" h=true then Wh r else if isS "pick" h=true then yK r else if isS "row" h=true then X0 k r else if isS "many" h=true then yL k r else false
 | _=>false
def isK:Nat->T->Bool
 | 0,_=>false
 | d+1,t=>U2 (isK d) t
theorem yM {α:Type} (xs:List α) (n:Nat):((xs.length:Int) == (n:Int))=decide (xs.length=n):=by
 by_cases h:xs.length=n
 ·rw [decide_eq_true h,h]; simp
 ·rw [decide_eq_false h,beq_eq_false_iff_ne]; omega
theorem X1 {f:En->R T} {ρ:En}:qW f ρ=(f ρ).bind fun x=>match x with | .int i=> .ok (.int (-i)) | _=> .bad:=rfl
theorem J9 {i j:Int}:WA (.int i) (.int j)= .ok (.int (i - j)):=rfl
set_option maxHeartbeats 1000000 in
theorem vY {n:Nat} {d:Nat} {k:T->Bool} (H0:∀ t,sOk t->S_9 n 0 [t, .int d]= .ok (.bl (k t))) (H1:∀ t,sOk t->S_9 n 1 [t, .int d]= .ok (.bl (Jz k t))) (t:T) (ht:sOk t):
  S_9 (n+1) 0 [t, .int ((d+1:Nat):Int)]= .ok (.bl (U2 k t)):=by
 have e:S_9 (n+1) 0 [t, .int ((d+1:Nat):Int)]=zn (b_9 XM (S_9 n 0) f_r (S_9 n 1) [.vl t, .vl (.int ((d+1:Nat):Int))]):=rfl
 have hL:(((d+1:Nat):Int) == 0)=false:=by rw [beq_eq_false_iff_ne]; omega
 have hL1:((d+1:Nat):Int) - 1=(d:Int):=by omega
 rw [e,b_9]
 simp only [Z1,j6,yJ,Wf,Jx,zC,w0,w1,zV,bOk,eqI,hL,Bool.false_eq_true,if_false,ZJ]
 cases t with
 | tup xs=>
  cases xs with
  | nil=>rfl
  | cons h r=>
   have hs:=wt ht
   have hm:∀ u∈r,sOk u:=fun u hu=>jI hs (List.mem_cons_of_mem _ hu)
   have z0:(((h :: r).length:Int) == 0)=false:=by rw [beq_eq_false_iff_ne]; simp only [List.length_cons]; omega
   have ti:vd "tuple" (.tup (h :: r))= .ok (.bl true):=rfl
   simp only [ti,bOk,J8,Bool.not_true,Bool.false_eq_true,if_false,Jw,eqI,z0,ZL,nxS,zo,v0,v1,zV,at0,eqS,Zr,jf,jo,Jv,ZY,ZJ,w0,K1,Zh,zO,X1,J9,hL1]
   show _=R.ok (T.bl (if isS "whole" h=true then Wh r else if isS "pick" h=true then yK r else if isS "row" h=true then X0 k r else if isS "many" h=true then yL k r else false))
   have l3:(((h :: r).length:Int) == 3)=decide ((h :: r).length=3):=yM (h :: r) 3
   have l2:(((h :: r).length:Int) == 2)=decide ((h :: r).length=2):=yM (h :: r) 2
   have l4:(((h :: r).length:Int) == 4)=decide ((h :: r).length=4):=yM (h :: r) 4
   simp only [l2,l3,l4,Zx]
   cases isS "whole" h with
   | true=>
    simp only [if_true]
    match r,hm with
    | [],_=>rfl
    | [_],_=>rfl
    | _ :: _ :: _ :: _,_=>simp [Wh,ZL,zn]
    | [a,b],_=>
     simp only [at1,at2,bOk,yG]
     rfl
   | false=>
    simp only [Bool.false_eq_true,if_false,v0,v1,w0,bOk,at0,ZL,jf,jo,Jw,eqI,l2,l4,Zx,J9,hL1]
    cases isS "pick" h with
    | true=>
     simp only [if_true]
     match r,hm with
     | [],_=>rfl
     | _ :: _ :: _,_=>simp [yK,ZL,zn]
     | [c],hm=>
      simp only [at1,bOk,U1 c (hm c (by simp))]
      rfl
    | false=>
     simp only [Bool.false_eq_true,if_false,v0,v1,w0,bOk,at0,ZL,jf,jo,Jw,eqI,l2,l4,Zx,J9,hL1]
     cases isS "row" h with
     | true=>
      simp only [if_true]
      match r,hm with
      | [],_=>rfl
      | _ :: _ :: _,_=>simp [X0,ZL,zn]
      | [c],hm=>
       simp only [at1,bOk,H1 c (hm c (by simp))]
       rfl
     | false=>
      simp only [Bool.false_eq_true,if_false,v0,v1,w0,bOk,at0,ZL,jf,jo,Jw,eqI,l2,l4,Zx,J9,hL1]
      cases isS "many" h with
      | true=>
       simp only [if_true]
       match r,hm with
       | [],_=>rfl
       | [_],_=>rfl
       | [_,_],_=>rfl
       | _ :: _ :: _ :: _ :: _,_=>simp [yL,ZL,zn]
       | [c,a,b],hm=>
        simp only [at1,at2,at3,bOk,yG,H0 c (hm c (by simp)),Zx]
        show zn (match (if J7 0 3 a b=true then R.ok (T.bl (k c)) else .ok (.bl false)).s (fun t=>RS.rt t) with | .nx _=>RS.rt (T.bl false) | r=>r)=R.ok (T.bl (J7 0 3 a b && k c))
        cases J7 0 3 a b <;> rfl
      | false=>rfl
 | _=>rfl
theorem X2 {n:Nat} {d:Nat} {k:T->Bool} (H0:∀ t,sOk t->S_9 n 0 [t, .int d]= .ok (.bl (k t))) (t:T) (ht:sOk t):S_9 (n+1) 1 [t, .int d]= .ok (.bl (Jz k t)):=by
 have e:S_9 (n+1) 1 [t, .int d]=zn (XN f_g (S_9 n 0) [.vl t, .vl (.int d)]):=rfl
 rw [e,XN]
 simp only [Zr,jH,jf,jo,Jv,Zu,v0,zV,bOk]
 rw [show f_g [t, .int 1, .int 3]= .ok (.bl (U0 1 3 t)) from jw t 1 3,Zx]
 cases t with
 | tup ks=>
  show (if (decide (1<=ks.length) && decide (ks.length<=3))=true then _ else _)=R.ok (T.bl (decide (1<=ks.length) && decide (ks.length<=3) && ks.all k))
  cases h13:(decide (1<=ks.length) && decide (ks.length<=3)) with
  | false=>rfl
  | true=>
   rw [Bool.and_eq_true,decide_eq_true_eq,decide_eq_true_eq] at h13
   have hb:ks.length<=bnd:=Nat.le_trans h13.2 (by decide)
   have ec:Z3 (zG 0) Z9 (zc 2 (S_9 n 0) (z9 (vE 0) (z9 (vE 1) zg))) 1 [1] [.vl (.tup ks), .vl (.int d)] ks= .ok (ks.map fun c=>T.bl (k c)):=
    Zb (h:=fun c=>T.bl (k c)) ks hb fun c hc=>by
     show zc 2 (S_9 n 0) (z9 (vE 0) (z9 (vE 1) zg)) [.vl c, .vl (.int d)]=_
     rw [zO,v0,v1,bOk,bOk]
     exact H0 c (jI (wt ht) hc)
   simp only [if_true,ZJ,Z4,jg,v0,bOk,Jt,ec]
   show (match Ue (ks.map fun c=>T.bl (k c)) with | some k=>R.ok (T.bl k) | none=> .bad)=_
   rw [Jg]
   rfl
 | _=>rfl
theorem WK:∀ (d n:Nat),2*d+1<=n->∀ t,sOk t->S_9 n 0 [t, .int d]= .ok (.bl (isK d t))
 | 0,n+1,_,t,_=>rfl
 | d+1,n+2,h,t,ht=>vY (n:=n+1) (fun u hu=>WK d (n+1) (by omega) u hu) (fun u hu=>X2 (fun v hv=>WK d n (by omega) v hv) u hu) t ht
theorem U3 (t:T) (ht:sOk t):f_4 [t]= .ok (.bl (isK 3 t)):=by
 have e:f_4 [t]=zn (b_4 (f_9 20) [.vl t]):=rfl
 rw [e,b_4]
 simp only [Zr,jH,jf,jo,zO,v0,zV,bOk]
 exact WK 3 20 (by omega) t ht
def inR (lo hi:Int):T->Bool
 | .int i=>decide (lo<=i) && decide (i<=hi)
 | _=>false
theorem Wi:∀ (ws acc:List Str),(dd acc ws).length<=acc.length+ws.length
 | [],acc=>Nat.le_refl _
 | w :: ws,acc=>by
  unfold dd
  have:=Wi ws (if w∈acc then acc else acc++[w])
  by_cases h:w∈acc
  ·rw [if_pos h] at this ⊢; simp only [List.length_cons]; omega
  ·rw [if_neg h] at this ⊢; rw [List.length_append,List.length_singleton] at this; simp only [List.length_cons]; omega
theorem wu:∀ (ws acc:List Str),((dd acc ws).length=acc.length+ws.length)↔∀ (k:Nat) (w:Str),ws[k]? =some w->w ∉ acc++ws.take k
 | [],acc=>by simp [dd]
 | w :: ws,acc=>by
  unfold dd
  by_cases h:w∈acc
  ·rw [if_pos h]
   have:=Wi ws acc
   constructor
   ·intro e; simp only [List.length_cons] at e; omega
   ·intro H; exact absurd (List.mem_append_left _ h) (H 0 w rfl)
  ·rw [if_neg h]
   have ih:=wu ws (acc++[w])
   rw [List.length_append,List.length_singleton] at ih
   rw [show acc.length+(w :: ws).length=acc.length+1+ws.length by simp only [List.length_cons]; omega,ih]
   constructor
   ·intro H k v e
    cases k with
    | zero=>simp at e; subst e; simpa using h
    | succ k=>
     have:=H k v (by simpa using e)
     simpa [List.append_assoc] using this
   ·intro H k v e
    have:=H (k+1) v (by simpa using e)
    simpa [List.append_assoc] using this
theorem ltI (i j:Int):ltC (.int i) (.int j)= .ok (decide (i < j)):=rfl
theorem v2 {t:T} {a b:Sl} {ρ:En}:vE 2 (a :: b :: .vl t :: ρ)= .ok t:=rfl
theorem v3 {t:T} {a b c:Sl} {ρ:En}:vE 3 (a :: b :: c :: .vl t :: ρ)= .ok t:=rfl
theorem w2 {t:T} {a b:Sl} {ρ:En}:vB 2 (a :: b :: .vl t :: ρ)= .ok t:=rfl
theorem w3 {t:T} {a b c:Sl} {ρ:En}:vB 3 (a :: b :: c :: .vl t :: ρ)= .ok t:=rfl
theorem w5 {t:T} {a b c d e:Sl} {ρ:En}:vB 5 (a :: b :: c :: d :: e :: .vl t :: ρ)= .ok t:=rfl
theorem v4 {t:T} {a b c d:Sl} {ρ:En}:vE 4 (a :: b :: c :: d :: .vl t :: ρ)= .ok t:=rfl
theorem jS (f g:En->R Bool) (ρ:En):Ud f g ρ=(f ρ).bind fun x=>if x=true then g ρ else .ok false:=rfl
theorem X3 {g g' :T->T->R Bool} {fa fb fc:En->R T} {ρ:En}:chT g g' fa fb fc ρ=(fa ρ).bind fun x=>(fb ρ).bind fun y=>(g x y).bind fun k=>if k=true then (fc ρ).bind fun z=>g' y z else .ok false:=rfl
theorem wv (w:Str):∀ ws:List Str,WV (fun y=>eqF 30 y (.str w)) (ws.map T.str)=some (decide (w∈ws))
 | []=>rfl
 | x :: ws=>by
  have ih:=wv w ws
  show (match WV (fun y=>eqF 30 y (.str w)) (ws.map T.str) with | none=>none | some c=>some ((x == w) || c))=_
  rw [ih]
  show some ((x == w) || decide (w∈ws))=_
  congr 1
  by_cases h:x=w
  ·subst h; simp
  ·have h' :¬ w=x:=fun z=>h z.symm
   simp [h,h']
theorem K2 {f:En->R T} {l h:En->R (Option Int)} {ρ:En}:slE f l h ρ=(f ρ).bind fun t=>(l ρ).bind fun lo=>(h ρ).bind fun hi=>slT t lo hi:=rfl
theorem gP {ρ:En}:noO ρ= .ok none:=rfl
theorem gtI (i j:Int):gtC (.int i) (.int j)= .ok (decide (i > j)):=rfl
theorem Zg (i j:Int):zz (.int i) (.int j)= .ok (.int (i+j)):=rfl
theorem X4 (p:Int) (h0:0<=p) (h1:p < 26):ixT (.str "abcdefghijklmnopqrstuvwxyz") (.int p)= .ok (.str ⟨#[97+p.toNat]⟩):=by
 have h:p=0\/p=1\/p=2\/p=3\/p=4\/p=5\/p=6\/p=7\/p=8\/p=9\/p=10\/p=11\/p=12\/p=13\/p=14\/p=15\/p=16\/p=17\/p=18\/p=19\/p=20\/p=21\/p=22\/p=23\/p=24\/p=25:=by omega
 rcases h with rfl|rfl|rfl|rfl|rfl|rfl|rfl|rfl|rfl|rfl|rfl|rfl|rfl|rfl|rfl|rfl|rfl|rfl|rfl|rfl|rfl|rfl|rfl|rfl|rfl|rfl <;> rfl
abbrev XR:En->R T:=ze ixT (vE 3) (zc 3 f_3 (z9 (vE 1) (z9 (ze zz (ze zz (vE 2) (cE (.int 2))) (vE 0)) (z9 (cE (.int 26)) (zg)))))
theorem X5 (ns:List Int) (k:Int) (h0:0<=k) (j:Nat):∃ c:Nat,(97<=c/\c<=122)/\XR [.vl (.int (j:Int)), .vl (scr ns), .vl (.int k), .vl (.str "abcdefghijklmnopqrstuvwxyz")]= .ok (.str ⟨#[c]⟩):=by
 obtain ⟨p,e,p0,p1⟩:=Za ns (k+2+j) 26 (by omega) (by omega)
 refine ⟨97+p.toNat,⟨by omega,by omega⟩, ?_⟩
 simp only [XR,zo,v3,bOk,Zu,v1,v2,v0,zV,Zg,e]
 exact X4 p p0 p1
theorem U4 (ns:List Int) (k:Int) (h0:0<=k):∃ w:Str,f_u [scr ns, .int k]= .ok (.str w)/\Zk (.str w)=true:=by
 have e:f_u [scr ns, .int k]=zn (b_u f_3 [.vl (scr ns), .vl (.int k), .un]):=rfl
 obtain ⟨p,e0,p0,p1⟩:=Za ns k 6 h0 (by omega)
 have hset:∀ t,([Sl.vl (scr ns),Sl.vl (.int k), .un]:En).set 2 (.vl t)=[Sl.vl (scr ns),Sl.vl (.int k), .vl t]:=fun _=>rfl
 rw [e,b_u]
 simp only [Z1,j6,Jy,zV,ZL,hset,zC,Zu,v0,v1,bOk,e0,gtI]
 cases hp:decide (p > 0) with
 | true=>
  obtain ⟨q,e1,q0,q1⟩:=Za ns (k+1) 4 (by omega) (by omega)
  simp only [if_true,Zr,jf,jo,zo,Zu,v0,v1,zV,bOk,Zg,e1]
  have hq:q=0\/q=1\/q=2\/q=3:=by omega
  rcases hq with rfl | rfl | rfl | rfl
  ·exact ⟨"a",rfl,by decide⟩
  ·exact ⟨"b",rfl,by decide⟩
  ·exact ⟨"ab",rfl,by decide⟩
  ·exact ⟨"cab",rfl,by decide⟩
 | false=>
  obtain ⟨q,e1,q0,q1⟩:=Za ns (k+1) 3 (by omega) (by omega)
  simp only [Bool.false_eq_true,if_false,nxS,Zr,jH,jf,jo,ZJ,Z4]
  obtain ⟨g,hg⟩:=Classical.skolem.mp (X5 ns k h0)
  have ei:j5 (ze zz (cE (.int 1)) (zc 3 f_3 (z9 (vE 0) (z9 (ze zz (vE 1) (cE (.int 1))) (z9 (cE (.int 3)) (zg)))))) [Sl.vl (scr ns),Sl.vl (.int k), .vl (.str "abcdefghijklmnopqrstuvwxyz")]= .ok (rng 0 (1+q).toNat):=by
   unfold j5
   simp only [zo,Zu,v0,v1,zV,bOk,Zg,e1]
   rw [if_pos ⟨by omega,by omega⟩]
  have ec:∀ n:Nat,n<=3->Z3 (zG 0) Z9 XR 1 [0,1,2] [Sl.vl (scr ns),Sl.vl (.int k), .vl (.str "abcdefghijklmnopqrstuvwxyz")] (rng 0 n)= .ok ((rng 0 n).map fun t=>match t with | .int j=> .str ⟨#[g j.toNat]⟩ | t=>t):=fun n hn=>
   Zb (rng 0 n) (by unfold rng; rw [List.length_map,List.length_range]; exact Nat.le_trans hn (by decide)) fun t ht=>by
    unfold rng at ht
    obtain ⟨j,_,rfl⟩:=List.mem_map.mp ht
    show XR [.vl (.int (0+(j:Int))), .vl (scr ns), .vl (.int k), .vl (.str "abcdefghijklmnopqrstuvwxyz")]= .ok (.str ⟨#[g (0+(j:Int)).toNat]⟩)
    rw [Int.zero_add,Int.toNat_natCast]
    exact (hg j).2
  rw [ei,bOk,ec _ (by omega),bOk,bOk]
  have hw:∀ j,Ze (g j)=true:=fun j=>by
   obtain ⟨a,b⟩:=(hg j).1
   unfold Ze
   rw [decide_eq_true a,decide_eq_true b]; rfl
  have hq:q=0\/q=1\/q=2:=by omega
  rcases hq with rfl | rfl | rfl
  ·refine ⟨⟨#[g 0]⟩,rfl, ?_⟩
   show (Ze (g 0) && true)=true
   rw [hw 0]; rfl
  ·refine ⟨⟨#[g 0,g 1]⟩,rfl, ?_⟩
   show (Ze (g 0) && (Ze (g 1) && true))=true
   rw [hw 0,hw 1]; rfl
  ·refine ⟨⟨#[g 0,g 1,g 2]⟩,rfl, ?_⟩
   show (Ze (g 0) && (Ze (g 1) && (Ze (g 2) && true)))=true
   rw [hw 0,hw 1,hw 2]; rfl
theorem K3 (j:Int):Z2 (.int 5) (.int j)= .ok (.int (5*j)):=by
 show (if wH 5 j then R.ok (T.int (5*j)) else .bad)=_
 rw [if_pos (.inl ⟨by decide,by decide⟩)]
theorem Uh {f g:En->R T} {ρ:En} {x y:T} (hf:f ρ= .ok x) (hg:g ρ= .ok y):Zo (z9 f (z9 g zg)) ρ= .ok (.tup [x,y]):=by
 unfold Zo z9 zg
 rw [hf,hg]; rfl
theorem K4 {f g h:En->R T} {ρ:En} {x y z:T} (hf:f ρ= .ok x) (hg:g ρ= .ok y) (hh:h ρ= .ok z):Zo (z9 f (z9 g (z9 h zg))) ρ= .ok (.tup [x,y,z]):=by
 unfold Zo z9 zg
 rw [hf,hg,hh]; rfl
theorem XS {f g h i:En->R T} {ρ:En} {x y z w:T} (hf:f ρ= .ok x) (hg:g ρ= .ok y) (hh:h ρ= .ok z) (hi:i ρ= .ok w):Zo (z9 f (z9 g (z9 h (z9 i zg)))) ρ= .ok (.tup [x,y,z,w]):=by
 unfold Zo z9 zg
 rw [hf,hg,hh,hi]; rfl
def Dst (ws:List Str):Prop:=∀ (k:Nat) (w:Str),ws[k]? =some w->w ∉ ws.take k
theorem Dst.add {ws:List Str} (h:Dst ws) {w:Str} (hw:w ∉ ws):Dst (ws++[w]):=fun k x hx=>by
 by_cases hk:k < ws.length
 ·rw [List.getElem?_append_left hk] at hx
  rw [List.take_append_of_le_length (by omega)]
  exact h k x hx
 ·rw [List.getElem?_append_right (by omega)] at hx
  have hk' :k=ws.length:=by
   rcases Nat.lt_or_ge (k - ws.length) 1 with z | z
   ·omega
   ·rw [List.getElem?_eq_none (by simpa using z)] at hx; cases hx
  subst hk'
  rw [Nat.sub_self] at hx
  cases hx
  rw [List.take_left']
  ·exact hw
  ·rfl
abbrev Wj:En->RS:=zu (zS 5 (zc 2 f_u (z9 (vE 0) (z9 (ze zz (ze zz (vE 1) (cE (.int 5))) (ze Z2 (cE (.int 5)) (vE 4))) (zg)))))
  (ifS (zv YN (vB 5) (vB 3)) (YT 3 (vE 5)) (nxS))
theorem JA (ns:List Int) (k:Int) (h0:0<=k):∀ (js:List Nat) (ws:List Str) (x4 x5:Sl),js.length+ws.length<=4->Dst ws->(∀ w∈ws,Zk (.str w)=true)->
  ∃ ws' y4 y5,ZU (zG 4) Wj (js.map fun (j:Nat)=>T.int (0+(j:Int))) [.vl (scr ns), .vl (.int k), .un, .ow (ws.map T.str),x4,x5]= .nx [.vl (scr ns), .vl (.int k), .un, .ow (ws'.map T.str),y4,y5]/\ws'.length<=4/\Dst ws' /\(∀ w∈ws',Zk (.str w)=true)/\(0 < js.length+ws.length->0 < ws'.length)
 | [],ws,x4,x5,hl,hd,hw=>⟨ws,x4,x5,rfl,by simpa using hl,hd,hw,fun h=>by simpa using h⟩
 | j :: js,ws,x4,x5,hl,hd,hw=>by
  obtain ⟨w,ew,hw'⟩:=U4 ns (k+5+5*(0+(j:Int))) (by omega)
  have hl' :js.length+ws.length+1<=4:=by simpa [List.length_cons,Nat.add_right_comm] using hl
  have e:ZU (zG 4) Wj ((j :: js).map fun (j:Nat)=>T.int (0+(j:Int))) [.vl (scr ns), .vl (.int k), .un, .ow (ws.map T.str),x4,x5]=match Wj [.vl (scr ns), .vl (.int k), .un, .ow (ws.map T.str), .vl (.int (0+(j:Int))),x5] with
   | .nx ρ2=>ZU (zG 4) Wj (js.map fun (j:Nat)=>T.int (0+(j:Int))) ρ2
   | .ct ρ2=>ZU (zG 4) Wj (js.map fun (j:Nat)=>T.int (0+(j:Int))) ρ2
   | .bk ρ2=> .nx ρ2
   | r=>r:=rfl
  have eb:Wj [.vl (scr ns), .vl (.int k), .un, .ow (ws.map T.str), .vl (.int (0+(j:Int))),x5]= .nx [.vl (scr ns), .vl (.int k), .un, .ow ((if w∈ws then ws else ws++[w]).map T.str), .vl (.int (0+(j:Int))), .vl (.str w)]:=by
   have w3o:∀ (a b c:Sl) (ts:List T) (ρ:En),vB 3 (a :: b :: c :: .ow ts :: ρ)= .ok (.lst ts):=fun _ _ _ _ _=>rfl
   have hset:∀ t,([.vl (scr ns), .vl (.int k), .un, .ow (ws.map T.str), .vl (.int (0+(j:Int))),x5]:En).set 5 (.vl t)=[.vl (scr ns), .vl (.int k), .un, .ow (ws.map T.str), .vl (.int (0+(j:Int))), .vl t]:=fun _=>rfl
   have en:YN (.str w) (.lst (ws.map T.str))= .ok (!decide (w∈ws)):=by
    show ((match WV (fun y=>eqF 30 y (.str w)) (ws.map T.str) with | some b=>R.ok b | none=> .bad)).bind (fun b=>R.ok (!b))=_
    rw [wv]; rfl
   simp only [Wj,Z1,Jy,zO,v0,v1,v4,zo,zV,bOk,Zg,K3,ew,ZL,hset,j6,zC,w5,w3o,en]
   by_cases hm:w∈ws
   ·rw [decide_eq_true hm,if_pos hm]; rfl
   ·rw [decide_eq_false hm,if_neg hm]
    have hb:(ws.map T.str).length < bnd:=by rw [List.length_map]; exact Nat.lt_of_le_of_lt (show ws.length<=4 by omega) (by decide)
    show (if (ws.map T.str).length < bnd then RS.nx _ else .bad)=_
    rw [if_pos hb,List.map_append]
    rfl
  rw [e,eb]
  by_cases hm:w∈ws
  ·rw [if_pos hm]
   obtain ⟨ws',y4,y5,r1,r2,r3,r4,r5⟩:=JA ns k h0 js ws (.vl (.int (0+(j:Int)))) (.vl (.str w)) (by omega) hd hw
   exact ⟨ws',y4,y5,r1,r2,r3,r4,fun _=>r5 (by have:=List.length_pos_of_mem hm; omega)⟩
  ·rw [if_neg hm]
   obtain ⟨ws',y4,y5,r1,r2,r3,r4,r5⟩:=JA ns k h0 js (ws++[w]) (.vl (.int (0+(j:Int)))) (.vl (.str w)) (by simp only [List.length_append,List.length_cons,List.length_nil]; omega) (hd.add hm) (fun x hx=>by
    rcases List.mem_append.mp hx with z | z
    ·exact hw x z
    ·rw [List.mem_singleton.mp z]; exact hw')
   exact ⟨ws',y4,y5,r1,r2,r3,r4,fun _=>r5 (by simp only [List.length_append,List.length_cons,List.length_nil]; omega)⟩
abbrev X6:En->R T:=Zo (z9 (vE 1) (z9 (ze zz (cE (.int 1)) (zc 3 f_3 (z9 (vE 2) (z9 (ze zz (ze zz (vE 3) (cE (.int 30))) (vE 0)) (z9 (cE (.int 20)) (zg)))))) (zg)))
theorem ui (ns:List Int) (k:Int) (h0:0<=k):∀ (ws:List Str) (i:Nat) (x0 x1:Sl),(∀ w∈ws,Zk (.str w)=true)->∃ cs:List T,zF (Zd 0 1) Z9 X6 (((ws.map T.str).zipIdx i).map fun p=>T.tup [.int (p.2:Nat),p.1]) [x0,x1, .vl (scr ns), .vl (.int k)]= .ok cs/\cs.all zH=true/\cs.map Zf=ws
 | [],i,x0,x1,_=>⟨[],rfl,rfl,rfl⟩
 | w :: ws,i,x0,x1,hw=>by
  obtain ⟨p,e,p0,p1⟩:=Za ns (k+30+i) 20 (by omega) (by omega)
  obtain ⟨cs,r1,r2,r3⟩:=ui ns k h0 ws (i+1) (.vl (.int (i:Int))) (.vl (.str w)) fun x hx=>hw x (List.mem_cons_of_mem _ hx)
  have ec:X6 [.vl (.int (i:Int)), .vl (.str w), .vl (scr ns), .vl (.int k)]= .ok (.tup [.str w, .int (1+p)]):=by
   have ea:zc 3 f_3 (z9 (vE 2) (z9 (ze zz (ze zz (vE 3) (cE (.int 30))) (vE 0)) (z9 (cE (.int 20)) (zg)))) [.vl (.int (i:Int)), .vl (.str w), .vl (scr ns), .vl (.int k)]= .ok (.int p):=by
    simp only [Zu,v2,v3,v0,zo,zV,bOk,Zg,e]
   have eb:ze zz (cE (.int 1)) (zc 3 f_3 (z9 (vE 2) (z9 (ze zz (ze zz (vE 3) (cE (.int 30))) (vE 0)) (z9 (cE (.int 20)) (zg))))) [.vl (.int (i:Int)), .vl (.str w), .vl (scr ns), .vl (.int k)]= .ok (.int (1+p)):=by
    rw [zo,ea]; rfl
   exact Uh v1 eb
  refine ⟨.tup [.str w, .int (1+p)] :: cs, ?_, ?_, ?_⟩
  ·show ((X6 [.vl (.int (i:Int)), .vl (.str w), .vl (scr ns), .vl (.int k)]).bind fun v=>(zF (Zd 0 1) Z9 X6 (((ws.map T.str).zipIdx (i+1)).map fun p=>T.tup [.int (p.2:Nat),p.1]) [.vl (.int (i:Int)), .vl (.str w), .vl (scr ns), .vl (.int k)]).bind fun vs=>R.ok (v :: vs))=_
   rw [ec,r1]; rfl
  ·rw [List.all_cons,r2,Bool.and_true]
   show (Zk (.str w) && decide (1<=1+p) && decide (1+p<=20))=true
   rw [hw w List.mem_cons_self,decide_eq_true (by omega),decide_eq_true (by omega)]; rfl
  ·rw [List.map_cons,r3]; rfl
theorem Qa (i j:Int):jC (.int i) (.int j)= .ok (.int (if j < i then j else i)):=rfl
theorem vZ (ns:List Int) (k:Int) (h0:0<=k):∃ t,f_p [scr ns, .int k]= .ok t/\∀ d,isK (d+1) t=true:=by
 have e:f_p [scr ns, .int k]=zn (b_p f_3 f_u [.vl (scr ns), .vl (.int k), .un, .un, .un, .un]):=rfl
 obtain ⟨p,e0,p0,p1⟩:=Za ns k 3 h0 (by omega)
 rw [e,b_p,Z1]
 simp only [j6,zC,Zu,v0,v1,zV,bOk,e0,gtI,ZL]
 cases hp:decide (p > 0) with
 | true=>
  obtain ⟨q,e1,q0,q1⟩:=Za ns (k+1) 7 (by omega) (by omega)
  obtain ⟨q3,e3,_,_⟩:=Za ns (k+3) 8 (by omega) (by omega)
  obtain ⟨q4,e4,a4,b4⟩:=Za ns (k+4) 3 (by omega) (by omega)
  obtain ⟨q2,e2,a2,b2⟩:=Za ns (k+2) 4 (by omega) (by omega)
  have hset:∀ t x,([.vl (scr ns), .vl (.int k),x, .un, .un, .un]:En).set 2 (.vl t)=[.vl (scr ns), .vl (.int k), .vl t, .un, .un, .un]:=fun _ _=>rfl
  have fin:∀ low:Int, -20<=low->low<=20->∃ t,zn (zK (Zo (z9 (cE (.str "whole")) (z9 (vE 2) (z9 (ze jC (cE (.int 20)) (ze zz (vE 2) (zc 3 f_3 (z9 (vE 0) (z9 (ze zz (vE 1) (cE (.int 2))) (z9 (cE (.int 4)) (zg))))))) (zg))))) [.vl (scr ns), .vl (.int k), .vl (.int low), .un, .un, .un])= .ok t/\∀ d,isK (d+1) t=true:=by
   intro low hl1 hl2
   refine ⟨.tup [.str "whole", .int low, .int (if low+q2 < 20 then low+q2 else 20)], ?_,fun d=> ?_⟩
   ·rw [Zr,jH]
    refine K4 rfl rfl ?_
    simp only [jf,JK,jo,zo,v2,v0,v1,Zu,zV,bOk,Zg,e2,Qa]
   ·show (decide (-20<=low) && decide (low<=_) && decide (_<=(20:Int)))=true
    rw [decide_eq_true hl1,decide_eq_true (by split <;> omega),decide_eq_true (by split <;> omega)]; rfl
  simp only [if_true,Z1,Jy,j6,zo,Zu,v0,v1,zV,bOk,Zg,e1,J9,ZL,hset,zC,e3,eqI]
  cases hq:(q3 == 0) with
  | true=>
   have h3:q4=0\/q4=1\/q4=2:=by omega
   rcases h3 with rfl | rfl | rfl
   ·obtain ⟨t,r,s⟩:=fin (-20) (by omega) (by omega)
    refine ⟨t, ?_,s⟩
    rw [← r]
    simp only [if_true,e4,bOk]
    have hv:∀ ρ,(Jn (z9 (qW (cE (.int 20))) (z9 (cE (.int 17)) (z9 (cE (.int 20)) (zg)))) ρ)= .ok (.lst [.int (-20), .int 17, .int 20]):=fun _=>rfl
    simp only [hv,bOk]
    have hx:ixT (.lst [.int (-20), .int 17, .int 20]) (.int 0)= .ok (.int (-20)):=rfl
    simp only [hx,ZL,hset,Zr]
    generalize Zo _ _=z
    cases z <;> rfl
   ·obtain ⟨t,r,s⟩:=fin (17) (by omega) (by omega)
    refine ⟨t, ?_,s⟩
    rw [← r]
    simp only [if_true,e4,bOk]
    have hv:∀ ρ,(Jn (z9 (qW (cE (.int 20))) (z9 (cE (.int 17)) (z9 (cE (.int 20)) (zg)))) ρ)= .ok (.lst [.int (-20), .int 17, .int 20]):=fun _=>rfl
    simp only [hv,bOk]
    have hx:ixT (.lst [.int (-20), .int 17, .int 20]) (.int 1)= .ok (.int (17)):=rfl
    simp only [hx,ZL,hset,Zr]
    generalize Zo _ _=z
    cases z <;> rfl
   ·obtain ⟨t,r,s⟩:=fin (20) (by omega) (by omega)
    refine ⟨t, ?_,s⟩
    rw [← r]
    simp only [if_true,e4,bOk]
    have hv:∀ ρ,(Jn (z9 (qW (cE (.int 20))) (z9 (cE (.int 17)) (z9 (cE (.int 20)) (zg)))) ρ)= .ok (.lst [.int (-20), .int 17, .int 20]):=fun _=>rfl
    simp only [hv,bOk]
    have hx:ixT (.lst [.int (-20), .int 17, .int 20]) (.int 2)= .ok (.int (20)):=rfl
    simp only [hx,ZL,hset,Zr]
    generalize Zo _ _=z
    cases z <;> rfl
  | false=>
   obtain ⟨t,r,s⟩:=fin (q - 3) (by omega) (by omega)
   refine ⟨t, ?_,s⟩
   rw [← r]
   simp only [Bool.false_eq_true,if_false,nxS,Zr]
   generalize Zo _ _=z
   cases z <;> rfl
 | false=>
  obtain ⟨q,e1,q0,q1⟩:=Za ns (k+1) 4 (by omega) (by omega)
  simp only [Bool.false_eq_true,if_false,nxS,Z1]
  have ei:j5 (ze zz (cE (.int 1)) (zc 3 f_3 (z9 (vE 0) (z9 (ze zz (vE 1) (cE (.int 1))) (z9 (cE (.int 4)) (zg)))))) [.vl (scr ns), .vl (.int k), .un, .ow [], .un, .un]= .ok (rng 0 (1+q).toNat):=by
   unfold j5
   simp only [zo,Zu,v0,v1,zV,bOk,Zg,e1]
   rw [if_pos ⟨by omega,by omega⟩]
  have el:Yw 3 zg [.vl (scr ns), .vl (.int k), .un, .un, .un, .un]= .nx [.vl (scr ns), .vl (.int k), .un, .ow [], .un, .un]:=rfl
  rw [el]
  have hn:(List.range (1+q).toNat).length=(1+q).toNat:=List.length_range
  obtain ⟨ws,y4,y5,r1,r2,r3,r4,r5⟩:=JA ns k h0 (List.range (1+q).toNat) [] .un .un (by rw [hn,List.length_nil]; omega) (fun k w h=>by cases h) (fun w h=>by cases h)
  have hpos:0 < ws.length:=r5 (by rw [hn,List.length_nil]; omega)
  have ef:Je (j5 (ze zz (cE (.int 1)) (zc 3 f_3 (z9 (vE 0) (z9 (ze zz (vE 1) (cE (.int 1))) (z9 (cE (.int 4)) (zg))))))) (zG 4) Wj [.vl (scr ns), .vl (.int k), .un, .ow [], .un, .un]= .nx [.vl (scr ns), .vl (.int k), .un, .ow (ws.map T.str),y4,y5]:=by
   unfold Je
   rw [ei,ZL]
   exact r1
  obtain ⟨cs,s1,s2,s3⟩:=ui ns k h0 ws 0 .un .un r4
  have hcl:cs.length=ws.length:=by rw [← s3,List.length_map]
  refine ⟨.tup [.str "pick", .tup cs], ?_,fun d=> ?_⟩
  ·dsimp only
   rw [ef]
   dsimp only
   rw [Zr,jH]
   refine Uh rfl ?_
   rw [ZJ,Z4]
   have ee:vv (vE 3) (frz [.vl (scr ns), .vl (.int k), .un, .ow (ws.map T.str),y4,y5])= .ok (jv (ws.map T.str)):=rfl
   rw [ee,bOk]
   unfold Z3
   rw [if_pos (by unfold jv; rw [List.length_map,List.length_zipIdx,List.length_map]; exact Nat.le_trans r2 (by decide))]
   have ec:zF (Zd 0 1) Z9 X6 (jv (ws.map T.str)) (WF 2 [0,1] (frz [.vl (scr ns), .vl (.int k), .un, .ow (ws.map T.str),y4,y5]))= .ok cs:=s1
   rw [ec]
   rfl
  ·show (decide (1<=cs.length) && decide (cs.length<=4) && cs.all zH && decide ((dd [] (cs.map Zf)).length=cs.length))=true
   have hd:(dd [] (cs.map Zf)).length=cs.length:=by
    rw [s3,hcl]
    have:=(wu ws []).mpr (fun k w h=>by simpa using r3 k w h)
    simpa using this
   rw [decide_eq_true (by omega),decide_eq_true (by omega),s2,decide_eq_true hd]; rfl
theorem yN (c:Int) (j:Int) (hc:wH c j):Z2 (.int c) (.int j)= .ok (.int (c*j)):=by
 show (if wH c j then R.ok (T.int (c*j)) else .bad)=_
 rw [if_pos hc]
theorem X7 (j:Int):Z2 (.int 3) (.int j)= .ok (.int (3*j)):=yN _ _ (.inl ⟨by decide,by decide⟩)
theorem X8 (j:Int):Z2 (.int 50) (.int j)= .ok (.int (50*j)):=yN _ _ (.inl ⟨by decide,by decide⟩)
abbrev XT (c:List T->R T):En->R T:=zc 3 c (z9 (vE 1) (z9 (ze zz (ze zz (ze Z2 (cE (.int 3)) (vE 2)) (cE (.int 40))) (ze Z2 (cE (.int 50)) (vE 0))) (z9 (ze WA (vE 3) (cE (.int 1))) (zg))))
theorem WL (ns:List Int):∀ (d n:Nat),d<=n->1<=d->∀ k:Int,0<=k->∃ t,S_c n 0 [scr ns, .int k, .int (d:Int)]= .ok t/\isK d t=true
 | d+1,n+1,hn,_,k,h0=>by
  have e:S_c (n+1) 0 [scr ns, .int k, .int ((d+1:Nat):Int)]=zn (b_c f_3 f_p (S_c n 0) [.vl (scr ns), .vl (.int k), .vl (.int ((d+1:Nat):Int)), .un, .un, .un]):=rfl
  obtain ⟨p,e0,p0,p1⟩:=Za ns k 5 h0 (by omega)
  obtain ⟨l,el,hl⟩:=vZ ns (k+1) (by omega)
  have hset:([.vl (scr ns), .vl (.int k), .vl (.int ((d+1:Nat):Int)), .un, .un, .un]:En).set 3 (.vl (.int p))=[.vl (scr ns), .vl (.int k), .vl (.int ((d+1:Nat):Int)), .vl (.int p), .un, .un]:=rfl
  rw [e,b_c]
  simp only [Z1,Jy,j6,yJ,zC,Zu,zO,v0,v1,v2,zV,bOk,e0,ZL,hset,w2,w3,eqI,ltI,Zg,Zr,jf,JK,jo,zo,el]
  have hd1:((((d+1:Nat):Int) == 1))=decide (d=0):=by
   by_cases h:d=0
   ·subst h; rfl
   ·rw [decide_eq_false h,beq_eq_false_iff_ne]; omega
  rw [hd1]
  by_cases hleaf:d=0\/p < 2
  ·refine ⟨l, ?_,hl d⟩
   rcases hleaf with h | h
   ·rw [decide_eq_true h]; rfl
   ·rw [decide_eq_true h]
    cases decide (d=0) <;> rfl
  ·have hd0:¬ d=0:=fun z=>hleaf (.inl z)
   have hp2:¬ p < 2:=fun z=>hleaf (.inr z)
   have hsub:((d+1:Nat):Int) - 1=(d:Int):=by omega
   rw [decide_eq_false hd0,decide_eq_false hp2]
   simp only [Bool.false_eq_true,if_false,ZL,nxS,w3,v0,v1,v2,bOk,ltI,zV]
   cases hp:decide (p < 4) with
   | true=>
    obtain ⟨q,e1,q0,q1⟩:=Za ns (k+1) 3 (by omega) (by omega)
    have hj:∀ j:Nat,∃ t,XT (S_c n 0) [.vl (.int (0+(j:Int))), .vl (scr ns), .vl (.int k), .vl (.int ((d+1:Nat):Int))]= .ok t/\isK d t=true:=fun j=>by
     obtain ⟨t,r,s⟩:=WL ns d n (by omega) (by omega) (3*k+40+50*(0+(j:Int))) (by omega)
     refine ⟨t, ?_,s⟩
     simp only [XT,Zu,v0,v1,v2,v3,zo,zV,bOk,X7,X8,Zg,J9,hsub,r]
    obtain ⟨g,hg⟩:=Classical.skolem.mp hj
    have ei:j5 (ze zz (cE (.int 1)) (zc 3 f_3 (z9 (vE 0) (z9 (ze zz (vE 1) (cE (.int 1))) (z9 (cE (.int 3)) (zg)))))) [.vl (scr ns), .vl (.int k), .vl (.int ((d+1:Nat):Int)), .vl (.int p), .un, .un]= .ok (rng 0 (1+q).toNat):=by
     unfold j5
     simp only [zo,Zu,v0,v1,zV,bOk,Zg,e1]
     rw [if_pos ⟨by omega,by omega⟩]
    have ec:Z3 (zG 0) Z9 (XT (S_c n 0)) 1 [0,1,2] [.vl (scr ns), .vl (.int k), .vl (.int ((d+1:Nat):Int)), .vl (.int p), .un, .un] (rng 0 (1+q).toNat)= .ok ((rng 0 (1+q).toNat).map fun t=>match t with | .int j=>g j.toNat | t=>t):=
     Zb (rng 0 (1+q).toNat) (by unfold rng; rw [List.length_map,List.length_range]; exact Nat.le_trans (show (1+q).toNat<=3 by omega) (by decide)) fun t ht=>by
      unfold rng at ht
      obtain ⟨j,_,rfl⟩:=List.mem_map.mp ht
      show XT (S_c n 0) [.vl (.int (0+(j:Int))), .vl (scr ns), .vl (.int k), .vl (.int ((d+1:Nat):Int))]= .ok (g (0+(j:Int)).toNat)
      rw [(hg j).1,Int.zero_add,Int.toNat_natCast]
    generalize hcs:((rng 0 (1+q).toNat).map fun t=>match t with | .int j=>g j.toNat | t=>t)=cs at ec
    have hlen:cs.length=(1+q).toNat:=by rw [← hcs]; unfold rng; rw [List.length_map,List.length_map,List.length_range]
    have hall:∀ t∈cs,isK d t=true:=fun t ht=>by
     rw [← hcs] at ht
     obtain ⟨u,hu,rfl⟩:=List.mem_map.mp ht
     unfold rng at hu
     obtain ⟨j,_,rfl⟩:=List.mem_map.mp hu
     exact (hg _).2
    refine ⟨.tup [.str "row", .tup cs], ?_, ?_⟩
    ·have hs4:([.vl (scr ns), .vl (.int k), .vl (.int ((d+1:Nat):Int)), .vl (.int p), .un, .un]:En).set 4 (.vl (.lst cs))=[.vl (scr ns), .vl (.int k), .vl (.int ((d+1:Nat):Int)), .vl (.int p), .vl (.lst cs), .un]:=rfl
     simp only [if_true,Z4,ei,bOk,ec,ZL,hs4,jf,JK,jo]
     rfl
    ·show (decide (1<=cs.length) && decide (cs.length<=3) && cs.all (isK d))=true
     rw [decide_eq_true (by omega),decide_eq_true (by omega),List.all_eq_true.mpr hall]; rfl
   | false=>
    obtain ⟨q,e1,q0,q1⟩:=Za ns (k+1) 3 (by omega) (by omega)
    obtain ⟨q2,e2,_,_⟩:=Za ns (k+2) 3 (by omega) (by omega)
    obtain ⟨t,r,s⟩:=WL ns d n (by omega) (by omega) (3*k+40) (by omega)
    refine ⟨.tup [.str "many",t, .int q, .int (if q+q2 < 3 then q+q2 else 3)], ?_, ?_⟩
    ·have hs5:([.vl (scr ns), .vl (.int k), .vl (.int ((d+1:Nat):Int)), .vl (.int p), .un, .un]:En).set 5 (.vl (.int q))=[.vl (scr ns), .vl (.int k), .vl (.int ((d+1:Nat):Int)), .vl (.int p), .un, .vl (.int q)]:=rfl
     simp only [Bool.false_eq_true,if_false,v0,v1,zo,zV,bOk,Zg,e1,ZL,hs5,jf,JK,jo,jH]
     refine XS rfl ?_ rfl ?_
     ·simp only [Zu,v0,v1,v2,zo,zV,bOk,X7,Zg,J9,hsub,r]
     ·have v5:∀ {t:T} {a b c d e:Sl} {ρ:En},vE 5 (a :: b :: c :: d :: e :: .vl t :: ρ)= .ok t:=rfl
      simp only [Zu,v0,v1,v5,zo,zV,bOk,Zg,e2,Qa]
    ·show (J7 0 3 (.int q) (.int _) && isK d t)=true
     rw [s,Bool.and_true]
     show (decide (0<=q) && decide (q<=_) && decide (_<=(3:Int)))=true
     rw [decide_eq_true (by omega),decide_eq_true (by split <;> omega),decide_eq_true (by split <;> omega)]; rfl
mutual
def dep:T->Nat
 | .tup xs=>Yy xs+1
 | .lst xs=>Yy xs+1
 | _=>1
def Yy:List T->Nat
 | []=>0
 | t :: ts=>max (dep t) (Yy ts)
end
mutual
def siz:T->Nat
 | .tup xs=>Yz xs+1
 | .lst xs=>Yz xs+1
 | _=>1
def Yz:List T->Nat
 | []=>0
 | t :: ts=>siz t+Yz ts
end
theorem Ja {w:Str} {t:T} (h:isS w t=true):t= .str w:=by
 cases t with
 | str s=>
  have:(s == w)=true:=h
  rw [eq_of_beq this]
 | _=>cases h
theorem jT {lo hi:Int} {t:T} (h:inR lo hi t=true):∃ i,t= .int i:=by
 cases t with
 | int i=>exact ⟨i,rfl⟩
 | _=>cases h
theorem Jh {lo hi:Int} {a b:T} (h:J7 lo hi a b=true):∃ i j,a= .int i/\b= .int j:=by
 cases a with
 | int i=>
  cases b with
  | int j=>exact ⟨i,j,rfl,rfl⟩
  | _=>cases h
 | _=>cases h
structure Fit (D S:Nat) (t:T):Prop where
 so:sOk t
 dp:dep t<=D
 sz:siz t<=S
theorem U5 {c:T} (h:zH c=true):Fit 2 3 c:=by
 unfold zH at h
 split at h
 ·rename_i w i
  have hw:Zk w=true:=by
   rw [Bool.and_eq_true,Bool.and_eq_true] at h
   exact h.1.1
  cases w with
  | str x=>
   have hx:(decide (1<=x.length) && decide (x.length<=3) && x.cps.toList.all Ze)=true:=hw
   rw [Bool.and_eq_true,Bool.and_eq_true,decide_eq_true_eq,decide_eq_true_eq] at hx
   refine ⟨?_, ?_, ?_⟩
   ·simp only [sOk,Ww,and_true]
    exact Nat.le_trans hx.1.2 (by decide)
   ·simp [dep,Yy]
   ·simp [siz,Yz]
  | _=>cases hw
 ·cases h
theorem K5 {D S:Nat}:∀ {cs:List T},(∀ c∈cs,Fit D S c)->Ww cs/\Yy cs<=D/\Yz cs<=S*cs.length
 | [],_=>⟨by simp only [Ww],Nat.zero_le _,Nat.zero_le _⟩
 | c :: cs,h=>by
  obtain ⟨a,b,d⟩:=K5 (cs:=cs) fun x hx=>h x (List.mem_cons_of_mem _ hx)
  obtain ⟨x,y,z⟩:=h c List.mem_cons_self
  refine ⟨?_, ?_, ?_⟩
  ·simp only [Ww]; exact ⟨x,a⟩
  ·simp only [Yy]; omega
  ·simp only [Yz,List.length_cons,Nat.mul_add,Nat.mul_one]; omega
theorem ww:∀ (d:Nat) (t:T),isK d t=true->Fit (2*d+2) (15*4 ^ d) t
 | 0,_,h=>by cases h
 | d+1,t,h=>by
  have hpow:4 ^ (d+1)=4*4 ^ d:=by rw [Nat.pow_succ,Nat.mul_comm]
  have hone:1<=4 ^ d:=Nat.pow_pos (by omega)
  have h:U2 (isK d) t=true:=h
  unfold U2 at h
  split at h
  ·rename_i hd r
   split at h
   ·rename_i e
    rw [Ja e]
    unfold Wh at h
    split at h
    ·obtain ⟨i,j,rfl,rfl⟩:=Jh h
     refine ⟨by simp only [sOk,Ww,and_true]; decide,by simp only [dep,Yy]; omega,by simp only [siz,Yz]; omega⟩
    ·cases h
   ·split at h
    ·rename_i e
     rw [Ja e]
     unfold yK at h
     split at h
     ·rename_i c
      unfold uh at h
      split at h
      ·rename_i cs
       rw [Bool.and_eq_true,Bool.and_eq_true,Bool.and_eq_true,decide_eq_true_eq,decide_eq_true_eq] at h
       obtain ⟨a,b,z⟩:=K5 (D:=2) (S:=3) (cs:=cs) fun c hc=>U5 (List.all_eq_true.mp h.1.2 c hc)
       refine ⟨by simp only [sOk,Ww,and_true]; exact ⟨by decide,a⟩,by simp only [dep,Yy]; omega,by simp only [siz,Yz]; omega⟩
      ·cases h
     ·cases h
    ·split at h
     ·rename_i e
      rw [Ja e]
      unfold X0 at h
      split at h
      ·rename_i c
       unfold Jz at h
       split at h
       ·rename_i cs
        rw [Bool.and_eq_true,Bool.and_eq_true,decide_eq_true_eq,decide_eq_true_eq] at h
        obtain ⟨a,b,z⟩:=K5 (D:=2*d+2) (S:=15*4 ^ d) (cs:=cs) fun c hc=>ww d c (List.all_eq_true.mp h.2 c hc)
        have:15*4 ^ d*cs.length<=15*4 ^ d*3:=Nat.mul_le_mul_left _ h.1.2
        refine ⟨by simp only [sOk,Ww,and_true]; exact ⟨by decide,a⟩,by simp only [dep,Yy]; omega,by simp only [siz,Yz]; omega⟩
       ·cases h
      ·cases h
     ·split at h
      ·rename_i e
       rw [Ja e]
       unfold yL at h
       split at h
       ·rename_i c a b
        rw [Bool.and_eq_true] at h
        obtain ⟨i,j,rfl,rfl⟩:=Jh h.1
        obtain ⟨x,y,z⟩:=ww d c h.2
        refine ⟨by simp only [sOk,Ww,and_true]; exact ⟨by decide,x⟩,by simp only [dep,Yy]; omega,by simp only [siz,Yz]; omega⟩
       ·cases h
      ·cases h
  ·cases h
theorem KK {f:En->R T} {ρ:En} {x:T} (hf:f ρ= .ok x):Zo (z9 f zg) ρ= .ok (.tup [x]):=by
 unfold Zo z9 zg
 rw [hf]; rfl
theorem X9 {xs ys:List T} (h:xs.length+ys.length<=bnd):zz (.tup xs) (.tup ys)= .ok (.tup (xs++ys)):=if_pos h
theorem Xa {f:En->R T} {ρ:En} {i:Int} (h:f ρ= .ok (.int i)):UX f ρ= .ok (some i):=by
 unfold UX; rw [h]; rfl
theorem w4 (ρ:En):nxS ρ= .nx ρ:=rfl
inductive Kd where
 | whole (lo hi:Int)
 | pick (cs:List (Str×Int))
 | row (ks:List Kd)
 | many (k:Kd) (lo hi:Nat)
def ZO (c:Str×Int):T:= .tup [.str c.1, .int c.2]
mutual
def Kd.t:Kd->T
 | .whole lo hi=> .tup [.str "whole", .int lo, .int hi]
 | .pick cs=> .tup [.str "pick", .tup (cs.map ZO)]
 | .row ks=> .tup [.str "row", .tup (Kd.ts ks)]
 | .many k lo hi=> .tup [.str "many",k.t, .int (lo:Int), .int (hi:Int)]
def Kd.ts:List Kd->List T
 | []=>[]
 | k :: ks=>k.t :: Kd.ts ks
end
theorem Kd.ts_map:∀ ks:List Kd,Kd.ts ks=ks.map Kd.t
 | []=>by simp only [Kd.ts,List.map_nil]
 | k :: ks=>by simp only [Kd.ts,List.map_cons,Kd.ts_map ks]
def Kd.Ok:Nat->Kd->Prop
 | 0,_=>False
 | _+1, .whole lo hi=> -20<=lo/\lo<=hi/\hi<=20
 | _+1, .pick cs=>1<=cs.length/\cs.length<=4/\(∀ c∈cs,Zk (.str c.1)=true/\1<=c.2/\c.2<=20)/\Dst (cs.map (·.1))
 | d+1, .row ks=>1<=ks.length/\ks.length<=3/\∀ k∈ks,Kd.Ok d k
 | d+1, .many k lo hi=>lo<=hi/\hi<=3/\Kd.Ok d k
theorem yO {c:T} (h:zH c=true):∃ p:Str×Int,c=ZO p/\Zk (.str p.1)=true/\1<=p.2/\p.2<=20:=by
 unfold zH at h
 split at h
 ·rename_i w i
  rw [Bool.and_eq_true,Bool.and_eq_true,decide_eq_true_eq,decide_eq_true_eq] at h
  cases w with
  | str x=>exact ⟨(x,i),rfl,h.1.1,h.1.2,h.2⟩
  | _=>cases h.1.1
 ·cases h
theorem WM {α:Type} {P:T->Prop} {Q:α->Prop} {f:α->T} (H:∀ t,P t->∃ a,t=f a/\Q a):∀ (ts:List T),(∀ t∈ts,P t)->∃ as:List α,ts=as.map f/\∀ a∈as,Q a
 | [],_=>⟨[],rfl,fun _ h=>nomatch h⟩
 | t :: ts,h=>by
  obtain ⟨a,rfl,ha⟩:=H t (h t List.mem_cons_self)
  obtain ⟨as,rfl,has⟩:=WM H ts fun u hu=>h u (List.mem_cons_of_mem _ hu)
  exact ⟨a :: as,rfl,fun b hb=>by
   rcases List.mem_cons.mp hb with rfl | hb
   ·exact ha
   ·exact has b hb⟩
theorem WN:∀ (d:Nat) (t:T),isK d t=true->∃ k:Kd,t=k.t/\k.Ok d
 | 0,_,h=>by cases h
 | d+1,t,h=>by
  have h:U2 (isK d) t=true:=h
  unfold U2 at h
  split at h
  ·rename_i hd r
   split at h
   ·rename_i e
    rw [Ja e]
    unfold Wh at h
    split at h
    ·obtain ⟨i,j,rfl,rfl⟩:=Jh h
     have h:(decide (-20<=i) && decide (i<=j) && decide (j<=20))=true:=h
     rw [Bool.and_eq_true,Bool.and_eq_true,decide_eq_true_eq,decide_eq_true_eq,decide_eq_true_eq] at h
     exact ⟨.whole i j,by simp only [Kd.t],h.1.1,h.1.2,h.2⟩
    ·cases h
   ·split at h
    ·rename_i e
     rw [Ja e]
     unfold yK at h
     split at h
     ·rename_i c
      unfold uh at h
      split at h
      ·rename_i cs
       rw [Bool.and_eq_true,Bool.and_eq_true,Bool.and_eq_true,decide_eq_true_eq,decide_eq_true_eq,decide_eq_true_eq] at h
       obtain ⟨⟨⟨h1,h2⟩,h3⟩,h4⟩:=h
       obtain ⟨as,rfl,has⟩:=WM (fun t ht=>yO ht) cs fun c hc=>List.all_eq_true.mp h3 c hc
       rw [List.length_map] at h1 h2
       refine ⟨.pick as,by simp only [Kd.t],h1,h2,has, ?_⟩
       have e1:(as.map ZO).map Zf=as.map (·.1):=by rw [List.map_map]; rfl
       rw [e1] at h4
       have:=(wu (as.map (·.1)) []).mp (by rw [h4,List.length_map,List.length_map]; simp)
       exact fun k w hw hm=>this k w hw (by simpa using hm)
      ·cases h
     ·cases h
    ·split at h
     ·rename_i e
      rw [Ja e]
      unfold X0 at h
      split at h
      ·rename_i c
       unfold Jz at h
       split at h
       ·rename_i cs
        rw [Bool.and_eq_true,Bool.and_eq_true,decide_eq_true_eq,decide_eq_true_eq] at h
        obtain ⟨ks,rfl,hks⟩:=WM (fun t ht=>WN d t ht) cs fun c hc=>List.all_eq_true.mp h.2 c hc
        rw [List.length_map] at h
        exact ⟨.row ks,by simp only [Kd.t,Kd.ts_map],h.1.1,h.1.2,hks⟩
       ·cases h
      ·cases h
     ·split at h
      ·rename_i e
       rw [Ja e]
       unfold yL at h
       split at h
       ·rename_i c a b
        rw [Bool.and_eq_true] at h
        obtain ⟨h1,h2⟩:=h
        obtain ⟨i,j,rfl,rfl⟩:=Jh h1
        obtain ⟨k,rfl,hk⟩:=WN d c h2
        have h1:(decide (0<=i) && decide (i<=j) && decide (j<=3))=true:=h1
        rw [Bool.and_eq_true,Bool.and_eq_true,decide_eq_true_eq,decide_eq_true_eq,decide_eq_true_eq] at h1
        obtain ⟨⟨a1,a2⟩,a3⟩:=h1
        obtain ⟨m,rfl⟩:=Int.eq_ofNat_of_zero_le a1
        obtain ⟨n,rfl⟩:=Int.eq_ofNat_of_zero_le (Int.le_trans a1 a2)
        exact ⟨.many k m n,by simp only [Kd.t],by omega,by omega,hk⟩
       ·cases h
      ·cases h
  ·cases h
def Zy (made:List (List T)):List (List T)->List (List T)
 | []=>made
 | ls :: r=>Zy (made.flatMap fun a=>ls.map fun x=>a++[x]) r
abbrev wz (ls:List (List T)):List T:=(Zy [[]] ls).map T.tup
mutual
def Kd.all:Kd->List T
 | .whole lo hi=>(List.range (hi+1 - lo).toNat).map fun (i:Nat)=>T.int (lo+(i:Int))
 | .pick cs=>cs.map fun c=>T.str c.1
 | .row ks=>wz (Kd.alls ks)
 | .many k lo hi=>(List.range (hi+1 - lo)).flatMap fun i=>wz (List.replicate (lo+i) k.all)
def Kd.alls:List Kd->List (List T)
 | []=>[]
 | k :: ks=>k.all :: Kd.alls ks
end
theorem Kd.alls_map:∀ ks:List Kd,Kd.alls ks=ks.map Kd.all
 | []=>by simp only [Kd.alls,List.map_nil]
 | k :: ks=>by simp only [Kd.alls,List.map_cons,Kd.alls_map ks]
def prd:List Nat->Nat
 | []=>1
 | n :: r=>n*prd r
theorem JB:∀ {ns:List Nat},(∀ n∈ns,1<=n)->1<=prd ns
 | [],_=>Nat.le_refl _
 | n :: ns,h=>Nat.mul_pos (h n List.mem_cons_self) (JB fun m hm=>h m (List.mem_cons_of_mem _ hm))
theorem Ji {α β:Type} (f:α->List β) (n:Nat):∀ as:List α,(∀ a∈as,(f a).length=n)->(as.flatMap f).length=as.length*n
 | [],_=>by simp
 | a :: as,h=>by
  rw [List.flatMap_cons,List.length_append,h a List.mem_cons_self,Ji f n as fun b hb=>h b (List.mem_cons_of_mem _ hb),List.length_cons,Nat.add_mul,Nat.one_mul,Nat.add_comm]
theorem JC:∀ (ls:List (List T)) (made:List (List T)),(Zy made ls).length=made.length*prd (ls.map (·.length))
 | [],made=>by simp [Zy,prd]
 | l :: ls,made=>by
  rw [Zy,JC ls,Ji _ l.length made fun a _=>List.length_map ..,List.map_cons,prd,Nat.mul_assoc]
abbrev Qb:En->RS:=Vn 3 (Z0 (j2 (vE 2)) (zG 0) (Z9) (ze zz (vE 1) (Zo (z9 (vE 0) (zg)))) 1 [4])
theorem uj {L M:T} {l:List T} (hl:l.length<=bnd):∀ (as:List (List T)) (acc:List T) (x:Sl),(∀ a∈as,a.length<=1000)->acc.length+as.length*l.length<=bnd->
  ∃ y,ZU (zG 4) Qb (as.map T.tup) [.vl L, .vl M, .vl (.lst l), .ow acc,x]= .nx [.vl L, .vl M, .vl (.lst l), .ow (acc++(as.flatMap fun a=>l.map fun x=>a++[x]).map T.tup),y]
 | [],acc,x,_,_=>⟨x,by simp [ZU]⟩
 | a :: as,acc,x,ha,hb=>by
  have ha1:=ha a List.mem_cons_self
  have hb1:bnd=16777216:=rfl
  rw [List.length_cons,Nat.add_mul,Nat.one_mul] at hb
  have ec:Z3 (zG 0) Z9 (ze zz (vE 1) (Zo (z9 (vE 0) (zg)))) 1 [4] [.vl L, .vl M, .vl (.lst l), .ow acc, .vl (.tup a)] l= .ok (l.map fun x=>T.tup (a++[x])):=
   Zb (h:=fun x=>T.tup (a++[x])) l hl fun x hx=>by
    show ze zz (vE 1) (Zo (z9 (vE 0) (zg))) [.vl x, .vl (.tup a)]=_
    rw [zo,v1,bOk,KK v0,bOk]
    exact X9 (by rw [List.length_singleton]; omega)
  have eb:Qb [.vl L, .vl M, .vl (.lst l), .ow acc, .vl (.tup a)]= .nx [.vl L, .vl M, .vl (.lst l), .ow (acc++l.map fun x=>T.tup (a++[x])), .vl (.tup a)]:=by
   show ((Z0 _ _ _ _ _ _ _).s fun t=>match t with | .lst us=>if acc.length+us.length<=bnd then RS.nx _ else .bad | _=> .bad)=_
   rw [Z4,jg,v2,bOk]
   show (((Z3 _ _ _ _ _ _ l).bind _).s _)=_
   rw [ec,bOk,ZL]
   show (if _ then _ else _)=_
   rw [if_pos (by rw [List.length_map]; omega)]
   rfl
  obtain ⟨y,ih⟩:=uj hl as (acc++l.map fun x=>T.tup (a++[x])) (.vl (.tup a)) (fun b hb=>ha b (List.mem_cons_of_mem _ hb)) (by rw [List.length_append,List.length_map]; omega)
  refine ⟨y, ?_⟩
  have e:ZU (zG 4) Qb ((a :: as).map T.tup) [.vl L, .vl M, .vl (.lst l), .ow acc,x]=match Qb [.vl L, .vl M, .vl (.lst l), .ow acc, .vl (.tup a)] with
   | .nx ρ2=>ZU (zG 4) Qb (as.map T.tup) ρ2
   | .ct ρ2=>ZU (zG 4) Qb (as.map T.tup) ρ2
   | .bk ρ2=> .nx ρ2
   | r=>r:=rfl
  rw [e,eb]
  dsimp only
  rw [ih,List.flatMap_cons,List.map_append,List.map_map,List.append_assoc]
  rfl
abbrev Wk:En->RS:=(zu (Yw 3 (zg))
  (zu (Je (j2 (vE 1)) (zG 4) Qb)
  (mvS 1 3)))
theorem Wl {L:T} (m:Nat):∀ (ls:List (List T)) (made:List (List T)) (k:Nat) (x y z:Sl),(∀ a∈made,a.length<=k)->k+ls.length<=1000->(∀ l∈ls,1<=l.length)->made.length*prd (ls.map (·.length))<=bnd->1<=made.length->
  ∃ x' y' z',ZU (zG 2) Wk (ls.map T.lst) [.vl L, .vl (.lst (made.map T.tup)),x,y,z]= .nx [.vl L, .vl (.lst ((Zy made ls).map T.tup)),x',y',z']
 | [],made,k,x,y,z,_,_,_,_,_=>⟨x,y,z,by simp [ZU,Zy]⟩
 | l :: ls,made,k,x,y,z,hk,hkl,hpos,hb,hm=>by
  have hpr:1<=prd (ls.map (·.length)):=JB fun n hn=>by
   obtain ⟨l',hl',rfl⟩:=List.mem_map.mp hn
   exact hpos l' (List.mem_cons_of_mem _ hl')
  rw [List.map_cons,prd,← Nat.mul_assoc] at hb
  have hb1:made.length*l.length<=bnd:=Nat.le_trans (Nat.le_mul_of_pos_right _ hpr) hb
  have hll:l.length<=bnd:=Nat.le_trans (Nat.le_mul_of_pos_left _ hm) hb1
  rw [List.length_cons] at hkl
  obtain ⟨w,er⟩:=uj (L:=L) (M:= .lst (made.map T.tup)) hll made [] z (fun a ha=>Nat.le_trans (hk a ha) (by omega)) (by rw [List.length_nil]; omega)
  rw [List.nil_append] at er
  have es:Wk [.vl L, .vl (.lst (made.map T.tup)), .vl (.lst l),y,z]= .nx [.vl L, .vl (.lst ((made.flatMap fun a=>l.map fun x=>a++[x]).map T.tup)), .vl (.lst l), .vl (.lst ((made.flatMap fun a=>l.map fun x=>a++[x]).map T.tup)),w]:=by
   have e0:Yw 3 (zg) [.vl L, .vl (.lst (made.map T.tup)), .vl (.lst l),y,z]= .nx [.vl L, .vl (.lst (made.map T.tup)), .vl (.lst l), .ow [],z]:=rfl
   have e1:Je (j2 (vE 1)) (zG 4) Qb [.vl L, .vl (.lst (made.map T.tup)), .vl (.lst l), .ow [],z]= .nx [.vl L, .vl (.lst (made.map T.tup)), .vl (.lst l), .ow ((made.flatMap fun a=>l.map fun x=>a++[x]).map T.tup),w]:=er
   unfold Wk
   rw [Z1,e0]
   dsimp only
   rw [Z1,e1]
   rfl
  obtain ⟨x',y',z',ih⟩:=Wl (L:=L) m ls (made.flatMap fun a=>l.map fun x=>a++[x]) (k+1) (.vl (.lst l)) (.vl (.lst ((made.flatMap fun a=>l.map fun x=>a++[x]).map T.tup))) w (fun a ha=>by
   obtain ⟨b,hb,hx⟩:=List.mem_flatMap.mp ha
   obtain ⟨u,_,rfl⟩:=List.mem_map.mp hx
   have:=hk b hb
   rw [List.length_append,List.length_singleton]; omega) (by omega) (fun l' hl' =>hpos l' (List.mem_cons_of_mem _ hl')) (by
    rw [Ji _ l.length made fun a _=>List.length_map ..]; exact hb) (by
    rw [Ji _ l.length made fun a _=>List.length_map ..]; exact Nat.mul_pos hm (hpos l List.mem_cons_self))
  refine ⟨x',y',z', ?_⟩
  have e:ZU (zG 2) Wk ((l :: ls).map T.lst) [.vl L, .vl (.lst (made.map T.tup)),x,y,z]=match Wk [.vl L, .vl (.lst (made.map T.tup)), .vl (.lst l),y,z] with
   | .nx ρ2=>ZU (zG 2) Wk (ls.map T.lst) ρ2
   | .ct ρ2=>ZU (zG 2) Wk (ls.map T.lst) ρ2
   | .bk ρ2=> .nx ρ2
   | r=>r:=rfl
  rw [e,es]
  exact ih
theorem yP (ls:List (List T)) (hl:ls.length<=1000) (hpos:∀ l∈ls,1<=l.length) (hb:prd (ls.map (·.length))<=bnd):f_a [.lst (ls.map T.lst)]= .ok (.lst (wz ls)):=by
 obtain ⟨x',y',z',er⟩:=Wl (L:= .lst (ls.map T.lst)) 0 ls [[]] 0 .un .un .un (fun a ha=>by rw [List.mem_singleton.mp ha]; exact Nat.le_refl _) (by omega) hpos (by rw [List.length_singleton,Nat.one_mul]; exact hb) (Nat.le_refl _)
 have e:f_a [.lst (ls.map T.lst)]=zn (b_a [.vl (.lst (ls.map T.lst)), .un, .un, .un, .un]):=rfl
 have e0:zS 1 (Jn (z9 (Zo (zg)) (zg))) [.vl (.lst (ls.map T.lst)), .un, .un, .un, .un]= .nx [.vl (.lst (ls.map T.lst)), .vl (.lst [.tup []]), .un, .un, .un]:=rfl
 have e1:Je (j2 (vE 0)) (zG 2) Wk [.vl (.lst (ls.map T.lst)), .vl (.lst [.tup []]), .un, .un, .un]= .nx [.vl (.lst (ls.map T.lst)), .vl (.lst (wz ls)),x',y',z']:=er
 rw [e,b_a,Z1,e0]
 dsimp only
 rw [Z1,e1]
 rfl
theorem jh (n:Nat):∀ m:Nat,prd (List.replicate m n)=n ^ m
 | 0=>rfl
 | m+1=>by rw [List.replicate_succ,prd,jh n m,Nat.pow_succ,Nat.mul_comm]
theorem Jj (ls:List (List T)):(wz ls).length=prd (ls.map (·.length)):=by
 unfold wz
 rw [List.length_map,JC,List.length_singleton,Nat.one_mul]
def pw (n lo hi:Nat):Nat:=((List.range (hi+1 - lo)).map fun i=>n ^ (lo+i)).sum
theorem jn (k:Kd) (lo hi:Nat):(Kd.many k lo hi).all.length=pw k.all.length lo hi:=by
 rw [Kd.all,List.length_flatMap,pw]
 congr 1
 refine List.map_congr_left fun i _=> ?_
 rw [Jj,List.map_replicate,jh]
theorem jU (ks:List Kd):(Kd.row ks).all.length=prd (ks.map fun k=>k.all.length):=by
 rw [Kd.all,Jj,Kd.alls_map,List.map_map]; rfl
theorem ji (lo hi:Int):(Kd.whole lo hi).all.length=(hi+1 - lo).toNat:=by
 rw [Kd.all,List.length_map,List.length_range]
theorem wA (cs:List (Str×Int)):(Kd.pick cs).all.length=cs.length:=by
 rw [Kd.all,List.length_map]
theorem V0 {lo hi:Nat} (h:lo<=hi) (h3:hi<=3):(lo=0/\hi=0)\/(lo=0/\hi=1)\/(lo=0/\hi=2)\/(lo=0/\hi=3)\/(lo=1/\hi=1)\/(lo=1/\hi=2)\/(lo=1/\hi=3)\/(lo=2/\hi=2)\/(lo=2/\hi=3)\/(lo=3/\hi=3):=by omega
def iv (b:Bool):Nat:=if b then 1 else 0
theorem V1 (n:Nat) {lo hi:Nat} (h:lo<=hi) (h3:hi<=3):pw n lo hi=iv (lo == 0)+n*iv (decide (lo<=1) && decide (1<=hi))+n*n*iv (decide (lo<=2) && decide (2<=hi))+n*n*n*iv (hi == 3):=by
 rcases V0 h h3 with ⟨rfl,rfl⟩ | ⟨rfl,rfl⟩ | ⟨rfl,rfl⟩ | ⟨rfl,rfl⟩ | ⟨rfl,rfl⟩ | ⟨rfl,rfl⟩ | ⟨rfl,rfl⟩ | ⟨rfl,rfl⟩ | ⟨rfl,rfl⟩ | ⟨rfl,rfl⟩ <;>
  simp [pw,List.range_succ,iv,Nat.pow_succ]
 all_goals omega
theorem Xb {n:Nat} (hn:1<=n) {lo hi:Nat} (h:lo<=hi) (h3:hi<=3):1<=pw n lo hi:=by
 have h2:1<=n*n:=Nat.mul_pos hn hn
 have h1:1<=n*n*n:=Nat.mul_pos h2 hn
 rw [V1 n h h3]
 rcases V0 h h3 with ⟨rfl,rfl⟩ | ⟨rfl,rfl⟩ | ⟨rfl,rfl⟩ | ⟨rfl,rfl⟩ | ⟨rfl,rfl⟩ | ⟨rfl,rfl⟩ | ⟨rfl,rfl⟩ | ⟨rfl,rfl⟩ | ⟨rfl,rfl⟩ | ⟨rfl,rfl⟩ <;>
  simp [iv] <;> omega
theorem K6 {n N:Nat} (hn:n<=N) {lo hi:Nat} (h:lo<=hi) (h3:hi<=3):pw n lo hi<=1+N+N*N+N*N*N:=by
 have h2:n*n<=N*N:=Nat.mul_le_mul hn hn
 have h1:n*n*n<=N*N*N:=Nat.mul_le_mul h2 hn
 rw [V1 n h h3]
 rcases V0 h h3 with ⟨rfl,rfl⟩ | ⟨rfl,rfl⟩ | ⟨rfl,rfl⟩ | ⟨rfl,rfl⟩ | ⟨rfl,rfl⟩ | ⟨rfl,rfl⟩ | ⟨rfl,rfl⟩ | ⟨rfl,rfl⟩ | ⟨rfl,rfl⟩ | ⟨rfl,rfl⟩ <;>
  simp [iv] <;> omega
theorem Qc {N:Nat} (hN:1<=N):∀ (ns:List Nat),(∀ n∈ns,n<=N)->prd ns<=N ^ ns.length
 | [],_=>Nat.le_refl _
 | n :: ns,h=>by
  rw [prd,List.length_cons,Nat.pow_succ,Nat.mul_comm]
  exact Nat.mul_le_mul (Qc hN ns fun m hm=>h m (List.mem_cons_of_mem _ hm)) (h n List.mem_cons_self)
theorem Zp:∀ (d:Nat) (k:Kd),k.Ok d->1<=k.all.length
 | 0,_,h=>h.elim
 | d+1, .whole lo hi,h=>by
  obtain ⟨_,h2,_⟩:=h
  rw [ji]; omega
 | d+1, .pick cs,h=>by
  rw [wA]; exact h.1
 | d+1, .row ks,h=>by
  rw [jU]
  refine JB fun n hn=> ?_
  obtain ⟨k,hk,rfl⟩:=List.mem_map.mp hn
  exact Zp d k (h.2.2 k hk)
 | d+1, .many k lo hi,h=>by
  rw [jn]
  exact Xb (Zp d k h.2.2) h.1 h.2.1
def mx:Nat->Nat
 | 0=>0
 | 1=>41
 | d+1=>1+mx d+mx d*mx d+mx d*mx d*mx d
theorem Qd (d:Nat):41<=mx (d+1):=by
 induction d with
 | zero=>exact Nat.le_refl _
 | succ d ih=>
  show 41<=1+mx (d+1)+mx (d+1)*mx (d+1)+mx (d+1)*mx (d+1)*mx (d+1)
  omega
theorem yQ (d:Nat) (n:Nat) (h:n<=41):n<=mx (d+1):=Nat.le_trans h (Qd d)
theorem V2 {N m:Nat} (hN:1<=N) (h:m<=3):N ^ m<=1+N+N*N+N*N*N:=by
 have:m=0\/m=1\/m=2\/m=3:=by omega
 rcases this with rfl | rfl | rfl | rfl <;> simp [Nat.pow_succ] <;> omega
theorem jq:∀ (d:Nat) (k:Kd),k.Ok d->k.all.length<=mx d
 | 0,_,h=>h.elim
 | d+1, .whole lo hi,h=>by
  obtain ⟨h1,h2,h3⟩:=h
  rw [ji]; exact yQ d _ (by omega)
 | d+1, .pick cs,h=>by
  rw [wA]; exact yQ d _ (Nat.le_trans h.2.1 (by omega))
 | 1, .row ks,h=>by
  obtain ⟨h1,h2,h3⟩:=h
  match ks,h1,h3 with
  | k :: _,_,h3=>exact (h3 k List.mem_cons_self).elim
 | d+2, .row ks,h=>by
  obtain ⟨h1,h2,h3⟩:=h
  rw [jU]
  have hp:=Nat.le_trans (by omega:1<=41) (Qd d)
  have:=Qc hp (ks.map fun k=>k.all.length) fun n hn=>by
   obtain ⟨k,hk,rfl⟩:=List.mem_map.mp hn
   exact jq (d+1) k (h3 k hk)
  rw [List.length_map] at this
  exact Nat.le_trans this (V2 hp h2)
 | 1, .many k lo hi,h=>h.2.2.elim
 | d+2, .many k lo hi,h=>by
  rw [jn]
  exact K6 (jq (d+1) k h.2.2) h.1 h.2.1
theorem zj {f g:En->RS} {ρ ρ' :En} (h:f ρ= .nx ρ'):zu f g ρ=g ρ' :=by rw [Z1,h]
theorem cs0 {x w:Str} {r:List T} {ρ:En}:zv eqC (ze ixT (vE 0) (cE (.int 0))) (cE (.str w)) (.vl (.tup (.str x :: r)) :: ρ)= .ok (x == w):=by
 rw [zC,zo,v0,bOk,zV,bOk,at0,bOk,zV,bOk,eqS]; rfl
theorem Wm {a b:T} {r:List T} {ρ:En}:ze ixT (vE 0) (cE (.int 1)) (.vl (.tup (a :: b :: r)) :: ρ)= .ok b:=by
 rw [zo,v0,bOk,zV,bOk,at1]
theorem Qe {a b c:T} {r:List T} {ρ:En}:ze ixT (vE 0) (cE (.int 2)) (.vl (.tup (a :: b :: c :: r)) :: ρ)= .ok c:=by
 rw [zo,v0,bOk,zV,bOk,at2]
theorem V3 {a b c d:T} {r:List T} {ρ:En}:ze ixT (vE 0) (cE (.int 3)) (.vl (.tup (a :: b :: c :: d :: r)) :: ρ)= .ok d:=by
 rw [zo,v0,bOk,zV,bOk,at3]
theorem yR {f:En->R T} {ρ:En} {i:Int} (h:f ρ= .ok (.int i)):ze zz f (cE (.int 1)) ρ= .ok (.int (i+1)):=by
 rw [zo,h,bOk,zV,bOk,Zg]
theorem WO {f g:En->R T} {ρ:En} {i j:Int} (hf:f ρ= .ok (.int i)) (hg:g ρ= .ok (.int j)) (h: -1000000 < i/\i < 1000000/\ -1000000 < j/\j < 1000000):Jd f g ρ= .ok (rng i (j - i).toNat):=by
 unfold Jd
 rw [hf,bOk,hg,bOk]
 exact if_pos h
theorem yS:∀ (cs:List (Str×Int)) (x y:Sl),zF (Zd 0 1) Z9 (vE 0) (cs.map ZO) [x,y]= .ok (cs.map fun c=>T.str c.1)
 | [],_,_=>rfl
 | c :: cs,x,y=>by
  have e:zF (Zd 0 1) Z9 (vE 0) ((c :: cs).map ZO) [x,y]=(zF (Zd 0 1) Z9 (vE 0) (cs.map ZO) [.vl (.str c.1), .vl (.int c.2)]).bind fun vs=> .ok (.str c.1 :: vs):=rfl
  rw [e,yS cs]; rfl
theorem yT {x:T} {m:Nat} (h:m<=3):Z2 (.lst [x]) (.int (m:Int))= .ok (.lst (List.replicate m [x]).flatten):=by
 unfold Z2
 dsimp only
 have c:0<=(m:Int)/\(m:Int) < 1000000/\[x].length*(m:Int).toNat<=bnd:=by
  have hb:3<=bnd:=by decide
  refine ⟨by omega,by omega, ?_⟩
  rw [List.length_singleton,Int.toNat_natCast,Nat.one_mul]
  exact Nat.le_trans h hb
 rw [if_pos c,Int.toNat_natCast]
theorem jJ {α:Type} (x:α):∀ m:Nat,(List.replicate m [x]).flatten=List.replicate m x
 | 0=>rfl
 | m+1=>by rw [List.replicate_succ,List.replicate_succ,List.flatten_cons,jJ x m]; rfl
abbrev JL (ca cr:List T->R T):En->RS:=Vn 1 (zc 1 cr (z9 (ze Z2 (Jn (z9 (zc 1 ca (z9 (ze ixT (vE 0) (cE (.int 1))) (zg))) (zg))) (vE 2)) (zg)))
theorem K7 {f:En->R T} {ρ:En} {x:T} (hf:f ρ= .ok x):Jn (z9 f zg) ρ= .ok (.lst [x]):=by
 unfold Jn z9 zg
 rw [hf]; rfl
theorem Wn {ca:List T->R T} {k:Kd} {t:T} {lo:Nat} {ws:List T} (hw:ca [t]= .ok (.lst ws)) (hpos:1<=ws.length) {a b c:T}:∀ (js:List Nat) (acc:List T) (x:Sl),(∀ j∈js,lo+j<=3)->acc.length+(js.map fun j=>ws.length ^ (lo+j)).sum<=bnd->
  ∃ y,ZU (zG 2) (JL ca f_a) (js.map fun (j:Nat)=>T.int ((lo:Int)+(j:Int))) [.vl (.tup [a,t,b,c]), .ow acc,x]= .nx [.vl (.tup [a,t,b,c]), .ow (acc++js.flatMap fun j=>wz (List.replicate (lo+j) ws)),y]
 | [],acc,x,_,_=>⟨x,by simp [ZU]⟩
 | j :: js,acc,x,hj,hb=>by
  have hj1:=hj j List.mem_cons_self
  have hb1:bnd=16777216:=rfl
  rw [List.map_cons,List.sum_cons] at hb
  have er:f_a [.lst ((List.replicate (lo+j) ws).map T.lst)]= .ok (.lst (wz (List.replicate (lo+j) ws))):=yP _ (by rw [List.length_replicate]; omega) (fun l hl=>by rw [List.eq_of_mem_replicate hl]; exact hpos) (by rw [List.map_replicate,jh]; omega)
  have hlen:(wz (List.replicate (lo+j) ws)).length=ws.length ^ (lo+j):=by rw [Jj,List.map_replicate,jh]
  have em:Z2 (.lst [.lst ws]) (.int ((lo:Int)+(j:Int)))= .ok (.lst ((List.replicate (lo+j) ws).map T.lst)):=by
   have e1:(lo:Int)+(j:Int)=((lo+j:Nat):Int):=by omega
   rw [e1,yT (by omega),jJ,List.map_replicate]
  have eb:JL ca f_a [.vl (.tup [a,t,b,c]), .ow acc, .vl (.int ((lo:Int)+(j:Int)))]= .nx [.vl (.tup [a,t,b,c]), .ow (acc++wz (List.replicate (lo+j) ws)), .vl (.int ((lo:Int)+(j:Int)))]:=by
   have e1:zc 1 f_a (z9 (ze Z2 (Jn (z9 (zc 1 ca (z9 (ze ixT (vE 0) (cE (.int 1))) (zg))) (zg))) (vE 2)) (zg)) [.vl (.tup [a,t,b,c]), .ow acc, .vl (.int ((lo:Int)+(j:Int)))]= .ok (.lst (wz (List.replicate (lo+j) ws))):=by
    have e0:zc 1 ca (z9 (ze ixT (vE 0) (cE (.int 1))) (zg)) [.vl (.tup [a,t,b,c]), .ow acc, .vl (.int ((lo:Int)+(j:Int)))]= .ok (.lst ws):=by
     rw [Zh,Wm,bOk,hw]
    rw [Zh,zo,K7 e0,bOk,v2,bOk,em,bOk,er]
   show ((zc 1 f_a _ _).s fun t=>match t with | .lst us=>if acc.length+us.length<=bnd then RS.nx _ else .bad | _=> .bad)=_
   rw [e1,ZL]
   show (if _ then _ else _)=_
   rw [if_pos (by rw [hlen]; omega)]
   rfl
  obtain ⟨y,ih⟩:=Wn (k:=k) hw hpos (a:=a) (b:=b) (c:=c) js (acc++wz (List.replicate (lo+j) ws)) (.vl (.int ((lo:Int)+(j:Int)))) (fun i hi=>hj i (List.mem_cons_of_mem _ hi)) (by rw [List.length_append,hlen]; omega)
  refine ⟨y, ?_⟩
  have e:ZU (zG 2) (JL ca f_a) ((j :: js).map fun (j:Nat)=>T.int ((lo:Int)+(j:Int))) [.vl (.tup [a,t,b,c]), .ow acc,x]=match JL ca f_a [.vl (.tup [a,t,b,c]), .ow acc, .vl (.int ((lo:Int)+(j:Int)))] with
   | .nx ρ2=>ZU (zG 2) (JL ca f_a) (js.map fun (j:Nat)=>T.int ((lo:Int)+(j:Int))) ρ2
   | .ct ρ2=>ZU (zG 2) (JL ca f_a) (js.map fun (j:Nat)=>T.int ((lo:Int)+(j:Int))) ρ2
   | .bk ρ2=> .nx ρ2
   | r=>r:=rfl
  rw [e,eb]
  dsimp only
  rw [ih,List.flatMap_cons,List.append_assoc]
theorem qv {ca:List T->R T} {a t:T} {lo hi:Nat} (h1:lo<=hi) (h2:hi<=3) {x:Sl} {acc:List T} {r:RS}
  (el:ZU (zG 2) (JL ca f_a) ((List.range (hi+1 - lo)).map fun (j:Nat)=>T.int ((lo:Int)+(j:Int))) [.vl (.tup [a,t, .int (lo:Int), .int (hi:Int)]), .ow acc,x]=r):
  Je (Jd (ze ixT (vE 0) (cE (.int 2))) (ze zz (ze ixT (vE 0) (cE (.int 3))) (cE (.int 1)))) (zG 2) (JL ca f_a) [.vl (.tup [a,t, .int (lo:Int), .int (hi:Int)]), .ow acc,x]=r:=by
 have hn:((hi:Int)+1 - (lo:Int)).toNat=hi+1 - lo:=by omega
 have hc: -1000000 < (lo:Int)/\(lo:Int) < 1000000/\ -1000000 < (hi:Int)+1/\(hi:Int)+1 < 1000000:=by omega
 have e:Je (Jd (ze ixT (vE 0) (cE (.int 2))) (ze zz (ze ixT (vE 0) (cE (.int 3))) (cE (.int 1)))) (zG 2) (JL ca f_a) [.vl (.tup [a,t, .int (lo:Int), .int (hi:Int)]), .ow acc,x]=(Jd (ze ixT (vE 0) (cE (.int 2))) (ze zz (ze ixT (vE 0) (cE (.int 3))) (cE (.int 1))) [.vl (.tup [a,t, .int (lo:Int), .int (hi:Int)]), .ow acc,x]).s fun ts=>ZU (zG 2) (JL ca f_a) ts [.vl (.tup [a,t, .int (lo:Int), .int (hi:Int)]), .ow acc,x]:=rfl
 rw [e,WO Qe (yR V3) hc,ZL,hn]
 exact el
theorem Xc {n L lo hi:Nat} (e:L=pw n lo hi) (h:L<=1000000):([]:List T).length+((List.range (hi+1 - lo)).map fun j=>n ^ (lo+j)).sum<=bnd:=by
 have h' :pw n lo hi<=bnd:=Nat.le_trans (e ▸ h) (by decide)
 unfold pw at h'
 rw [List.length_nil,Nat.zero_add]
 exact h'
theorem yU {ca:List T->R T} (d:Nat) (lo hi:Int) (h:(Kd.whole lo hi).Ok (d+1)) (hl:(Kd.whole lo hi).all.length<=1000000) (H:∀ k' :Kd,k'.Ok d->ca [k'.t]= .ok (.lst k'.all)):zn (b_6 ca f_a (en0 3 [(Kd.whole lo hi).t]))= .ok (.lst (Kd.whole lo hi).all):=by
 have hb1:bnd=16777216:=rfl
 have e:zn (b_6 ca f_a (en0 3 [(Kd.whole lo hi).t]))=zn (b_6 ca f_a [.vl (Kd.whole lo hi).t, .un, .un]):=rfl
 rw [e,b_6,Z1,j6]
 obtain ⟨h1,h2,h3⟩:=h
 simp only [Kd.t]
 rw [cs0,ZL,show (("whole":Str) == "whole")=true from rfl,if_pos rfl,Zr,jf,JK,JK,jo]
 unfold XJ
 rw [WO Wm (yR Qe) ⟨by omega,by omega,by omega,by omega⟩]
 rw [Kd.all]
 rfl
theorem qw {ca:List T->R T} (d:Nat) (cs:List (Str×Int)) (h:(Kd.pick cs).Ok (d+1)) (hl:(Kd.pick cs).all.length<=1000000) (H:∀ k' :Kd,k'.Ok d->ca [k'.t]= .ok (.lst k'.all)):zn (b_6 ca f_a (en0 3 [(Kd.pick cs).t]))= .ok (.lst (Kd.pick cs).all):=by
 have hb1:bnd=16777216:=rfl
 have e:zn (b_6 ca f_a (en0 3 [(Kd.pick cs).t]))=zn (b_6 ca f_a [.vl (Kd.pick cs).t, .un, .un]):=rfl
 rw [e,b_6,Z1,j6]
 simp only [Kd.t]
 rw [cs0,ZL,show (("pick":Str) == "whole")=false from rfl,if_neg Bool.false_ne_true,w4]
 dsimp only
 rw [Z1,j6,cs0,ZL,show (("pick":Str) == "pick")=true from rfl,if_pos rfl,Zr,jf,JK,JK,jo,Z4,jg,Wm,bOk]
 have hc:cs.length<=4:=h.2.1
 have ec:Z3 (Zd 0 1) Z9 (vE 0) 2 [] [.vl (.tup [.str "pick", .tup (cs.map ZO)]), .un, .un] (cs.map ZO)= .ok (cs.map fun c=>T.str c.1):=by
  unfold Z3
  rw [if_pos (by rw [List.length_map]; omega)]
  show quiet (zF (Zd 0 1) Z9 (vE 0) (cs.map ZO) [.un, .un])=_
  rw [yS]; rfl
 show zn (match ((((R.ok (cs.map ZO)).bind fun ts=>(Z3 (Zd 0 1) Z9 (vE 0) 2 [] [.vl (.tup [.str "pick", .tup (cs.map ZO)]), .un, .un] ts).bind fun vs=> .ok (.lst vs))).s fun t=> .rt t) with | .nx ρ' =>_ | r=>r)=_
 rw [bOk,ec]
 rw [Kd.all]
 rfl
theorem V4 {ca:List T->R T} (d:Nat) (ks:List Kd) (h:(Kd.row ks).Ok (d+1)) (hl:(Kd.row ks).all.length<=1000000) (H:∀ k' :Kd,k'.Ok d->ca [k'.t]= .ok (.lst k'.all)):zn (b_6 ca f_a (en0 3 [(Kd.row ks).t]))= .ok (.lst (Kd.row ks).all):=by
 have hb1:bnd=16777216:=rfl
 have e:zn (b_6 ca f_a (en0 3 [(Kd.row ks).t]))=zn (b_6 ca f_a [.vl (Kd.row ks).t, .un, .un]):=rfl
 rw [e,b_6,Z1,j6]
 obtain ⟨h1,h2,h3⟩:=h
 simp only [Kd.t]
 rw [cs0,ZL,show (("row":Str) == "whole")=false from rfl,if_neg Bool.false_ne_true,w4]
 dsimp only
 rw [Z1,j6,cs0,ZL,show (("row":Str) == "pick")=false from rfl,if_neg Bool.false_ne_true,w4]
 dsimp only
 rw [Z1,j6,cs0,ZL,show (("row":Str) == "row")=true from rfl,if_pos rfl,Zr,jf,JK,JK,jo,Zh,Z4,jg,Wm,bOk,Kd.ts_map]
 have ec:Z3 (zG 0) Z9 (zc 1 ca (z9 (vE 0) (zg))) 1 [] [.vl (.tup [.str "row", .tup (ks.map Kd.t)]), .un, .un] (ks.map Kd.t)= .ok ((ks.map Kd.all).map T.lst):=by
  unfold Z3
  rw [if_pos (by rw [List.length_map]; omega)]
  show quiet (zF (zG 0) Z9 _ (ks.map Kd.t) [.un])=_
  have:∀ (ks:List Kd) (x:Sl),(∀ k∈ks,k.Ok d)->zF (zG 0) Z9 (zc 1 ca (z9 (vE 0) (zg))) (ks.map Kd.t) [x]= .ok ((ks.map Kd.all).map T.lst):=by
   intro ks
   induction ks with
   | nil=>intro _ _; rfl
   | cons k ks ih=>
    intro x hk
    have e1:zF (zG 0) Z9 (zc 1 ca (z9 (vE 0) (zg))) ((k :: ks).map Kd.t) [x]=(zc 1 ca (z9 (vE 0) (zg)) [.vl k.t]).bind fun v=>(zF (zG 0) Z9 (zc 1 ca (z9 (vE 0) (zg))) (ks.map Kd.t) [.vl k.t]).bind fun vs=> .ok (v :: vs):=rfl
    rw [e1,Zh,v0,bOk,H k (hk k List.mem_cons_self),bOk,ih _ fun k' hk' =>hk k' (List.mem_cons_of_mem _ hk')]
    rfl
  rw [this ks .un h3]; rfl
 have hrow:=jU ks
 have er:f_a [.lst ((ks.map Kd.all).map T.lst)]= .ok (.lst (wz (ks.map Kd.all))):=yP _ (by rw [List.length_map]; omega) (fun l hl=>by
  obtain ⟨k,hk,rfl⟩:=List.mem_map.mp hl
  exact Zp d k (h3 k hk)) (by
  rw [List.map_map]
  show prd (ks.map fun k=>k.all.length)<=bnd
  omega)
 show zn (match ((((R.ok (ks.map Kd.t)).bind fun ts=>(Z3 (zG 0) Z9 (zc 1 ca (z9 (vE 0) (zg))) 1 [] [.vl (.tup [.str "row", .tup (ks.map Kd.t)]), .un, .un] ts).bind fun vs=> .ok (.lst vs)).bind fun x=>f_a [x]).s fun t=> .rt t) with | .nx ρ' =>_ | r=>r)=_
 rw [bOk,ec,bOk,bOk,er,Kd.all,Kd.alls_map]
 rfl
theorem qx {ca:List T->R T} (d:Nat) (k:Kd) (lo hi:Nat) (h:(Kd.many k lo hi).Ok (d+1)) (hl:(Kd.many k lo hi).all.length<=1000000) (H:∀ k' :Kd,k'.Ok d->ca [k'.t]= .ok (.lst k'.all)):zn (b_6 ca f_a (en0 3 [(Kd.many k lo hi).t]))= .ok (.lst (Kd.many k lo hi).all):=by
 have hb1:bnd=16777216:=rfl
 have e:zn (b_6 ca f_a (en0 3 [(Kd.many k lo hi).t]))=zn (b_6 ca f_a [.vl (Kd.many k lo hi).t, .un, .un]):=rfl
 rw [e,b_6,Z1,j6]
 obtain ⟨h1,h2,h3⟩:=h
 have hml:=jn k lo hi
 simp only [Kd.t]
 rw [cs0,ZL,show (("many":Str) == "whole")=false from rfl,if_neg Bool.false_ne_true,w4]
 dsimp only
 rw [Z1,j6,cs0,ZL,show (("many":Str) == "pick")=false from rfl,if_neg Bool.false_ne_true,w4]
 dsimp only
 rw [Z1,j6,cs0,ZL,show (("many":Str) == "row")=false from rfl,if_neg Bool.false_ne_true,w4]
 dsimp only
 have e0:Yw 1 (zg) [.vl (.tup [.str "many",k.t, .int (lo:Int), .int (hi:Int)]), .un, .un]= .nx [.vl (.tup [.str "many",k.t, .int (lo:Int), .int (hi:Int)]), .ow [], .un]:=rfl
 rw [Z1,e0]
 dsimp only
 obtain ⟨y,el⟩:=Wn (k:=k) (lo:=lo) (H k h3) (Zp d k h3) (a:= .str "many") (b:= .int (lo:Int)) (c:= .int (hi:Int)) (List.range (hi+1 - lo)) [] .un (fun j hj=>by have:=List.mem_range.mp hj; omega) (Xc hml hl)
 have e1:=qv (ca:=ca) (t:=k.t) h1 h2 el
 rw [List.nil_append] at e1
 rw [zj e1,Kd.all]
 rfl
theorem qy {ca:List T->R T} (d:Nat) (k:Kd) (h:k.Ok (d+1)) (hl:k.all.length<=1000000) (H:∀ k' :Kd,k'.Ok d->ca [k'.t]= .ok (.lst k'.all)):zn (b_6 ca f_a (en0 3 [k.t]))= .ok (.lst k.all):=by
 cases k with
 | whole lo hi=>exact yU d lo hi h hl H
 | pick cs=>exact qw d cs h hl H
 | row ks=>exact V4 d ks h hl H
 | many k lo hi=>exact qx d k lo hi h hl H
theorem Qf:∀ (d n:Nat),d<=n->d<=3->∀ k:Kd,k.Ok d->k.all.length<=1000000->S_6 n 0 [k.t]= .ok (.lst k.all)
 | 0,_,_,_,_,h,_=>h.elim
 | d+1,0,hn,_,_,_,_=>by omega
 | d+1,n+1,hn,hd,k,h,hl=>by
  have e:S_6 (n+1) 0 [k.t]=zn (b_6 (S_6 n 0) f_a (en0 3 [k.t])):=rfl
  rw [e]
  refine qy d k h hl fun k' hk' =>Qf d n (by omega) (by omega) k' hk' ?_
  have h1:=jq d k' hk'
  have:mx d<=1000000:=by
   have:d=0\/d=1\/d=2:=by omega
   rcases this with rfl | rfl | rfl <;> decide
  omega
theorem in2 {x a b:Str} {r:List T} {ρ:En}:zv inC (ze ixT (vE 0) (cE (.int 0))) (Zo (z9 (cE (.str a)) (z9 (cE (.str b)) (zg)))) (.vl (.tup (.str x :: r)) :: ρ)=inC (.str x) (.tup [.str a, .str b]):=by
 rw [zC,zo,v0,bOk,zV,bOk,at0,bOk,Uh zV zV,bOk]
theorem qz {g:En->R Bool} {f1 f2:En->RS} {ρ:En} (h:g ρ= .ok true):ifS g f1 f2 ρ=f1 ρ:=by rw [j6,h,ZL,if_pos rfl]
theorem gQ {g:En->R Bool} {f1 f2:En->RS} {ρ:En} (h:g ρ= .ok false):ifS g f1 f2 ρ=f2 ρ:=by rw [j6,h,ZL,if_neg Bool.false_ne_true]
theorem zD {g:En->R Bool} {f1:En->RS} {ρ:En} (h:g ρ= .ok false):ifS g f1 nxS ρ= .nx ρ:=by rw [gQ h]; rfl
theorem zP {i:Nat} {f:En->R T} {ρ:En} {t:T} (h:f ρ= .ok t):zS i f ρ= .nx (ρ.set i (.vl t)):=by rw [Jy,h,ZL]
theorem Zl {f:En->R T} {ρ:En} {t:T} (h:f (frz ρ)= .ok t):zK f ρ= .rt t:=by rw [Zr,h,ZL]
theorem Wo {g:T->En->R En} {fb:En->RS} {t:T} {ts:List T} {ρ ρ1 ρ2:En} (hg:g t ρ= .ok ρ1) (hb:fb ρ1= .nx ρ2):ZU g fb (t :: ts) ρ=ZU g fb ts ρ2:=by
 rw [ZU,hg]
 dsimp only
 rw [hb]
theorem jr {f g:En->RS} {ρ:En} {t:T} (h:f ρ= .rt t):zu f g ρ= .rt t:=by rw [Z1,h]
theorem yV {i j:Nat} (h:i < 2 ^ 60):Z2 (.int (i:Int)) (.int (j:Int))= .ok (.int ((i*j:Nat):Int)):=by
 rw [yN _ _ (.inl ⟨by omega,by omega⟩),Int.natCast_mul]
theorem Xd {d n:Nat} (h:n<=mx d) (hd:d<=3):n < 2 ^ 60:=by
 have:d=0\/d=1\/d=2\/d=3:=by omega
 have h3:mx 3 < 2 ^ 60:=by decide
 have h2:mx 2 < 2 ^ 60:=by decide
 have h1:mx 1 < 2 ^ 60:=by decide
 have h0:mx 0 < 2 ^ 60:=by decide
 rcases this with rfl | rfl | rfl | rfl <;> omega
theorem uk {a b:Sl}:∀ (ns:List Nat) (m:Nat) (x y:Sl),(∀ n∈ns,1<=n)->m*prd ns < 2 ^ 60->∃ x',ZU (zG 3) (zS 2 (ze Z2 (vE 2) (vE 3))) (ns.map fun (n:Nat)=>T.int (n:Int)) [a,b, .vl (.int (m:Int)),x,y]= .nx [a,b, .vl (.int ((m*prd ns:Nat):Int)),x',y]
 | [],m,x,y,_,_=>⟨x,by simp [ZU,prd]⟩
 | n :: ns,m,x,y,hp,hb=>by
  have hpr:=JB (ns:=ns) fun k hk=>hp k (List.mem_cons_of_mem _ hk)
  have hn:=hp n List.mem_cons_self
  have hmm:m<=m*prd (n :: ns):=Nat.le_mul_of_pos_right _ (Nat.mul_pos hn hpr)
  have hb2:m < 2 ^ 60:=Nat.lt_of_le_of_lt hmm hb
  rw [prd,← Nat.mul_assoc] at hb
  obtain ⟨x',ih⟩:=uk (a:=a) (b:=b) ns (m*n) (.vl (.int (n:Int))) y (fun k hk=>hp k (List.mem_cons_of_mem _ hk)) hb
  refine ⟨x', ?_⟩
  have es:zS 2 (ze Z2 (vE 2) (vE 3)) [a,b, .vl (.int (m:Int)), .vl (.int (n:Int)),y]= .nx [a,b, .vl (.int ((m*n:Nat):Int)), .vl (.int (n:Int)),y]:=by
   rw [Jy,zo,v2,bOk,v3,bOk,yV hb2,ZL]; rfl
  have s3:zG 3 (T.int (n:Int)) [a,b, .vl (.int (m:Int)),x,y]= .ok [a,b, .vl (.int (m:Int)), .vl (.int (n:Int)),y]:=rfl
  rw [List.map_cons,Wo s3 es,prd,← Nat.mul_assoc]
  exact ih
theorem qA:∀ (d:Nat) (lo hi:Int),(Kd.whole lo hi).Ok (d+1)->(Kd.whole lo hi).Ok 1
 | _,_,_,h=>h
theorem qB:∀ (d:Nat) (cs:List (Str×Int)),(Kd.pick cs).Ok (d+1)->(Kd.pick cs).Ok 1
 | _,_,h=>h
theorem Wp {cs:List T->R T} (k:Kd) (h:k.Ok 1) {x:Str} {r:List T} (ht:k.t= .tup (.str x :: r)) (hx:inC (.str x) (.tup [.str "whole", .str "pick"])= .ok true):zn (b_7 (f_6 8) cs (en0 5 [k.t]))= .ok (.int (k.all.length:Int)):=by
 have ha:f_6 8 [k.t]= .ok (.lst k.all):=Qf 1 8 (by omega) (by omega) k h (Nat.le_trans (jq 1 k h) (by decide))
 have e:zn (b_7 (f_6 8) cs (en0 5 [k.t]))=zn (b_7 (f_6 8) cs [.vl k.t, .un, .un, .un, .un]):=rfl
 have e1:zv inC (ze ixT (vE 0) (cE (.int 0))) (Zo (z9 (cE (.str "whole")) (z9 (cE (.str "pick")) (zg)))) [.vl k.t, .un, .un, .un, .un]= .ok true:=by
  rw [ht,in2,hx]
 have e2:zK (ap1 ZX (zc 1 (f_6 8) (z9 (vE 0) (zg)))) [.vl k.t, .un, .un, .un, .un]= .rt (.int (k.all.length:Int)):=by
  refine Zl ?_
  rw [jf,ZJ,Zh,v0,bOk,ha,bOk,xZ]
 rw [e,b_7,jr (by rw [qz e1,e2])]
 rfl
theorem K8 (b:Bool):b2 b=(iv b:Int):=by cases b <;> rfl
theorem qC {cs:List T->R T} {d:Nat} (hd:d+1<=3) (ks:List Kd) (h:(Kd.row ks).Ok (d+1)) (H:∀ k:Kd,k.Ok d->cs [k.t]= .ok (.int (k.all.length:Int))):zn (b_7 (f_6 8) cs (en0 5 [(Kd.row ks).t]))= .ok (.int ((Kd.row ks).all.length:Int)):=by
 have hlt:=Xd (jq (d+1) (.row ks) h) hd
 rw [jU] at hlt ⊢
 obtain ⟨h1,h2,h3⟩:=h
 simp only [Kd.t,Kd.ts_map]
 have e:zn (b_7 (f_6 8) cs (en0 5 [.tup [.str "row", .tup (ks.map Kd.t)]]))=zn (b_7 (f_6 8) cs [.vl (.tup [.str "row", .tup (ks.map Kd.t)]), .un, .un, .un, .un]):=rfl
 have e1:zv inC (ze ixT (vE 0) (cE (.int 0))) (Zo (z9 (cE (.str "whole")) (z9 (cE (.str "pick")) (zg)))) [.vl (.tup [.str "row", .tup (ks.map Kd.t)]), .un, .un, .un, .un]= .ok false:=by
  rw [in2]; rfl
 have ec:Z3 (zG 0) Z9 (zc 1 cs (z9 (vE 0) (zg))) 1 [] [.vl (.tup [.str "row", .tup (ks.map Kd.t)]), .un, .un, .un, .un] (ks.map Kd.t)= .ok ((ks.map fun k=>k.all.length).map fun (n:Nat)=>T.int (n:Int)):=by
  unfold Z3
  rw [if_pos (by rw [List.length_map]; exact Nat.le_trans h2 (by decide))]
  have:∀ (ks:List Kd) (x:Sl),(∀ k∈ks,k.Ok d)->zF (zG 0) Z9 (zc 1 cs (z9 (vE 0) (zg))) (ks.map Kd.t) [x]= .ok ((ks.map fun k=>k.all.length).map fun (n:Nat)=>T.int (n:Int)):=by
   intro ks
   induction ks with
   | nil=>intro _ _; rfl
   | cons k ks ih=>
    intro x hk
    have e1:zF (zG 0) Z9 (zc 1 cs (z9 (vE 0) (zg))) ((k :: ks).map Kd.t) [x]=(zc 1 cs (z9 (vE 0) (zg)) [.vl k.t]).bind fun v=>(zF (zG 0) Z9 (zc 1 cs (z9 (vE 0) (zg))) (ks.map Kd.t) [.vl k.t]).bind fun vs=> .ok (v :: vs):=rfl
    rw [e1,Zh,v0,bOk,H k (hk k List.mem_cons_self),bOk,ih _ fun k' hk' =>hk k' (List.mem_cons_of_mem _ hk')]
    rfl
  show quiet (zF (zG 0) Z9 _ (ks.map Kd.t) [.un])=_
  rw [this ks .un h3]; rfl
 have e2:ifE (zv eqC (ze ixT (vE 0) (cE (.int 0))) (cE (.str "row"))) (Z0 (j2 (ze ixT (vE 0) (cE (.int 1)))) (zG 0) (Z9) (zc 1 cs (z9 (vE 0) (zg))) 1 []) (Jn (zg)) [.vl (.tup [.str "row", .tup (ks.map Kd.t)]), .un, .un, .un, .un]= .ok (.lst ((ks.map fun k=>k.all.length).map fun (n:Nat)=>T.int (n:Int))):=by
  unfold ifE
  rw [cs0,bOk,show (("row":Str) == "row")=true from rfl,if_pos rfl,Z4,jg,Wm,bOk]
  show ((R.ok (ks.map Kd.t)).bind _)=_
  rw [bOk,ec,bOk]
 obtain ⟨x',el⟩:=uk (a:= .vl (.tup [.str "row", .tup (ks.map Kd.t)])) (b:= .vl (.lst ((ks.map fun k=>k.all.length).map fun (n:Nat)=>T.int (n:Int)))) (ks.map fun k=>k.all.length) 1 .un .un (fun n hn=>by
  obtain ⟨k,hk,rfl⟩:=List.mem_map.mp hn
  exact Zp d k (h3 k hk)) (by rw [Nat.one_mul]; exact hlt)
 rw [Nat.one_mul] at el
 have e3:Je (j2 (vE 1)) (zG 3) (zS 2 (ze Z2 (vE 2) (vE 3))) [.vl (.tup [.str "row", .tup (ks.map Kd.t)]), .vl (.lst ((ks.map fun k=>k.all.length).map fun (n:Nat)=>T.int (n:Int))), .vl (.int 1), .un, .un]=_:=el
 have e4:zv eqC (ze ixT (vE 0) (cE (.int 0))) (cE (.str "many")) [.vl (.tup [.str "row", .tup (ks.map Kd.t)]), .vl (.lst ((ks.map fun k=>k.all.length).map fun (n:Nat)=>T.int (n:Int))), .vl (.int ((prd (ks.map fun k=>k.all.length):Nat):Int)),x', .un]= .ok false:=by
  rw [cs0]; rfl
 rw [e,b_7,zj (zD e1),zj (zP e2)]
 have s1:([.vl (.tup [.str "row", .tup (ks.map Kd.t)]), .un, .un, .un, .un]:En).set 1 (.vl (.lst ((ks.map fun k=>k.all.length).map fun (n:Nat)=>T.int (n:Int))))=[.vl (.tup [.str "row", .tup (ks.map Kd.t)]), .vl (.lst ((ks.map fun k=>k.all.length).map fun (n:Nat)=>T.int (n:Int))), .un, .un, .un]:=rfl
 rw [s1,zj (zP zV)]
 have s2:([.vl (.tup [.str "row", .tup (ks.map Kd.t)]), .vl (.lst ((ks.map fun k=>k.all.length).map fun (n:Nat)=>T.int (n:Int))), .un, .un, .un]:En).set 2 (.vl (.int 1))=[.vl (.tup [.str "row", .tup (ks.map Kd.t)]), .vl (.lst ((ks.map fun k=>k.all.length).map fun (n:Nat)=>T.int (n:Int))), .vl (.int 1), .un, .un]:=rfl
 rw [s2,zj e3,zj (zD e4)]
 rfl
theorem Xe {f g:En->R T} {ρ:En} {i j c:Int} (hf:f ρ= .ok (.int i)) (hg:g ρ= .ok (.int j)):chE leC leC f (cE (.int c)) g ρ= .ok (.bl (decide (i<=c) && decide (c<=j))):=by
 rw [xY,hf,bOk,zV,bOk,yH,bOk,hg]
 cases decide (i<=c) <;> rfl
theorem Jb (a b:Nat):decide ((a:Int)<=(b:Int))=decide (a<=b):=by
 by_cases h:a<=b
 ·rw [decide_eq_true h]; exact decide_eq_true (by omega)
 ·rw [decide_eq_false h]; exact decide_eq_false (by omega)
theorem ul (a b:Nat):((a:Int) == (b:Int))=(a == b):=by
 by_cases h:a=b
 ·subst h; simp
 ·rw [beq_eq_false_iff_ne.mpr h,beq_eq_false_iff_ne]; omega
theorem XU {f:En->R T} {ρ:En} {b:Bool} (h:f ρ= .ok (.bl b)):ap1 wJ f ρ= .ok (.int ((iv b:Nat):Int)):=by
 rw [ZJ,h,bOk]
 show R.ok (T.int (b2 b))=_
 rw [K8]
theorem yW {f g:En->R T} {ρ:En} {i j:Nat} (hf:f ρ= .ok (.int (i:Int))) (hg:g ρ= .ok (.int (j:Int))):ze zz f g ρ= .ok (.int ((i+j:Nat):Int)):=by
 rw [zo,hf,bOk,hg,bOk,Zg,Int.natCast_add]
theorem jV {f g:En->R T} {ρ:En} {i j:Nat} (h:i < 2 ^ 60) (hf:f ρ= .ok (.int (i:Int))) (hg:g ρ= .ok (.int (j:Int))):ze Z2 f g ρ= .ok (.int ((i*j:Nat):Int)):=by
 rw [zo,hf,bOk,hg,bOk,yV h]
theorem V5 {d n:Nat} (h:n<=mx d) (hd:d+1<=3) (h0:1<=d):n*n*n < 2 ^ 60/\n*n < 2 ^ 60/\n < 2 ^ 60:=by
 have h1:n<=70644:=by
  have:d=1\/d=2:=by omega
  have h2:mx 2=70644:=by decide
  have h1:mx 1=41:=by decide
  rcases this with rfl | rfl <;> omega
 have h2:n*n<=70644*70644:=Nat.mul_le_mul h1 h1
 have h3:n*n*n<=70644*70644*70644:=Nat.mul_le_mul h2 h1
 have h4:70644*70644*70644 < 2 ^ 60:=by decide
 have h5:70644*70644 < 2 ^ 60:=by decide
 have h6:70644 < 2 ^ 60:=by decide
 exact ⟨Nat.lt_of_le_of_lt h3 h4,Nat.lt_of_le_of_lt h2 h5,Nat.lt_of_le_of_lt h1 h6⟩
abbrev mt (t:T) (lo hi:Nat):T:= .tup [.str "many",t, .int (lo:Int), .int (hi:Int)]
theorem v4' {t:T} {a b c d:Sl} {ρ:En}:vE 4 (a :: b :: c :: d :: .vl t :: ρ)= .ok t:=rfl
theorem yX {t:T} {a x:Sl} {lo hi n:Nat} (h3:n*n*n < 2 ^ 60) (h2:n*n < 2 ^ 60) (h1:n < 2 ^ 60):
  zu (zS 2 (ze zz (ap1 wJ (jl eqC (ze ixT (vE 0) (cE (.int 2))) (cE (.int 0)))) (ze Z2 (vE 4) (ap1 wJ (chE leC leC (ze ixT (vE 0) (cE (.int 2))) (cE (.int 1)) (ze ixT (vE 0) (cE (.int 3))))))))
  (zu (zS 2 (ze zz (vE 2) (ze Z2 (ze Z2 (vE 4) (vE 4)) (ap1 wJ (chE leC leC (ze ixT (vE 0) (cE (.int 2))) (cE (.int 2)) (ze ixT (vE 0) (cE (.int 3))))))))
  (zS 2 (ze zz (vE 2) (ze Z2 (ze Z2 (ze Z2 (vE 4) (vE 4)) (vE 4)) (ap1 wJ (jl eqC (ze ixT (vE 0) (cE (.int 3))) (cE (.int 3))))))))
  [.vl (mt t lo hi),a, .vl (.int 1),x, .vl (.int (n:Int))]= .nx [.vl (mt t lo hi),a, .vl (.int ((iv (lo == 0)+n*iv (decide (lo<=1) && decide (1<=hi))+n*n*iv (decide (lo<=2) && decide (2<=hi))+n*n*n*iv (hi == 3):Nat):Int)),x, .vl (.int (n:Int))]:=by
 have le1:∀ {p q r s:Sl},ap1 wJ (chE leC leC (ze ixT (vE 0) (cE (.int 2))) (cE (.int 1)) (ze ixT (vE 0) (cE (.int 3)))) [.vl (mt t lo hi),p,q,r,s]= .ok (.int ((iv (decide (lo<=1) && decide (1<=hi)):Nat):Int)):=fun {p q r s}=>XU (by
  rw [Xe (c:=1) Qe V3]
  rw [show decide ((lo:Int)<=1)=decide (lo<=1) from Jb lo 1,show decide ((1:Int)<=(hi:Int))=decide (1<=hi) from Jb 1 hi])
 have le2:∀ {p q r s:Sl},ap1 wJ (chE leC leC (ze ixT (vE 0) (cE (.int 2))) (cE (.int 2)) (ze ixT (vE 0) (cE (.int 3)))) [.vl (mt t lo hi),p,q,r,s]= .ok (.int ((iv (decide (lo<=2) && decide (2<=hi)):Nat):Int)):=fun {p q r s}=>XU (by
  rw [Xe (c:=2) Qe V3]
  rw [show decide ((lo:Int)<=2)=decide (lo<=2) from Jb lo 2,show decide ((2:Int)<=(hi:Int))=decide (2<=hi) from Jb 2 hi])
 have eq0:∀ {p q r s:Sl},ap1 wJ (jl eqC (ze ixT (vE 0) (cE (.int 2))) (cE (.int 0))) [.vl (mt t lo hi),p,q,r,s]= .ok (.int ((iv (lo == 0):Nat):Int)):=fun {p q r s}=>XU (by
  rw [ZY,Qe,bOk,zV,bOk,eqI,bOk,show ((lo:Int) == 0)=(lo == 0) from ul lo 0])
 have eq3:∀ {p q r s:Sl},ap1 wJ (jl eqC (ze ixT (vE 0) (cE (.int 3))) (cE (.int 3))) [.vl (mt t lo hi),p,q,r,s]= .ok (.int ((iv (hi == 3):Nat):Int)):=fun {p q r s}=>XU (by
  rw [ZY,V3,bOk,zV,bOk,eqI,bOk,show ((hi:Int) == 3)=(hi == 3) from ul hi 3])
 have a1:=zP (i:=2) (yW (eq0 (p:=a) (q:= .vl (.int 1)) (r:=x) (s:= .vl (.int (n:Int)))) (jV h1 v4' le1))
 have a1:zS 2 (ze zz (ap1 wJ (jl eqC (ze ixT (vE 0) (cE (.int 2))) (cE (.int 0)))) (ze Z2 (vE 4) (ap1 wJ (chE leC leC (ze ixT (vE 0) (cE (.int 2))) (cE (.int 1)) (ze ixT (vE 0) (cE (.int 3))))))) [.vl (mt t lo hi),a, .vl (.int 1),x, .vl (.int (n:Int))]= .nx [.vl (mt t lo hi),a, .vl (.int ((iv (lo == 0)+n*iv (decide (lo<=1) && decide (1<=hi)):Nat):Int)),x, .vl (.int (n:Int))]:=a1
 rw [zj a1]
 generalize iv (lo == 0)+n*iv (decide (lo<=1) && decide (1<=hi))=m1
 have a2:=zP (i:=2) (yW (v2 (t:= .int (m1:Int)) (a:= .vl (mt t lo hi)) (b:=a) (ρ:=[x, .vl (.int (n:Int))])) (jV h2 (jV h1 v4' v4') le2))
 have a2:zS 2 (ze zz (vE 2) (ze Z2 (ze Z2 (vE 4) (vE 4)) (ap1 wJ (chE leC leC (ze ixT (vE 0) (cE (.int 2))) (cE (.int 2)) (ze ixT (vE 0) (cE (.int 3))))))) [.vl (mt t lo hi),a, .vl (.int (m1:Int)),x, .vl (.int (n:Int))]= .nx [.vl (mt t lo hi),a, .vl (.int ((m1+n*n*iv (decide (lo<=2) && decide (2<=hi)):Nat):Int)),x, .vl (.int (n:Int))]:=a2
 rw [zj a2]
 generalize m1+n*n*iv (decide (lo<=2) && decide (2<=hi))=m2
 have a3:=zP (i:=2) (yW (v2 (t:= .int (m2:Int)) (a:= .vl (mt t lo hi)) (b:=a) (ρ:=[x, .vl (.int (n:Int))])) (jV h3 (jV h2 (jV h1 v4' v4') v4') eq3))
 exact a3
theorem yY {cs:List T->R T} {d:Nat} (hd:d+1<=3) (k:Kd) (lo hi:Nat) (h:(Kd.many k lo hi).Ok (d+1)) (H:∀ k:Kd,k.Ok d->cs [k.t]= .ok (.int (k.all.length:Int))):zn (b_7 (f_6 8) cs (en0 5 [(Kd.many k lo hi).t]))= .ok (.int ((Kd.many k lo hi).all.length:Int)):=by
 obtain ⟨h1,h2,h3⟩:=h
 have hd0:1<=d:=by
  cases d with
  | zero=>exact h3.elim
  | succ d=>omega
 obtain ⟨c3,c2,c1⟩:=V5 (jq d k h3) hd hd0
 rw [jn,V1 _ h1 h2]
 simp only [Kd.t]
 have hk:=H k h3
 generalize k.all.length=n at*
 generalize k.t=t at*
 have e:zn (b_7 (f_6 8) cs (en0 5 [mt t lo hi]))=zn (b_7 (f_6 8) cs [.vl (mt t lo hi), .un, .un, .un, .un]):=rfl
 have e1:zv inC (ze ixT (vE 0) (cE (.int 0))) (Zo (z9 (cE (.str "whole")) (z9 (cE (.str "pick")) (zg)))) [.vl (mt t lo hi), .un, .un, .un, .un]= .ok false:=by
  rw [in2]; rfl
 have e2:ifE (zv eqC (ze ixT (vE 0) (cE (.int 0))) (cE (.str "row"))) (Z0 (j2 (ze ixT (vE 0) (cE (.int 1)))) (zG 0) (Z9) (zc 1 cs (z9 (vE 0) (zg))) 1 []) (Jn (zg)) [.vl (mt t lo hi), .un, .un, .un, .un]= .ok (.lst []):=by
  unfold ifE
  rw [cs0,bOk,show (("many":Str) == "row")=false from rfl,if_neg Bool.false_ne_true]
  rfl
 have s1:([.vl (mt t lo hi), .un, .un, .un, .un]:En).set 1 (.vl (.lst []))=[.vl (mt t lo hi), .vl (.lst []), .un, .un, .un]:=rfl
 have s2:([.vl (mt t lo hi), .vl (.lst []), .un, .un, .un]:En).set 2 (.vl (.int 1))=[.vl (mt t lo hi), .vl (.lst []), .vl (.int 1), .un, .un]:=rfl
 have e3:Je (j2 (vE 1)) (zG 3) (zS 2 (ze Z2 (vE 2) (vE 3))) [.vl (mt t lo hi), .vl (.lst []), .vl (.int 1), .un, .un]= .nx [.vl (mt t lo hi), .vl (.lst []), .vl (.int 1), .un, .un]:=rfl
 have e4:zv eqC (ze ixT (vE 0) (cE (.int 0))) (cE (.str "many")) [.vl (mt t lo hi), .vl (.lst []), .vl (.int 1), .un, .un]= .ok true:=by
  rw [cs0]; rfl
 have e5:zc 1 cs (z9 (ze ixT (vE 0) (cE (.int 1))) (zg)) [.vl (mt t lo hi), .vl (.lst []), .vl (.int 1), .un, .un]= .ok (.int (n:Int)):=by
  rw [Zh,Wm,bOk,hk]
 have s5:([.vl (mt t lo hi), .vl (.lst []), .vl (.int 1), .un, .un]:En).set 4 (.vl (.int (n:Int)))=[.vl (mt t lo hi), .vl (.lst []), .vl (.int 1), .un, .vl (.int (n:Int))]:=rfl
 have e6:=yX (t:=t) (a:= .vl (.lst [])) (x:= .un) (lo:=lo) (hi:=hi) c3 c2 c1
 rw [e,b_7,zj (zD e1),zj (zP e2),s1,zj (zP zV),s2,zj e3]
 have e7:∀ (P:En->RS),ifS (zv eqC (ze ixT (vE 0) (cE (.int 0))) (cE (.str "many"))) (zu (zS 4 (zc 1 cs (z9 (ze ixT (vE 0) (cE (.int 1))) (zg)))) P) nxS [.vl (mt t lo hi), .vl (.lst []), .vl (.int 1), .un, .un]=P [.vl (mt t lo hi), .vl (.lst []), .vl (.int 1), .un, .vl (.int (n:Int))]:=fun P=>by
  rw [qz e4,zj (zP e5),s5]
 rw [zj (Eq.trans (e7 _) e6)]
 rfl
theorem yZ:∀ (d n:Nat),d<=n->d<=3->∀ k:Kd,k.Ok d->S_7 n 0 [k.t]= .ok (.int (k.all.length:Int))
 | 0,_,_,_,_,h=>h.elim
 | d+1,0,hn,_,_,_=>by omega
 | d+1,n+1,hn,hd,k,h=>by
  have e:S_7 (n+1) 0 [k.t]=zn (b_7 (f_6 8) (S_7 n 0) (en0 5 [k.t])):=rfl
  rw [e]
  have H:∀ k:Kd,k.Ok d->S_7 n 0 [k.t]= .ok (.int (k.all.length:Int)):=fun k' hk' =>yZ d n (by omega) (by omega) k' hk'
  cases k with
  | whole lo hi=>exact Wp (.whole lo hi) (qA d lo hi h) (x:="whole") (r:=[.int lo, .int hi]) (by simp only [Kd.t]) rfl
  | pick cs=>exact Wp (.pick cs) (qB d cs h) (x:="pick") (r:=[.tup (cs.map ZO)]) (by simp only [Kd.t]) rfl
  | row ks=>exact qC (by omega) ks h H
  | many k lo hi=>exact yY (by omega) k lo hi h H
theorem Ok.mono:∀ (d:Nat) (k:Kd),k.Ok d->k.Ok (d+1)
 | 0,_,h=>h.elim
 | d+1, .whole _ _,h=>h
 | d+1, .pick _,h=>h
 | d+1, .row ks,h=>⟨h.1,h.2.1,fun k hk=>Ok.mono d k (h.2.2 k hk)⟩
 | d+1, .many k _ _,h=>⟨h.1,h.2.1,Ok.mono d k h.2.2⟩
theorem V6 (j:Int):Z2 (.int 700) (.int j)= .ok (.int (700*j)):=yN _ _ (.inl ⟨by decide,by decide⟩)
theorem Xf (ns:List Int) (d:Nat) (h1:1<=d) (h8:d<=8) (k:Int) (h0:0<=k):∃ q:Kd,f_c 8 [scr ns, .int k, .int (d:Int)]= .ok q.t/\q.Ok d:=by
 obtain ⟨t,ht,hi⟩:=WL ns d 8 h8 h1 k h0
 obtain ⟨q,rfl,hq⟩:=WN d t hi
 exact ⟨q,ht,hq⟩
abbrev smB:En->RS:=zu (ifS (zv leC (zc 1 (f_7 8) (z9 (vE 3) (zg))) (vB 2)) (zK (vE 3)) (nxS))
  (zS 3 (zc 3 (f_c 8) (z9 (vE 0) (z9 (ze zz (ze zz (vE 1) (cE (.int 500))) (ze Z2 (cE (.int 700)) (vE 4))) (z9 (cE (.int 2)) (zg))))))
abbrev en5 (ns:List Int) (a:Int) (m:Nat) (k:Kd) (x:Sl):En:=[.vl (scr ns), .vl (.int a), .vl (.int (m:Int)), .vl k.t,x]
theorem Y0 {ns:List Int} {a:Int} {m:Nat} {k:Kd} {x:Sl} (hk:k.Ok 3):zv leC (zc 1 (f_7 8) (z9 (vE 3) (zg))) (vB 2) (en5 ns a m k x)= .ok (decide (k.all.length<=m)):=by
 have e:f_7 8 [k.t]= .ok (.int (k.all.length:Int)):=yZ 3 8 (by omega) (by omega) k hk
 rw [zC,Zh,v3,bOk,e,bOk,w2,bOk,yH,Jb]
theorem V7 (ns:List Int) {a:Int} {m:Nat} (ha:0<=a) {k:Kd} (hk:k.Ok 3) (j:Nat):(k.all.length<=m/\smB (en5 ns a m k (.vl (.int (0+(j:Int)))))= .rt k.t)\/∃ k' :Kd,k'.Ok 3/\smB (en5 ns a m k (.vl (.int (0+(j:Int)))))= .nx (en5 ns a m k' (.vl (.int (0+(j:Int))))):=by
 by_cases h:k.all.length<=m
 ·refine .inl ⟨h, ?_⟩
  unfold smB
  refine jr ?_
  rw [qz (by rw [Y0 hk,decide_eq_true h])]
  exact Zl rfl
 ·obtain ⟨q,hq,ho⟩:=Xf ns 2 (by omega) (by omega) (a+500+700*(0+(j:Int))) (by omega)
  refine .inr ⟨q,Ok.mono 2 q ho, ?_⟩
  unfold smB
  rw [zj (zD (by rw [Y0 hk,decide_eq_false h]))]
  have hq:f_c 8 [scr ns, .int (a+500+700*(0+(j:Int))), .int 2]= .ok q.t:=hq
  have e:zc 3 (f_c 8) (z9 (vE 0) (z9 (ze zz (ze zz (vE 1) (cE (.int 500))) (ze Z2 (cE (.int 700)) (vE 4))) (z9 (cE (.int 2)) (zg)))) (en5 ns a m k (.vl (.int (0+(j:Int)))))= .ok q.t:=by
   rw [Zu,v0,bOk,zo,zo,v1,bOk,zV,bOk,Zg,bOk,zo,zV,bOk,v4,bOk,V6,bOk,Zg,bOk,zV,bOk,hq]
  rw [zP e]
  rfl
theorem Xg {g:T->En->R En} {fb:En->RS} {t:T} {ts:List T} {ρ ρ1:En} {r:T} (hg:g t ρ= .ok ρ1) (hb:fb ρ1= .rt r):ZU g fb (t :: ts) ρ= .rt r:=by
 rw [ZU,hg]
 dsimp only
 rw [hb]
theorem Y1 (ns:List Int) {a:Int} {m:Nat} (ha:0<=a):∀ (js:List Nat) (k:Kd) (x:Sl),k.Ok 3->(∃ k' :Kd,k'.Ok 3/\k'.all.length<=m/\ZU (zG 4) smB (js.map fun (j:Nat)=>T.int (0+(j:Int))) (en5 ns a m k x)= .rt k'.t)\/
  ∃ (k' :Kd) (x' :Sl),k'.Ok 3/\ZU (zG 4) smB (js.map fun (j:Nat)=>T.int (0+(j:Int))) (en5 ns a m k x)= .nx (en5 ns a m k' x')
 | [],k,x,hk=> .inr ⟨k,x,hk,rfl⟩
 | j :: js,k,x,hk=>by
  have s3:zG 4 (T.int (0+(j:Int))) (en5 ns a m k x)= .ok (en5 ns a m k (.vl (.int (0+(j:Int))))):=rfl
  rw [List.map_cons]
  rcases V7 ns ha (m:=m) hk j with ⟨h1,h2⟩ | ⟨k',h1,h2⟩
  ·exact .inl ⟨k,hk,h1,Xg s3 h2⟩
  ·rw [Wo s3 h2]
   exact Y1 ns ha js k' _ h1
theorem um (ns:List Int) (a:Int) (ha:0<=a) (m:Nat) (hm:4<=m):∃ k:Kd,k.Ok 3/\k.all.length<=m/\f_o [scr ns, .int a, .int (m:Int)]= .ok k.t:=by
 obtain ⟨q,hq,ho⟩:=Xf ns 3 (by omega) (by omega) a ha
 have hq:f_c 8 [scr ns, .int a, .int 3]= .ok q.t:=hq
 have e:f_o [scr ns, .int a, .int (m:Int)]=zn (b_o (f_c 8) (f_7 8) [.vl (scr ns), .vl (.int a), .vl (.int (m:Int)), .un, .un]):=rfl
 have e1:zc 3 (f_c 8) (z9 (vE 0) (z9 (vE 1) (z9 (cE (.int 3)) (zg)))) [.vl (scr ns), .vl (.int a), .vl (.int (m:Int)), .un, .un]= .ok q.t:=by
  rw [Zu,v0,bOk,v1,bOk,zV,bOk,hq]
 have s1:([.vl (scr ns), .vl (.int a), .vl (.int (m:Int)), .un, .un]:En).set 3 (.vl q.t)=en5 ns a m q .un:=rfl
 rw [e,b_o,zj (zP e1),s1]
 rcases Y1 ns ha (m:=m) (List.range 3) q .un ho with ⟨k,h1,h2,h3⟩ | ⟨k,x,h1,h3⟩
 ·refine ⟨k,h1,h2, ?_⟩
  have e2:Je (j5 (cE (.int 3))) (zG 4) smB (en5 ns a m q .un)= .rt k.t:=h3
  rw [jr e2]
  rfl
 ·have e2:Je (j5 (cE (.int 3))) (zG 4) smB (en5 ns a m q .un)= .nx (en5 ns a m k x):=h3
  rw [zj e2]
  have ec:zv leC (zc 1 (f_7 8) (z9 (vE 3) (zg))) (vB 2) (frz (en5 ns a m k x))= .ok (decide (k.all.length<=m)):=Y0 (x:=y7 x) h1
  by_cases h:k.all.length<=m
  ·refine ⟨k,h1,h, ?_⟩
   rw [Zl (t:=k.t)]
   ·rfl
   ·unfold ifE
    rw [ec,bOk,decide_eq_true h,if_pos rfl]
    rfl
  ·refine ⟨.whole (-1) 2,⟨by omega,by omega,by omega⟩,by rw [ji]; exact hm, ?_⟩
   rw [Zl (t:=(Kd.whole (-1) 2).t)]
   ·rfl
   ·unfold ifE
    rw [ec,bOk,decide_eq_false h,if_neg Bool.false_ne_true,Kd.t]
    rfl
mutual
def Kd.has:Kd->T->Bool
 | .whole lo hi=>fun t=>inR lo hi t
 | .pick cs=>fun t=>match t with | .str x=>cs.any fun c=>c.1 == x | _=>false
 | .row ks=>fun t=>match t with | .tup xs=>xs.length == ks.length && Kd.hass ks xs | _=>false
 | .many k lo hi=>fun t=>match t with | .tup xs=>decide (lo<=xs.length) && decide (xs.length<=hi) && xs.all k.has | _=>false
def Kd.hass:List Kd->List T->Bool
 | []=>fun _=>true
 | k :: ks=>fun xs=>match xs with | []=>true | x :: xs=>k.has x && Kd.hass ks xs
end
theorem uo:∀ (ks:List Kd) (xs:List T),Kd.hass ks xs=(ks.zip xs).all fun q=>q.1.has q.2
 | [],_=>by simp [Kd.hass]
 | k :: ks,[]=>by simp [Kd.hass]
 | k :: ks,x :: xs=>by simp [Kd.hass,uo ks xs]
def U6:List (List T)->List T->Prop
 | [],[]=>True
 | l :: ls,x :: xs=>x∈l/\U6 ls xs
 | _,_=>False
theorem JD:∀ (ls made:List (List T)) (xs:List T),xs∈Zy made ls↔∃ a∈made,∃ b,U6 ls b/\xs=a++b
 | [],made,xs=>by
  rw [Zy]
  constructor
  ·exact fun h=>⟨xs,h,[],trivial,by simp⟩
  ·rintro ⟨a,ha,b,hb,rfl⟩
   cases b with
   | nil=>simpa using ha
   | cons=>exact hb.elim
 | l :: ls,made,xs=>by
  rw [Zy,JD ls]
  constructor
  ·rintro ⟨a',ha',b,hb,rfl⟩
   obtain ⟨a,ha,hx⟩:=List.mem_flatMap.mp ha'
   obtain ⟨x,hl,e⟩:=List.mem_map.mp hx
   exact ⟨a,ha,x :: b,⟨hl,hb⟩,by rw [← e]; simp⟩
  ·rintro ⟨a,ha,b,hb,rfl⟩
   cases b with
   | nil=>exact hb.elim
   | cons x b=>exact ⟨a++[x],List.mem_flatMap.mpr ⟨a,ha,List.mem_map.mpr ⟨x,hb.1,rfl⟩⟩,b,hb.2,by simp⟩
theorem jK (ls:List (List T)) (t:T):t∈wz ls↔∃ xs,U6 ls xs/\t= .tup xs:=by
 unfold wz
 rw [List.mem_map]
 constructor
 ·rintro ⟨xs,h,rfl⟩
  obtain ⟨a,ha,b,hb,rfl⟩:=(JD ls [[]] xs).mp h
  rw [List.mem_singleton.mp ha]
  exact ⟨b,hb,rfl⟩
 ·rintro ⟨xs,h,rfl⟩
  exact ⟨xs,(JD ls [[]] xs).mpr ⟨[],List.mem_singleton.mpr rfl,xs,h,rfl⟩,rfl⟩
theorem jL (l:List T):∀ (m:Nat) (xs:List T),U6 (List.replicate m l) xs↔xs.length=m/\∀ x∈xs,x∈l
 | 0,[]=>by simp [U6]
 | 0,x :: xs=>by simp [U6]
 | m+1,[]=>by simp [U6,List.replicate_succ]
 | m+1,x :: xs=>by
  rw [List.replicate_succ]
  show x∈l/\U6 _ xs↔_
  rw [jL l m xs]
  simp
  constructor
  ·rintro ⟨a,b,c⟩; exact ⟨b,a,c⟩
  ·rintro ⟨a,b,c⟩; exact ⟨b,a,c⟩
theorem Wq:∀ (ks:List Kd),(∀ k∈ks,∀ x,x∈k.all↔k.has x=true)->∀ xs,U6 (ks.map Kd.all) xs↔(xs.length == ks.length && Kd.hass ks xs)=true
 | [],_,[]=>by simp [U6,Kd.hass]
 | [],_,x :: xs=>by simp [U6]
 | k :: ks,h,[]=>by simp [U6]
 | k :: ks,h,x :: xs=>by
  show x∈k.all/\U6 (ks.map Kd.all) xs↔_
  rw [Wq ks (fun k' hk' =>h k' (List.mem_cons_of_mem _ hk')) xs,h k List.mem_cons_self x]
  simp [Kd.hass]
  constructor
  ·rintro ⟨a,b,c⟩; exact ⟨b,a,c⟩
  ·rintro ⟨a,b,c⟩; exact ⟨b,a,c⟩
mutual
theorem Z5:∀ (k:Kd) (x:T),x∈k.all↔k.has x=true
 | .whole lo hi,x=>by
  rw [Kd.all,Kd.has,List.mem_map]
  constructor
  ·rintro ⟨i,hi',rfl⟩
   rw [List.mem_range] at hi'
   simp [inR]; omega
  ·intro h
   obtain ⟨i,rfl⟩:=jT h
   simp [inR] at h
   exact ⟨(i - lo).toNat,by rw [List.mem_range]; omega,by congr 1; omega⟩
 | .pick cs,x=>by
  rw [Kd.all,Kd.has,List.mem_map]
  constructor
  ·rintro ⟨c,hc,rfl⟩
   simp only [List.any_eq_true]
   exact ⟨c,hc,by simp⟩
  ·intro h
   dsimp only at h
   split at h
   ·rw [List.any_eq_true] at h
    obtain ⟨c,hc,e⟩:=h
    exact ⟨c,hc,by rw [eq_of_beq e]⟩
   ·cases h
 | .row ks,x=>by
  rw [Kd.all,Kd.has,jK,Kd.alls_map]
  have:=Wq ks (uq ks)
  constructor
  ·rintro ⟨xs,h,rfl⟩
   exact (this xs).mp h
  ·intro h
   dsimp only at h
   split at h
   ·rename_i xs
    exact ⟨xs,(this xs).mpr h,rfl⟩
   ·cases h
 | .many k lo hi,x=>by
  rw [Kd.all,Kd.has,List.mem_flatMap]
  constructor
  ·rintro ⟨i,hi',h⟩
   rw [jK] at h
   obtain ⟨xs,h,rfl⟩:=h
   rw [jL] at h
   rw [List.mem_range] at hi'
   simp only [Bool.and_eq_true,decide_eq_true_eq,List.all_eq_true]
   exact ⟨⟨by omega,by omega⟩,fun y hy=>(Z5 k y).mp (h.2 y hy)⟩
  ·intro h
   dsimp only at h
   split at h
   ·rename_i xs
    simp only [Bool.and_eq_true,decide_eq_true_eq,List.all_eq_true] at h
    refine ⟨xs.length - lo,by rw [List.mem_range]; omega, ?_⟩
    rw [jK]
    exact ⟨xs,(jL _ _ _).mpr ⟨by omega,fun y hy=>(Z5 k y).mpr (h.2 y hy)⟩,rfl⟩
   ·cases h
theorem uq:∀ (ks:List Kd),∀ k∈ks,∀ x,x∈k.all↔k.has x=true
 | [],_,h=>nomatch h
 | k :: ks,k',h=>by
  rcases List.mem_cons.mp h with e | h
  ·intro x
   rw [e]
   exact Z5 k x
  ·exact uq ks k' h
end
theorem ur (cs:List (Str×Int)) (h:cs.length<=4):f_j [(Kd.pick cs).t]= .ok (.lst (cs.map fun c=>T.str c.1)):=by
 have e:f_j [(Kd.pick cs).t]=zn (b_j [.vl (.tup [.str "pick", .tup (cs.map ZO)])]):=by rw [Kd.t]; rfl
 have hb:(cs.map ZO).length<=bnd:=by rw [List.length_map]; exact Nat.le_trans h (by decide)
 have ec:Z3 (zG 0) Z9 (ze ixT (vE 0) (cE (.int 0))) 1 [] [.vl (.tup [.str "pick", .tup (cs.map ZO)])] (cs.map ZO)= .ok ((cs.map ZO).map fun c=>match c with | .tup (w :: _)=>w | _=>c):=
  Zb _ hb fun t ht=>by
   obtain ⟨c,_,rfl⟩:=List.mem_map.mp ht
   rfl
 rw [e,b_j,Zl (t:= .lst (cs.map fun c=>T.str c.1))]
 ·rfl
 ·show Z0 _ _ _ _ _ _ [.vl (.tup [.str "pick", .tup (cs.map ZO)])]=_
  rw [Z4,jg,Wm,bOk]
  show ((Z3 _ _ _ _ _ _ (cs.map ZO)).bind _)=_
  rw [ec,bOk,List.map_map]
  rfl
abbrev en2 (a b:T):En:=[.vl a, .vl b]
theorem Vr {x w:Str} {r:List T} {b:T} (h:(x == w)=false) {f:En->RS}:ifS (zv eqC (ze ixT (vE 0) (cE (.int 0))) (cE (.str w))) f nxS (en2 (.tup (.str x :: r)) b)= .nx (en2 (.tup (.str x :: r)) b):=
 zD (by rw [cs0,h])
theorem K9 {x:Str} {r:List T} {b:T} {f:En->RS}:ifS (zv eqC (ze ixT (vE 0) (cE (.int 0))) (cE (.str x))) f nxS (en2 (.tup (.str x :: r)) b)=f (en2 (.tup (.str x :: r)) b):=
 qz (by rw [cs0,beq_self_eq_true])
theorem Y2 (k:Kd):∀ xs:List T,((List.replicate xs.length k).zip xs).all (fun q=>q.1.has q.2)=xs.all k.has
 | []=>rfl
 | x :: xs=>by
  rw [List.length_cons,List.replicate_succ,List.zip_cons_cons,List.all_cons,List.all_cons,Y2 k xs]
theorem Y3:∀ (d:Nat) (k:Kd),k.Ok d->isK d k.t=true
 | 0,_,h=>h.elim
 | d+1, .whole lo hi,h=>by
  have e:isK (d+1) (Kd.whole lo hi).t=(decide (-20<=lo) && decide (lo<=hi) && decide (hi<=20)):=by rw [Kd.t]; rfl
  obtain ⟨h1,h2,h3⟩:=h
  rw [e]; simp; omega
 | d+1, .pick cs,h=>by
  have e:isK (d+1) (Kd.pick cs).t=(decide (1<=(cs.map ZO).length) && decide ((cs.map ZO).length<=4) && (cs.map ZO).all zH && decide ((dd [] ((cs.map ZO).map Zf)).length=(cs.map ZO).length)):=by rw [Kd.t]; rfl
  obtain ⟨h1,h2,h3,h4⟩:=h
  have e1:(cs.map ZO).map Zf=cs.map (·.1):=by rw [List.map_map]; rfl
  have e2:=(wu (cs.map (·.1)) []).mpr fun k w hw=>by simpa using h4 k w hw
  rw [e,e1,e2,List.length_map,List.length_map]
  simp only [Bool.and_eq_true,decide_eq_true_eq,List.all_eq_true]
  refine ⟨⟨⟨h1,h2⟩,fun c hc=> ?_⟩,by simp⟩
  obtain ⟨p,hp,rfl⟩:=List.mem_map.mp hc
  obtain ⟨a,b,c⟩:=h3 p hp
  show (Zk (.str p.1) && decide (1<=p.2) && decide (p.2<=20))=true
  rw [a]; simp; omega
 | d+1, .row ks,h=>by
  have e:isK (d+1) (Kd.row ks).t=(decide (1<=(ks.map Kd.t).length) && decide ((ks.map Kd.t).length<=3) && (ks.map Kd.t).all (isK d)):=by rw [Kd.t,Kd.ts_map]; rfl
  obtain ⟨h1,h2,h3⟩:=h
  rw [e,List.length_map]
  simp only [Bool.and_eq_true,decide_eq_true_eq,List.all_eq_true]
  refine ⟨⟨h1,h2⟩,fun c hc=> ?_⟩
  obtain ⟨k,hk,rfl⟩:=List.mem_map.mp hc
  exact Y3 d k (h3 k hk)
 | d+1, .many k lo hi,h=>by
  have e:isK (d+1) (Kd.many k lo hi).t=((decide ((0:Int)<=(lo:Int)) && decide ((lo:Int)<=(hi:Int)) && decide ((hi:Int)<=3)) && isK d k.t):=by rw [Kd.t]; rfl
  obtain ⟨h1,h2,h3⟩:=h
  rw [e,Y3 d k h3]; simp; omega
theorem wB:∀ (ks:List Kd) (xs:List T),xs.length=ks.length->Kd.hass ks xs=true->∀ x∈xs,∃ k∈ks,k.has x=true
 | [],[],_,_,_,h=>nomatch h
 | k :: ks,[],h,_,_,_=>by cases h
 | [],x :: xs,h,_,_,_=>by cases h
 | k :: ks,x :: xs,hl,h,y,hy=>by
  rw [Kd.hass] at h
  have h:(k.has x && Kd.hass ks xs)=true:=h
  rw [Bool.and_eq_true] at h
  rcases List.mem_cons.mp hy with rfl | hy
  ·exact ⟨k,List.mem_cons_self,h.1⟩
  ·obtain ⟨k',hk,hh⟩:=wB ks xs (by simpa using hl) h.2 y hy
   exact ⟨k',List.mem_cons_of_mem _ hk,hh⟩
theorem ut {α β:Type} (f:α->List β) (m:Nat):∀ (as:List α) (i j:Nat),(∀ a∈as,(f a).length=m)->j < m->(as.flatMap f)[i*m+j]? =(as[i]?).bind fun a=>(f a)[j]?
 | [],i,j,_,_=>by simp
 | a :: as,0,j,h,hj=>by
  have ha:=h a List.mem_cons_self
  rw [List.flatMap_cons,Nat.zero_mul,Nat.zero_add,List.getElem?_append_left (by omega)]
  rfl
 | a :: as,i+1,j,h,hj=>by
  have ha:=h a List.mem_cons_self
  have e:(i+1)*m=i*m+m:=by rw [Nat.add_mul,Nat.one_mul]
  rw [List.flatMap_cons,List.getElem?_append_right (by omega),ha,e,show i*m+m+j - m=i*m+j by omega,ut f m as i j (fun b hb=>h b (List.mem_cons_of_mem _ hb)) hj]
  rfl
theorem Wr {α β:Type} (f:α->List β):∀ (as:List α) (q j:Nat) (a:α),as[q]? =some a->j < (f a).length->(as.flatMap f)[((as.take q).map fun b=>(f b).length).sum+j]? =(f a)[j]?
 | [],q,j,a,h,_=>by simp at h
 | b :: as,0,j,a,h,hj=>by
  have e:b=a:=by simpa using h
  subst e
  rw [List.flatMap_cons,List.take_zero,List.map_nil,List.sum_nil,Nat.zero_add,List.getElem?_append_left hj]
 | b :: as,q+1,j,a,h,hj=>by
  rw [List.flatMap_cons,List.take_succ_cons,List.map_cons,List.sum_cons,Nat.add_assoc,List.getElem?_append_right (by omega),Nat.add_sub_cancel_left]
  exact Wr f as q j a (by simpa using h) hj
theorem w8:∀ (ls made:List (List T)) (l:List T),Zy made (ls++[l])=(Zy made ls).flatMap fun a=>l.map fun x=>a++[x]
 | [],made,l=>rfl
 | _ :: ls,made,l=>by
  rw [List.cons_append,Zy,Zy,w8 ls]
theorem qD {ls:List (List T)} {l:List T} {i j:Nat} {xs:List T} {x:T} (h:(Zy [[]] ls)[i]? =some xs) (hx:l[j]? =some x):(Zy [[]] (ls++[l]))[i*l.length+j]? =some (xs++[x]):=by
 have hj:j < l.length:=(List.getElem?_eq_some_iff.mp hx).1
 rw [w8,ut _ l.length _ i j (fun a _=>List.length_map ..) hj,h]
 show (l.map fun x=>xs++[x])[j]? =_
 rw [List.getElem?_map,hx]
 rfl
theorem uu:∀ (ns:List Nat) (n:Nat),prd (ns++[n])=prd ns*n
 | [],n=>by simp [prd]
 | m :: ns,n=>by rw [List.cons_append,prd,prd,uu ns n,Nat.mul_assoc]
theorem w9 (ls:List (List T)):(Zy [[]] ls).length=prd (ls.map (·.length)):=by rw [JC,List.length_singleton,Nat.one_mul]
theorem jM {α:Type} {xs:List α} {i:Nat} (h:i < xs.length):∃ x,xs[i]? =some x:=⟨_,List.getElem?_eq_getElem h⟩
theorem Xh {xs:List T} {j:Nat} {v:T} (h:xs[j]? =some v):atT xs (j:Int)= .ok v:=by unfold atT; rw [jt h]
def shr (c lo q:Nat):Nat:=((List.range q).map fun i=>c ^ (lo+i)).sum
theorem qE (c lo q:Nat):shr c lo (q+1)=shr c lo q+c ^ (lo+q):=by
 unfold shr
 rw [List.range_succ,List.map_append,List.sum_append]
 simp
theorem Qg (c lo hi:Nat):pw c lo hi=shr c lo (hi+1 - lo):=rfl
theorem V8 {k:Kd} {lo hi q j:Nat} {xs:List T} (hq:q < hi+1 - lo) (h:(Zy [[]] (List.replicate (lo+q) k.all))[j]? =some xs):(Kd.many k lo hi).all[shr k.all.length lo q+j]? =some (.tup xs):=by
 have hj:=(List.getElem?_eq_some_iff.mp h).1
 have e:=Wr (fun i=>wz (List.replicate (lo+i) k.all)) (List.range (hi+1 - lo)) q j q (by rw [List.getElem?_range hq]) (by rw [List.length_map]; exact hj)
 have e2:(((List.range (hi+1 - lo)).take q).map fun b=>(wz (List.replicate (lo+b) k.all)).length).sum=shr k.all.length lo q:=by
  rw [List.take_range,Nat.min_eq_left (Nat.le_of_lt hq),shr]
  congr 1
  refine List.map_congr_left fun i _=> ?_
  rw [Jj,List.map_replicate,jh]
 rw [e2] at e
 rw [Kd.all,e]
 show (List.map T.tup _)[j]? =_
 rw [List.getElem?_map,h]
 rfl
abbrev cpB (c:List T->R T):En->RS:=zS 1 (ze Z2 (vE 1) (zc 1 c (z9 (vE 2) (zg))))
theorem Y4 {c:List T->R T} {S:Sl}:∀ (ks:List Kd) (m:Nat) (x:Sl),(∀ k∈ks,c [k.t]= .ok (.int (k.all.length:Int))/\1<=k.all.length)->m*prd (ks.map fun k=>k.all.length) < 2 ^ 60->
  ∃ y,ZU (zG 2) (cpB c) (ks.map Kd.t) [S, .vl (.int (m:Int)),x]= .nx [S, .vl (.int ((m*prd (ks.map fun k=>k.all.length):Nat):Int)),y]
 | [],m,x,_,_=>⟨x,by simp [ZU,prd]⟩
 | k :: ks,m,x,H,hb=>by
  obtain ⟨hc,h1⟩:=H k List.mem_cons_self
  have hp:1<=prd (ks.map fun k=>k.all.length):=JB fun n hn=>by
   obtain ⟨k',hk',rfl⟩:=List.mem_map.mp hn
   exact (H k' (List.mem_cons_of_mem _ hk')).2
  rw [List.map_cons,prd,← Nat.mul_assoc] at hb
  have hm:m < 2 ^ 60:=by
   have h2:m<=m*k.all.length:=Nat.le_mul_of_pos_right _ h1
   have h3:m*k.all.length<=m*k.all.length*prd (ks.map fun k=>k.all.length):=Nat.le_mul_of_pos_right _ hp
   omega
  have eb:cpB c [S, .vl (.int (m:Int)), .vl k.t]= .nx [S, .vl (.int ((m*k.all.length:Nat):Int)), .vl k.t]:=by
   rw [cpB,zP (t:= .int ((m*k.all.length:Nat):Int))]
   ·rfl
   ·rw [zo,v1,bOk,Zh,v2,bOk,hc,bOk,yV hm]
  obtain ⟨y,ih⟩:=Y4 (c:=c) (S:=S) ks (m*k.all.length) (.vl k.t) (fun k' hk' =>H k' (List.mem_cons_of_mem _ hk')) hb
  refine ⟨y, ?_⟩
  rw [List.map_cons,Wo (ρ1:=[S, .vl (.int (m:Int)), .vl k.t]) rfl eb,ih,List.map_cons,prd,Nat.mul_assoc]
theorem JE {c:List T->R T} {s:T} (ks:List Kd) (hs:Jt s= .ok (ks.map Kd.t)) (H:∀ k∈ks,c [k.t]= .ok (.int (k.all.length:Int))/\1<=k.all.length) (hb:prd (ks.map fun k=>k.all.length) < 2 ^ 60):
  zn (b_l c (en0 3 [s]))= .ok (.int ((prd (ks.map fun k=>k.all.length):Nat):Int)):=by
 obtain ⟨y,e⟩:=Y4 (c:=c) (S:= .vl s) ks 1 .un H (by rw [Nat.one_mul]; exact hb)
 rw [Nat.one_mul] at e
 have e0:zS 1 (cE (.int 1)) [.vl s, .un, .un]= .nx [.vl s, .vl (.int 1), .un]:=rfl
 have e1:Je (j2 (vE 0)) (zG 2) (cpB c) [.vl s, .vl (.int 1), .un]= .nx [.vl s, .vl (.int ((prd (ks.map fun k=>k.all.length):Nat):Int)),y]:=by
  show ((Jt s).s fun ts=>ZU (zG 2) (cpB c) ts [.vl s, .vl (.int 1), .un])=_
  rw [hs,ZL]
  exact e
 show zn (b_l c [.vl s, .un, .un])=_
 rw [b_l,zj e0,zj e1]
 rfl
theorem Y5 {α:Type} (g:α->Nat):∀ l:List α,J6 (l.map fun a=>T.int ((g a:Nat):Int))=some (l.map fun a=>((g a:Nat):Int))
 | []=>rfl
 | a :: l=>by
  show (match J6 (l.map fun a=>T.int ((g a:Nat):Int)) with | some l=>some (_ :: l) | none=>none)=_
  rw [Y5 g l]; rfl
theorem uv {α:Type} (g:α->Nat):∀ l:List α,(l.map fun a=>((g a:Nat):Int)).sum=(((l.map g).sum:Nat):Int)
 | []=>rfl
 | a :: l=>by rw [List.map_cons,List.sum_cons,List.map_cons,List.sum_cons,uv g l]; omega
theorem Xi {α:Type} (g:α->Nat) (l:List α):XL (.lst (l.map fun a=>T.int ((g a:Nat):Int)))= .ok (.int (((l.map g).sum:Nat):Int)):=by
 unfold XL
 dsimp only
 rw [Y5,← uv]
theorem jO (k:Kd) (m:Nat):((List.replicate m k).map fun k=>k.all.length)=List.replicate m k.all.length:=by rw [List.map_replicate]
theorem Y6 {c:List T->R T} {t:T} {n lo hi q:Nat} (h4:lo+q<=4) (H:∀ m,m<=3->c [.lst (List.replicate m t)]= .ok (.int ((n ^ m:Nat):Int))):
  zn (b_h c (en0 2 [mt t lo hi, .int ((lo+q:Nat):Int)]))= .ok (.int ((shr n lo q:Nat):Int)):=by
 show zn (b_h c [.vl (mt t lo hi), .vl (.int ((lo+q:Nat):Int))])=_
 have er:Jd (ze ixT (vE 0) (cE (.int 2))) (vE 1) [.vl (mt t lo hi), .vl (.int ((lo+q:Nat):Int))]= .ok (rng (lo:Int) q):=by
  rw [WO (i:=(lo:Int)) (j:=((lo+q:Nat):Int)) rfl rfl ⟨by omega,by omega,by omega,by omega⟩]
  congr 2; omega
 have ec:Z3 (zG 0) Z9 (zc 1 c (z9 (ze Z2 (Jn (z9 (ze ixT (vE 1) (cE (.int 1))) (zg))) (vE 0)) (zg))) 1 [0] [.vl (mt t lo hi), .vl (.int ((lo+q:Nat):Int))] (rng (lo:Int) q)= .ok ((rng (lo:Int) q).map fun x=>match x with | .int i=>T.int ((n ^ i.toNat:Nat):Int) | y=>y):=
  Zb _ (by unfold rng; rw [List.length_map,List.length_range]; have:bnd=16777216:=rfl; omega) fun x hx=>by
   unfold rng at hx
   obtain ⟨i,hi',rfl⟩:=List.mem_map.mp hx
   have hi2:=List.mem_range.mp hi'
   show zc 1 c _ [.vl (.int ((lo:Int)+(i:Int))), .vl (mt t lo hi)]=_
   have e1:ze Z2 (Jn (z9 (ze ixT (vE 1) (cE (.int 1))) (zg))) (vE 0) [.vl (.int ((lo:Int)+(i:Int))), .vl (mt t lo hi)]= .ok (.lst (List.replicate (lo+i) t)):=by
    have e0:ze ixT (vE 1) (cE (.int 1)) [.vl (.int ((lo:Int)+(i:Int))), .vl (mt t lo hi)]= .ok t:=rfl
    rw [zo,K7 e0,bOk,v0,bOk,show (lo:Int)+(i:Int)=((lo+i:Nat):Int) by omega,yT (by omega),jJ]
   rw [Zh,e1,bOk,H (lo+i) (by omega)]
   show _=R.ok (T.int ((n ^ ((lo:Int)+(i:Int)).toNat:Nat):Int))
   rw [show ((lo:Int)+(i:Int)).toNat=lo+i by omega]
 rw [b_h,Zl (t:= .int ((shr n lo q:Nat):Int))]
 ·rfl
 ·show ap1 _ _ [.vl (mt t lo hi), .vl (.int ((lo+q:Nat):Int))]=_
  rw [ZJ,Z4,er,bOk,ec,bOk,bOk]
  have e2:((rng (lo:Int) q).map fun x=>match x with | .int i=>T.int ((n ^ i.toNat:Nat):Int) | y=>y)=(List.range q).map fun i=>T.int ((n ^ (lo+i):Nat):Int):=by
   unfold rng
   rw [List.map_map]
   refine List.map_congr_left fun i _=> ?_
   show T.int ((n ^ ((lo:Int)+(i:Int)).toNat:Nat):Int)=_
   rw [show ((lo:Int)+(i:Int)).toNat=lo+i by omega]
  rw [e2,Xi (fun i=>n ^ (lo+i))]
  rfl
theorem Qh {d n m:Nat} (h:n<=mx d) (hd:d<=2) (hm:m<=3):n ^ m < 2 ^ 60:=by
 have h2:mx d<=70644:=by
  have:d=0\/d=1\/d=2:=by omega
  rcases this with rfl | rfl | rfl <;> decide
 have h3:n ^ m<=70644 ^ 3:=Nat.le_trans (Nat.pow_le_pow_left (Nat.le_trans h h2) m) (Nat.pow_le_pow_right (by omega) hm)
 have:70644 ^ 3 < 2 ^ 60:=by decide
 omega
theorem uw:∀ (d n:Nat),3*d<=n->d<=3->∀ k:Kd,k.Ok d->S_1 n 0 [k.t]= .ok (.int (k.all.length:Int))
 | 0,_,_,_,_,h=>h.elim
 | d+1,n+3,hn,hd,k,h=>by
  have ih:=uw d n (by omega) (by omega)
  have ih1:=uw d (n+1) (by omega) (by omega)
  have e:S_1 (n+3) 0 [k.t]=zn (b_1 (S_1 (n+2) 1) (S_1 (n+2) 2) [.vl k.t]):=rfl
  have e1:∀ s,S_1 (n+2) 1 [s]=zn (b_l (S_1 (n+1) 0) (en0 3 [s])):=fun s=>rfl
  have e1' :∀ s,S_1 (n+1) 1 [s]=zn (b_l (S_1 n 0) (en0 3 [s])):=fun s=>rfl
  have e2:∀ s u,S_1 (n+2) 2 [s,u]=zn (b_h (S_1 (n+1) 1) (en0 2 [s,u])):=fun s u=>rfl
  rw [e,b_1]
  cases k with
  | whole lo hi=>
   obtain ⟨h1,h2,h3⟩:=h
   rw [ji]
   simp only [Kd.t]
   rw [jr (t:= .int ((hi+1 - lo).toNat:Int))]
   ·rfl
   ·rw [qz (by rw [cs0,beq_self_eq_true]),Zl]
    show R.ok (T.int (hi - lo+1))=_
    congr 2; omega
  | pick cs=>
   rw [wA]
   simp only [Kd.t]
   rw [zj (zD (by rw [cs0]; rfl)),jr (t:= .int (cs.length:Int))]
   ·rfl
   ·rw [qz (by rw [cs0,beq_self_eq_true]),Zl]
    show R.ok (T.int ((cs.map ZO).length:Int))=_
    rw [List.length_map]
  | row ks=>
   obtain ⟨h1,h2,h3⟩:=h
   rw [jU]
   simp only [Kd.t]
   rw [Kd.ts_map,zj (zD (by rw [cs0]; rfl)),zj (zD (by rw [cs0]; rfl)),jr (t:= .int ((prd (ks.map fun k=>k.all.length):Nat):Int))]
   ·rfl
   ·rw [qz (by rw [cs0,beq_self_eq_true]),Zl]
    show zc 1 _ _ [.vl (.tup [.str "row", .tup (ks.map Kd.t)])]=_
    rw [Zh,Wm,bOk,e1]
    have hl:=jq (d+1) (.row ks) ⟨h1,h2,h3⟩
    rw [jU] at hl
    exact JE ks rfl (fun k hk=>⟨ih1 k (h3 k hk),Zp d k (h3 k hk)⟩) (Xd hl hd)
  | many k lo hi=>
   obtain ⟨h1,h2,h3⟩:=h
   rw [jn,Qg]
   simp only [Kd.t]
   rw [zj (zD (by rw [cs0]; rfl)),zj (zD (by rw [cs0]; rfl)),zj (zD (by rw [cs0]; rfl)),Zl (t:= .int ((shr k.all.length lo (hi+1 - lo):Nat):Int))]
   ·rfl
   ·show zc 2 _ _ [.vl (mt k.t lo hi)]=_
    rw [zO,v0,bOk,yR V3,bOk,e2,show (hi:Int)+1=((lo+(hi+1 - lo):Nat):Int) by omega]
    refine Y6 (by omega) fun m hm=> ?_
    have hp:prd ((List.replicate m k).map fun k=>k.all.length)=k.all.length ^ m:=by rw [jO,jh]
    rw [e1',← hp]
    have hd1:1<=d:=by
     cases d with
     | zero=>exact h3.elim
     | succ d=>omega
    refine JE (List.replicate m k) (by rw [List.map_replicate]; rfl) (fun k' hk' => ?_) (by rw [hp]; exact Qh (jq d k h3) (by omega) hm)
    rw [List.eq_of_mem_replicate hk']
    exact ⟨ih k h3,Zp d k h3⟩
theorem ZN {d:Nat} (hd:d<=3) {k:Kd} (h:k.Ok d):f_1 20 [k.t]= .ok (.int (k.all.length:Int)):=uw d 20 (by omega) hd k h
theorem ux {d:Nat} (hd:d<=2) {k:Kd} (h:k.Ok d) {lo hi q:Nat} (h4:lo+q<=4):f_h 20 [mt k.t lo hi, .int ((lo+q:Nat):Int)]= .ok (.int ((shr k.all.length lo q:Nat):Int)):=by
 have e:f_h 20 [mt k.t lo hi, .int ((lo+q:Nat):Int)]=zn (b_h (S_1 19 1) (en0 2 [mt k.t lo hi, .int ((lo+q:Nat):Int)])):=rfl
 rw [e]
 refine Y6 h4 fun m hm=> ?_
 have hp:prd ((List.replicate m k).map fun k=>k.all.length)=k.all.length ^ m:=by rw [jO,jh]
 have e1:∀ s,S_1 19 1 [s]=zn (b_l (S_1 18 0) (en0 3 [s])):=fun s=>rfl
 rw [e1,← hp]
 refine JE (List.replicate m k) (by rw [List.map_replicate]; rfl) (fun k' hk' => ?_) (by rw [hp]; exact Qh (jq d k h) hd hm)
 rw [List.eq_of_mem_replicate hk']
 exact ⟨uw d 18 (by omega) (by omega) k h,Zp d k h⟩
abbrev paB (cc cw:List T->R T):En->RS:=zu (zS 5 (zc 1 cc (z9 (vE 4) (zg))))
  (zu (YT 2 (zc 2 cw (z9 (vE 4) (z9 (ze JH (vE 3) (vE 5)) (zg)))))
  (zS 3 (ze Jo (vE 3) (vE 5))))
structure KL (cc cw:List T->R T) (k:Kd):Prop where
 cnt:cc [k.t]= .ok (.int (k.all.length:Int))
 at_:∀ (i:Nat) x,k.all[i]? =some x->cw [k.t, .int (i:Int)]= .ok x
 pos:1<=k.all.length
 le:k.all.length < 1000000
theorem v5' {t:T} {a b c d e:Sl} {ρ:En}:vE 5 (a :: b :: c :: d :: e :: .vl t :: ρ)= .ok t:=rfl
theorem Xj {n c:Nat} (h:1<=c):JH (.int (n:Int)) (.int (c:Int))= .ok (.int ((n % c:Nat):Int)):=by
 unfold JH; dsimp only; rw [if_pos (by omega)]; rfl
theorem V9 {n c:Nat} (h:1<=c) (h' :c < 1000000):Jo (.int (n:Int)) (.int (c:Int))= .ok (.int ((n / c:Nat):Int)):=by
 unfold Jo; dsimp only; rw [if_pos (by omega)]; rfl
theorem Xk {i:Nat} {f:En->R T} {ρ:En} {ts:List T} {t:T} (hi:ρ[i]? =some (.ow ts)) (hl:ts.length < bnd) (h:f ρ= .ok t):YT i f ρ= .nx (ρ.set i (.ow (ts++[t]))):=by
 unfold YT; rw [hi]; dsimp only; rw [h,ZL,if_pos hl]
theorem Y7 {cc cw:List T->R T} {S N:Sl}:∀ (rs:List Kd) (acc:List T) (n:Nat) (x y:Sl),(∀ k∈rs,KL cc cw k)->n < prd (rs.map fun k=>k.all.length)->acc.length+rs.length<=1000->
  ∃ xs r x' y',(Zy [[]] (rs.reverse.map Kd.all))[n]? =some xs/\ZU (zG 4) (paB cc cw) (rs.map Kd.t) [S,N, .ow acc, .vl (.int (n:Int)),x,y]= .nx [S,N, .ow (acc++xs.reverse),r,x',y']
 | [],acc,n,x,y,_,hn,_=>⟨[], .vl (.int (n:Int)),x,y,by
   have:n=0:=by simp [prd] at hn; exact hn
   subst this; rfl,by simp [ZU]⟩
 | k :: rs,acc,n,x,y,H,hn,hl=>by
  obtain ⟨hc,hw,h1,hle⟩:=H k List.mem_cons_self
  rw [List.map_cons,prd] at hn
  rw [List.length_cons] at hl
  have hb:bnd=16777216:=rfl
  have hmod:n % k.all.length < k.all.length:=Nat.mod_lt _ h1
  obtain ⟨v,hv⟩:=jM hmod
  have hdiv:n / k.all.length < prd (rs.map fun k=>k.all.length):=Nat.div_lt_of_lt_mul hn
  obtain ⟨xs,r,x',y',e1,e2⟩:=Y7 (cc:=cc) (cw:=cw) (S:=S) (N:=N) rs (acc++[v]) (n / k.all.length) (.vl k.t) (.vl (.int (k.all.length:Int))) (fun k' hk' =>H k' (List.mem_cons_of_mem _ hk')) hdiv (by rw [List.length_append,List.length_singleton]; omega)
  have b1:zS 5 (zc 1 cc (z9 (vE 4) (zg))) [S,N, .ow acc, .vl (.int (n:Int)), .vl k.t,y]= .nx [S,N, .ow acc, .vl (.int (n:Int)), .vl k.t, .vl (.int (k.all.length:Int))]:=by
   rw [zP (t:= .int (k.all.length:Int))]
   ·rfl
   ·rw [Zh,v4,bOk,hc]
  have b2:YT 2 (zc 2 cw (z9 (vE 4) (z9 (ze JH (vE 3) (vE 5)) (zg)))) [S,N, .ow acc, .vl (.int (n:Int)), .vl k.t, .vl (.int (k.all.length:Int))]= .nx [S,N, .ow (acc++[v]), .vl (.int (n:Int)), .vl k.t, .vl (.int (k.all.length:Int))]:=by
   rw [Xk (ts:=acc) (t:=v) rfl (by omega)]
   ·rfl
   ·rw [zO,v4,bOk,zo,v3,bOk,v5',bOk,Xj h1,bOk,hw _ v hv]
  have b3:zS 3 (ze Jo (vE 3) (vE 5)) [S,N, .ow (acc++[v]), .vl (.int (n:Int)), .vl k.t, .vl (.int (k.all.length:Int))]= .nx [S,N, .ow (acc++[v]), .vl (.int ((n / k.all.length:Nat):Int)), .vl k.t, .vl (.int (k.all.length:Int))]:=by
   rw [zP (t:= .int ((n / k.all.length:Nat):Int))]
   ·rfl
   ·rw [zo,v3,bOk,v5',bOk,V9 h1 hle]
  have eb:paB cc cw [S,N, .ow acc, .vl (.int (n:Int)), .vl k.t,y]= .nx [S,N, .ow (acc++[v]), .vl (.int ((n / k.all.length:Nat):Int)), .vl k.t, .vl (.int (k.all.length:Int))]:=by
   rw [paB,zj b1,zj b2,b3]
  refine ⟨xs++[v],r,x',y', ?_, ?_⟩
  ·have:=qD e1 hv
   rw [Nat.mul_comm,Nat.div_add_mod] at this
   rw [List.reverse_cons,List.map_append]
   exact this
  ·rw [List.map_cons,Wo (ρ1:=[S,N, .ow acc, .vl (.int (n:Int)), .vl k.t,y]) rfl eb,e2,List.reverse_append]
   simp
theorem Y8:∀ ns:List Nat,prd ns.reverse=prd ns
 | []=>rfl
 | n :: ns=>by rw [List.reverse_cons,uu,Y8 ns,prd,Nat.mul_comm]
theorem JF {cc cw:List T->R T} {s:T} (ks:List Kd) (hs:jG s= .ok (ks.map Kd.t)) (hl:ks.length<=3) (H:∀ k∈ks,KL cc cw k) {n:Nat} {xs:List T} (hx:(Zy [[]] (ks.map Kd.all))[n]? =some xs):
  zn (b_k cc cw (en0 6 [s, .int (n:Int)]))= .ok (.tup xs):=by
 have hn:=(List.getElem?_eq_some_iff.mp hx).1
 rw [w9,List.map_map] at hn
 have hr:(ks.reverse.map fun k=>k.all.length)=(ks.map fun k=>k.all.length).reverse:=by rw [List.map_reverse]
 obtain ⟨ys,r,x',y',e1,e2⟩:=Y7 (cc:=cc) (cw:=cw) (S:= .vl s) (N:= .vl (.int (n:Int))) ks.reverse [] n .un .un (fun k hk=>H k (List.mem_reverse.mp hk)) (by rw [hr,Y8]; exact hn) (by rw [List.length_reverse,List.length_nil]; omega)
 rw [List.reverse_reverse,hx] at e1
 cases e1
 rw [List.nil_append] at e2
 have e0:Yw 2 (zg) [.vl s, .vl (.int (n:Int)), .un, .un, .un, .un]= .nx [.vl s, .vl (.int (n:Int)), .ow [], .un, .un, .un]:=rfl
 have e3:zS 3 (vE 1) [.vl s, .vl (.int (n:Int)), .ow [], .un, .un, .un]= .nx [.vl s, .vl (.int (n:Int)), .ow [], .vl (.int (n:Int)), .un, .un]:=rfl
 have e4:Je (kU (vE 0)) (zG 4) (paB cc cw) [.vl s, .vl (.int (n:Int)), .ow [], .vl (.int (n:Int)), .un, .un]= .nx [.vl s, .vl (.int (n:Int)), .ow xs.reverse,r,x',y']:=by
  show (((jG s).bind fun xs=>R.ok xs.reverse).s fun ts=>ZU (zG 4) (paB cc cw) ts [.vl s, .vl (.int (n:Int)), .ow [], .vl (.int (n:Int)), .un, .un])=_
  rw [hs,bOk,ZL,← List.map_reverse]
  exact e2
 have hlen:xs.reverse.length<=bnd:=by
  have:∀ (ls made:List (List T)) (m:Nat),(∀ a∈made,a.length<=m)->∀ a∈Zy made ls,a.length<=m+ls.length:=by
   intro ls
   induction ls with
   | nil=>intro made m h a ha; exact h a ha
   | cons l ls ih=>
    intro made m h a ha
    have:=ih (made.flatMap fun a=>l.map fun x=>a++[x]) (m+1) (fun b hb=>by
     obtain ⟨c,hc,hb⟩:=List.mem_flatMap.mp hb
     obtain ⟨z,_,rfl⟩:=List.mem_map.mp hb
     have:=h c hc
     rw [List.length_append,List.length_singleton]; omega) a ha
    rw [List.length_cons]; omega
  have h1:=this (ks.map Kd.all) [[]] 0 (fun a ha=>by rw [List.mem_singleton.mp ha]; exact Nat.le_refl _) xs (List.mem_of_getElem? hx)
  rw [List.length_map] at h1
  rw [List.length_reverse]
  have hb:bnd=16777216:=rfl
  omega
 show zn (b_k cc cw [.vl s, .vl (.int (n:Int)), .un, .un, .un, .un])=_
 rw [b_k,zj e0,zj e3,zj e4,Zl (t:= .tup xs)]
 ·rfl
 ·show qj (.lst xs.reverse)=_
  unfold qj
  dsimp only
  rw [if_pos hlen,List.reverse_reverse]
abbrev mtT:En->R Bool:=zv leC (zc 2 (f_h 20) (z9 (vE 0) (z9 (ze zz (vE 2) (cE (.int 1))) (zg)))) (vB 1)
abbrev mtB:En->RS:=zS 2 (ze zz (vE 2) (cE (.int 1)))
theorem w1n {t:T} {a:Sl} {ρ:En}:vB 1 (a :: .vl t :: ρ)= .ok t:=rfl
theorem Y9 {d:Nat} (hd:d<=2) {k:Kd} (h:k.Ok d) {lo hi n:Nat} (h1:lo<=hi) (h3:hi<=3) (hn:n < shr k.all.length lo (hi+1 - lo)):∀ (f q:Nat),q<=hi - lo->hi - lo - q < f->shr k.all.length lo q<=n->
  ∃ q',q' <=hi - lo/\shr k.all.length lo q' <=n/\n < shr k.all.length lo (q' +1)/\ZV mtT mtB f [.vl (mt k.t lo hi), .vl (.int (n:Int)), .vl (.int ((lo+q:Nat):Int))]= .nx [.vl (mt k.t lo hi), .vl (.int (n:Int)), .vl (.int ((lo+q' :Nat):Int))]
 | 0,q,_,hf,_=>by omega
 | f+1,q,hq,hf,hs=>by
  have et:mtT [.vl (mt k.t lo hi), .vl (.int (n:Int)), .vl (.int ((lo+q:Nat):Int))]= .ok (decide (shr k.all.length lo (q+1)<=n)):=by
   rw [mtT,zC,zO,v0,bOk,yR v2,bOk,show ((lo+q:Nat):Int)+1=((lo+(q+1):Nat):Int) by omega,ux hd h (by omega),bOk,w1n,bOk,yH,Jb]
  have eu:ZV mtT mtB (f+1) [.vl (mt k.t lo hi), .vl (.int (n:Int)), .vl (.int ((lo+q:Nat):Int))]=(mtT [.vl (mt k.t lo hi), .vl (.int (n:Int)), .vl (.int ((lo+q:Nat):Int))]).s fun k' =>if k' =true then match mtB [.vl (mt k.t lo hi), .vl (.int (n:Int)), .vl (.int ((lo+q:Nat):Int))] with
    | .nx ρ2=>ZV mtT mtB f ρ2
    | .ct ρ2=>ZV mtT mtB f ρ2
    | .bk ρ2=> .nx ρ2
    | r=>r
   else .nx [.vl (mt k.t lo hi), .vl (.int (n:Int)), .vl (.int ((lo+q:Nat):Int))]:=rfl
  rw [eu,et,ZL]
  by_cases hc:shr k.all.length lo (q+1)<=n
  ·rw [if_pos (decide_eq_true hc)]
   have hq2:q+1<=hi - lo:=by
    rcases Nat.lt_or_ge q (hi - lo) with z | z
    ·exact z
    ·have:q=hi - lo:=by omega
     rw [this,show hi - lo+1=hi+1 - lo by omega] at hc
     omega
   have eb:mtB [.vl (mt k.t lo hi), .vl (.int (n:Int)), .vl (.int ((lo+q:Nat):Int))]= .nx [.vl (mt k.t lo hi), .vl (.int (n:Int)), .vl (.int ((lo+(q+1):Nat):Int))]:=by
    rw [mtB,zP (t:= .int ((lo+(q+1):Nat):Int))]
    ·rfl
    ·rw [yR v2,show ((lo+q:Nat):Int)+1=((lo+(q+1):Nat):Int) by omega]
   rw [eb]
   exact Y9 hd h h1 h3 hn f (q+1) hq2 (by omega) hc
  ·rw [if_neg (by simpa using hc)]
   exact ⟨q,hq,hs,by omega,rfl⟩
theorem Xl {i j:Nat} (h:j<=i):WA (.int (i:Int)) (.int (j:Int))= .ok (.int ((i - j:Nat):Int)):=by
 rw [J9]; congr 2; omega
theorem U7 {d:Nat} (hd:d<=2) {k:Kd} (h:k.Ok d) {cp:List T->R T} {lo hi n:Nat} (h1:lo<=hi) (h3:hi<=3) (hn:n < shr k.all.length lo (hi+1 - lo))
  (H:∀ (m:Nat),m<=3->∀ (j:Nat) (xs:List T),(Zy [[]] (List.replicate m k.all))[j]? =some xs->cp [.lst (List.replicate m k.t), .int (j:Int)]= .ok (.tup xs)):
  ∃ x,(Kd.many k lo hi).all[n]? =some x/\zn (Vq (f_h 20) cp (en0 3 [mt k.t lo hi, .int (n:Int)]))= .ok x:=by
 obtain ⟨q,hq,hs,hs',e⟩:=Y9 hd h h1 h3 hn 8 0 (by omega) (by omega) (by unfold shr; simp)
 rw [qE] at hs'
 have hj:n - shr k.all.length lo q < (Zy [[]] (List.replicate (lo+q) k.all)).length:=by
  rw [w9,List.map_replicate,jh]; omega
 obtain ⟨xs,hx⟩:=jM hj
 have ha:=V8 (k:=k) (lo:=lo) (hi:=hi) (by omega) hx
 rw [show shr k.all.length lo q+(n - shr k.all.length lo q)=n by omega] at ha
 refine ⟨_,ha, ?_⟩
 have e0:zS 2 (ze ixT (vE 0) (cE (.int 2))) [.vl (mt k.t lo hi), .vl (.int (n:Int)), .un]= .nx [.vl (mt k.t lo hi), .vl (.int (n:Int)), .vl (.int ((lo+0:Nat):Int))]:=rfl
 show zn (Vq (f_h 20) cp [.vl (mt k.t lo hi), .vl (.int (n:Int)), .un])=_
 rw [Vq,zj e0,zj e,Zl (t:= .tup xs)]
 ·rfl
 ·show zc 2 cp _ [.vl (mt k.t lo hi), .vl (.int (n:Int)), .vl (.int ((lo+q:Nat):Int))]=_
  have em:ze Z2 (Jn (z9 (ze ixT (vE 0) (cE (.int 1))) (zg))) (vE 2) [.vl (mt k.t lo hi), .vl (.int (n:Int)), .vl (.int ((lo+q:Nat):Int))]= .ok (.lst (List.replicate (lo+q) k.t)):=by
   rw [zo,K7 Wm,bOk,v2,bOk,yT (by omega),jJ]
  rw [zO,em,bOk,zo,v1,bOk,zO,v0,bOk,v2,bOk,ux hd h (by omega),bOk,Xl hs,bOk,H (lo+q) (by omega) _ xs hx]
theorem Ya {d:Nat} (hd:d<=2) {k:Kd} (h:k.Ok d):k.all.length < 1000000:=by
 have h1:=jq d k h
 have h2:mx d<=70644:=by
  have:d=0\/d=1\/d=2:=by omega
  rcases this with rfl | rfl | rfl <;> decide
 omega
theorem jx:∀ (d n:Nat),3*d<=n->d<=3->∀ k:Kd,k.Ok d->∀ (i:Nat) (x:T),k.all[i]? =some x->S_d n 0 [k.t, .int (i:Int)]= .ok x
 | 0,_,_,_,_,h=>h.elim
 | d+1,n+3,hn,hd,k,h=>by
  intro i x hx
  have ih:=jx d n (by omega) (by omega)
  have ih1:=jx d (n+1) (by omega) (by omega)
  have e:S_d (n+3) 0 [k.t, .int (i:Int)]=zn (b_d f_j (S_d (n+2) 1) (S_d (n+2) 2) (en2 k.t (.int (i:Int)))):=rfl
  have e2:∀ s u,S_d (n+2) 2 [s,u]=zn (b_k (f_1 20) (S_d (n+1) 0) (en0 6 [s,u])):=fun s u=>rfl
  have e2' :∀ s u,S_d (n+1) 2 [s,u]=zn (b_k (f_1 20) (S_d n 0) (en0 6 [s,u])):=fun s u=>rfl
  have e1:∀ s u,S_d (n+2) 1 [s,u]=zn (Vq (f_h 20) (S_d (n+1) 2) (en0 3 [s,u])):=fun s u=>rfl
  have hi' :=(List.getElem?_eq_some_iff.mp hx).1
  rw [e,b_d]
  cases k with
  | whole lo hi=>
   rw [Kd.all,List.getElem?_map] at hx
   rw [ji] at hi'
   rw [List.getElem?_range hi'] at hx
   cases hx
   simp only [Kd.t]
   rw [jr (t:= .int (lo+(i:Int)))]
   ·rfl
   ·rw [K9,Zl]; rfl
  | pick cs=>
   have hw:=ur cs h.2.1
   rw [Kd.all] at hx
   simp only [Kd.t] at hw ⊢
   rw [zj (Vr (by decide)),jr (t:=x)]
   ·rfl
   ·rw [K9,Zl]
    show ze ixT _ _ (en2 _ _)=_
    rw [zo,Zh,v0,bOk,hw,bOk,v1,bOk]
    exact Xh hx
  | row ks=>
   obtain ⟨h1,h2,h3⟩:=h
   rw [Kd.all,Kd.alls_map,List.getElem?_map] at hx
   cases hr:(Zy [[]] (ks.map Kd.all))[i]? with
   | none=>rw [hr] at hx; cases hx
   | some xs=>
    rw [hr] at hx
    cases hx
    simp only [Kd.t]
    rw [Kd.ts_map,zj (Vr (by decide)),zj (Vr (by decide)),jr (t:= .tup xs)]
    ·rfl
    ·rw [K9,Zl]
     show zc 2 _ _ (en2 _ _)=_
     rw [zO,Wm,bOk,v1,bOk,e2]
     refine JF ks rfl h2 (fun k hk=>⟨ZN (by omega) (h3 k hk),ih1 k (h3 k hk),Zp d k (h3 k hk),Ya (by omega) (h3 k hk)⟩) hr
  | many k lo hi=>
   obtain ⟨h1,h2,h3⟩:=h
   rw [jn,Qg] at hi'
   obtain ⟨x',hx',hv⟩:=U7 (cp:=S_d (n+1) 2) (by omega:d<=2) h3 h1 h2 hi' (fun m hm j xs hr=>by
    rw [e2']
    refine JF (List.replicate m k) (by rw [List.map_replicate]; rfl) (by rw [List.length_replicate]; exact hm) (fun k' hk' => ?_) (by rw [List.map_replicate]; exact hr)
    rw [List.eq_of_mem_replicate hk']
    exact ⟨ZN (by omega) h3,ih k h3,Zp d k h3,Ya (by omega) h3⟩)
   rw [hx] at hx'
   cases hx'
   simp only [Kd.t]
   rw [zj (Vr (by decide)),zj (Vr (by decide)),zj (Vr (by decide)),Zl (t:=x)]
   ·rfl
   ·show zc 2 _ _ (en2 _ _)=_
    rw [zO,v0,bOk,v1,bOk,e1]
    exact hv
theorem Xm {k:Kd} (h:k.Ok 3) {i:Nat} {x:T} (hx:k.all[i]? =some x):f_d 20 [k.t, .int (i:Int)]= .ok x:=jx 3 20 (by omega) (by omega) k h i x hx
def Pl:Nat->T->Prop
 | 0,_=>False
 | n+1, .tup xs=>∀ x∈xs,Pl n x
 | n+1, .lst xs=>∀ x∈xs,Pl n x
 | _+1, .fz _=>False
 | _+1,_=>True
theorem ZA {f:T->T->Option Bool}:∀ (xs:List T),(∀ x∈xs,f x x=some true)->eqL f xs xs=some true
 | [],_=>rfl
 | x :: xs,h=>by
  unfold eqL
  rw [h x List.mem_cons_self,ZA xs fun z hz=>h z (List.mem_cons_of_mem _ hz)]
  rfl
theorem Zn:∀ (n:Nat) (y:T),Pl n y->eqF n y y=some true
 | 0,_,h=>h.elim
 | n+1,y,h=>by
  cases y with
  | tup xs=>rw [eqF]; exact ZA xs fun z hz=>Zn n z ((show ∀ x∈xs,Pl n x from h) z hz)
  | lst xs=>rw [eqF]; exact ZA xs fun z hz=>Zn n z ((show ∀ x∈xs,Pl n x from h) z hz)
  | fz xs=>exact h.elim
  | non=>rfl
  | bl b=>show some (b == b)=_; simp
  | int i=>show some (i == i)=_; simp
  | str i=>show some (i == i)=_; simp
theorem Pl.up:∀ (n:Nat) (y:T),Pl n y->Pl (n+1) y
 | 0,_,h=>h.elim
 | n+1,y,h=>by
  cases y with
  | tup xs=>exact fun z hz=>Pl.up n z ((show ∀ x∈xs,Pl n x from h) z hz)
  | lst xs=>exact fun z hz=>Pl.up n z ((show ∀ x∈xs,Pl n x from h) z hz)
  | fz xs=>exact h.elim
  | _=>exact trivial
theorem Pl.le {n m:Nat} {y:T} (hm:n<=m) (h:Pl n y):Pl m y:=by
 obtain ⟨j,rfl⟩:∃ j,m=n+j:=⟨m - n,by omega⟩
 clear hm
 induction j with
 | zero=>exact h
 | succ j ih=>exact Pl.up _ _ ih
theorem Va:∀ (d:Nat) (k:Kd) (x:T),k.Ok d->k.has x=true->Pl d x
 | 0,_,_,h,_=>h.elim
 | d+1, .whole lo hi,x,h,hx=>by
  rw [Kd.has] at hx
  obtain ⟨i,rfl⟩:=jT hx
  trivial
 | d+1, .pick cs,x,h,hx=>by
  rw [Kd.has] at hx
  dsimp only at hx
  split at hx
  ·trivial
  ·cases hx
 | d+1, .row ks,x,h,hx=>by
  rw [Kd.has] at hx
  dsimp only at hx
  split at hx
  ·rename_i xs
   rw [Bool.and_eq_true,beq_iff_eq] at hx
   intro y hy
   obtain ⟨k,hk,hh⟩:=wB ks xs hx.1 hx.2 y hy
   exact Va d k y (h.2.2 k hk) hh
  ·cases hx
 | d+1, .many k lo hi,x,h,hx=>by
  rw [Kd.has] at hx
  dsimp only at hx
  split at hx
  ·rename_i xs
   rw [Bool.and_eq_true,List.all_eq_true] at hx
   exact fun y hy=>Va d k y h.2.2 (hx.2 y hy)
  ·cases hx
theorem Vb {t:T} (h:Pl 30 t):neC t t= .ok false:=by unfold neC; rw [Zn 30 t h]; rfl
theorem wC {f:En->R T} {ρ:En} {t:T} (h:f ρ= .ok t):WD f ρ= .nx ρ:=by unfold WD; rw [h,ZL]
theorem all_map (k:Kd):((rng 0 k.all.length).map fun t=>match t with | .int i=>(k.all[i.toNat]?).getD .non | y=>y)=k.all:=by
 unfold rng
 rw [List.map_map]
 refine List.ext_getElem? fun i=> ?_
 rw [List.getElem?_map]
 by_cases hi:i < k.all.length
 ·rw [List.getElem?_range hi]
  show some ((k.all[((0:Int)+(i:Int)).toNat]?).getD .non)=_
  rw [show ((0:Int)+(i:Int)).toNat=i by omega]
  obtain ⟨x,hx⟩:=jM hi
  rw [hx]; rfl
 ·rw [List.getElem?_eq_none (by simpa using hi),List.getElem?_eq_none (by omega)]; rfl
theorem Vc {f:En->R T} {ρ:En} {j:Int} (hf:f ρ= .ok (.int j)) (h: -1000000 < j/\j < 1000000):j5 f ρ= .ok (rng 0 j.toNat):=by
 unfold j5
 rw [hf,bOk]
 exact if_pos h
theorem Xn {i j:Int}:gtC (.int i) (.int j)= .ok (decide (j < i)):=rfl
theorem U8 {g:En->R Bool} {f f' :En->R T} {ρ:En} (h:g ρ= .ok true):ifE g f f' ρ=f ρ:=by unfold ifE; rw [h]; rfl
theorem Yb {g:En->R Bool} {f f' :En->R T} {ρ:En} (h:g ρ= .ok false):ifE g f f' ρ=f' ρ:=by unfold ifE; rw [h]; rfl
theorem Yc {ws:List Str} (h:Dst ws) {i j:Nat} {w:Str} (hi:ws[i]? =some w) (hj:ws[j]? =some w):i=j:=by
 rcases Nat.lt_trichotomy i j with z | z | z
 ·exact absurd (List.mem_of_getElem? (show (ws.take j)[i]? =some w by rw [List.getElem?_take,if_pos z]; exact hi)) (h j w hj)
 ·exact z
 ·exact absurd (List.mem_of_getElem? (show (ws.take i)[j]? =some w by rw [List.getElem?_take,if_pos z]; exact hj)) (h i w hi)
theorem qF {ws:List Str} (h:Dst ws):(ws.map T.str).Pairwise (fun a b=>a ≠ b):=by
 rw [List.pairwise_map,List.pairwise_iff_getElem]
 intro i j hi hj hij e
 have e:ws[i]=ws[j]:=by injection e
 have:=Yc h (i:=i) (j:=j) (w:=ws[j]) (by rw [List.getElem?_eq_getElem hi,e]) (List.getElem?_eq_getElem hj)
 omega
theorem Yd (cs:List (Str×Int)):(Kd.pick cs).all=(cs.map (·.1)).map T.str:=by rw [Kd.all,List.map_map]; rfl
theorem uy:∀ (ls made:List (List T)) (m:Nat),(∀ l∈ls,l.Pairwise (fun a b=>a ≠ b))->made.Pairwise (fun a b=>a ≠ b)->(∀ a∈made,a.length=m)->(Zy made ls).Pairwise (fun a b=>a ≠ b)
 | [],made,m,_,h,_=>by rw [Zy]; exact h
 | l :: ls,made,m,hl,h,hm=>by
  rw [Zy]
  refine uy ls _ (m+1) (fun q hq=>hl q (List.mem_cons_of_mem _ hq)) ?_ ?_
  ·rw [List.pairwise_flatMap]
   refine ⟨fun a ha=> ?_,List.Pairwise.imp_of_mem (fun {a b} ha hb hab=> ?_) h⟩
   ·rw [List.pairwise_map]
    exact List.Pairwise.imp (fun hxy e=>hxy (by have:=List.append_cancel_left e; injection this)) (hl l List.mem_cons_self)
   ·intro x hx y hy e
    obtain ⟨u,_,rfl⟩:=List.mem_map.mp hx
    obtain ⟨v,_,rfl⟩:=List.mem_map.mp hy
    exact hab (List.append_inj e (by rw [hm a ha,hm b hb])).1
  ·intro a ha
   obtain ⟨b,hb,hx⟩:=List.mem_flatMap.mp ha
   obtain ⟨u,_,rfl⟩:=List.mem_map.mp hx
   rw [List.length_append,hm b hb]; rfl
theorem Ye {ls:List (List T)} (h:∀ l∈ls,l.Pairwise (fun a b=>a ≠ b)):(wz ls).Pairwise (fun a b=>a ≠ b):=by
 unfold wz
 rw [List.pairwise_map]
 refine List.Pairwise.imp (fun hab e=>hab (by injection e)) (uy ls [[]] 0 h (by simp) (by simp))
theorem Jc:∀ (d:Nat) (k:Kd),k.Ok d->k.all.Pairwise (fun a b=>a ≠ b)
 | 0,_,h=>h.elim
 | d+1, .whole lo hi,h=>by
  rw [Kd.all,List.pairwise_map]
  exact List.Pairwise.imp (fun {i j} hab e=>hab (by injection e with e; omega)) (List.nodup_range (n:=(hi+1 - lo).toNat))
 | d+1, .pick cs,h=>by rw [Yd]; exact qF h.2.2.2
 | d+1, .row ks,h=>by
  rw [Kd.all,Kd.alls_map]
  refine Ye fun l hl=> ?_
  obtain ⟨k,hk,rfl⟩:=List.mem_map.mp hl
  exact Jc d k (h.2.2 k hk)
 | d+1, .many k lo hi,h=>by
  rw [Kd.all,List.pairwise_flatMap]
  refine ⟨fun i hi=>Ye fun l hl=> ?_,List.Pairwise.imp (fun {i j} hij=> ?_) (List.nodup_range (n:=hi+1 - lo))⟩
  ·obtain rfl:=(List.mem_replicate.mp hl).2
   exact Jc d k h.2.2
  ·intro x hx y hy e
   obtain ⟨xs,h1,rfl⟩:=(jK _ _).mp hx
   obtain ⟨ys,h2,rfl⟩:=(jK _ _).mp hy
   have e:xs=ys:=by injection e
   subst e
   have a:=((jL _ _ _).mp h1).1
   have b:=((jL _ _ _).mp h2).1
   omega
theorem Vd {α:Type}:∀ (l m:List α),l.Pairwise (fun a b=>a ≠ b)->(∀ x∈l,x∈m)->l.length<=m.length
 | [],_,_,_=>Nat.zero_le _
 | x :: l,m,h,hs=>by
  obtain ⟨a,b,rfl⟩:=List.append_of_mem (hs x List.mem_cons_self)
  have h' :=List.pairwise_cons.mp h
  have:=Vd l (a++b) h'.2 fun y hy=>by
   have hy' :=hs y (List.mem_cons_of_mem _ hy)
   rw [List.mem_append,List.mem_cons] at hy'
   rw [List.mem_append]
   rcases hy' with z | z | z
   ·exact .inl z
   ·exact absurd z.symm (h'.1 y hy)
   ·exact .inr z
  simp at this ⊢; omega
theorem Ka {α:Type}:∀ (l m:List α),l.Pairwise (fun a b=>a ≠ b)->m.Pairwise (fun a b=>a ≠ b)->(∀ x∈l,x∈m)->l.length=m.length->∀ x∈m,x∈l:=fun l m h hm hs e x hx=>by
 refine Classical.byContradiction fun hn=> ?_
 have:=Vd (x :: l) m (List.pairwise_cons.mpr ⟨fun y hy z=>hn (z ▸ hy),h⟩) fun y hy=>by
  rcases List.mem_cons.mp hy with rfl | hy
  ·exact hx
  ·exact hs y hy
 simp at this; omega
theorem JG {k l:Kd} {d:Nat} (hk:k.Ok d) (hl:l.Ok d) (h:∀ x,k.has x=true->l.has x=true):k.all.length<=l.all.length/\(k.all.length=l.all.length->∀ x,l.has x=true->k.has x=true):=by
 have hs:∀ x∈k.all,x∈l.all:=fun x hx=>(Z5 l x).mpr (h x ((Z5 k x).mp hx))
 exact ⟨Vd _ _ (Jc d k hk) hs,fun e x hx=>(Z5 k x).mp (Ka _ _ (Jc d k hk) (Jc d l hl) hs e x ((Z5 l x).mpr hx))⟩
abbrev Cm (k l:Kd) (d:Nat) (r:R T):Prop:=(∃ c:Kd,r= .ok c.t/\c.Ok d/\∀ x,c.has x=(k.has x && l.has x))\/(r= .ok .non/\∀ x,(k.has x && l.has x)=false)
theorem Ve {f g:En->R T} {ρ:En} {i j:Int} (hf:f ρ= .ok (.int i)) (hg:g ρ= .ok (.int j)):ze wn f g ρ= .ok (.int (max i j)):=by
 rw [zo,hf,bOk,hg,bOk]
 show R.ok (T.int (if j > i then j else i))=_
 congr 2; split <;> omega
theorem qG {f g:En->R T} {ρ:En} {i j:Int} (hf:f ρ= .ok (.int i)) (hg:g ρ= .ok (.int j)):ze jC f g ρ= .ok (.int (min i j)):=by
 rw [zo,hf,bOk,hg,bOk]
 show R.ok (T.int (if j < i then j else i))=_
 congr 2; split <;> omega
theorem jx1 {x a b:T} {r:List T} {ρ:En}:ze ixT (vE 1) (cE (.int 1)) (.vl x :: .vl (.tup (a :: b :: r)) :: ρ)= .ok b:=by rw [zo,v1,bOk,zV,bOk,at1]
theorem jx2 {x a b c:T} {r:List T} {ρ:En}:ze ixT (vE 1) (cE (.int 2)) (.vl x :: .vl (.tup (a :: b :: c :: r)) :: ρ)= .ok c:=by rw [zo,v1,bOk,zV,bOk,at2]
theorem jx3 {x a b c d:T} {r:List T} {ρ:En}:ze ixT (vE 1) (cE (.int 3)) (.vl x :: .vl (.tup (a :: b :: c :: d :: r)) :: ρ)= .ok d:=by rw [zo,v1,bOk,zV,bOk,at3]
theorem Yf {d:Nat} (a b c e:Int) (h1:(Kd.whole a b).Ok (d+1)) (h2:(Kd.whole c e).Ok (d+1)):Cm (.whole a b) (.whole c e) (d+1) (f_w [(Kd.whole a b).t,(Kd.whole c e).t]):=by
 have ex:f_w [(Kd.whole a b).t,(Kd.whole c e).t]=if max a c<=min b e then .ok (.tup [.str "whole", .int (max a c), .int (min b e)]) else .ok .non:=by
  show zn (b_w [.vl (Kd.whole a b).t, .vl (Kd.whole c e).t, .un, .un])=_
  unfold b_w
  have e1:zS 2 (ze wn (ze ixT (vE 0) (cE (.int 1))) (ze ixT (vE 1) (cE (.int 1)))) [.vl (Kd.whole a b).t, .vl (Kd.whole c e).t, .un, .un]= .nx [.vl (Kd.whole a b).t, .vl (Kd.whole c e).t, .vl (.int (max a c)), .un]:=by
   rw [zP (t:= .int (max a c))]
   ·rfl
   ·exact Ve (by rw [Kd.t]; exact Wm) (by rw [Kd.t,Kd.t]; exact jx1)
  have e2:zS 3 (ze jC (ze ixT (vE 0) (cE (.int 2))) (ze ixT (vE 1) (cE (.int 2)))) [.vl (Kd.whole a b).t, .vl (Kd.whole c e).t, .vl (.int (max a c)), .un]= .nx [.vl (Kd.whole a b).t, .vl (Kd.whole c e).t, .vl (.int (max a c)), .vl (.int (min b e))]:=by
   rw [zP (t:= .int (min b e))]
   ·rfl
   ·exact qG (by rw [Kd.t]; exact Qe) (by rw [Kd.t,Kd.t]; exact jx2)
  rw [zj e1,zj e2]
  have et:zv leC (vB 2) (vB 3) [.vl (Kd.whole a b).t, .vl (Kd.whole c e).t, .vl (.int (max a c)), .vl (.int (min b e))]= .ok (decide (max a c<=min b e)):=rfl
  by_cases h:max a c<=min b e
  ·rw [if_pos h,Zl (t:= .tup [.str "whole", .int (max a c), .int (min b e)]) (by show ifE _ _ _ [.vl (Kd.whole a b).t, .vl (Kd.whole c e).t, .vl (.int (max a c)), .vl (.int (min b e))]=_; rw [U8 (by rw [et,decide_eq_true h])]; exact K4 rfl rfl rfl)]; rfl
  ·rw [if_neg h,Zl (t:= .non) (by show ifE _ _ _ [.vl (Kd.whole a b).t, .vl (Kd.whole c e).t, .vl (.int (max a c)), .vl (.int (min b e))]=_; rw [Yb (by rw [et,decide_eq_false h])]; rfl)]; rfl
 have hh:∀ x,((Kd.whole a b).has x && (Kd.whole c e).has x)=inR (max a c) (min b e) x:=fun x=>by
  rw [Kd.has,Kd.has]
  cases x with
  | int i=>
   show ((decide (a<=i) && decide (i<=b)) && (decide (c<=i) && decide (i<=e)))=(decide (max a c<=i) && decide (i<=min b e))
   rw [Bool.eq_iff_iff]
   simp only [Bool.and_eq_true,decide_eq_true_eq]
   omega
  | _=>rfl
 rw [ex]
 by_cases h:max a c<=min b e
 ·rw [if_pos h]
  refine .inl ⟨.whole (max a c) (min b e),by rw [Kd.t],⟨?_,h, ?_⟩,fun x=>by rw [hh]; rw [Kd.has]⟩
  ·have:=h1.1; have:=h2.1; omega
  ·have:=h1.2.2; have:=h2.2.2; omega
 ·rw [if_neg h]
  refine .inr ⟨rfl,fun x=> ?_⟩
  rw [hh]
  cases x with
  | int i=>
   show (decide (max a c<=i) && decide (i<=min b e))=false
   rw [Bool.eq_false_iff]
   simp only [ne_eq,Bool.and_eq_true,decide_eq_true_eq]
   omega
  | _=>rfl
theorem qH {d:Nat} (cs es:List (Str×Int)) (h1:(Kd.pick cs).Ok (d+1)) (h2:(Kd.pick es).Ok (d+1)):Cm (.pick cs) (.pick es) (d+1) (f_v [(Kd.pick cs).t,(Kd.pick es).t]):=by
 obtain ⟨_,h14,hcs,hds⟩:=h1
 have hw:=ur es h2.2.1
 let fs:=cs.filter fun c=>decide (c.1∈es.map (·.1))
 have ef:fs=cs.filter fun c=>decide (c.1∈es.map (·.1)):=rfl
 have hlen:fs.length<=cs.length:=List.length_filter_le _ _
 have ex:f_v [(Kd.pick cs).t,(Kd.pick es).t]=if 0 < fs.length then .ok (.tup [.str "pick", .tup (fs.map ZO)]) else .ok .non:=by
  show zn (b_v f_j [.vl (Kd.pick cs).t, .vl (Kd.pick es).t, .un, .un])=_
  unfold b_v
  have e1:zS 2 (zc 1 f_j (z9 (vE 1) (zg))) [.vl (Kd.pick cs).t, .vl (Kd.pick es).t, .un, .un]= .nx [.vl (Kd.pick cs).t, .vl (Kd.pick es).t, .vl (.lst (es.map fun c=>T.str c.1)), .un]:=by
   rw [zP (t:= .lst (es.map fun c=>T.str c.1))]
   ·rfl
   ·rw [Zh,v1,bOk,hw]
  have ec:Z0 (j2 (ze ixT (vE 0) (cE (.int 1)))) (zG 0) (zv inC (ze ixT (vE 0) (cE (.int 0))) (vB 1)) (vE 0) 1 [2] [.vl (Kd.pick cs).t, .vl (Kd.pick es).t, .vl (.lst (es.map fun c=>T.str c.1)), .un]= .ok (.lst (fs.map ZO)):=by
   have ei:j2 (ze ixT (vE 0) (cE (.int 1))) [.vl (Kd.pick cs).t, .vl (Kd.pick es).t, .vl (.lst (es.map fun c=>T.str c.1)), .un]= .ok (cs.map ZO):=by
    rw [jg,Kd.t,Wm,bOk]; rfl
   rw [Z4,ei,bOk]
   unfold Z3
   rw [if_pos (by rw [List.length_map]; exact Nat.le_trans h14 (by decide))]
   have eL:zF (zG 0) (zv inC (ze ixT (vE 0) (cE (.int 0))) (vB 1)) (vE 0) (cs.map ZO) (WF 1 [2] [.vl (Kd.pick cs).t, .vl (Kd.pick es).t, .vl (.lst (es.map fun c=>T.str c.1)), .un])= .ok (((cs.map ZO).filter fun t=>match t with | .tup [.str w,_]=>decide (w∈es.map (·.1)) | _=>false).map fun t=>t):=by
    refine je (p:=fun t=>match t with | .tup [.str w,_]=>decide (w∈es.map (·.1)) | _=>false) (h:=fun t=>t) _ _ fun t ht=> ?_
    obtain ⟨c,hc,rfl⟩:=List.mem_map.mp ht
    refine ⟨?_,fun _=>rfl⟩
    show zv inC (ze ixT (vE 0) (cE (.int 0))) (vB 1) [.vl (ZO c), .vl (.lst (es.map fun c=>T.str c.1))]= .ok (decide (c.1∈es.map (·.1)))
    have e0:ze ixT (vE 0) (cE (.int 0)) [.vl (ZO c), .vl (.lst (es.map fun c=>T.str c.1))]= .ok (.str c.1):=by
     rw [zo,v0,bOk,zV,bOk]; unfold ZO; exact at0
    rw [zC,e0,bOk,w1,bOk]
    show (match WV (fun y=>eqF 30 y (.str c.1)) (es.map fun c=>T.str c.1) with | some b=>R.ok b | none=> .bad)=_
    have em:(es.map fun c=>T.str c.1)=(es.map (·.1)).map T.str:=by rw [List.map_map]; rfl
    rw [em,wv]
   have eF:(((cs.map ZO).filter fun t=>match t with | .tup [.str w,_]=>decide (w∈es.map (·.1)) | _=>false).map fun t=>t)=fs.map ZO:=by
    rw [List.map_id',List.filter_map]; rfl
   rw [eL,eF]; rfl
  have e2:zS 3 (Z0 (j2 (ze ixT (vE 0) (cE (.int 1)))) (zG 0) (zv inC (ze ixT (vE 0) (cE (.int 0))) (vB 1)) (vE 0) 1 [2]) [.vl (Kd.pick cs).t, .vl (Kd.pick es).t, .vl (.lst (es.map fun c=>T.str c.1)), .un]= .nx [.vl (Kd.pick cs).t, .vl (Kd.pick es).t, .vl (.lst (es.map fun c=>T.str c.1)), .vl (.lst (fs.map ZO))]:=by
   rw [zP ec]; rfl
  rw [zj e1,zj e2]
  have et:zv gtC (ap1 ZX (vB 3)) (cE (.int 0)) [.vl (Kd.pick cs).t, .vl (Kd.pick es).t, .vl (.lst (es.map fun c=>T.str c.1)), .vl (.lst (fs.map ZO))]= .ok (decide (0 < fs.length)):=by
   show R.ok (decide ((0:Int) < ((fs.map ZO).length:Nat)))=_
   rw [List.length_map]
   by_cases hz:0 < fs.length
   ·rw [decide_eq_true hz,decide_eq_true (by omega)]
   ·rw [decide_eq_false hz,decide_eq_false (by omega)]
  by_cases h:0 < fs.length
  ·rw [if_pos h,Zl (t:= .tup [.str "pick", .tup (fs.map ZO)]) (by show ifE _ _ _ [.vl (Kd.pick cs).t, .vl (Kd.pick es).t, .vl (.lst (es.map fun c=>T.str c.1)), .vl (.lst (fs.map ZO))]=_; rw [U8 (by rw [et,decide_eq_true h])]; exact Uh rfl rfl)]; rfl
  ·rw [if_neg h,Zl (t:= .non) (by show ifE _ _ _ [.vl (Kd.pick cs).t, .vl (Kd.pick es).t, .vl (.lst (es.map fun c=>T.str c.1)), .vl (.lst (fs.map ZO))]=_; rw [Yb (by rw [et,decide_eq_false h])]; rfl)]; rfl
 have hh:∀ y:Str,((Kd.pick cs).has (.str y) && (Kd.pick es).has (.str y))=fs.any fun c=>c.1 == y:=fun y=>by
  rw [Kd.has,Kd.has]
  rw [Bool.eq_iff_iff]
  simp only [Bool.and_eq_true,List.any_eq_true,beq_iff_eq]
  constructor
  ·rintro ⟨⟨c,hc,rfl⟩,⟨e,he,e1⟩⟩
   exact ⟨c,List.mem_filter.mpr ⟨hc,decide_eq_true (List.mem_map.mpr ⟨e,he,e1⟩)⟩,rfl⟩
  ·rintro ⟨c,hc,rfl⟩
   obtain ⟨a1,a2⟩:=List.mem_filter.mp hc
   obtain ⟨e,he,e1⟩:=List.mem_map.mp (of_decide_eq_true a2)
   exact ⟨⟨c,a1,rfl⟩,⟨e,he,e1⟩⟩
 have hn:∀ x,(∀ y,x ≠ .str y)->((Kd.pick cs).has x && (Kd.pick es).has x)=false:=fun x hx=>by
  rw [Kd.has,Kd.has]
  cases x with
  | str y=>exact absurd rfl (hx y)
  | _=>rfl
 rw [ex]
 by_cases h:0 < fs.length
 ·rw [if_pos h]
  refine .inl ⟨.pick fs,by rw [Kd.t],⟨h,by omega,fun c hc=>hcs c (List.mem_filter.mp hc).1, ?_⟩,fun x=> ?_⟩
  ·have hp:(cs.map (·.1)).Pairwise (fun a b=>a ≠ b):=by
    rw [List.pairwise_iff_getElem]
    intro i j hi hj hij e
    have:=Yc hds (i:=i) (j:=j) (w:=(cs.map (·.1))[j]) (by rw [List.getElem?_eq_getElem hi,e]) (List.getElem?_eq_getElem hj)
    omega
   have hp2:(fs.map (·.1)).Pairwise (fun a b=>a ≠ b):=List.Pairwise.sublist (List.Sublist.map _ List.filter_sublist) hp
   intro j w hj hm
   obtain ⟨i,hi,e⟩:=List.mem_iff_getElem.mp hm
   rw [List.length_take] at hi
   rw [List.getElem_take] at e
   obtain ⟨hj',ej⟩:=List.getElem?_eq_some_iff.mp hj
   exact (List.pairwise_iff_getElem.mp hp2) i j (by omega) hj' (by omega) (by rw [e,ej])
  ·cases x with
   | str y=>rw [hh]; rw [Kd.has]
   | _=>rw [hn _ (fun y z=>by cases z)]; rw [Kd.has]
 ·rw [if_neg h]
  refine .inr ⟨rfl,fun x=> ?_⟩
  cases x with
  | str y=>
   rw [hh]
   have:fs=[]:=List.length_eq_zero_iff.mp (by omega)
   rw [this]; rfl
  | _=>exact hn _ (fun y z=>by cases z)
theorem zr {g:En->R Bool} {f:En->R T} {h:En->RS} {ρ:En} (hg:g ρ= .ok true):zn (zu (ifS g (zK f) nxS) h ρ)=f (frz ρ):=by
 rw [Z1,qz hg,Zr]
 cases f (frz ρ) <;> rfl
theorem Zq {f:En->R T} {ρ:En}:zn (zK f ρ)=f (frz ρ):=by rw [Zr,jH]
theorem Qi (k:Kd):∃ x r,k.t= .tup (.str x :: r):=by
 cases k <;> exact ⟨_,_,by rw [Kd.t]⟩
def ZF:Option Kd->T
 | some c=>c.t
 | none=> .non
theorem Yg:∀ os:List (Option Kd),WV (fun y=>eqF 30 y .non) (os.map ZF)=some (os.any Option.isNone)
 | []=>rfl
 | o :: os=>by
  have e:WV (fun y=>eqF 30 y .non) ((o :: os).map ZF)=match eqF 30 (ZF o) .non with | none=>none | some b=>match WV (fun y=>eqF 30 y .non) (os.map ZF) with | none=>none | some c=>some (b || c):=rfl
  rw [e,Yg os]
  cases o with
  | none=>rfl
  | some c=>
   obtain ⟨x,r,h⟩:=Qi c
   have:eqF 30 (ZF (some c)) .non=some false:=by show eqF 30 c.t .non=_; rw [h]; rfl
   rw [this]; rfl
theorem uz:∀ os:List (Option Kd),os.any Option.isNone=false->∃ cs:List Kd,os=cs.map some
 | [],_=>⟨[],rfl⟩
 | o :: os,h=>by
  rw [List.any_cons,Bool.or_eq_false_iff] at h
  obtain ⟨cs,rfl⟩:=uz os h.2
  cases o with
  | none=>cases h.1
  | some c=>exact ⟨c :: cs,rfl⟩
def Ck (d:Nat) (q:Kd×Kd):Option Kd->Prop
 | some c=>c.Ok d/\∀ x,c.has x=(q.1.has x && q.2.has x)
 | none=>∀ x,(q.1.has x && q.2.has x)=false
abbrev ckE (c:List T->R T):En->R T:=zc 2 c (z9 (vE 0) (z9 (vE 1) (zg)))
theorem Yh {c:List T->R T} {d:Nat}:∀ (qs:List (Kd×Kd)) (x y:Sl),(∀ q∈qs,∃ o,c [q.1.t,q.2.t]= .ok (ZF o)/\Ck d q o)->
  ∃ os:List (Option Kd),zF (Zd 0 1) Z9 (ckE c) (qs.map fun q=>T.tup [q.1.t,q.2.t]) [x,y]= .ok (os.map ZF)/\os.length=qs.length/\∀ (i:Nat) (q:Kd×Kd) (o:Option Kd),qs[i]? =some q->os[i]? =some o->Ck d q o
 | [],_,_,_=>⟨[],rfl,rfl,fun i q o h=>by simp at h⟩
 | q :: qs,x,y,h=>by
  obtain ⟨o,e1,hc⟩:=h q List.mem_cons_self
  obtain ⟨os,e2,e3,e4⟩:=Yh (c:=c) (d:=d) qs (.vl q.1.t) (.vl q.2.t) fun r hr=>h r (List.mem_cons_of_mem _ hr)
  have e0:zF (Zd 0 1) Z9 (ckE c) ((q :: qs).map fun q=>T.tup [q.1.t,q.2.t]) [x,y]=(ckE c [.vl q.1.t, .vl q.2.t]).bind fun v=>(zF (Zd 0 1) Z9 (ckE c) (qs.map fun q=>T.tup [q.1.t,q.2.t]) [.vl q.1.t, .vl q.2.t]).bind fun vs=> .ok (v :: vs):=rfl
  have e5:ckE c [.vl q.1.t, .vl q.2.t]=c [q.1.t,q.2.t]:=by unfold ckE; rw [zO,v0,bOk,v1,bOk]
  refine ⟨o :: os,by rw [e0,e5,e1,bOk,e2,bOk,List.map_cons],by rw [List.length_cons,List.length_cons,e3],fun i q' o' h1 h2=> ?_⟩
  cases i with
  | zero=>cases h1; cases h2; exact hc
  | succ i=>exact e4 i q' o' (by simpa using h1) (by simpa using h2)
theorem jW:∀ (ks:List Kd) (xs:List T),Kd.hass ks xs=true↔∀ (i:Nat) (k:Kd) (x:T),ks[i]? =some k->xs[i]? =some x->k.has x=true
 | [],_=>by simp [Kd.hass]
 | k :: ks,[]=>by simp [Kd.hass]
 | k :: ks,x :: xs=>by
  rw [Kd.hass]
  simp only [Bool.and_eq_true]
  rw [jW ks xs]
  constructor
  ·rintro ⟨h1,h2⟩ i k' x' e1 e2
   cases i with
   | zero=>cases e1; cases e2; exact h1
   | succ i=>exact h2 i k' x' (by simpa using e1) (by simpa using e2)
  ·intro h
   exact ⟨h 0 k x rfl rfl,fun i k' x' e1 e2=>h (i+1) k' x' (by simpa using e1) (by simpa using e2)⟩
theorem Vf {n d:Nat} {s s' :T} (ks ls:List Kd) (hs:jG s= .ok (ks.map Kd.t)) (hs' :jG s' = .ok (ls.map Kd.t)) (hl:ZX s= .ok (.int (ks.length:Int))) (hl' :ZX s' = .ok (.int (ls.length:Int))) (h3:ks.length<=3) (H:∀ k∈ks,∀ l∈ls,Cm k l d (S_5 n 0 [k.t,l.t])):
  (∃ cs:List Kd,S_5 (n+1) 1 [s,s']= .ok (.tup [.str "row", .tup (cs.map Kd.t)])/\cs.length=ks.length/\ks.length=ls.length/\(∀ c∈cs,c.Ok d)/\∀ xs:List T,xs.length=ks.length->Kd.hass cs xs=(Kd.hass ks xs && Kd.hass ls xs))\/
  (S_5 (n+1) 1 [s,s']= .ok .non/\∀ xs:List T,xs.length=ks.length->xs.length=ls.length->(Kd.hass ks xs && Kd.hass ls xs)=false):=by
 have e:S_5 (n+1) 1 [s,s']=zn (b_x (S_5 n 0) [.vl s, .vl s', .un]):=by
  rw [S_5]; rfl
 have et:zv neC (ap1 ZX (vB 0)) (ap1 ZX (vB 1)) [.vl s, .vl s', .un]= .ok (!((ks.length:Int) == (ls.length:Int))):=by
  rw [zC,ZJ,w0,bOk,hl,bOk,ZJ,w1,bOk,hl',bOk]; rfl
 rw [e]
 unfold b_x
 by_cases hkl:ks.length=ls.length
 ·have ez:xH (vE 0) (vE 1) [.vl s, .vl s', .un]= .ok ((ks.zip ls).map fun q=>T.tup [q.1.t,q.2.t]):=by
   show (jG s).bind _=_
   rw [hs,bOk,hs',bOk]
   unfold Q3
   rw [List.zip_map,List.map_map]; rfl
  obtain ⟨os,e1,e2,e3⟩:=Yh (c:=S_5 n 0) (d:=d) (ks.zip ls) .un .un fun q hq=>by
   rcases H q.1 (List.of_mem_zip hq).1 q.2 (List.of_mem_zip hq).2 with ⟨c,a1,a2,a3⟩ | ⟨a1,a2⟩
   ·exact ⟨some c,a1,a2,a3⟩
   ·exact ⟨none,a1,a2⟩
  have hol:os.length=ks.length:=by rw [e2,List.length_zip]; omega
  have ec:Z0 (xH (vE 0) (vE 1)) (Zd 0 1) Z9 (ckE (S_5 n 0)) 2 [] [.vl s, .vl s', .un]= .ok (.lst (os.map ZF)):=by
   rw [Z4,ez,bOk]
   unfold Z3
   rw [if_pos (by rw [List.length_map,List.length_zip]; exact Nat.le_trans (Nat.min_le_left _ _) (Nat.le_trans h3 (by decide)))]
   show (quiet (zF _ _ _ _ [.un, .un])).bind _=_
   rw [e1]; rfl
  have es:zS 2 (Z0 (xH (vE 0) (vE 1)) (Zd 0 1) Z9 (ckE (S_5 n 0)) 2 []) [.vl s, .vl s', .un]= .nx [.vl s, .vl s', .vl (.lst (os.map ZF))]:=by rw [zP ec]; rfl
  have ei:zv inC (cE .non) (vB 2) [.vl s, .vl s', .vl (.lst (os.map ZF))]= .ok (os.any Option.isNone):=by
   rw [zC,zV,bOk,w2,bOk]
   show (match WV (fun y=>eqF 30 y .non) (os.map ZF) with | some b=>R.ok b | none=> .bad)=_
   rw [Yg]
  rw [zj (zD (by rw [et,hkl,beq_self_eq_true]; rfl)),zj es]
  have zat:∀ (i:Nat) (k l:Kd),ks[i]? =some k->ls[i]? =some l->(ks.zip ls)[i]? =some (k,l):=fun i k l h1 h2=>by
   rw [List.getElem?_zip_eq_some]; exact ⟨h1,h2⟩
  cases hn:os.any Option.isNone with
  | true=>
   right
   rw [zr (by rw [ei,hn])]
   refine ⟨rfl,fun xs hx hx' => ?_⟩
   obtain ⟨o,ho,hio⟩:=List.any_eq_true.mp hn
   obtain ⟨i,hi,rfl⟩:=List.mem_iff_getElem.mp ho
   have hik:i < ks.length:=by omega
   have hil:i < ls.length:=by omega
   have hix:i < xs.length:=by omega
   have hc:=e3 i (ks[i],ls[i]) os[i] (zat i _ _ (List.getElem?_eq_getElem hik) (List.getElem?_eq_getElem hil)) (List.getElem?_eq_getElem hi)
   have ho' :os[i]=none:=by cases q:os[i] with | none=>rfl | some c=>rw [q] at hio; cases hio
   rw [ho'] at hc
   rw [Bool.eq_false_iff]
   intro z
   rw [Bool.and_eq_true,jW,jW] at z
   have z1:=z.1 i _ xs[i] (List.getElem?_eq_getElem hik) (List.getElem?_eq_getElem hix)
   have z2:=z.2 i _ xs[i] (List.getElem?_eq_getElem hil) (List.getElem?_eq_getElem hix)
   have:=hc xs[i]
   rw [z1,z2] at this
   cases this
  | false=>
   left
   obtain ⟨cs,rfl⟩:=uz os hn
   have hcl:cs.length=ks.length:=by rw [List.length_map] at hol; exact hol
   have em:(cs.map some).map ZF=cs.map Kd.t:=by rw [List.map_map]; rfl
   rw [em] at ei ⊢
   rw [zj (zD (by rw [ei,hn])),Zq]
   have cat:∀ (i:Nat) (c k l:Kd),cs[i]? =some c->ks[i]? =some k->ls[i]? =some l->c.Ok d/\∀ x,c.has x=(k.has x && l.has x):=fun i c k l h1 h2 h3=>e3 i (k,l) (some c) (zat i k l h2 h3) (by rw [List.getElem?_map,h1]; rfl)
   refine ⟨cs,Uh rfl rfl,hcl,hkl,fun c hc=> ?_,fun xs hx=> ?_⟩
   ·obtain ⟨i,hi,rfl⟩:=List.mem_iff_getElem.mp hc
    exact (cat i _ _ _ (List.getElem?_eq_getElem hi) (List.getElem?_eq_getElem (by omega)) (List.getElem?_eq_getElem (by omega))).1
   ·rw [Bool.eq_iff_iff,Bool.and_eq_true,jW,jW,jW]
    constructor
    ·intro h
     refine ⟨fun i k x h1 h2=> ?_,fun i l x h1 h2=> ?_⟩
     ·have hi:=(List.getElem?_eq_some_iff.mp h1).1
      have hic:i < cs.length:=by omega
      have hil:i < ls.length:=by omega
      have q:=(cat i _ _ _ (List.getElem?_eq_getElem hic) h1 (List.getElem?_eq_getElem hil)).2 x
      rw [h i _ x (List.getElem?_eq_getElem hic) h2] at q
      exact (Bool.and_eq_true_iff.mp q.symm).1
     ·have hi:=(List.getElem?_eq_some_iff.mp h1).1
      have hic:i < cs.length:=by omega
      have hik:i < ks.length:=by omega
      have q:=(cat i _ _ _ (List.getElem?_eq_getElem hic) (List.getElem?_eq_getElem hik) h1).2 x
      rw [h i _ x (List.getElem?_eq_getElem hic) h2] at q
      exact (Bool.and_eq_true_iff.mp q.symm).2
    ·rintro ⟨h1,h2⟩ i c x q1 q2
     have hi:=(List.getElem?_eq_some_iff.mp q1).1
     have hik:i < ks.length:=by omega
     have hil:i < ls.length:=by omega
     rw [(cat i _ _ _ q1 (List.getElem?_eq_getElem hik) (List.getElem?_eq_getElem hil)).2 x,h1 i _ x (List.getElem?_eq_getElem hik) q2,h2 i _ x (List.getElem?_eq_getElem hil) q2]; rfl
 ·right
  rw [zr (by rw [et,beq_eq_false_iff_ne.mpr (by omega)]; rfl)]
  exact ⟨rfl,fun xs h1 h2=>by omega⟩
def kop:Kd->Nat->List Kd
 | .row ks,_=>ks
 | .many k lo hi,n=>if lo<=n/\n<=hi then List.replicate n k else []
 | _,_=>[]
theorem Xo {x:T} {m:Nat} (h1:1<=m) (h:m<=3):qo (.tup [x]) (.int (m:Int))= .ok (.tup (List.replicate m x)):=by
 by_cases e:m=1
 ·subst e
  have c:((1:Nat):Int)=1/\[x] ≠ []:=⟨rfl,by simp⟩
  unfold qo
  dsimp only
  rw [if_pos c]; rfl
 ·have:qo (.tup [x]) (.int (m:Int))=Z2 (.tup [x]) (.int (m:Int)):=if_neg (fun z=>e (by omega))
  have c:2<=(m:Int)/\(m:Int) < 1000000/\[x] ≠ []/\[x].length*(m:Int).toNat<=bnd:=⟨by omega,by omega,by simp,by rw [List.length_singleton,Int.toNat_natCast]; exact Nat.le_trans (show 1*m<=3 by omega) (by decide)⟩
  rw [this,show Z2 (.tup [x]) (.int (m:Int))= .ok (.tup (List.replicate (m:Int).toNat [x]).flatten) from if_pos c,Int.toNat_natCast,jJ]
theorem Qj (k:Kd) (n:Nat) (hn:1<=n) (h3:∀ l lo hi,k= .many l lo hi->hi<=3):f_t [k.t, .int (n:Int)]= .ok (.tup ((kop k n).map Kd.t)):=by
 show zn (b_t (en2 k.t (.int (n:Int))))=_
 unfold b_t
 cases k with
 | row ks=>rw [zr (by rw [Kd.t]; exact cs0),show frz (en2 (Kd.row ks).t (.int (n:Int)))=en2 (Kd.row ks).t (.int (n:Int)) from rfl,Kd.t,Kd.ts_map,Wm]; rfl
 | whole a b=>
  have e0:zv eqC (ze ixT (vE 0) (cE (.int 0))) (cE (.str "many")) (en2 (Kd.whole a b).t (.int (n:Int)))= .ok false:=by rw [Kd.t]; exact cs0
  rw [zj (zD (by rw [Kd.t]; exact cs0)),zj (zD (by rw [jS,e0,bOk]; rfl)),Zq]; rfl
 | pick cs=>
  have e0:zv eqC (ze ixT (vE 0) (cE (.int 0))) (cE (.str "many")) (en2 (Kd.pick cs).t (.int (n:Int)))= .ok false:=by rw [Kd.t]; exact cs0
  rw [zj (zD (by rw [Kd.t]; exact cs0)),zj (zD (by rw [jS,e0,bOk]; rfl)),Zq]; rfl
 | many k lo hi=>
  have h3' :=h3 k lo hi rfl
  have e0:zv eqC (ze ixT (vE 0) (cE (.int 0))) (cE (.str "many")) (en2 (Kd.many k lo hi).t (.int (n:Int)))= .ok true:=by rw [Kd.t]; exact cs0
  have et:Ud (zv eqC (ze ixT (vE 0) (cE (.int 0))) (cE (.str "many"))) (chT leC leC (ze ixT (vE 0) (cE (.int 2))) (vB 1) (ze ixT (vE 0) (cE (.int 3)))) (en2 (Kd.many k lo hi).t (.int (n:Int)))= .ok (decide (lo<=n) && decide (n<=hi)):=by
   rw [jS,e0,bOk,if_pos rfl,X3,Kd.t,Qe,bOk,w1,bOk,yH,bOk,V3,bOk,yH,Jb,Jb]
   cases decide (lo<=n) <;> rfl
  rw [zj (zD (by rw [Kd.t]; exact cs0))]
  have ek:kop (.many k lo hi) n=if lo<=n/\n<=hi then List.replicate n k else []:=rfl
  rw [ek]
  by_cases h:lo<=n/\n<=hi
  ·rw [if_pos h,zr (by rw [et,decide_eq_true h.1,decide_eq_true h.2]; rfl)]
   show ze qo _ _ (en2 (Kd.many k lo hi).t (.int (n:Int)))=_
   rw [zo,KK (x:=k.t) (by rw [Kd.t]; exact Wm),bOk,v1,bOk]
   rw [Xo hn (by omega),List.map_replicate]
  ·rw [if_neg h,zj (zD (by rw [et]; congr 1; rw [Bool.eq_false_iff]; intro z; rw [Bool.and_eq_true,decide_eq_true_eq,decide_eq_true_eq] at z; exact h z)),Zq]; rfl
theorem ZZ (k:Kd) (lo hi:Nat) (xs:List T):(Kd.many k lo hi).has (.tup xs)=(decide (lo<=xs.length) && decide (xs.length<=hi) && xs.all k.has):=by rw [Kd.has]
theorem jX (ks:List Kd) (xs:List T):(Kd.row ks).has (.tup xs)=(xs.length == ks.length && Kd.hass ks xs):=by rw [Kd.has]
theorem Yi {α:Type} (p q:α->Bool):∀ l:List α,l.all (fun x=>p x && q x)=(l.all p && l.all q)
 | []=>rfl
 | x :: l=>by
  rw [List.all_cons,List.all_cons,List.all_cons,Yi p q l]
  cases p x <;> cases q x <;> cases l.all p <;> rfl
abbrev cmE (a b x y z:Sl):En:=[a,b,x,y,z]
theorem qI {n d:Nat} (k l:Kd) (lo hi lo' hi' :Nat) (h1:(Kd.many k lo hi).Ok (d+1)) (h2:(Kd.many l lo' hi').Ok (d+1)) (H:Cm k l d (S_5 n 0 [k.t,l.t])):
  Cm (.many k lo hi) (.many l lo' hi') (d+1) (S_5 (n+1) 2 [(Kd.many k lo hi).t,(Kd.many l lo' hi').t]):=by
 have e:S_5 (n+1) 2 [(Kd.many k lo hi).t,(Kd.many l lo' hi').t]=zn (XO (S_5 n 0) (cmE (.vl (mt k.t lo hi)) (.vl (mt l.t lo' hi')) .un .un .un)):=by
  rw [S_5]
  ·rw [Kd.t,Kd.t]; rfl
  ·intro h; cases h
  ·intro h; cases h
 have c1:((max lo lo' :Nat):Int)=max (lo:Int) (lo' :Int):=by omega
 have c2:((min hi hi' :Nat):Int)=min (hi:Int) (hi' :Int):=by omega
 have e1:zS 2 (ze wn (ze ixT (vE 0) (cE (.int 2))) (ze ixT (vE 1) (cE (.int 2)))) (cmE (.vl (mt k.t lo hi)) (.vl (mt l.t lo' hi')) .un .un .un)= .nx (cmE (.vl (mt k.t lo hi)) (.vl (mt l.t lo' hi')) (.vl (.int ((max lo lo' :Nat):Int))) .un .un):=by
  rw [zP (Ve Qe jx2),c1]; rfl
 have e2:zS 3 (ze jC (ze ixT (vE 0) (cE (.int 3))) (ze ixT (vE 1) (cE (.int 3)))) (cmE (.vl (mt k.t lo hi)) (.vl (mt l.t lo' hi')) (.vl (.int ((max lo lo' :Nat):Int))) .un .un)= .nx (cmE (.vl (mt k.t lo hi)) (.vl (mt l.t lo' hi')) (.vl (.int ((max lo lo' :Nat):Int))) (.vl (.int ((min hi hi' :Nat):Int))) .un):=by
  rw [zP (qG V3 jx3),c2]; rfl
 have et:zv gtC (vB 2) (vB 3) (cmE (.vl (mt k.t lo hi)) (.vl (mt l.t lo' hi')) (.vl (.int ((max lo lo' :Nat):Int))) (.vl (.int ((min hi hi' :Nat):Int))) .un)= .ok (decide (min hi hi' < max lo lo')):=by
  show R.ok (decide (((min hi hi' :Nat):Int) < ((max lo lo' :Nat):Int)))=_
  by_cases hz:min hi hi' < max lo lo'
  ·rw [decide_eq_true hz,decide_eq_true (by omega)]
  ·rw [decide_eq_false hz,decide_eq_false (by omega)]
 have hnt:∀ x,(∀ xs,x ≠ .tup xs)->((Kd.many k lo hi).has x && (Kd.many l lo' hi').has x)=false:=fun x hx=>by
  rw [Kd.has]
  cases x with
  | tup xs=>exact absurd rfl (hx xs)
  | _=>rfl
 have hht:∀ xs,((Kd.many k lo hi).has (.tup xs) && (Kd.many l lo' hi').has (.tup xs))=(decide (max lo lo' <=xs.length) && decide (xs.length<=min hi hi') && xs.all fun x=>k.has x && l.has x):=fun xs=>by
  rw [ZZ,ZZ,Yi,Bool.eq_iff_iff]
  simp only [Bool.and_eq_true,decide_eq_true_eq]
  constructor
  ·rintro ⟨⟨⟨a1,a2⟩,a3⟩,⟨⟨b1,b2⟩,b3⟩⟩
   exact ⟨⟨by omega,by omega⟩,a3,b3⟩
  ·rintro ⟨⟨a1,a2⟩,a3,b3⟩
   exact ⟨⟨⟨by omega,by omega⟩,a3⟩,⟨⟨by omega,by omega⟩,b3⟩⟩
 rw [e]
 unfold XO
 rw [zj e1,zj e2]
 by_cases hgt:min hi hi' < max lo lo'
 ·rw [zr (by rw [et,decide_eq_true hgt])]
  refine .inr ⟨rfl,fun x=> ?_⟩
  cases x with
  | tup xs=>
   rw [hht,Bool.eq_false_iff]
   intro z
   simp only [Bool.and_eq_true,decide_eq_true_eq] at z
   omega
  | _=>exact hnt _ (fun y z=>by cases z)
 ·rw [zj (zD (by rw [et,decide_eq_false hgt]))]
  have ec:∀ t,S_5 n 0 [k.t,l.t]= .ok t->zS 4 (zc 2 (S_5 n 0) (z9 (ze ixT (vE 0) (cE (.int 1))) (z9 (ze ixT (vE 1) (cE (.int 1))) (zg)))) (cmE (.vl (mt k.t lo hi)) (.vl (mt l.t lo' hi')) (.vl (.int ((max lo lo' :Nat):Int))) (.vl (.int ((min hi hi' :Nat):Int))) .un)= .nx (cmE (.vl (mt k.t lo hi)) (.vl (mt l.t lo' hi')) (.vl (.int ((max lo lo' :Nat):Int))) (.vl (.int ((min hi hi' :Nat):Int))) (.vl t)):=fun t ht=>by
   rw [zP (t:=t)]
   ·rfl
   ·rw [zO,show ze ixT (vE 0) (cE (.int 1)) (cmE (.vl (mt k.t lo hi)) (.vl (mt l.t lo' hi')) (.vl (.int ((max lo lo' :Nat):Int))) (.vl (.int ((min hi hi' :Nat):Int))) .un)= .ok k.t from Wm,bOk,show ze ixT (vE 1) (cE (.int 1)) (cmE (.vl (mt k.t lo hi)) (.vl (mt l.t lo' hi')) (.vl (.int ((max lo lo' :Nat):Int))) (.vl (.int ((min hi hi' :Nat):Int))) .un)= .ok l.t from jx1,bOk,ht]
  rcases H with ⟨c,a1,a2,a3⟩ | ⟨a1,a2⟩
  ·obtain ⟨x,r,hct⟩:=Qi c
   rw [zj (ec _ a1),zr (by rw [hct]; rfl)]
   refine .inl ⟨.many c (max lo lo') (min hi hi'),by rw [Kd.t]; exact XS rfl rfl rfl rfl,⟨by omega,by have:=h1.2.1; omega,a2⟩,fun x=> ?_⟩
   cases x with
   | tup xs=>
    rw [hht,ZZ]
    congr 1
    exact congrArg xs.all (funext a3)
   | _=>rw [hnt _ (fun y z=>by cases z)]; rw [Kd.has]
  ·rw [zj (ec _ a1),zj (zD rfl),Zq]
   have et2:zv eqC (vB 2) (cE (.int 0)) (cmE (.vl (mt k.t lo hi)) (.vl (mt l.t lo' hi')) (.vl (.int ((max lo lo' :Nat):Int))) (.vl (.int ((min hi hi' :Nat):Int))) (.vl .non))= .ok (decide (max lo lo' =0)):=by
    show R.ok (((max lo lo' :Nat):Int) == 0)=_
    by_cases hz:max lo lo' =0
    ·rw [hz,decide_eq_true rfl]; rfl
    ·rw [decide_eq_false hz,beq_eq_false_iff_ne.mpr (by omega)]
   have hall:∀ xs:List T,(xs.all fun x=>k.has x && l.has x)=xs.isEmpty:=fun xs=>by
    cases xs with
    | nil=>rfl
    | cons x xs=>rw [List.all_cons,a2 x]; rfl
   show Cm _ _ _ (ifE _ _ _ (cmE (.vl (mt k.t lo hi)) (.vl (mt l.t lo' hi')) (.vl (.int ((max lo lo' :Nat):Int))) (.vl (.int ((min hi hi' :Nat):Int))) (.vl .non)))
   by_cases hz:max lo lo' =0
   ·rw [U8 (by rw [et2,decide_eq_true hz])]
    refine .inl ⟨.many k 0 0,by rw [Kd.t]; exact XS rfl Wm rfl rfl,⟨Nat.le_refl _,by omega,h1.2.2⟩,fun x=> ?_⟩
    cases x with
    | tup xs=>
     rw [hht,ZZ,hall,hz]
     cases xs with
     | nil=>simp
     | cons x xs=>simp
    | _=>rw [hnt _ (fun y z=>by cases z)]; rw [Kd.has]
   ·rw [Yb (by rw [et2,decide_eq_false hz])]
    refine .inr ⟨rfl,fun x=> ?_⟩
    cases x with
    | tup xs=>
     rw [hht,hall]
     cases xs with
     | nil=>simp; omega
     | cons x xs=>simp
    | _=>exact hnt _ (fun y z=>by cases z)
theorem Yj {d:Nat} (l:Kd) (hl:l.Ok (d+1)) (n:Nat) (hn:1<=n):(∀ m∈kop l n,m.Ok d)/\((kop l n).length=n->∀ xs:List T,xs.length=n->l.has (.tup xs)=Kd.hass (kop l n) xs)/\((kop l n).length ≠ n->∀ xs:List T,xs.length=n->l.has (.tup xs)=false):=by
 cases l with
 | whole a b=>exact ⟨(fun m hm=>by cases hm),fun z=>absurd z (by show 0 ≠ n; omega),fun _ xs _=>by rw [Kd.has]; rfl⟩
 | pick cs=>exact ⟨(fun m hm=>by cases hm),fun z=>absurd z (by show 0 ≠ n; omega),fun _ xs _=>by rw [Kd.has]⟩
 | row ls=>
  refine ⟨hl.2.2,fun z xs hx=> ?_,fun z xs hx=> ?_⟩
  ·have z:ls.length=n:=z
   rw [jX,hx,z,beq_self_eq_true,Bool.true_and]; rfl
  ·have z:ls.length ≠ n:=z
   rw [jX,hx,beq_eq_false_iff_ne.mpr (Ne.symm z)]; rfl
 | many m lo hi=>
  have ek:kop (.many m lo hi) n=if lo<=n/\n<=hi then List.replicate n m else []:=rfl
  rw [ek]
  by_cases h:lo<=n/\n<=hi
  ·rw [if_pos h]
   refine ⟨fun q hq=>by rw [List.eq_of_mem_replicate hq]; exact hl.2.2,fun z xs hx=> ?_,fun z=>absurd (by rw [List.length_replicate]) z⟩
   rw [ZZ,hx,decide_eq_true h.1,decide_eq_true h.2,Bool.true_and,Bool.true_and,uo,← hx,Y2]
  ·rw [if_neg h]
   refine ⟨(fun q hq=>by cases hq),fun z=>absurd z (by show 0 ≠ n; omega),fun z xs hx=> ?_⟩
   rw [ZZ,hx,Bool.eq_false_iff]
   intro q
   simp only [Bool.and_eq_true,decide_eq_true_eq] at q
   exact h q.1
theorem qJ (ks:List Kd) (x:T) (h:(Kd.row ks).has x=true):∃ xs,x= .tup xs/\xs.length=ks.length/\Kd.hass ks xs=true:=by
 rw [Kd.has] at h
 cases x with
 | tup xs=>
  have h:(xs.length == ks.length && Kd.hass ks xs)=true:=h
  rw [Bool.and_eq_true,beq_iff_eq] at h
  exact ⟨xs,rfl,h.1,h.2⟩
 | _=>cases h
theorem Qk {n d:Nat} {s s' :T} {k l:Kd} (ks ls:List Kd) (m:Nat) (hm1:1<=m) (hm3:m<=3) (hs:jG s= .ok (ks.map Kd.t)) (hs' :jG s' = .ok (ls.map Kd.t)) (hl:ZX s= .ok (.int (ks.length:Int))) (hl' :ZX s' = .ok (.int (ls.length:Int))) (h3:ks.length<=3)
  (H:∀ k∈ks,∀ l∈ls,Cm k l d (S_5 n 0 [k.t,l.t]))
  (hx:∀ x,(k.has x && l.has x)=true->∃ xs,x= .tup xs/\xs.length=m)
  (hk:ks.length=m->∀ xs:List T,xs.length=m->k.has (.tup xs)=Kd.hass ks xs) (hk0:ks.length ≠ m->∀ xs:List T,xs.length=m->k.has (.tup xs)=false)
  (hl1:ls.length=m->∀ xs:List T,xs.length=m->l.has (.tup xs)=Kd.hass ls xs) (hl0:ls.length ≠ m->∀ xs:List T,xs.length=m->l.has (.tup xs)=false) (hone:ks.length=m\/ls.length=m):
  Cm k l (d+1) (S_5 (n+1) 1 [s,s']):=by
 rcases Vf ks ls hs hs' hl hl' h3 H with ⟨cs,a1,a2,a3,a4,a5⟩ | ⟨a1,a2⟩
 ·have hkm:ks.length=m:=by rcases hone with z | z <;> omega
  have hlm:ls.length=m:=by omega
  refine .inl ⟨.row cs,by rw [a1,Kd.t,Kd.ts_map],⟨by omega,by omega,a4⟩,fun x=> ?_⟩
  cases hh:(k.has x && l.has x) with
  | true=>
   obtain ⟨xs,rfl,hxl⟩:=hx x hh
   rw [hk hkm xs hxl,hl1 hlm xs hxl] at hh
   rw [jX,a5 xs (by omega),hh,show (xs.length == cs.length)=true from by rw [beq_iff_eq]; omega]; rfl
  | false=>
   rw [Bool.eq_false_iff]
   intro z
   obtain ⟨xs,rfl,hxl,hc⟩:=qJ cs x z
   rw [hk hkm xs (by omega),hl1 hlm xs (by omega),← a5 xs (by omega),hc] at hh
   cases hh
 ·refine .inr ⟨a1,fun x=> ?_⟩
  rw [Bool.eq_false_iff]
  intro z
  obtain ⟨xs,rfl,hxl⟩:=hx x z
  by_cases hkm:ks.length=m
  ·by_cases hlm:ls.length=m
   ·rw [hk hkm xs hxl,hl1 hlm xs hxl,a2 xs (by omega) (by omega)] at z
    cases z
   ·rw [hl0 hlm xs hxl,Bool.and_false] at z; cases z
  ·rw [hk0 hkm xs hxl] at z; cases z
theorem Kb {n d:Nat} (hn:3*(d+1)<=n+3) (ih:∀ k l:Kd,k.Ok d->l.Ok d->Cm k l d (S_5 (n+1) 0 [k.t,l.t])) (k:Kd) (ls:List Kd) (hk:k.Ok (d+1)) (hl:(Kd.row ls).Ok (d+1)) (hbigk:∀ m lo hi,k= .many m lo hi->hi<=3) {g:En->RS}:
  Cm k (.row ls) (d+1) (zn (zu (ifS (zv eqC (ze ixT (vE 1) (cE (.int 0))) (cE (.str "row"))) (zK (zc 2 (S_5 (n+2) 1) (z9 (zc 2 f_t (z9 (vE 0) (z9 (ap1 ZX (ze ixT (vE 1) (cE (.int 1)))) (zg)))) (z9 (ze ixT (vE 1) (cE (.int 1))) (zg))))) (nxS)) g (en2 k.t (Kd.row ls).t))):=by
 obtain ⟨h1,h3,h4⟩:=hl
 have i1:ze ixT (vE 1) (cE (.int 1)) (en2 k.t (Kd.row ls).t)= .ok (.tup (ls.map Kd.t)):=by rw [zo,v1,bOk,zV,bOk,Kd.t,Kd.ts_map,at1]
 have i0:zv eqC (ze ixT (vE 1) (cE (.int 0))) (cE (.str "row")) (en2 k.t (Kd.row ls).t)= .ok true:=by
  rw [zC,zo,v1,bOk,zV,bOk,Kd.t,at0,bOk,zV,bOk]; rfl
 rw [zr i0]
 show Cm _ _ _ (zc 2 _ _ (en2 k.t (Kd.row ls).t))
 rw [zO,zO,v0,bOk,ZJ,i1,bOk,Jw,List.length_map,bOk,Qj k ls.length h1 hbigk,bOk,bOk]
 obtain ⟨o1,o2,o3⟩:=Yj k hk ls.length h1
 have hk3:(kop k ls.length).length<=3:=by
  cases k with
  | row ks=>exact hk.2.1
  | many m lo hi=>
   have ek:kop (.many m lo hi) ls.length=if lo<=ls.length/\ls.length<=hi then List.replicate ls.length m else []:=rfl
   rw [ek]
   split
   ·rw [List.length_replicate]; exact h3
   ·simp
  | _=>exact Nat.zero_le _
 refine Qk (d:=d) (kop k ls.length) ls ls.length h1 h3 rfl rfl (by rw [Jw,List.length_map]) (by rw [Jw,List.length_map]) hk3 (fun a ha b hb=>ih a b (o1 a ha) (h4 b hb)) (fun x hx=> ?_) o2 o3 (fun _ xs hxl=> ?_) (fun z=>absurd rfl z) (.inr rfl)
 ·obtain ⟨xs,a,b,_⟩:=qJ ls x (Bool.and_eq_true_iff.mp hx).2
  exact ⟨xs,a,b⟩
 ·rw [jX,hxl,beq_self_eq_true,Bool.true_and]
theorem Ql:∀ (d n:Nat),3*d<=n->∀ k l:Kd,k.Ok d->l.Ok d->Cm k l d (S_5 n 0 [k.t,l.t])
 | 0,_,_,_,_,h,_=>h.elim
 | d+1,n+3,hn,k,l,hk,hl=>by
  have ih:=Ql d (n+1) (by omega)
  have e:S_5 (n+3) 0 [k.t,l.t]=zn (b_5 f_t (S_5 (n+2) 1) f_w f_v (S_5 (n+2) 2) (en2 k.t l.t)):=by rw [S_5]; rfl
  rw [e]
  unfold b_5
  have r0:∀ (x w:Str) (r:List T),l.t= .tup (.str x :: r)->zv eqC (ze ixT (vE 1) (cE (.int 0))) (cE (.str w)) (en2 k.t l.t)= .ok (x == w):=fun x w r h=>by
   rw [zC,zo,v1,bOk,zV,bOk,h,at0,bOk,zV,bOk]; rfl
  have n0:∀ (x y:Str) (r q:List T),k.t= .tup (.str x :: r)->l.t= .tup (.str y :: q)->zv neC (ze ixT (vE 0) (cE (.int 0))) (ze ixT (vE 1) (cE (.int 0))) (en2 k.t l.t)= .ok (!(x == y)):=fun x y r q h1 h2=>by
   rw [zC,zo,v0,bOk,zV,bOk,h1,at0,bOk,zo,v1,bOk,zV,bOk,h2,at0,bOk]; rfl
  have c0:∀ (x w:Str) (r:List T),k.t= .tup (.str x :: r)->zv eqC (ze ixT (vE 0) (cE (.int 0))) (cE (.str w)) (en2 k.t l.t)= .ok (x == w):=fun x w r h=>by rw [h]; exact cs0
  have hbig:∀ m lo hi,l= .many m lo hi->hi<=3:=fun m lo hi h=>by rw [h] at hl; exact hl.2.1
  have hbigk:∀ m lo hi,k= .many m lo hi->hi<=3:=fun m lo hi h=>by rw [h] at hk; exact hk.2.1
  cases k with
  | row ks=>
   rw [zr (by rw [Kd.t]; exact cs0)]
   have hko:=hk
   obtain ⟨h1,h3,h4⟩:=hk
   have el:zc 2 (S_5 (n+2) 1) (z9 (ze ixT (vE 0) (cE (.int 1))) (z9 (zc 2 f_t (z9 (vE 1) (z9 (ap1 ZX (ze ixT (vE 0) (cE (.int 1)))) (zg)))) (zg))) (frz (en2 (Kd.row ks).t l.t))=S_5 (n+2) 1 [.tup (ks.map Kd.t), .tup ((kop l ks.length).map Kd.t)]:=by
    show zc 2 _ _ (en2 (Kd.row ks).t l.t)=_
    have i1:ze ixT (vE 0) (cE (.int 1)) (en2 (Kd.row ks).t l.t)= .ok (.tup (ks.map Kd.t)):=by rw [Kd.t,Kd.ts_map]; exact Wm
    rw [zO,i1,bOk,zO,v1,bOk,ZJ,i1,bOk,Jw,List.length_map,bOk,Qj l ks.length h1 hbig,bOk]
   rw [el]
   obtain ⟨o1,o2,o3⟩:=Yj l hl ks.length h1
   refine Qk (d:=d) ks (kop l ks.length) ks.length h1 h3 rfl rfl (by rw [Jw,List.length_map]) (by rw [Jw,List.length_map]) h3 (fun a ha b hb=>ih a b (h4 a ha) (o1 b hb)) (fun x hx=> ?_) (fun _ xs hxl=> ?_) (fun z=>absurd rfl z) o2 o3 (.inl rfl)
   ·obtain ⟨xs,a,b,_⟩:=qJ ks x (Bool.and_eq_true_iff.mp hx).1
    exact ⟨xs,a,b⟩
   ·rw [jX,hxl,beq_self_eq_true,Bool.true_and]
  | whole a b=>
   rw [zj (zD (by rw [Kd.t]; exact cs0))]
   cases l with
   | row ls=>exact Kb hn ih (.whole a b) ls hk hl hbigk
   | whole c c' =>
    rw [zj (zD (r0 _ _ _ (by rw [Kd.t]))),zj (zD ((n0 _ _ _ _ (by rw [Kd.t]) (by rw [Kd.t])).trans rfl)),zr (c0 _ _ _ (by rw [Kd.t]))]
    show Cm _ _ _ (zc 2 _ _ (en2 (Kd.whole a b).t (Kd.whole c c').t))
    rw [zO,v0,bOk,v1,bOk]; exact Yf a b c c' hk hl
   | pick cs=>
    rw [zj (zD (r0 _ _ _ (by rw [Kd.t]))),zr ((n0 _ _ _ _ (by rw [Kd.t]) (by rw [Kd.t])).trans rfl)]
    exact .inr ⟨rfl,fun x=>by rw [Kd.has,Kd.has]; cases x <;> simp [inR]⟩
   | many m lo hi=>
    rw [zj (zD (r0 _ _ _ (by rw [Kd.t]))),zr ((n0 _ _ _ _ (by rw [Kd.t]) (by rw [Kd.t])).trans rfl)]
    exact .inr ⟨rfl,fun x=>by rw [Kd.has,Kd.has]; cases x <;> simp [inR]⟩
  | pick cs=>
   rw [zj (zD (by rw [Kd.t]; exact cs0))]
   cases l with
   | row ls=>exact Kb hn ih (.pick cs) ls hk hl hbigk
   | whole c c' =>
    rw [zj (zD (r0 _ _ _ (by rw [Kd.t]))),zr ((n0 _ _ _ _ (by rw [Kd.t]) (by rw [Kd.t])).trans rfl)]
    exact .inr ⟨rfl,fun x=>by rw [Kd.has,Kd.has]; cases x <;> simp [inR]⟩
   | pick es=>
    rw [zj (zD (r0 _ _ _ (by rw [Kd.t]))),zj (zD ((n0 _ _ _ _ (by rw [Kd.t]) (by rw [Kd.t])).trans rfl)),zj (zD (c0 _ _ _ (by rw [Kd.t]))),zr (c0 _ _ _ (by rw [Kd.t]))]
    show Cm _ _ _ (zc 2 _ _ (en2 (Kd.pick cs).t (Kd.pick es).t))
    rw [zO,v0,bOk,v1,bOk]; exact qH cs es hk hl
   | many m lo hi=>
    rw [zj (zD (r0 _ _ _ (by rw [Kd.t]))),zr ((n0 _ _ _ _ (by rw [Kd.t]) (by rw [Kd.t])).trans rfl)]
    exact .inr ⟨rfl,fun x=>by rw [Kd.has,Kd.has]; cases x <;> simp⟩
  | many q lo hi=>
   rw [zj (zD (by rw [Kd.t]; exact cs0))]
   cases l with
   | row ls=>exact Kb hn ih (.many q lo hi) ls hk hl hbigk
   | whole c c' =>
    rw [zj (zD (r0 _ _ _ (by rw [Kd.t]))),zr ((n0 _ _ _ _ (by rw [Kd.t]) (by rw [Kd.t])).trans rfl)]
    exact .inr ⟨rfl,fun x=>by rw [Kd.has,Kd.has]; cases x <;> simp [inR]⟩
   | pick es=>
    rw [zj (zD (r0 _ _ _ (by rw [Kd.t]))),zr ((n0 _ _ _ _ (by rw [Kd.t]) (by rw [Kd.t])).trans rfl)]
    exact .inr ⟨rfl,fun x=>by rw [Kd.has,Kd.has]; cases x <;> simp⟩
   | many m lo' hi' =>
    rw [zj (zD (r0 _ _ _ (by rw [Kd.t]))),zj (zD ((n0 _ _ _ _ (by rw [Kd.t]) (by rw [Kd.t])).trans rfl)),zj (zD (c0 _ _ _ (by rw [Kd.t]))),zj (zD (c0 _ _ _ (by rw [Kd.t]))),Zq]
    show Cm _ _ _ (zc 2 _ _ (en2 (Kd.many q lo hi).t (Kd.many m lo' hi').t))
    rw [zO,v0,bOk,v1,bOk]
    exact qI q m lo hi lo' hi' hk hl (ih q m hk.2.2 hl.2.2)
theorem wD {k:Kd} (hk:k.Ok 3):f_e [k.t]= .ok .non:=by
 have hi:=Y3 3 k hk
 have e:f_e [k.t]=zn (b_e f_4 [.vl k.t]):=rfl
 have ec:WW (wI (zc 1 f_4 (z9 (vE 0) (zg)))) [.vl k.t]= .ok false:=by
  rw [Wf,Jx,Zh,v0,bOk,U3 k.t (ww 3 _ hi).so,bOk,J8,bOk,hi]; rfl
 rw [e,b_e,zD ec]; rfl
theorem wE {k:Kd} (hk:k.Ok 3) (h5:k.all.length<=500):f_s [k.t]= .ok (.lst k.all):=by
 show zn (b_s f_e (f_1 20) (f_d 20) [.vl k.t, .un])=_
 have e1:zS 1 (zc 1 (f_1 20) (z9 (vE 0) (zg))) [.vl k.t, .un]= .nx (en2 k.t (.int (k.all.length:Int))):=by
  rw [zP (t:= .int (k.all.length:Int))]
  ·rfl
  ·rw [Zh,v0,bOk,ZN (by omega) hk]
 have e2:zv gtC (vB 1) (cE (.int 500)) (en2 k.t (.int (k.all.length:Int)))= .ok false:=by
  rw [zC,w1,bOk,zV,bOk,Xn,decide_eq_false (by omega)]
 have er:j5 (vE 1) (en2 k.t (.int (k.all.length:Int)))= .ok (rng 0 k.all.length):=by
  rw [Vc (j:=(k.all.length:Int)) rfl ⟨by omega,by omega⟩,Int.toNat_natCast]
 have ec:Z3 (zG 0) Z9 (zc 2 (f_d 20) (z9 (vE 1) (z9 (vE 0) (zg)))) 1 [0] (en2 k.t (.int (k.all.length:Int))) (rng 0 k.all.length)= .ok ((rng 0 k.all.length).map fun t=>match t with | .int i=>(k.all[i.toNat]?).getD .non | y=>y):=
  Zb _ (by unfold rng; rw [List.length_map,List.length_range]; have:bnd=16777216:=rfl; omega) fun t ht=>by
   unfold rng at ht
   obtain ⟨i,hi,rfl⟩:=List.mem_map.mp ht
   obtain ⟨x,hx⟩:=jM (List.mem_range.mp hi)
   show zc 2 _ _ (en2 (.int ((0:Int)+(i:Int))) k.t)=R.ok ((k.all[((0:Int)+(i:Int)).toNat]?).getD .non)
   rw [show ((0:Int)+(i:Int))=(i:Int) by omega,zO,v1,bOk,v0,bOk,Xm hk hx,Int.toNat_natCast,hx]
   rfl
 rw [b_s,zj (wC (t:= .non) (by rw [Zh,v0,bOk,wD hk])),zj e1,zj (zD e2),Zq]
 show Z0 _ _ _ _ _ _ (en2 k.t (.int (k.all.length:Int)))=_
 rw [Z4,er,bOk,ec,bOk]
 exact congrArg (fun l=>R.ok (T.lst l)) (all_map k)
theorem Qm {k:Kd} (hk:k.Ok 3):f_q [k.t]= .ok (.int (k.all.length:Int)):=by
 show zn (b_q f_e (f_1 20) [.vl k.t])=_
 rw [b_q,zj (wC (t:= .non) (by rw [Zh,v0,bOk,wD hk])),Zq]
 show zc 1 _ _ [.vl k.t]=_
 rw [Zh,v0,bOk,ZN (by omega) hk]
theorem Xp {xs:List T} {k:Nat}:slT (.tup xs) none (some (k:Int))= .ok (.tup (xs.take k)):=by
 show R.ok (T.tup (cut xs none (some (k:Int))))=_
 have:cut xs none (some (k:Int))=xs.take k:=by
  unfold cut
  rw [HT.sIx_none,HT.sIx_nat]
  simp only [List.drop_zero,Nat.sub_zero]
  rw [List.take_eq_take_iff]
  omega
 rw [this]
theorem Kc (j:Int):Z2 (.int 7) (.int j)= .ok (.int (7*j)):=yN _ _ (.inl ⟨by decide,by decide⟩)
abbrev Led (c:List T->R T) (ns:List Int) (d:Nat) (k:Kd) (a:Int):Prop:=∃ q:Kd,c [scr ns, .int a,k.t]= .ok q.t/\q.Ok d/\∀ x,q.has x=true->k.has x=true
abbrev leE (c:List T->R T):En->R T:=zc 3 c (z9 (vE 2) (z9 (ze zz (vE 3) (ze Z2 (cE (.int 7)) (vE 0))) (z9 (vE 1) (zg))))
theorem uA {c:List T->R T} {ns:List Int} {d:Nat} {a:Int} (ha:0<=a):∀ (ks:List Kd) (i:Nat) (x y:Sl),(∀ k∈ks,∀ b,0<=b->Led c ns d k b)->
  ∃ qs:List Kd,zF (Zd 0 1) Z9 (leE c) ((ks.zipIdx i).map fun p=>T.tup [.int (p.2:Nat),p.1.t]) [x,y, .vl (scr ns), .vl (.int a)]= .ok (qs.map Kd.t)/\qs.length=ks.length/\(∀ q∈qs,q.Ok d)/\∀ xs,Kd.hass qs xs=true->Kd.hass ks xs=true
 | [],_,_,_,_=>⟨[],rfl,rfl,(fun q hq=>by cases hq),fun xs h=>h⟩
 | k :: ks,i,x,y,h=>by
  obtain ⟨q,e1,e2,e3⟩:=h k List.mem_cons_self (a+7*(i:Int)) (by omega)
  obtain ⟨qs,f1,f2,f3,f4⟩:=uA ha ks (i+1) (.vl (.int (i:Nat))) (.vl k.t) fun k' hk' =>h k' (List.mem_cons_of_mem _ hk')
  have e0:zF (Zd 0 1) Z9 (leE c) (((k :: ks).zipIdx i).map fun p=>T.tup [.int (p.2:Nat),p.1.t]) [x,y, .vl (scr ns), .vl (.int a)]=(leE c [.vl (.int (i:Nat)), .vl k.t, .vl (scr ns), .vl (.int a)]).bind fun v=>(zF (Zd 0 1) Z9 (leE c) ((ks.zipIdx (i+1)).map fun p=>T.tup [.int (p.2:Nat),p.1.t]) [.vl (.int (i:Nat)), .vl k.t, .vl (scr ns), .vl (.int a)]).bind fun vs=> .ok (v :: vs):=rfl
  have ee:leE c [.vl (.int (i:Nat)), .vl k.t, .vl (scr ns), .vl (.int a)]= .ok q.t:=by
   unfold leE
   rw [Zu,v2,bOk,zo,v3,bOk,zo,zV,bOk,v0,bOk,Kc,bOk,Zg,bOk,v1,bOk,e1]
  refine ⟨q :: qs,by rw [e0,ee,bOk,f1,bOk,List.map_cons],by rw [List.length_cons,List.length_cons,f2],fun z hz=> ?_,fun xs hx=> ?_⟩
  ·rcases List.mem_cons.mp hz with rfl | hz
   ·exact e2
   ·exact f3 z hz
  ·cases xs with
   | nil=>rw [Kd.hass]
   | cons x xs=>
    rw [Kd.hass] at hx ⊢
    simp only [Bool.and_eq_true] at hx ⊢
    exact ⟨e3 x hx.1,f4 xs hx.2⟩
abbrev lE (ns:List Int) (a:Int) (t:T) (x:Sl):En:=[.vl (scr ns), .vl (.int a), .vl t,x]
theorem kx0 {ns:List Int} {a:Int} {x w:Str} {r:List T} {z:Sl}:zv eqC (ze ixT (vE 2) (cE (.int 0))) (cE (.str w)) (lE ns a (.tup (.str x :: r)) z)= .ok (x == w):=by
 rw [zC,zo,v2,bOk,zV,bOk,at0,bOk,zV,bOk]; rfl
theorem kx1 {ns:List Int} {a:Int} {x y:T} {r:List T} {z:Sl}:ze ixT (vE 2) (cE (.int 1)) (lE ns a (.tup (x :: y :: r)) z)= .ok y:=by rw [zo,v2,bOk,zV,bOk,at1]
theorem kx2 {ns:List Int} {a:Int} {x y w:T} {r:List T} {z:Sl}:ze ixT (vE 2) (cE (.int 2)) (lE ns a (.tup (x :: y :: w :: r)) z)= .ok w:=by rw [zo,v2,bOk,zV,bOk,at2]
theorem kx3 {ns:List Int} {a:Int} {x y w u:T} {r:List T} {z:Sl}:ze ixT (vE 2) (cE (.int 3)) (lE ns a (.tup (x :: y :: w :: u :: r)) z)= .ok u:=by rw [zo,v2,bOk,zV,bOk,at3]
abbrev pk2:En->R T:=zc 3 f_3 (z9 (vE 0) (z9 (vE 1) (z9 (cE (.int 2)) (zg))))
theorem Xq (ns:List Int) {a:Int} (ha:0<=a):∃ p:Int,(p=0\/p=1)/\∀ t z,pk2 (lE ns a t z)= .ok (.int p):=by
 obtain ⟨p,hp,p0,p1⟩:=Za ns a 2 ha (by omega)
 refine ⟨p,by omega,fun t z=> ?_⟩
 unfold pk2
 rw [Zu,v0,bOk,v1,bOk,zV,bOk,hp]
theorem uB (ns:List Int):∀ (d n:Nat),d<=n->∀ (k:Kd) (a:Int),0<=a->k.Ok d->Led (S_b n 0) ns d k a
 | 0,_,_,_,_,_,h=>h.elim
 | d+1,n+1,hn,k,a,ha,h=>by
  have ih:=uB ns d n (by omega)
  obtain ⟨p,hp,ep⟩:=Xq ns ha
  have e:S_b (n+1) 0 [scr ns, .int a,k.t]=zn (b_b f_3 (S_b n 0) (lE ns a k.t .un)):=by rw [S_b]; rfl
  unfold Led
  rw [e]
  unfold b_b
  cases k with
  | whole lo hi=>
   obtain ⟨h1,h2,h3⟩:=h
   have e3:zS 3 (ze zz (ze ixT (vE 2) (cE (.int 1))) pk2) (lE ns a (Kd.whole lo hi).t .un)= .nx (lE ns a (Kd.whole lo hi).t (.vl (.int (lo+p)))):=by
    rw [zP (t:= .int (lo+p))]
    ·rfl
    ·rw [zo,ep,Kd.t,kx1,bOk,bOk,Zg]
   have er:Zo (z9 (cE (.str "whole")) (z9 (ze jC (vE 3) (ze ixT (vE 2) (cE (.int 2)))) (z9 (ze ixT (vE 2) (cE (.int 2))) (zg)))) (lE ns a (Kd.whole lo hi).t (.vl (.int (lo+p))))= .ok (.tup [.str "whole", .int (min (lo+p) hi), .int hi]):=
    K4 rfl (qG rfl (by rw [Kd.t]; exact kx2)) (by rw [Kd.t]; exact kx2)
   refine ⟨.whole (min (lo+p) hi) hi, ?_,⟨by omega,by omega,h3⟩,fun x hx=> ?_⟩
   ·unfold pk2 at e3
    rw [jr (t:= .tup [.str "whole", .int (min (lo+p) hi), .int hi]) (by rw [qz (by rw [Kd.t]; exact kx0),zj e3]; exact Zl er),Kd.t]; rfl
   ·rw [Kd.has] at hx ⊢
    obtain ⟨i,rfl⟩:=jT hx
    have hx:(decide (min (lo+p) hi<=i) && decide (i<=hi))=true:=hx
    show (decide (lo<=i) && decide (i<=hi))=true
    simp only [Bool.and_eq_true,decide_eq_true_eq] at hx ⊢
    omega
  | pick cs=>
   obtain ⟨h1,h4,hc,hd⟩:=h
   have hm:∃ m:Nat,1<=m/\m<=cs.length/\(m:Int)=max 1 ((cs.length:Int) - p):=⟨(max 1 ((cs.length:Int) - p)).toNat,by omega,by omega,by omega⟩
   obtain ⟨m,m1,m2,m3⟩:=hm
   have e1:ze ixT (vE 2) (cE (.int 1)) (lE ns a (Kd.pick cs).t .un)= .ok (.tup (cs.map ZO)):=by rw [Kd.t]; exact kx1
   have es:slE (ze ixT (vE 2) (cE (.int 1))) noO (UX (ze wn (cE (.int 1)) (ze WA (ap1 ZX (ze ixT (vE 2) (cE (.int 1)))) pk2))) (lE ns a (Kd.pick cs).t .un)= .ok (.tup ((cs.take m).map ZO)):=by
    have ex:ze wn (cE (.int 1)) (ze WA (ap1 ZX (ze ixT (vE 2) (cE (.int 1)))) pk2) (lE ns a (Kd.pick cs).t .un)= .ok (.int (m:Int)):=by
     rw [m3]
     exact Ve rfl (by rw [zo,ZJ,e1,bOk,Jw,bOk,ep,bOk,List.length_map]; rfl)
    rw [K2,e1,bOk,gP,bOk,Xa ex,bOk,Xp,List.map_take]
   refine ⟨.pick (cs.take m), ?_,⟨by rw [List.length_take]; omega,by rw [List.length_take]; omega,fun c hc' =>hc c (List.mem_of_mem_take hc'), ?_⟩,fun x hx=> ?_⟩
   ·unfold pk2 at es
    rw [zj (zD (by rw [Kd.t]; exact kx0)),zr (by rw [Kd.t]; exact kx0)]
    show Zo _ (lE ns a (Kd.pick cs).t .un)=_
    rw [Uh rfl es,Kd.t]
   ·intro j w hj hmem
    have e0:((cs.take m).map (·.1))=(cs.map (·.1)).take m:=by rw [List.map_take]
    rw [e0] at hj hmem
    have hjm:j < m:=by
     have:=(List.getElem?_eq_some_iff.mp hj).1
     rw [List.length_take] at this; omega
    rw [List.getElem?_take,if_pos hjm] at hj
    rw [List.take_take,Nat.min_eq_left (by omega)] at hmem
    exact hd j w hj hmem
   ·rw [Kd.has] at hx ⊢
    cases x with
    | str y=>
     have hx:(cs.take m).any (fun c=>c.1 == y)=true:=hx
     show cs.any (fun c=>c.1 == y)=true
     rw [List.any_eq_true] at hx ⊢
     obtain ⟨c,hc',e⟩:=hx
     exact ⟨c,List.mem_of_mem_take hc',e⟩
    | _=>cases hx
  | row ks=>
   obtain ⟨h1,h3,h4⟩:=h
   obtain ⟨qs,f1,f2,f3,f4⟩:=uA (c:=S_b n 0) (ns:=ns) (d:=d) ha ks 0 .un .un fun k hk b hb=>ih k b hb (h4 k hk)
   have ei:W8 (ze ixT (vE 2) (cE (.int 1))) (lE ns a (Kd.row ks).t .un)= .ok ((ks.zipIdx).map fun p=>T.tup [.int (p.2:Nat),p.1.t]):=by
    unfold W8
    rw [Kd.t,Kd.ts_map,kx1,bOk]
    show R.ok (jv (ks.map Kd.t))=_
    unfold jv
    rw [List.zipIdx_map,List.map_map]; rfl
   have ec:ap1 qY (Z0 (W8 (ze ixT (vE 2) (cE (.int 1)))) (Zd 0 1) Z9 (leE (S_b n 0)) 2 [0,1]) (lE ns a (Kd.row ks).t .un)= .ok (.tup (qs.map Kd.t)):=by
    rw [ZJ,Z4,ei,bOk]
    unfold Z3
    rw [if_pos (by rw [List.length_map,List.length_zipIdx]; exact Nat.le_trans h3 (by decide))]
    show R.bind (R.bind (quiet (zF _ _ _ _ [.un, .un, .vl (scr ns), .vl (.int a)])) _) _=_
    rw [f1]; rfl
   refine ⟨.row qs, ?_,⟨by omega,by omega,f3⟩,fun x hx=> ?_⟩
   ·rw [zj (zD (by rw [Kd.t]; exact kx0)),zj (zD (by rw [Kd.t]; exact kx0)),zr (by rw [Kd.t]; exact kx0)]
    show Zo _ (lE ns a (Kd.row ks).t .un)=_
    rw [Uh rfl ec]
    rw [Kd.t,Kd.ts_map]
   ·obtain ⟨xs,rfl,hl,hh⟩:=qJ qs x hx
    rw [jX,f4 xs hh,hl,f2,beq_self_eq_true]; rfl
  | many k lo hi=>
   obtain ⟨h1,h3,h4⟩:=h
   obtain ⟨q,q1,q2,q3⟩:=ih k (a+3) (by omega) h4
   obtain ⟨p',hp'⟩:∃ p' :Nat,p=(p' :Int):=⟨p.toNat,by omega⟩
   have em:ze jC (ze zz (ze ixT (vE 2) (cE (.int 2))) pk2) (ze ixT (vE 2) (cE (.int 3))) (lE ns a (Kd.many k lo hi).t .un)= .ok (.int ((min (lo+p') hi:Nat):Int)):=by
    rw [show ((min (lo+p') hi:Nat):Int)=min ((lo:Int)+p) (hi:Int) by omega]
    exact qG (by rw [zo,ep,Kd.t,kx2,bOk,bOk,Zg]) (by rw [Kd.t]; exact kx3)
   have ec:zc 3 (S_b n 0) (z9 (vE 0) (z9 (ze zz (vE 1) (cE (.int 3))) (z9 (ze ixT (vE 2) (cE (.int 1))) (zg)))) (lE ns a (Kd.many k lo hi).t .un)= .ok q.t:=by
    rw [Zu,v0,bOk,zo,v1,bOk,zV,bOk,Zg,bOk,Kd.t,kx1,bOk,q1]
   refine ⟨.many q (min (lo+p') hi) hi, ?_,⟨by omega,h3,q2⟩,fun x hx=> ?_⟩
   ·unfold pk2 at em
    rw [zj (zD (by rw [Kd.t]; exact kx0)),zj (zD (by rw [Kd.t]; exact kx0)),zj (zD (by rw [Kd.t]; exact kx0)),Zq]
    show Zo _ (lE ns a (Kd.many k lo hi).t .un)=_
    rw [XS rfl ec em (by rw [Kd.t]; exact kx3)]
    rw [Kd.t]
   ·cases x with
    | tup xs=>
     rw [ZZ] at hx ⊢
     simp only [Bool.and_eq_true,decide_eq_true_eq,List.all_eq_true] at hx ⊢
     exact ⟨⟨by omega,hx.1.2⟩,fun y hy=>q3 y (hx.2 y hy)⟩
    | _=>rw [Kd.has] at hx; cases hx
def S (l:List Nat):Str:=⟨l.toArray⟩
theorem Xr (l:List Nat):(S l).cps.toList=l:=by simp [S]
theorem Ke (l:List Nat):(S l).length=l.length:=by simp [S,Str.length]
theorem U9 (a b:List Nat):S a++S b=S (a++b):=Str.ext' (by simp [S,Str.cps_append])
theorem Vs (x:Str):S x.cps.toList=x:=Str.ext' (by simp [S])
theorem Yk {c:Nat}:∀ {a b r s:List Nat},c ∉ a->c ∉ b->a++c :: r=b++c :: s->a=b/\r=s
 | [],[],_,_,_,_,h=>⟨rfl,by simpa using h⟩
 | [],y :: b,_,_,_,hb,h=>by
  injection h with h1 h2
  exact absurd (h1 ▸ List.mem_cons_self) hb
 | x :: a,[],_,_,ha,_,h=>by
  injection h with h1 h2
  exact absurd (h1 ▸ List.mem_cons_self) ha
 | x :: a,y :: b,_,_,ha,hb,h=>by
  injection h with h1 h2
  obtain ⟨e1,e2⟩:=Yk (fun z=>ha (List.mem_cons_of_mem _ z)) (fun z=>hb (List.mem_cons_of_mem _ z)) h2
  exact ⟨by rw [h1,e1],e2⟩
def nl (i:Int):List Nat:=(vP i).cps.toList
theorem XV (i:Int):vP i=S (nl i):=(Vs _).symm
def nOk (i:Int):Bool:=decide ((nl i).length<=3) && !(nl i).isEmpty && (nl i).all (fun c=>c == 45 || (decide (48<=c) && decide (c<=57))) && decide (rdI (vP i)=some i)
theorem Kf:∀ k < 41,nOk ((k:Nat) - 20:Int)=true:=by decide+kernel
theorem Vt {i:Int} (h1: -20<=i) (h2:i<=20):(nl i).length<=3/\nl i ≠ []/\(∀ c∈nl i,c=45\/(48<=c/\c<=57))/\rdI (vP i)=some i:=by
 have:=Kf (i+20).toNat (by omega)
 rw [show (((i+20).toNat:Nat) - 20:Int)=i by omega] at this
 unfold nOk at this
 simp at this
 exact ⟨this.1.1.1,this.1.1.2,this.1.2,this.2⟩
theorem uC {x:Str} (h:Zk (.str x)=true):x.cps.toList.length<=3:=by
 have h:(decide (1<=x.length) && decide (x.length<=3) && x.cps.toList.all Ze)=true:=h
 rw [Bool.and_eq_true,Bool.and_eq_true] at h
 have:=of_decide_eq_true h.1.2
 simpa [Str.length] using this
theorem Xs {i:Int} (h:i.natAbs < 1000000):txO (.int i)=some (S (nl i)):=by rw [← XV]; exact if_pos h
theorem wF {x:Str} (h:Zk (.str x)=true):∀ c∈x.cps.toList,97<=c/\c<=122:=by
 have h:(decide (1<=x.length) && decide (x.length<=3) && x.cps.toList.all Ze)=true:=h
 rw [Bool.and_eq_true] at h
 intro c hc
 have:=List.all_eq_true.mp h.2 c hc
 unfold Ze at this
 simp at this
 exact this
def Wt:Nat->T->Prop
 | 0,_=>False
 | d+1,x=>(∃ i:Int,x= .int i/\ -20<=i/\i<=20)\/(∃ w:Str,x= .str w/\Zk (.str w)=true)\/∃ xs:List T,x= .tup xs/\xs.length<=3/\∀ y∈xs,Wt d y
theorem Yl:∀ (d:Nat) (k:Kd) (x:T),k.Ok d->k.has x=true->Wt d x
 | 0,_,_,h,_=>h.elim
 | d+1, .whole lo hi,x,h,hx=>by
  rw [Kd.has] at hx
  obtain ⟨i,rfl⟩:=jT hx
  have hx:(decide (lo<=i) && decide (i<=hi))=true:=hx
  rw [Bool.and_eq_true,decide_eq_true_eq,decide_eq_true_eq] at hx
  have h1:=h.1
  have h3:=h.2.2
  exact .inl ⟨i,rfl,by omega,by omega⟩
 | d+1, .pick cs,x,h,hx=>by
  rw [Kd.has] at hx
  dsimp only at hx
  split at hx
  ·rename_i y
   rw [List.any_eq_true] at hx
   obtain ⟨c,hc,e⟩:=hx
   rw [← eq_of_beq e]
   exact .inr (.inl ⟨c.1,rfl,(h.2.2.1 c hc).1⟩)
  ·cases hx
 | d+1, .row ks,x,h,hx=>by
  rw [Kd.has] at hx
  dsimp only at hx
  split at hx
  ·rename_i xs
   rw [Bool.and_eq_true,beq_iff_eq] at hx
   refine .inr (.inr ⟨xs,rfl,by rw [hx.1]; exact h.2.1,fun y hy=> ?_⟩)
   obtain ⟨k,hk,hh⟩:=wB ks xs hx.1 hx.2 y hy
   exact Yl d k y (h.2.2 k hk) hh
  ·cases hx
 | d+1, .many k lo hi,x,h,hx=>by
  rw [Kd.has] at hx
  dsimp only at hx
  split at hx
  ·rename_i xs
   rw [Bool.and_eq_true,Bool.and_eq_true,decide_eq_true_eq,decide_eq_true_eq,List.all_eq_true] at hx
   exact .inr (.inr ⟨xs,rfl,Nat.le_trans hx.1.2 h.2.1,fun y hy=>Yl d k y h.2.2 (hx.2 y hy)⟩)
  ·cases hx
theorem Kg {i:Int} (h1: -20<=i) (h2:i<=20) {f:En->R T} {ρ:En} (h:f ρ= .ok (.int i)):ap1 Q6 f ρ= .ok (.str (S (nl i))):=by
 rw [ZJ,h,bOk]
 unfold Q6
 rw [Xs (by omega)]
theorem Kh {w:Str} (hw:Zk (.str w)=true) {f:En->R T} {ρ:En} (h:f ρ= .ok (.str w)):ap1 Q6 f ρ= .ok (.str (S w.cps.toList)):=by
 have hl:=uC hw
 have e0:txO (.str w)=some (S w.cps.toList):=by rw [Vs]; exact if_pos (by simp [Str.length] at hl ⊢; omega)
 rw [ZJ,h,bOk]
 unfold Q6
 rw [e0]
theorem Xt {i j:Int} (h1: -20<=i) (h2:i<=20) (h3: -20<=j) (h4:j<=20) (h:nl i=nl j):i=j:=by
 have e1:=(Vt h1 h2).2.2.2
 have e2:=(Vt h3 h4).2.2.2
 rw [XV,h,← XV,e2] at e1
 exact (Option.some.inj e1).symm
mutual
def rx:T->List Nat
 | .int i=>nl i
 | .str x=>39 :: (x.cps.toList++[39])
 | .tup xs=>40 :: rb xs
 | _=>[]
def rb:List T->List Nat
 | []=>[41]
 | x :: xs=>rx x++rc xs true
def rc:List T->Bool->List Nat
 | [],one=>if one then [44,41] else [41]
 | x :: xs,_=>44 :: 32 :: (rx x++rc xs false)
end
theorem Ym (i:Int):rx (.int i)=nl i:=by rw [rx]
theorem qK (x:Str):rx (.str x)=39 :: (x.cps.toList++[39]):=by rw [rx]
theorem Ui (xs:List T):rx (.tup xs)=40 :: rb xs:=by rw [rx]
def Del (r:List Nat):Prop:=∀ c q,r=c :: q->c=44\/c=41
theorem uD (xs:List T) (b:Bool) (r:List Nat):Del (rc xs b++r):=fun c q h=>by
 cases xs with
 | nil=>
  rw [rc] at h
  cases b with
  | true=>injection h with h1; exact .inl h1.symm
  | false=>injection h with h1; exact .inr h1.symm
 | cons x xs=>rw [rc] at h; injection h with h1; exact .inl h1.symm
def dg (c:Nat):Bool:=c == 45 || (decide (48<=c) && decide (c<=57))
theorem Yn:∀ (a r:List Nat),(∀ c∈a,dg c=true)->(∀ c q,r=c :: q->dg c=false)->(a++r).takeWhile dg=a
 | [],r,_,h=>by
  cases r with
  | nil=>rfl
  | cons c q=>rw [List.nil_append,List.takeWhile_cons,h c q rfl]; rfl
 | c :: a,r,h1,h2=>by
  rw [List.cons_append,List.takeWhile_cons,h1 c List.mem_cons_self,Yn a r (fun x hx=>h1 x (List.mem_cons_of_mem _ hx)) h2]; rfl
theorem Xu {i:Int} (h1: -20<=i) (h2:i<=20):∀ c∈nl i,dg c=true:=fun c hc=>by
 have:=(Vt h1 h2).2.2.1 c hc
 unfold dg
 simp
 omega
theorem Qn {r:List Nat} (h:Del r):∀ c q,r=c :: q->dg c=false:=fun c q e=>by
 rcases h c q e with rfl | rfl <;> decide
theorem qL {i:Int} (h1: -20<=i) (h2:i<=20):∃ c q,nl i=c :: q/\c ≠ 39/\c ≠ 40:=by
 obtain ⟨_,hne,hch,_⟩:=Vt h1 h2
 cases e:nl i with
 | nil=>exact absurd e hne
 | cons c q=>
  have:=hch c (by rw [e]; exact List.mem_cons_self)
  exact ⟨c,q,rfl,by omega,by omega⟩
abbrev RxI (d:Nat):Prop:=∀ (x y:T) (r s:List Nat),Wt d x->Wt d y->Del r->Del s->rx x++r=rx y++s->x=y/\r=s
theorem Qo {d:Nat} (ih:RxI d):∀ (xs ys:List T) (b:Bool) (r s:List Nat),(∀ x∈xs,Wt d x)->(∀ y∈ys,Wt d y)->rc xs b++r=rc ys b++s->xs=ys/\r=s
 | [],[],b,r,s,_,_,h=>⟨rfl,List.append_cancel_left h⟩
 | [],y :: ys,b,r,s,_,_,h=>by
  rw [rc,rc] at h
  cases b with
  | true=>injection h with _ h; injection h with h; cases h
  | false=>injection h with h; cases h
 | x :: xs,[],b,r,s,_,_,h=>by
  rw [rc,rc] at h
  cases b with
  | true=>injection h with _ h; injection h with h; cases h
  | false=>injection h with h; cases h
 | x :: xs,y :: ys,b,r,s,hx,hy,h=>by
  rw [rc,rc] at h
  injection h with _ h
  injection h with _ h
  have h:(rx x++rc xs false)++r=(rx y++rc ys false)++s:=h
  rw [List.append_assoc,List.append_assoc] at h
  obtain ⟨e1,e2⟩:=ih x y _ _ (hx x List.mem_cons_self) (hy y List.mem_cons_self) (uD _ _ _) (uD _ _ _) h
  obtain ⟨e3,e4⟩:=Qo ih xs ys false r s (fun z hz=>hx z (List.mem_cons_of_mem _ hz)) (fun z hz=>hy z (List.mem_cons_of_mem _ hz)) e2
  exact ⟨by rw [e1,e3],e4⟩
theorem Xv {d:Nat} {x:T} (h:Wt d x):∃ c q,rx x=c :: q/\c ≠ 41:=by
 cases d with
 | zero=>exact h.elim
 | succ d=>
  rcases h with ⟨i,rfl,h1,h2⟩ | ⟨w,rfl,hw⟩ | ⟨xs,rfl,h3,hy⟩
  ·obtain ⟨_,hne,hch,_⟩:=Vt h1 h2
   rw [Ym]
   cases e:nl i with
   | nil=>exact absurd e hne
   | cons c q=>
    have:=hch c (by rw [e]; exact List.mem_cons_self)
    exact ⟨c,q,rfl,by omega⟩
  ·exact ⟨39,_,qK w,by decide⟩
  ·exact ⟨40,_,Ui xs,by decide⟩
theorem Xw {d:Nat} (ih:RxI d) (xs ys:List T) (r s:List Nat) (hx:∀ x∈xs,Wt d x) (hy:∀ y∈ys,Wt d y) (h:rb xs++r=rb ys++s):xs=ys/\r=s:=by
 cases xs with
 | nil=>
  cases ys with
  | nil=>exact ⟨rfl,List.append_cancel_left h⟩
  | cons y ys=>
   obtain ⟨c,q,e,hc⟩:=Xv (hy y List.mem_cons_self)
   rw [rb,rb,e] at h
   injection h with h
   exact absurd h.symm hc
 | cons x xs=>
  cases ys with
  | nil=>
   obtain ⟨c,q,e,hc⟩:=Xv (hx x List.mem_cons_self)
   rw [rb,rb,e] at h
   injection h with h
   exact absurd h hc
  | cons y ys=>
   rw [rb,rb,List.append_assoc,List.append_assoc] at h
   obtain ⟨e1,e2⟩:=ih x y _ _ (hx x List.mem_cons_self) (hy y List.mem_cons_self) (uD _ _ _) (uD _ _ _) h
   obtain ⟨e3,e4⟩:=Qo ih xs ys true r s (fun z hz=>hx z (List.mem_cons_of_mem _ hz)) (fun z hz=>hy z (List.mem_cons_of_mem _ hz)) e2
   exact ⟨by rw [e1,e3],e4⟩
theorem Yo:∀ d:Nat,RxI d
 | 0=>fun x y r s h=>h.elim
 | d+1=>fun x y r s hx hy hr hs h=>by
  have ih:=Yo d
  rcases hx with ⟨i,rfl,h1,h2⟩ | ⟨w,rfl,hw⟩ | ⟨xs,rfl,h3,hxs⟩
  ·rcases hy with ⟨j,rfl,g1,g2⟩ | ⟨v,rfl,hv⟩ | ⟨ys,rfl,g3,hys⟩
   ·rw [Ym,Ym] at h
    have e:=congrArg (List.takeWhile dg) h
    rw [Yn _ _ (Xu h1 h2) (Qn hr),Yn _ _ (Xu g1 g2) (Qn hs)] at e
    rw [e] at h
    exact ⟨by rw [Xt h1 h2 g1 g2 e],List.append_cancel_left h⟩
   ·obtain ⟨c,q,e,c1,c2⟩:=qL h1 h2
    rw [Ym,qK,e] at h
    injection h with h; exact absurd h c1
   ·obtain ⟨c,q,e,c1,c2⟩:=qL h1 h2
    rw [Ym,Ui,e] at h
    injection h with h; exact absurd h c2
  ·rcases hy with ⟨j,rfl,g1,g2⟩ | ⟨v,rfl,hv⟩ | ⟨ys,rfl,g3,hys⟩
   ·obtain ⟨c,q,e,c1,c2⟩:=qL g1 g2
    rw [Ym,qK,e] at h
    injection h with h; exact absurd h.symm c1
   ·rw [qK,qK] at h
    injection h with _ h
    have h:(w.cps.toList++[39])++r=(v.cps.toList++[39])++s:=h
    rw [List.append_assoc,List.append_assoc] at h
    have n1:39 ∉ w.cps.toList:=fun z=>by have:=wF hw 39 z; omega
    have n2:39 ∉ v.cps.toList:=fun z=>by have:=wF hv 39 z; omega
    obtain ⟨e1,e2⟩:=Yk n1 n2 h
    exact ⟨by rw [← Vs w,← Vs v,e1],e2⟩
   ·rw [qK,Ui] at h
    injection h with h; cases h
  ·rcases hy with ⟨j,rfl,g1,g2⟩ | ⟨v,rfl,hv⟩ | ⟨ys,rfl,g3,hys⟩
   ·obtain ⟨c,q,e,c1,c2⟩:=qL g1 g2
    rw [Ym,Ui,e] at h
    injection h with h; exact absurd h.symm c2
   ·rw [qK,Ui] at h
    injection h with h; cases h
   ·rw [Ui,Ui] at h
    injection h with _ h
    obtain ⟨e1,e2⟩:=Xw ih xs ys r s hxs hys h
    exact ⟨by rw [e1],e2⟩
theorem Yp {x:Str} (h:Zk (.str x)=true):reprText x=S (39 :: (x.cps.toList++[39])):=by
 have hs:=wF h
 have hq:reprQuote x=39:=by
  unfold reprQuote
  refine if_neg ?_
  have n1:x.cps.contains 39=false:=by
   rw [Bool.eq_false_iff]
   intro z
   rw [Array.contains_iff_mem] at z
   have:=hs 39 (by simpa using z); omega
  rw [n1]; simp
 have hc:∀ c∈x.cps.toList,Builtin.Str.reprChar 39 c=[c]:=fun c hc=>by
  obtain ⟨a,b⟩:=hs c hc
  have:c=97\/c=98\/c=99\/c=100\/c=101\/c=102\/c=103\/c=104\/c=105\/c=106\/c=107\/c=108\/c=109\/c=110\/c=111\/c=112\/c=113\/c=114\/c=115\/c=116\/c=117\/c=118\/c=119\/c=120\/c=121\/c=122:=by omega
  rcases this with rfl|rfl|rfl|rfl|rfl|rfl|rfl|rfl|rfl|rfl|rfl|rfl|rfl|rfl|rfl|rfl|rfl|rfl|rfl|rfl|rfl|rfl|rfl|rfl|rfl|rfl <;> decide+kernel
 have hf:∀ (l:List Nat) (acc:Array Nat),(∀ c∈l,Builtin.Str.reprChar 39 c=[c])->l.foldl (fun out c=>out++(Builtin.Str.reprChar 39 c).toArray) acc=acc++l.toArray:=by
  intro l
  induction l with
  | nil=>intro acc _; simp
  | cons c l ih=>
   intro acc hl
   rw [List.foldl_cons,hl c List.mem_cons_self,ih _ fun z hz=>hl z (List.mem_cons_of_mem _ hz)]
   simp
 refine Str.ext' ?_
 have e0:(reprText x).cps=(Array.foldl (fun out c=>out++(Builtin.Str.reprChar (reprQuote x) c).toArray) #[reprQuote x] x.cps).push (reprQuote x):=rfl
 rw [e0,hq,← Array.foldl_toList,hf _ _ hc]
 simp [S]
theorem Vg (i:Int):(Str.ofString (toString i))=S (nl i):=by rw [← XV]; rfl
def jc:List (List Nat)->List Nat
 | []=>[]
 | [x]=>x
 | x :: y :: r=>x++44 :: 32 :: jc (y :: r)
theorem Yq:∀ ls:List (List Nat),Str.join ", " (ls.map S)=S (jc ls)
 | []=>rfl
 | [x]=>rfl
 | x :: y :: r=>by
  have h:=Yq (y :: r)
  show S x++S [44,32]++Str.join ", " ((y :: r).map S)=_
  rw [h,U9,U9]
  simp [jc]
theorem Xx:∀ (x:T) (xs:List T),jc ((x :: xs).map rx)++[41]=rx x++rc xs false
 | x,[]=>by rw [rc]; rfl
 | x,y :: ys=>by
  have h:=Xx y ys
  rw [List.map_cons,List.map_cons]
  show (rx x++44 :: 32 :: jc (rx y :: ys.map rx))++[41]=_
  rw [rc,← h,List.map_cons]; simp
theorem qM (xs:List T):tupleText (xs.map fun x=>S (rx x))=S (40 :: rb xs):=by
 have em:(xs.map fun x=>S (rx x))=(xs.map rx).map S:=by rw [List.map_map]; rfl
 unfold tupleText
 rw [em,Yq,List.length_map,List.length_map]
 cases xs with
 | nil=>rw [rb]; decide+kernel
 | cons x xs=>
  cases xs with
  | nil=>
   rw [if_pos (by simp)]
   show S [40]++S (jc [rx x])++S [44,41]=_
   rw [U9,U9,rb,rc]; simp [jc]
  | cons y ys=>
   rw [if_neg (by simp)]
   show S [40]++S (jc ((x :: y :: ys).map rx))++S [41]=_
   rw [U9,U9]
   have h:=Xx x (y :: ys)
   have e:rb (x :: y :: ys)=rx x++rc (y :: ys) false:=by rw [rb,rc,rc]
   rw [e,← h]; simp
theorem Yr:∀ (d:Nat) (x:T),Wt d x->(toD x).shown=S (rx x)/\okD x=true/\(toD x).depth<=d
 | 0,_,h=>h.elim
 | d+1,x,h=>by
  rcases h with ⟨i,rfl,h1,h2⟩ | ⟨w,rfl,hw⟩ | ⟨xs,rfl,h3,hxs⟩
  ·rw [toD,okD,Ym]
   exact ⟨by simp only [PyData.shown]; exact Vg i,decide_eq_true (by omega),by simp only [PyData.depth]; omega⟩
  ·rw [toD,okD,qK]
   exact ⟨by simp only [PyData.shown]; exact Yp hw,rfl,by simp only [PyData.depth]; omega⟩
  ·have go:∀ ys:List T,(∀ y∈ys,Wt d y)->PyData.shownAll (WJ ys)=(ys.map fun y=>S (rx y))/\yy ys=true/\PyData.depthAll (WJ ys)<=d:=by
    intro ys
    induction ys with
    | nil=>intro _; rw [WJ,yy]; exact ⟨by simp only [PyData.shownAll,List.map_nil],rfl,by simp only [PyData.depthAll]; omega⟩
    | cons y ys ih=>
     intro hy
     obtain ⟨a1,a2,a3⟩:=Yr d y (hy y List.mem_cons_self)
     obtain ⟨b1,b2,b3⟩:=ih fun z hz=>hy z (List.mem_cons_of_mem _ hz)
     rw [WJ,yy]
     exact ⟨by simp only [PyData.shownAll,List.map_cons,a1,b1],by rw [a2,b2]; rfl,by simp only [PyData.depthAll]; omega⟩
   obtain ⟨g1,g2,g3⟩:=go xs hxs
   rw [toD,okD,Ui]
   exact ⟨by simp only [PyData.shown]; rw [g1,qM],g2,by simp only [PyData.depth]; omega⟩
def sx:T->List Nat
 | .int i=>nl i
 | .str x=>x.cps.toList
 | .tup xs=>40 :: rb xs
 | _=>[]
def lr:Nat->Nat
 | 0=>0
 | d+1=>3*lr d+8
theorem Qp {B:Nat}:∀ (xs:List T) (b:Bool),(∀ x∈xs,(rx x).length<=B)->(rc xs b).length<=xs.length*(B+2)+2
 | [],b,_=>by rw [rc]; cases b <;> simp
 | x :: xs,b,h=>by
  have h1:=h x List.mem_cons_self
  have h2:=Qp xs false fun y hy=>h y (List.mem_cons_of_mem _ hy)
  rw [rc]
  simp only [List.length_cons,List.length_append,Nat.add_mul]
  omega
theorem Xy {B:Nat} (xs:List T) (h3:xs.length<=3) (h:∀ x∈xs,(rx x).length<=B):(rb xs).length<=3*B+6:=by
 cases xs with
 | nil=>rw [rb]; simp only [List.length_cons,List.length_nil]; omega
 | cons x xs=>
  have h1:=h x List.mem_cons_self
  have h2:=Qp (B:=B) xs true fun y hy=>h y (List.mem_cons_of_mem _ hy)
  rw [rb,List.length_append]
  have:xs.length*(B+2)<=2*(B+2):=Nat.mul_le_mul_right _ (by simp at h3; omega)
  omega
theorem Qq:∀ (d:Nat) (x:T),Wt d x->(rx x).length<=lr d
 | 0,_,h=>h.elim
 | d+1,x,h=>by
  rcases h with ⟨i,rfl,h1,h2⟩ | ⟨w,rfl,hw⟩ | ⟨xs,rfl,h3,hxs⟩
  ·rw [Ym]; have:=(Vt h1 h2).1; unfold lr; omega
  ·rw [qK]; have:=uC hw; simp only [List.length_cons,List.length_append,List.length_nil,lr]; omega
  ·have:=Xy (B:=lr d) xs h3 fun y hy=>Qq d y (hxs y hy)
   rw [Ui]; simp only [List.length_cons,lr]; omega
theorem Xz {x:T} (h:Wt 3 x) {f:En->R T} {ρ:En} (hf:f ρ= .ok x):ap1 Wa f ρ= .ok (.str (S (sx x))):=by
 obtain ⟨a1,a2,a3⟩:=Yr 3 x h
 have hl:=Qq 3 x h
 have e3:lr 3=104:=by decide
 rw [e3] at hl
 rcases h with ⟨i,rfl,h1,h2⟩ | ⟨w,rfl,hw⟩ | ⟨xs,rfl,h3,hxs⟩
 ·rw [ZJ,hf,bOk]
  show Q6 (.int i)=_
  have:=Kg h1 h2 (f:=cE (.int i)) (ρ:=[]) rfl
  rw [ZJ,zV,bOk] at this
  exact this
 ·rw [ZJ,hf,bOk]
  show Q6 (.str w)=_
  have:=Kh hw (f:=cE (.str w)) (ρ:=[]) rfl
  rw [ZJ,zV,bOk] at this
  exact this
 ·rw [ZJ,hf,bOk]
  rw [Ui] at a1 hl
  rw [okD] at a2
  have hlen:(toD (.tup xs)).shown.length<=10000:=by rw [a1,Ke]; omega
  unfold Wa
  dsimp only
  rw [if_pos ⟨a2,by omega,hlen⟩,a1]; rfl
theorem wG:Del []:=fun c q h=>by cases h
theorem XA {k:Kd} (hk:k.Ok 3) {x y:T} (hx:k.has x=true) (hy:k.has y=true) (e:sx x=sx y):x=y:=by
 have wx:=Yl 3 k x hk hx
 have wy:=Yl 3 k y hk hy
 have key:(∃ i,x= .int i)/\(∃ j,y= .int j)\/(∃ w,x= .str w)/\(∃ v,y= .str v)\/(∃ xs,x= .tup xs)/\∃ ys,y= .tup ys:=by
  cases k with
  | whole lo hi=>
   rw [Kd.has] at hx hy
   obtain ⟨i,rfl⟩:=jT hx
   obtain ⟨j,rfl⟩:=jT hy
   exact .inl ⟨⟨i,rfl⟩,⟨j,rfl⟩⟩
  | pick cs=>
   rw [Kd.has] at hx hy
   cases x with
   | str w=>
    cases y with
    | str v=>exact .inr (.inl ⟨⟨w,rfl⟩,⟨v,rfl⟩⟩)
    | _=>cases hy
   | _=>cases hx
  | row ks=>
   rw [Kd.has] at hx hy
   cases x with
   | tup w=>
    cases y with
    | tup v=>exact .inr (.inr ⟨⟨w,rfl⟩,⟨v,rfl⟩⟩)
    | _=>cases hy
   | _=>cases hx
  | many q lo hi=>
   rw [Kd.has] at hx hy
   cases x with
   | tup w=>
    cases y with
    | tup v=>exact .inr (.inr ⟨⟨w,rfl⟩,⟨v,rfl⟩⟩)
    | _=>cases hy
   | _=>cases hx
 rcases key with ⟨⟨i,rfl⟩,⟨j,rfl⟩⟩ | ⟨⟨w,rfl⟩,⟨v,rfl⟩⟩ | ⟨⟨xs,rfl⟩,⟨ys,rfl⟩⟩
 ·exact (Yo 3 _ _ [] [] wx wy wG wG (by rw [Ym,Ym]; show nl i++[]=nl j++[]; rw [show nl i=nl j from e])).1
 ·have e:w.cps.toList=v.cps.toList:=e
  rw [← Vs w,← Vs v,e]
 ·exact (Yo 3 _ _ [] [] wx wy wG wG (by rw [Ui,Ui]; show (40 :: rb xs)++[]=(40 :: rb ys)++[]; rw [show 40 :: rb xs=40 :: rb ys from e])).1
def pr (w:T):T:= .tup [.str (S (sx w)),w]
def KM:T->T
 | .tup [_,b]=>b
 | t=>t
def wl (k:Kd):List T:=(Wv (k.all.map pr)).map KM
theorem Ki (w:T):kkT (pr w)=sx w:=Xr _
theorem qN (a b:T):leP a b=true↔kkT a<=kkT b:=by
 unfold leP
 rw [Bool.not_eq_true',decide_eq_false_iff_not,List.not_lt]
theorem j0 (ts:List T):(Wv ts).Perm ts:=List.mergeSort_perm _ _
theorem Qr (ts:List T):(Wv ts).Pairwise fun a b=>leP a b=true:=List.pairwise_mergeSort (fun a b c h1 h2=>by
 rw [qN] at*; exact List.le_trans h1 h2) (fun a b=>by
 rw [Bool.or_eq_true,qN,qN]; exact List.le_total _ _) ts
theorem XB {l m:List T} (hp:l.Perm m) (hn:(m.map kkT).Nodup):Wv l=Wv m:=by
 refine List.Perm.eq_of_pairwise (le:=fun a b=>leP a b=true) (fun a b ha hb h1 h2=> ?_) (Qr l) (Qr m) (((j0 l).trans hp).trans (j0 m).symm)
 rw [qN] at h1 h2
 have e:kkT a=kkT b:=List.le_antisymm h1 h2
 have ha' :=hp.mem_iff.mp ((j0 l).mem_iff.mp ha)
 have hb' :=(j0 m).mem_iff.mp hb
 obtain ⟨i,hi,rfl⟩:=List.mem_iff_getElem.mp ha'
 obtain ⟨j,hj,rfl⟩:=List.mem_iff_getElem.mp hb'
 have:=(List.getElem_inj (i:=i) (j:=j) (h₀:=by simpa using hi) (h₁:=by simpa using hj) hn).mp (by simpa using e)
 subst this; rfl
theorem Ys {k:Kd} (hk:k.Ok 3):((k.all.map pr).map kkT).Nodup:=by
 rw [List.map_map]
 have e:(kkT ∘ pr)=sx:=funext Ki
 rw [e]
 refine List.pairwise_map.mpr (List.Pairwise.imp_of_mem (fun {a b} ha hb hab z=>hab ?_) (Jc 3 k hk))
 exact XA hk ((Z5 k a).mp ha) ((Z5 k b).mp hb) z
theorem Qs:∀ l:List T,(l.map pr).all Vp=true
 | []=>rfl
 | x :: l=>by rw [List.map_cons,List.all_cons,Qs l]; rfl
theorem uE:∀ (ts:List T) (x y:Sl),(∀ t∈ts,∃ a b,t= .tup [a,b])->zF (Zd 0 1) Z9 (vE 1) ts [x,y]= .ok (ts.map KM)
 | [],_,_,_=>rfl
 | t :: ts,x,y,h=>by
  obtain ⟨a,b,rfl⟩:=h t List.mem_cons_self
  have e:zF (Zd 0 1) Z9 (vE 1) (.tup [a,b] :: ts) [x,y]=(zF (Zd 0 1) Z9 (vE 1) ts [.vl a, .vl b]).bind fun vs=> .ok (b :: vs):=rfl
  rw [e,uE ts _ _ fun u hu=>h u (List.mem_cons_of_mem _ hu)]; rfl
theorem XD {k:Kd} (hk:k.Ok 3) (h60:k.all.length<=60):f_i [k.t]= .ok (.lst (wl k)):=by
 obtain ⟨x,r,hkt⟩:=Qi k
 have e0:zv Jf (vB 0) (cE .non) [.vl k.t]= .ok false:=by rw [hkt]; rfl
 have hb:bnd=16777216:=rfl
 have e1:Z0 (j2 (zc 1 f_s (z9 (vE 0) (zg)))) (zG 0) Z9 (Zo (z9 (ap1 Wa (vE 0)) (z9 (vE 0) (zg)))) 1 [] [.vl k.t]= .ok (.lst (k.all.map pr)):=by
  have ei:j2 (zc 1 f_s (z9 (vE 0) (zg))) [.vl k.t]= .ok k.all:=by
   rw [jg,Zh,v0,bOk,wE hk (by omega),bOk]; rfl
  have ec:Z3 (zG 0) Z9 (Zo (z9 (ap1 Wa (vE 0)) (z9 (vE 0) (zg)))) 1 [] [.vl k.t] k.all= .ok (k.all.map pr):=
   Zb _ (by omega) fun t ht=>Uh (Xz (Yl 3 k t hk ((Z5 k t).mp ht)) rfl) rfl
  rw [Z4,ei,bOk,ec,bOk]
 have e2:j2 (ap1 ug (Z0 (j2 (zc 1 f_s (z9 (vE 0) (zg)))) (zG 0) Z9 (Zo (z9 (ap1 Wa (vE 0)) (z9 (vE 0) (zg)))) 1 [])) [.vl k.t]= .ok (Wv (k.all.map pr)):=by
  rw [jg,ZJ,e1,bOk]
  have:ug (.lst (k.all.map pr))= .ok (.lst (Wv (k.all.map pr))):=if_pos ⟨Qs _,Ys hk,by rw [List.length_map]; omega⟩
  rw [this,bOk]; rfl
 have hm:∀ t∈Wv (k.all.map pr),∃ a b,t= .tup [a,b]:=fun t ht=>by
  obtain ⟨w,_,rfl⟩:=List.mem_map.mp ((j0 _).mem_iff.mp ht)
  exact ⟨_,_,rfl⟩
 show zn (b_i f_s [.vl k.t])=_
 unfold b_i
 rw [zj (zD e0),Zq]
 show Z0 _ _ _ _ _ _ [.vl k.t]=_
 rw [Z4,e2,bOk]
 unfold Z3
 rw [if_pos (by rw [(j0 _).length_eq,List.length_map]; omega)]
 show (quiet (zF _ _ _ _ [.un, .un])).bind _=_
 rw [uE _ _ _ hm]; rfl
theorem Kj {k l:Kd} (hk:k.Ok 3) (hl:l.Ok 3) (h:∀ x,k.has x=l.has x):wl k=wl l:=by
 unfold wl
 have hp:k.all.Perm l.all:=by
  rw [List.perm_ext_iff_of_nodup (Jc 3 k hk) (Jc 3 l hl)]
  intro a
  rw [Z5,Z5,h]
 rw [XB (hp.map pr) (Ys hl)]
theorem Kk {k:Kd} (hk:k.Ok 3):Pl 30 (.lst (wl k)):=by
 refine Pl.le (n:=4) (by omega) fun x hx=> ?_
 unfold wl at hx
 obtain ⟨t,ht,rfl⟩:=List.mem_map.mp hx
 obtain ⟨w,hw,rfl⟩:=List.mem_map.mp ((j0 _).mem_iff.mp ht)
 exact Va 3 k w hk ((Z5 k w).mp hw)
def Yt:Option Kd->T->Bool
 | some c=>c.has
 | none=>fun _=>false
def okO (m:Nat):Option Kd->Prop
 | some c=>c.Ok 3/\c.all.length<=m
 | none=>True
theorem Vh {k l:Kd} (hk:k.Ok 3) (hl:l.Ok 3):f_2 [k.t,l.t]=S_5 20 0 [k.t,l.t]:=by
 show zn (b_2 f_e (f_5 20) (en2 k.t l.t))=_
 unfold b_2
 rw [zj (wC (t:= .non) (by rw [Zh,v0,bOk,wD hk])),zj (wC (t:= .non) (by rw [Zh,v1,bOk,wD hl])),Zq]
 show zc 2 _ _ (en2 k.t l.t)=_
 rw [zO,v0,bOk,v1,bOk]
theorem com {k l:Kd} (hk:k.Ok 3) (hl:l.Ok 3):∃ o:Option Kd,f_2 [k.t,l.t]= .ok (ZF o)/\okO k.all.length o/\(∀ x,Yt o x=(k.has x && l.has x))/\
  f_8 [k.t,l.t]= .ok (.bl (match o with | some c=>c.all.length == k.all.length | none=>false))/\f_m [k.t,l.t]= .ok (.bl o.isNone):=by
 have hb:=Vh hk hl
 have ew:∀ t,f_2 [k.t,l.t]= .ok t->f_8 [k.t,l.t]=JI (jl ZH (vB 2) (cE .non)) (jl eqC (zc 1 (f_1 20) (z9 (vE 2) (zg))) (zc 1 (f_1 20) (z9 (vE 0) (zg)))) [.vl k.t, .vl l.t, .vl t]:=fun t ht=>by
  have e1:zS 2 (zc 2 f_2 (z9 (vE 0) (z9 (vE 1) (zg)))) [.vl k.t, .vl l.t, .un]= .nx [.vl k.t, .vl l.t, .vl t]:=by
   rw [zP (t:=t)]
   ·rfl
   ·rw [zO,v0,bOk,v1,bOk,ht]
  show zn (b_8 (f_1 20) f_2 [.vl k.t, .vl l.t, .un])=_
  unfold b_8
  rw [zj e1,Zq]; rfl
 have ea:∀ t,f_2 [k.t,l.t]= .ok t->f_m [k.t,l.t]=jl Jf (cE t) (cE .non) []:=fun t ht=>by
  show zn (b_m f_2 (en2 k.t l.t))=_
  unfold b_m
  rw [Zq]
  show jl _ _ _ (en2 k.t l.t)=_
  rw [ZY,zO,v0,bOk,v1,bOk,ht]; rfl
 rcases Ql 3 20 (by omega) k l hk hl with ⟨c,a1,a2,a3⟩ | ⟨a1,a2⟩
 ·have hs:∀ x,c.has x=true->k.has x=true:=fun x hx=>by rw [a3] at hx; exact (Bool.and_eq_true_iff.mp hx).1
  obtain ⟨y,r,hct⟩:=Qi c
  refine ⟨some c,hb.trans a1,⟨a2,(JG a2 hk hs).1⟩,a3, ?_, ?_⟩
  ·rw [ew _ (hb.trans a1)]
   have e0:jl ZH (vB 2) (cE .non) [.vl k.t, .vl l.t, .vl c.t]= .ok (.bl true):=by rw [hct]; rfl
   rw [Jv,e0,Zx,if_pos rfl,ZY,Zh,v2,bOk,ZN (by omega) a2,bOk,Zh,v0,bOk,ZN (by omega) hk,bOk,eqI,bOk,ul]
  ·rw [ea _ (hb.trans a1),ZY,zV,bOk,zV,bOk,hct]; rfl
 ·refine ⟨none,hb.trans a1,trivial,fun x=>(a2 x).symm, ?_, ?_⟩
  ·rw [ew _ (hb.trans a1)]; rfl
  ·rw [ea _ (hb.trans a1)]; rfl
theorem Ua {m:Nat} (o p:Option Kd) (ho:okO m o) (hp:okO 1000000000000000000 p):∃ q,f_f [ZF o,ZF p]= .ok (ZF q)/\okO m q/\∀ x,Yt q x=(Yt o x && Yt p x):=by
 have e:f_f [ZF o,ZF p]=ifE (orT (zv Jf (vB 0) (cE .non)) (zv Jf (vB 1) (cE .non))) (cE .non) (zc 2 f_2 (z9 (vE 0) (z9 (vE 1) (zg)))) (en2 (ZF o) (ZF p)):=by
  show zn (b_f f_2 (en2 (ZF o) (ZF p)))=_
  unfold b_f
  rw [Zq]; rfl
 rw [e]
 cases o with
 | none=>exact ⟨none,by rw [U8 rfl]; rfl,trivial,fun x=>rfl⟩
 | some k=>
  obtain ⟨x,r,hk⟩:=Qi k
  cases p with
  | none=>
   refine ⟨none, ?_,trivial,fun x=>by show false=(k.has x && false); rw [Bool.and_false]⟩
   rw [U8 (by show orT _ _ (en2 k.t .non)=_; rw [hk]; rfl)]; rfl
  | some l=>
   obtain ⟨y,s,hl⟩:=Qi l
   obtain ⟨q,b1,b2,b3,_,_⟩:=com ho.1 hp.1
   refine ⟨q, ?_, ?_,b3⟩
   ·rw [Yb (by show orT _ _ (en2 k.t l.t)=_; rw [hk,hl]; rfl)]
    show zc 2 _ _ (en2 k.t l.t)=_
    rw [zO,v0,bOk,v1,bOk,b1]
   ·cases q with
    | none=>trivial
    | some c=>exact ⟨b2.1,Nat.le_trans b2.2 ho.2⟩
theorem Qt {o p:Option Kd} (ho:okO 60 o) (hp:okO 60 p) (h:∀ x,Yt o x=Yt p x):∃ v,f_i [ZF o]= .ok v/\f_i [ZF p]= .ok v/\neC v v= .ok false:=by
 cases o with
 | none=>
  cases p with
  | none=>exact ⟨.lst [],rfl,rfl,rfl⟩
  | some l=>
   obtain ⟨x,hx⟩:=jM (xs:=l.all) (i:=0) (Zp 3 l hp.1)
   have:=(Z5 l x).mp (List.mem_of_getElem? hx)
   have h2:=h x
   have h2:false=l.has x:=h2
   rw [this] at h2; cases h2
 | some k=>
  cases p with
  | none=>
   obtain ⟨x,hx⟩:=jM (xs:=k.all) (i:=0) (Zp 3 k ho.1)
   have:=(Z5 k x).mp (List.mem_of_getElem? hx)
   have h2:k.has x=false:=h x
   rw [this] at h2; cases h2
  | some l=>
   refine ⟨.lst (wl k),XD ho.1 ho.2, ?_,Vb (Kk ho.1)⟩
   rw [Kj ho.1 hp.1 h]; exact XD hp.1 hp.2
theorem Zc {k l:Kd} (hk:k.Ok 3) (hl:l.Ok 3) (h:∀ x,k.has x=true->l.has x=true):f_8 [k.t,l.t]= .ok (.bl true):=by
 obtain ⟨o,b1,b2,b3,b4,b5⟩:=com hk hl
 rw [b4]
 cases o with
 | none=>
  obtain ⟨x,hx⟩:=jM (xs:=k.all) (i:=0) (Zp 3 k hk)
  have h1:=(Z5 k x).mp (List.mem_of_getElem? hx)
  have:=b3 x
  rw [h1,h x h1] at this; cases this
 | some c=>
  have b3:∀ x,c.has x=(k.has x && l.has x):=b3
  have h1:=(JG hk b2.1 fun x hx=>by rw [b3,hx,h x hx]; rfl).1
  have:c.all.length=k.all.length:=Nat.le_antisymm b2.2 h1
  show R.ok (T.bl (c.all.length == k.all.length))=_
  rw [this,beq_self_eq_true]
theorem Ub {k l:Kd} (hk:k.Ok 3) (hl:l.Ok 3) (h:f_8 [k.t,l.t]= .ok (.bl true)):∀ x,k.has x=true->l.has x=true:=by
 obtain ⟨o,b1,b2,b3,b4,b5⟩:=com hk hl
 rw [b4] at h
 cases o with
 | none=>cases h
 | some c=>
  have b3:∀ x,c.has x=(k.has x && l.has x):=b3
  have h:R.ok (T.bl (c.all.length == k.all.length))= .ok (.bl true):=h
  have h:(c.all.length == k.all.length)=true:=by injection h with h; injection h
  intro x hx
  have:=(JG b2.1 hk fun x hx=>by rw [b3] at hx; exact (Bool.and_eq_true_iff.mp hx).1).2 (eq_of_beq h) x hx
  rw [b3] at this
  exact (Bool.and_eq_true_iff.mp this).2
theorem Yu {k l:Kd} (hk:k.Ok 3) (hl:l.Ok 3):∃ b,f_8 [k.t,l.t]= .ok (.bl b):=by
 obtain ⟨o,_,_,_,b4,_⟩:=com hk hl
 exact ⟨_,b4⟩
abbrev KE (ns:List Int) (a b c:Kd) (f:Option Kd) (x y z:Sl):En:=[.vl (scr ns), .vl a.t, .vl b.t, .vl c.t, .vl (ZF f),x,y,z]
abbrev lpB:En->RS:=(zu (zS 7 (zc 2 f_2 (z9 (vE 5) (z9 (vE 6) (zg)))))
  (zu (ifS (orT (zv neC (jl Jf (vB 7) (cE .non)) (zc 2 f_m (z9 (vE 5) (z9 (vE 6) (zg))))) (zv neC (zc 2 f_m (z9 (vE 5) (z9 (vE 6) (zg)))) (zc 2 f_m (z9 (vE 6) (z9 (vE 5) (zg)))))) (zK (cE (.bl false))) (nxS))
  (zu (ifS (Ud (zv ZH (vB 7) (cE .non)) (WW (Ud (wI (zc 2 f_8 (z9 (vE 7) (z9 (vE 5) (zg))))) (wI (zc 2 f_8 (z9 (vE 7) (z9 (vE 6) (zg)))))))) (zK (cE (.bl false))) (nxS))
  (ifS (zv neC (zc 2 f_8 (z9 (vE 5) (z9 (vE 6) (zg)))) (JI (jl ZH (vB 7) (cE .non)) (jl eqC (zc 1 f_q (z9 (vE 7) (zg))) (zc 1 f_q (z9 (vE 5) (zg)))))) (zK (cE (.bl false))) (nxS)))))
theorem nb {b:Bool}:neC (.bl b) (.bl b)= .ok false:=by cases b <;> rfl
theorem Vi {ns:List Int} {a b c:Kd} {f:Option Kd} {k l:Kd} (hk:k.Ok 3) (hl:l.Ok 3) (z:Sl):∃ z',lpB (KE ns a b c f (.vl k.t) (.vl l.t) z)= .nx (KE ns a b c f (.vl k.t) (.vl l.t) z'):=by
 obtain ⟨o,b1,b2,b3,b4,b5⟩:=com hk hl
 obtain ⟨p,c1,c2,c3,c4,c5⟩:=com hl hk
 have hop:o.isNone=p.isNone:=by
  cases o with
  | none=>
   cases p with
   | none=>rfl
   | some q=>
    obtain ⟨x,hx⟩:=jM (xs:=q.all) (i:=0) (Zp 3 q c2.1)
    have h1:=(Z5 q x).mp (List.mem_of_getElem? hx)
    have h2:q.has x=(l.has x && k.has x):=c3 x
    have h3:false=(k.has x && l.has x):=b3 x
    rw [h1,Bool.and_comm,← h3] at h2; cases h2
  | some q=>
   cases p with
   | some _=>rfl
   | none=>
    obtain ⟨x,hx⟩:=jM (xs:=q.all) (i:=0) (Zp 3 q b2.1)
    have h1:=(Z5 q x).mp (List.mem_of_getElem? hx)
    have h2:q.has x=(k.has x && l.has x):=b3 x
    have h3:false=(l.has x && k.has x):=c3 x
    rw [h1,Bool.and_comm,← h3] at h2; cases h2
 refine ⟨.vl (ZF o), ?_⟩
 have v5:∀ z,vE 5 (KE ns a b c f (.vl k.t) (.vl l.t) z)= .ok k.t:=fun _=>rfl
 have v6:∀ z,vE 6 (KE ns a b c f (.vl k.t) (.vl l.t) z)= .ok l.t:=fun _=>rfl
 have v7:vE 7 (KE ns a b c f (.vl k.t) (.vl l.t) (.vl (ZF o)))= .ok (ZF o):=rfl
 have w7:vB 7 (KE ns a b c f (.vl k.t) (.vl l.t) (.vl (ZF o)))= .ok (ZF o):=rfl
 have e1:zS 7 (zc 2 f_2 (z9 (vE 5) (z9 (vE 6) (zg)))) (KE ns a b c f (.vl k.t) (.vl l.t) z)= .nx (KE ns a b c f (.vl k.t) (.vl l.t) (.vl (ZF o))):=by
  rw [zP (t:=ZF o)]
  ·rfl
  ·rw [zO,v5,bOk,v6,bOk,b1]
 have isN:Jf (ZF o) .non= .ok o.isNone:=by
  cases o with
  | none=>rfl
  | some q=>obtain ⟨x,r,h⟩:=Qi q; show Jf q.t .non=_; rw [h]; rfl
 have isnN:ZH (ZF o) .non= .ok (!o.isNone):=by unfold ZH; rw [isN]; rfl
 have e2:orT (zv neC (jl Jf (vB 7) (cE .non)) (zc 2 f_m (z9 (vE 5) (z9 (vE 6) (zg))))) (zv neC (zc 2 f_m (z9 (vE 5) (z9 (vE 6) (zg)))) (zc 2 f_m (z9 (vE 6) (z9 (vE 5) (zg))))) (KE ns a b c f (.vl k.t) (.vl l.t) (.vl (ZF o)))= .ok false:=by
  rw [yJ,zC,ZY,w7,bOk,zV,bOk,isN,bOk,bOk,zO,v5,bOk,v6,bOk,b5,bOk,nb,bOk,if_neg Bool.false_ne_true,zC,zO,v5,bOk,v6,bOk,b5,bOk,zO,v6,bOk,v5,bOk,c5,bOk,hop,nb]
 have e3:Ud (zv ZH (vB 7) (cE .non)) (WW (Ud (wI (zc 2 f_8 (z9 (vE 7) (z9 (vE 5) (zg))))) (wI (zc 2 f_8 (z9 (vE 7) (z9 (vE 6) (zg))))))) (KE ns a b c f (.vl k.t) (.vl l.t) (.vl (ZF o)))= .ok false:=by
  rw [jS,zC,w7,bOk,zV,bOk,isnN,bOk]
  cases o with
  | none=>rfl
  | some q=>
   have b3:∀ x,q.has x=(k.has x && l.has x):=b3
   rw [if_pos (show (!(some q:Option Kd).isNone)=true from rfl),Wf,jS,Jx,zO,v7,bOk,v5,bOk,show f_8 [ZF (some q),k.t]= .ok (.bl true) from Zc b2.1 hk (fun x hx=>by rw [b3] at hx; exact (Bool.and_eq_true_iff.mp hx).1),bOk,J8,bOk,if_pos rfl,Jx,zO,v7,bOk,v6,bOk,show f_8 [ZF (some q),l.t]= .ok (.bl true) from Zc b2.1 hl (fun x hx=>by rw [b3] at hx; exact (Bool.and_eq_true_iff.mp hx).2),bOk,J8,bOk]; rfl
 have e4:zv neC (zc 2 f_8 (z9 (vE 5) (z9 (vE 6) (zg)))) (JI (jl ZH (vB 7) (cE .non)) (jl eqC (zc 1 f_q (z9 (vE 7) (zg))) (zc 1 f_q (z9 (vE 5) (zg))))) (KE ns a b c f (.vl k.t) (.vl l.t) (.vl (ZF o)))= .ok false:=by
  rw [zC,zO,v5,bOk,v6,bOk,b4,bOk,Jv,ZY,w7,bOk,zV,bOk,isnN,bOk,Zx]
  cases o with
  | none=>rfl
  | some q=>
   rw [if_pos (show (!(some q:Option Kd).isNone)=true from rfl),ZY,Zh,v7,bOk,show f_q [ZF (some q)]= .ok (.int (q.all.length:Int)) from Qm b2.1,bOk,Zh,v5,bOk,Qm hk,bOk,eqI,bOk,bOk,ul]
   exact nb
 unfold lpB
 rw [zj e1,zj (zD e2),zj (zD e3),zD e4]
theorem Yv {ns:List Int} {a b c:Kd} {f:Option Kd}:∀ (qs:List (Kd×Kd)) (x y z:Sl),(∀ q∈qs,q.1.Ok 3/\q.2.Ok 3)->∃ x' y' z',ZU (Zd 5 6) lpB (qs.map fun q=>T.tup [q.1.t,q.2.t]) (KE ns a b c f x y z)= .nx (KE ns a b c f x' y' z')
 | [],x,y,z,_=>⟨x,y,z,rfl⟩
 | q :: qs,x,y,z,h=>by
  obtain ⟨z1,e⟩:=Vi (ns:=ns) (a:=a) (b:=b) (c:=c) (f:=f) (h q List.mem_cons_self).1 (h q List.mem_cons_self).2 z
  obtain ⟨x',y',z',ih⟩:=Yv (ns:=ns) (a:=a) (b:=b) (c:=c) (f:=f) qs (.vl q.1.t) (.vl q.2.t) z1 fun r hr=>h r (List.mem_cons_of_mem _ hr)
  exact ⟨x',y',z',(Wo (ρ1:=KE ns a b c f (.vl q.1.t) (.vl q.2.t) z) rfl e).trans ih⟩
theorem KN (ns:List Int) (h:ns.length<=63):f_0 [.fz (ns.map T.int)]= .ok (.bl true):=by
 obtain ⟨k,hk,h30,hs⟩:=um ns 0 (by omega) 30 (by omega)
 have hs:f_o [scr ns, .int 0, .int 30]= .ok k.t:=hs
 obtain ⟨l,l1,l2,l3⟩:=uB ns 3 8 (by omega) k 4000 (by omega) hk
 obtain ⟨m4,p1,p2,p3⟩:=uB ns 3 8 (by omega) k 4100 (by omega) hk
 obtain ⟨m5,q1,q2,q3⟩:=um ns 4300 (by omega) 30 (by omega)
 have q3:f_o [scr ns, .int 4300, .int 30]= .ok m5.t:=q3
 obtain ⟨pk,hp,pk0,pk1⟩:=Za ns 4200 3 (by omega) (by omega)
 obtain ⟨g4,r1,r2,r3⟩:=uB ns 3 8 (by omega) l 4400 (by omega) l2
 have hll:l.all.length<=30:=Nat.le_trans (JG l2 hk l3).1 h30
 have hm:∃ m:Kd,m.Ok 3/\m.all.length<=30/\ifE (zv gtC (zc 3 f_3 (z9 (vE 0) (z9 (cE (.int 4200)) (z9 (cE (.int 3)) (zg))))) (cE (.int 0))) (zc 3 (f_b 8) (z9 (vE 0) (z9 (cE (.int 4100)) (z9 (vE 1) (zg))))) (zc 3 f_o (z9 (vE 0) (z9 (cE (.int 4300)) (z9 (cE (.int 30)) (zg))))) [.vl (scr ns), .vl k.t, .vl l.t, .un, .un, .un, .un, .un]= .ok m.t:=by
  have et:zv gtC (zc 3 f_3 (z9 (vE 0) (z9 (cE (.int 4200)) (z9 (cE (.int 3)) (zg))))) (cE (.int 0)) [.vl (scr ns), .vl k.t, .vl l.t, .un, .un, .un, .un, .un]= .ok (decide (0 < pk)):=by
   rw [zC,Zu,v0,bOk,zV,bOk,zV,bOk,hp,bOk,zV,bOk,Xn]
  by_cases hz:0 < pk
  ·exact ⟨m4,p2,Nat.le_trans (JG p2 hk p3).1 h30,by rw [U8 (by rw [et,decide_eq_true hz]),Zu,v0,bOk,zV,bOk,v1,bOk]; exact p1⟩
  ·exact ⟨m5,q1,q2,by rw [Yb (by rw [et,decide_eq_false hz]),Zu,v0,bOk,zV,bOk,zV,bOk,q3]⟩
 obtain ⟨m,m1,m2,m3⟩:=hm
 have ok:∀ {k:Kd} {n:Nat},k.Ok 3->k.all.length<=n->okO n (some k):=fun a b=>⟨a,b⟩
 have big:∀ {k:Kd},k.Ok 3->k.all.length<=30->okO 1000000000000000000 (some k):=fun a b=>⟨a,by omega⟩
 have up:∀ {o:Option Kd},okO 30 o->okO 1000000000000000000 o:=fun {o} h=>by
  cases o with
  | none=>trivial
  | some c=>exact ⟨h.1,Nat.le_trans h.2 (by decide)⟩
 have up60:∀ {o:Option Kd},okO 30 o->okO 60 o:=fun {o} h=>by
  cases o with
  | none=>trivial
  | some c=>exact ⟨h.1,Nat.le_trans h.2 (by decide)⟩
 obtain ⟨o1,a1,a2,a3⟩:=Ua (m:=30) (some k) (some l) (ok hk h30) (big l2 hll)
 obtain ⟨f,b1,b2,b3⟩:=Ua (m:=30) o1 (some m) a2 (big m1 m2)
 obtain ⟨o2,c1,c2,c3⟩:=Ua (m:=30) (some l) (some m) (ok l2 hll) (big m1 m2)
 obtain ⟨f2,d1,d2,d3⟩:=Ua (m:=30) (some k) o2 (ok hk h30) (up c2)
 obtain ⟨o3,g1,g2,g3⟩:=Ua (m:=30) (some m) (some k) (ok m1 m2) (big hk h30)
 obtain ⟨f3,i1,i2,i3⟩:=Ua (m:=30) o3 (some l) g2 (big l2 hll)
 have hf:∀ x,Yt f x=(k.has x && l.has x && m.has x):=fun x=>by rw [b3,a3]; rfl
 have hf2:∀ x,Yt f x=Yt f2 x:=fun x=>by rw [hf,d3,c3]; show _=(k.has x && (l.has x && m.has x)); rw [Bool.and_assoc]
 have hf3:∀ x,Yt f x=Yt f3 x:=fun x=>by
  rw [hf,i3,g3]
  show _=((m.has x && k.has x) && l.has x)
  cases k.has x <;> cases l.has x <;> cases m.has x <;> rfl
 obtain ⟨w,w1,w2,w3⟩:=Qt (up60 b2) (up60 d2) hf2
 obtain ⟨w',w1',w2',w3'⟩:=Qt (up60 b2) (up60 i2) hf3
 have e:f_0 [.fz (ns.map T.int)]=zn (b_0 f_q f_3 f_o f_2 f_8 f_m (f_b 8) f_f f_i [.vl (scr ns), .un, .un, .un, .un, .un, .un, .un]):=rfl
 have e1:zS 1 (zc 3 f_o (z9 (vE 0) (z9 (cE (.int 0)) (z9 (cE (.int 30)) (zg))))) [.vl (scr ns), .un, .un, .un, .un, .un, .un, .un]= .nx [.vl (scr ns), .vl k.t, .un, .un, .un, .un, .un, .un]:=by
  rw [zP (t:=k.t)]
  ·rfl
  ·rw [Zu,v0,bOk,zV,bOk,zV,bOk,hs]
 have e2:zS 2 (zc 3 (f_b 8) (z9 (vE 0) (z9 (cE (.int 4000)) (z9 (vE 1) (zg))))) [.vl (scr ns), .vl k.t, .un, .un, .un, .un, .un, .un]= .nx [.vl (scr ns), .vl k.t, .vl l.t, .un, .un, .un, .un, .un]:=by
  rw [zP (t:=l.t)]
  ·rfl
  ·rw [Zu,v0,bOk,zV,bOk,v1,bOk]; exact l1
 have e3:zS 3 (ifE (zv gtC (zc 3 f_3 (z9 (vE 0) (z9 (cE (.int 4200)) (z9 (cE (.int 3)) (zg))))) (cE (.int 0))) (zc 3 (f_b 8) (z9 (vE 0) (z9 (cE (.int 4100)) (z9 (vE 1) (zg))))) (zc 3 f_o (z9 (vE 0) (z9 (cE (.int 4300)) (z9 (cE (.int 30)) (zg)))))) [.vl (scr ns), .vl k.t, .vl l.t, .un, .un, .un, .un, .un]= .nx [.vl (scr ns), .vl k.t, .vl l.t, .vl m.t, .un, .un, .un, .un]:=by
  rw [zP m3]; rfl
 have e4:zS 4 (zc 2 f_f (z9 (zc 2 f_f (z9 (vE 1) (z9 (vE 2) (zg)))) (z9 (vE 3) (zg)))) [.vl (scr ns), .vl k.t, .vl l.t, .vl m.t, .un, .un, .un, .un]= .nx (KE ns k l m f .un .un .un):=by
  rw [zP (t:=ZF f)]
  ·rfl
  ·rw [zO,zO,v1,bOk,v2,bOk,show f_f [k.t,l.t]= .ok (ZF o1) from a1,bOk,v3,bOk]; exact b1
 have v4:vE 4 (KE ns k l m f .un .un .un)= .ok (ZF f):=rfl
 have u1:∀ x y z,vE 1 (KE ns k l m f x y z)= .ok k.t:=fun _ _ _=>rfl
 have u2:∀ x y z,vE 2 (KE ns k l m f x y z)= .ok l.t:=fun _ _ _=>rfl
 have u3:∀ x y z,vE 3 (KE ns k l m f x y z)= .ok m.t:=fun _ _ _=>rfl
 have u0:∀ x y z,vE 0 (KE ns k l m f x y z)= .ok (scr ns):=fun _ _ _=>rfl
 have t5:zv neC (zc 1 f_i (z9 (vE 4) (zg))) (zc 1 f_i (z9 (zc 2 f_f (z9 (vE 1) (z9 (zc 2 f_f (z9 (vE 2) (z9 (vE 3) (zg)))) (zg)))) (zg))) (KE ns k l m f .un .un .un)= .ok false:=by
  rw [zC,Zh,v4,bOk,w1,bOk,Zh,zO,u1,bOk,zO,u2,bOk,u3,bOk,show f_f [l.t,m.t]= .ok (ZF o2) from c1,bOk,show f_f [k.t,ZF o2]= .ok (ZF f2) from d1,bOk,w2,bOk,w3]
 have t6:zv neC (zc 1 f_i (z9 (vE 4) (zg))) (zc 1 f_i (z9 (zc 2 f_f (z9 (zc 2 f_f (z9 (vE 3) (z9 (vE 1) (zg)))) (z9 (vE 2) (zg)))) (zg))) (KE ns k l m f .un .un .un)= .ok false:=by
  rw [zC,Zh,v4,bOk,w1',bOk,Zh,zO,zO,u3,bOk,u1,bOk,show f_f [m.t,k.t]= .ok (ZF o3) from g1,bOk,u2,bOk,show f_f [ZF o3,l.t]= .ok (ZF f3) from i1,bOk,w2',bOk,w3']
 have t7:orT (zv ZH (zc 2 f_8 (z9 (vE 2) (z9 (vE 1) (zg)))) (cE (.bl true))) (zv ZH (zc 2 f_8 (z9 (zc 3 (f_b 8) (z9 (vE 0) (z9 (cE (.int 4400)) (z9 (vE 2) (zg))))) (z9 (vE 1) (zg)))) (cE (.bl true))) (KE ns k l m f .un .un .un)= .ok false:=by
  rw [yJ,zC,zO,u2,bOk,u1,bOk,Zc l2 hk l3,bOk,zV,bOk,show ZH (.bl true) (.bl true)= .ok false from rfl,bOk,if_neg Bool.false_ne_true,zC,zO,Zu,u0,bOk,zV,bOk,u2,bOk,show f_b 8 [scr ns, .int 4400,l.t]= .ok g4.t from r1,bOk,u1,bOk,Zc r2 hk (fun x hx=>l3 x (r3 x hx)),bOk,zV,bOk]; rfl
 obtain ⟨x',y',z',el⟩:=Yv (ns:=ns) (a:=k) (b:=l) (c:=m) (f:=f) [(k,l),(l,m),(m,k)] .un .un .un (fun q hq=>by
  rcases List.mem_cons.mp hq with rfl | hq
  ·exact ⟨hk,l2⟩
  ·rcases List.mem_cons.mp hq with rfl | hq
   ·exact ⟨l2,m1⟩
   ·rw [List.mem_singleton.mp hq]; exact ⟨m1,hk⟩)
 have e8:Je (j2 (Zo (z9 (Zo (z9 (vE 1) (z9 (vE 2) (zg)))) (z9 (Zo (z9 (vE 2) (z9 (vE 3) (zg)))) (z9 (Zo (z9 (vE 3) (z9 (vE 1) (zg)))) (zg)))))) (Zd 5 6) lpB (KE ns k l m f .un .un .un)= .nx (KE ns k l m f x' y' z'):=by
  have ei:j2 (Zo (z9 (Zo (z9 (vE 1) (z9 (vE 2) (zg)))) (z9 (Zo (z9 (vE 2) (z9 (vE 3) (zg)))) (z9 (Zo (z9 (vE 3) (z9 (vE 1) (zg)))) (zg))))) (KE ns k l m f .un .un .un)= .ok ([(k,l),(l,m),(m,k)].map fun q=>T.tup [q.1.t,q.2.t]):=rfl
  unfold Je
  rw [ei,ZL]
  exact el
 obtain ⟨bo,hbo⟩:=Yu m1 l2
 have t9:Ud (wI (zc 2 f_8 (z9 (vE 3) (z9 (vE 2) (zg))))) (WW (wI (zc 2 f_8 (z9 (vE 3) (z9 (vE 1) (zg)))))) (KE ns k l m f x' y' z')= .ok false:=by
  rw [jS,Jx,zO,u3,bOk,u2,bOk,hbo,bOk,J8,bOk]
  cases bo with
  | false=>rfl
  | true=>
   rw [if_pos rfl,Wf,Jx,zO,u3,bOk,u1,bOk,Zc m1 hk (fun x hx=>l3 x (Ub m1 l2 hbo x hx)),bOk,J8,bOk]; rfl
 unfold lpB at e8
 rw [e,b_0,zj e1,zj e2,zj e3,zj e4,zj (zD t5),zj (zD t6),zj (zD t7),zj e8,zj (zD t9),Zq]
 show orE _ _ (KE ns k l m f (y7 x') (y7 y') (y7 z'))=_
 cases f with
 | none=>rfl
 | some q=>
  obtain ⟨y,r,hq⟩:=Qi q
  have e0:jl Jf (vB 4) (cE .non) (KE ns k l m (some q) (y7 x') (y7 y') (y7 z'))= .ok (.bl false):=by
   show jl Jf (cE q.t) (cE .non) []=_
   rw [hq]; rfl
  have hfq:∀ x,q.has x=(k.has x && l.has x && m.has x):=hf
  have s1:f_8 [q.t,k.t]= .ok (.bl true):=Zc b2.1 hk fun x hx=>by rw [hfq,Bool.and_eq_true,Bool.and_eq_true] at hx; exact hx.1.1
  have s2:f_8 [q.t,l.t]= .ok (.bl true):=Zc b2.1 l2 fun x hx=>by rw [hfq,Bool.and_eq_true,Bool.and_eq_true] at hx; exact hx.1.2
  have s3:f_8 [q.t,m.t]= .ok (.bl true):=Zc b2.1 m1 fun x hx=>by rw [hfq,Bool.and_eq_true,Bool.and_eq_true] at hx; exact hx.2
  have v4' :vE 4 (KE ns k l m (some q) (y7 x') (y7 y') (y7 z'))= .ok q.t:=rfl
  unfold orE
  rw [e0,bOk]
  dsimp only
  rw [Jv,zO,v4',bOk,u1,bOk,s1,Zx,if_pos rfl,Jv,zO,v4',bOk,u2,bOk,s2,Zx,if_pos rfl,zO,v4',bOk,u3,bOk,s3]
end G
namespace G
open PySem PySem.Spec PyProof.Rows L2 PV
def top (i:Nat):Stmt:=PySem.Challenge.pw_worthkinds_k31_whole_common_of_three.main.body.getD i (.Pass ⟨0,0,0,0⟩)
abbrev KO:Stmt:=top 38
abbrev gR:List Str:=["_law_script","_law_k"]
theorem Kl:zm gR ["_law_script","_law_k"] (zf KO):=by refine ⟨rfl,rfl,rfl, ?_,rfl, ?_, ?_⟩ <;> decide+kernel
abbrev s_3:Stmt:=top 39
abbrev N_3:List Str:=["_law_script","_law_k","_law_many","_law_drawn"]
theorem KP:zm N_3 ["_law_script","_law_k","_law_many"] (zf s_3):=by refine ⟨rfl,rfl,rfl, ?_,rfl, ?_, ?_⟩ <;> decide+kernel
abbrev s_u:Stmt:=top 40
abbrev N_u:List Str:=["_law_script","_law_at","_law_letters"]
theorem KQ:zm N_u ["_law_script","_law_at"] (zf s_u):=by refine ⟨rfl,rfl,rfl, ?_,rfl, ?_, ?_⟩ <;> decide+kernel
abbrev s_p:Stmt:=top 41
abbrev N_p:List Str:=["_law_script","_law_at","_law_low","_law_words","_law_k","_law_word"]
theorem Vu:zm N_p ["_law_script","_law_at"] (zf s_p):=by refine ⟨rfl,rfl,rfl, ?_,rfl, ?_, ?_⟩ <;> decide+kernel
abbrev s_c:Stmt:=top 42
abbrev N_c:List Str:=["_law_script","_law_at","_law_deep","_law_way","_law_some","_law_low"]
theorem XW:zm N_c ["_law_script","_law_at","_law_deep"] (zf s_c):=by refine ⟨rfl,rfl,rfl, ?_,rfl, ?_, ?_⟩ <;> decide+kernel
abbrev s_a:Stmt:=top 44
abbrev N_a:List Str:=["_law_lists","_law_made","_law_some","_law_longer","_law_ahead"]
theorem Vv:zm N_a ["_law_lists"] (zf s_a):=by refine ⟨rfl,rfl,rfl, ?_,rfl, ?_, ?_⟩ <;> decide+kernel
abbrev s_6:Stmt:=top 43
abbrev N_6:List Str:=["_law_kind_here","_law_made","_law_size_here"]
theorem Km:zm N_6 ["_law_kind_here"] (zf s_6):=by refine ⟨rfl,rfl,rfl, ?_,rfl, ?_, ?_⟩ <;> decide+kernel
abbrev s_7:Stmt:=top 45
abbrev N_7:List Str:=["_law_kind_here","_law_sizes","_law_made","_law_size_here","_law_inner"]
theorem qO:zm N_7 ["_law_kind_here"] (zf s_7):=by refine ⟨rfl,rfl,rfl, ?_,rfl, ?_, ?_⟩ <;> decide+kernel
abbrev s_o:Stmt:=top 46
abbrev N_o:List Str:=["_law_script","_law_at","_law_most","_law_kind_here","_law_k"]
theorem XX:zm N_o ["_law_script","_law_at","_law_most"] (zf s_o):=by refine ⟨rfl,rfl,rfl, ?_,rfl, ?_, ?_⟩ <;> decide+kernel
abbrev s_b:Stmt:=top 47
abbrev N_b:List Str:=["_law_script","_law_at","_law_kind_here","_law_low"]
theorem KR:zm N_b ["_law_script","_law_at","_law_kind_here"] (zf s_b):=by refine ⟨rfl,rfl,rfl, ?_,rfl, ?_, ?_⟩ <;> decide+kernel
abbrev s_n:Stmt:=top 8
abbrev N_n:List Str:=["thing"]
theorem gS:zm N_n ["thing"] (zf s_n):=by refine ⟨rfl,rfl,rfl, ?_,rfl, ?_, ?_⟩ <;> decide+kernel
abbrev KS:Stmt:=top 11
abbrev gT:List Str:=["low","high","least","most"]
theorem Kn:zm gT ["low","high","least","most"] (zf KS):=by refine ⟨rfl,rfl,rfl, ?_,rfl, ?_, ?_⟩ <;> decide+kernel
abbrev s_g:Stmt:=top 9
abbrev N_g:List Str:=["thing","least","most"]
theorem gU:zm N_g ["thing","least","most"] (zf s_g):=by refine ⟨rfl,rfl,rfl, ?_,rfl, ?_, ?_⟩ <;> decide+kernel
abbrev s_z:Stmt:=top 10
abbrev N_z:List Str:=["thing"]
theorem gW:zm N_z ["thing"] (zf s_z):=by refine ⟨rfl,rfl,rfl, ?_,rfl, ?_, ?_⟩ <;> decide+kernel
abbrev s_y:Stmt:=top 14
abbrev N_y:List Str:=["thing"]
theorem gX:zm N_y ["thing"] (zf s_y):=by refine ⟨rfl,rfl,rfl, ?_,rfl, ?_, ?_⟩ <;> decide+kernel
abbrev s_r:Stmt:=top 13
abbrev N_r:List Str:=["thing","words"]
theorem KT:zm N_r ["thing"] (zf s_r):=by refine ⟨rfl,rfl,rfl, ?_,rfl, ?_, ?_⟩ <;> decide+kernel
abbrev s_9:Stmt:=top 12
abbrev N_9:List Str:=["thing","levels"]
theorem gY:zm N_9 ["thing","levels"] (zf s_9):=by refine ⟨rfl,rfl,rfl, ?_,rfl, ?_, ?_⟩ <;> decide+kernel
abbrev Ko:Stmt:=top 15
abbrev KU:List Str:=["thing","levels"]
theorem Kp:zm KU ["thing","levels"] (zf Ko):=by refine ⟨rfl,rfl,rfl, ?_,rfl, ?_, ?_⟩ <;> decide+kernel
abbrev s_4:Stmt:=top 6
abbrev N_4:List Str:=["thing"]
theorem gZ:zm N_4 ["thing"] (zf s_4):=by refine ⟨rfl,rfl,rfl, ?_,rfl, ?_, ?_⟩ <;> decide+kernel
abbrev s_e:Stmt:=top 7
abbrev N_e:List Str:=["kind"]
theorem G1:zm N_e ["kind"] (zf s_e):=by refine ⟨rfl,rfl,rfl, ?_,rfl, ?_, ?_⟩ <;> decide+kernel
abbrev s_w:Stmt:=top 34
abbrev N_w:List Str:=["one","other","low","high"]
theorem Kq:zm N_w ["one","other"] (zf s_w):=by refine ⟨rfl,rfl,rfl, ?_,rfl, ?_, ?_⟩ <;> decide+kernel
abbrev s_j:Stmt:=top 16
abbrev N_j:List Str:=["kind"]
theorem G2:zm N_j ["kind"] (zf s_j):=by refine ⟨rfl,rfl,rfl, ?_,rfl, ?_, ?_⟩ <;> decide+kernel
abbrev s_v:Stmt:=top 35
abbrev N_v:List Str:=["one","other","words","choices"]
theorem Kr:zm N_v ["one","other"] (zf s_v):=by refine ⟨rfl,rfl,rfl, ?_,rfl, ?_, ?_⟩ <;> decide+kernel
abbrev s_t:Stmt:=top 32
abbrev N_t:List Str:=["kind","length"]
theorem G4:zm N_t ["kind","length"] (zf s_t):=by refine ⟨rfl,rfl,rfl, ?_,rfl, ?_, ?_⟩ <;> decide+kernel
abbrev s_5:Stmt:=top 31
abbrev N_5:List Str:=["one","other"]
theorem G5:zm N_5 ["one","other"] (zf s_5):=by refine ⟨rfl,rfl,rfl, ?_,rfl, ?_, ?_⟩ <;> decide+kernel
abbrev s_x:Stmt:=top 33
abbrev N_x:List Str:=["one_kinds","other_kinds","shared"]
theorem KW:zm N_x ["one_kinds","other_kinds"] (zf s_x):=by refine ⟨rfl,rfl,rfl, ?_,rfl, ?_, ?_⟩ <;> decide+kernel
abbrev KY:Stmt:=top 36
abbrev G6:List Str:=["one","other","low","high","part"]
theorem qP:zm G6 ["one","other"] (zf KY):=by refine ⟨rfl,rfl,rfl, ?_,rfl, ?_, ?_⟩ <;> decide+kernel
abbrev s_2:Stmt:=top 28
abbrev N_2:List Str:=["one","other"]
theorem G7:zm N_2 ["one","other"] (zf s_2):=by refine ⟨rfl,rfl,rfl, ?_,rfl, ?_, ?_⟩ <;> decide+kernel
abbrev s_f:Stmt:=top 48
abbrev N_f:List Str:=["_law_one","_law_other"]
theorem G8:zm N_f ["_law_one","_law_other"] (zf s_f):=by refine ⟨rfl,rfl,rfl, ?_,rfl, ?_, ?_⟩ <;> decide+kernel
abbrev s_1:Stmt:=top 21
abbrev N_1:List Str:=["kind"]
theorem G9:zm N_1 ["kind"] (zf s_1):=by refine ⟨rfl,rfl,rfl, ?_,rfl, ?_, ?_⟩ <;> decide+kernel
abbrev s_l:Stmt:=top 22
abbrev N_l:List Str:=["kinds","count","kind"]
theorem XY:zm N_l ["kinds"] (zf s_l):=by refine ⟨rfl,rfl,rfl, ?_,rfl, ?_, ?_⟩ <;> decide+kernel
abbrev s_h:Stmt:=top 23
abbrev N_h:List Str:=["kind","length"]
theorem Ga:zm N_h ["kind","length"] (zf s_h):=by refine ⟨rfl,rfl,rfl, ?_,rfl, ?_, ?_⟩ <;> decide+kernel
abbrev s_d:Stmt:=top 24
abbrev N_d:List Str:=["kind","number"]
theorem Gb:zm N_d ["kind","number"] (zf s_d):=by refine ⟨rfl,rfl,rfl, ?_,rfl, ?_, ?_⟩ <;> decide+kernel
abbrev KZ:Stmt:=top 25
abbrev Gc:List Str:=["kind","number","length"]
theorem Vj:zm Gc ["kind","number"] (zf KZ):=by refine ⟨rfl,rfl,rfl, ?_,rfl, ?_, ?_⟩ <;> decide+kernel
abbrev s_k:Stmt:=top 26
abbrev N_k:List Str:=["kinds","number","parts","rest","kind","count"]
theorem Vw:zm N_k ["kinds","number"] (zf s_k):=by refine ⟨rfl,rfl,rfl, ?_,rfl, ?_, ?_⟩ <;> decide+kernel
abbrev s_s:Stmt:=top 20
abbrev N_s:List Str:=["kind","count"]
theorem g6:zm N_s ["kind"] (zf s_s):=by refine ⟨rfl,rfl,rfl, ?_,rfl, ?_, ?_⟩ <;> decide+kernel
abbrev s_i:Stmt:=top 49
abbrev N_i:List Str:=["_law_kind_here"]
theorem Ge:zm N_i ["_law_kind_here"] (zf s_i):=by refine ⟨rfl,rfl,rfl, ?_,rfl, ?_, ?_⟩ <;> decide+kernel
abbrev s_8:Stmt:=top 29
abbrev N_8:List Str:=["one","other","shared"]
theorem g9:zm N_8 ["one","other"] (zf s_8):=by refine ⟨rfl,rfl,rfl, ?_,rfl, ?_, ?_⟩ <;> decide+kernel
abbrev s_m:Stmt:=top 30
abbrev N_m:List Str:=["one","other"]
theorem Gf:zm N_m ["one","other"] (zf s_m):=by refine ⟨rfl,rfl,rfl, ?_,rfl, ?_, ?_⟩ <;> decide+kernel
abbrev s_q:Stmt:=top 19
abbrev N_q:List Str:=["kind"]
theorem Gg:zm N_q ["kind"] (zf s_q):=by refine ⟨rfl,rfl,rfl, ?_,rfl, ?_, ?_⟩ <;> decide+kernel
abbrev s_0:Stmt:=top 50
abbrev N_0:List Str:=["_law_script","_law_one","_law_other","_law_last","_law_first","_law_mine","_law_yours","_law_made"]
theorem Vk:zm N_0 ["_law_script"] (zf s_0):=by refine ⟨rfl,rfl,rfl, ?_,rfl, ?_, ?_⟩ <;> decide+kernel
structure Fn (K:PySem.W.Frag) (mg:Str->Option Value) (x:Str) (st:Stmt) (ps:List Str) (f:Addr) (fd:FuncData):Prop where
 F:Fun K x x st f fd
 b:L2.Binds K fd ps []
 m:mg x=some (.ref f)
set_option genInjectivity false in
set_option genSizeOf false in
structure Tx (K:PySem.W.Frag) (mg:Str->Option Value) where
 a_14:Addr
 d_14:FuncData
 C_14:Fn K mg "_law_cell" KO ["_law_script","_law_k"] a_14 d_14
 a_3:Addr
 d_3:FuncData
 C_3:Fn K mg "_law_pick" s_3 ["_law_script","_law_k","_law_many"] a_3 d_3
 a_u:Addr
 d_u:FuncData
 C_u:Fn K mg "_law_word_of" s_u ["_law_script","_law_at"] a_u d_u
 a_p:Addr
 d_p:FuncData
 C_p:Fn K mg "_law_leaf_kind" s_p ["_law_script","_law_at"] a_p d_p
 a_c:Addr
 d_c:FuncData
 C_c:Fn K mg "_law_kind" s_c ["_law_script","_law_at","_law_deep"] a_c d_c
 a_a:Addr
 d_a:FuncData
 C_a:Fn K mg "_law_rows_of" s_a ["_law_lists"] a_a d_a
 a_6:Addr
 d_6:FuncData
 C_6:Fn K mg "_law_all" s_6 ["_law_kind_here"] a_6 d_6
 a_7:Addr
 d_7:FuncData
 C_7:Fn K mg "_law_size" s_7 ["_law_kind_here"] a_7 d_7
 a_o:Addr
 d_o:FuncData
 C_o:Fn K mg "_law_small" s_o ["_law_script","_law_at","_law_most"] a_o d_o
 a_b:Addr
 d_b:FuncData
 C_b:Fn K mg "_law_led" s_b ["_law_script","_law_at","_law_kind_here"] a_b d_b
 a_n:Addr
 d_n:FuncData
 C_n:Fn K mg "is_whole" s_n ["thing"] a_n d_n
 a_10:Addr
 d_10:FuncData
 C_10:Fn K mg "is_span" KS ["low","high","least","most"] a_10 d_10
 a_g:Addr
 d_g:FuncData
 C_g:Fn K mg "is_tuple_of" s_g ["thing","least","most"] a_g d_g
 a_z:Addr
 d_z:FuncData
 C_z:Fn K mg "is_word" s_z ["thing"] a_z d_z
 a_y:Addr
 d_y:FuncData
 C_y:Fn K mg "is_choice" s_y ["thing"] a_y d_y
 a_r:Addr
 d_r:FuncData
 C_r:Fn K mg "are_choices" s_r ["thing"] a_r d_r
 a_9:Addr
 d_9:FuncData
 C_9:Fn K mg "is_kind_within" s_9 ["thing","levels"] a_9 d_9
 a_13:Addr
 d_13:FuncData
 C_13:Fn K mg "are_kinds_within" Ko ["thing","levels"] a_13 d_13
 a_4:Addr
 d_4:FuncData
 C_4:Fn K mg "is_kind" s_4 ["thing"] a_4 d_4
 a_e:Addr
 d_e:FuncData
 C_e:Fn K mg "need_kind" s_e ["kind"] a_e d_e
 a_w:Addr
 d_w:FuncData
 C_w:Fn K mg "common_whole" s_w ["one","other"] a_w d_w
 a_j:Addr
 d_j:FuncData
 C_j:Fn K mg "words_of_pick" s_j ["kind"] a_j d_j
 a_v:Addr
 d_v:FuncData
 C_v:Fn K mg "common_pick" s_v ["one","other"] a_v d_v
 a_t:Addr
 d_t:FuncData
 C_t:Fn K mg "kinds_of_parts" s_t ["kind","length"] a_t d_t
 a_5:Addr
 d_5:FuncData
 C_5:Fn K mg "common_kind" s_5 ["one","other"] a_5 d_5
 a_x:Addr
 d_x:FuncData
 C_x:Fn K mg "common_row" s_x ["one_kinds","other_kinds"] a_x d_x
 a_12:Addr
 d_12:FuncData
 C_12:Fn K mg "common_many" KY ["one","other"] a_12 d_12
 a_2:Addr
 d_2:FuncData
 C_2:Fn K mg "both" s_2 ["one","other"] a_2 d_2
 a_f:Addr
 d_f:FuncData
 C_f:Fn K mg "_law_both" s_f ["_law_one","_law_other"] a_f d_f
 a_1:Addr
 d_1:FuncData
 C_1:Fn K mg "count_of" s_1 ["kind"] a_1 d_1
 a_l:Addr
 d_l:FuncData
 C_l:Fn K mg "count_of_parts" s_l ["kinds"] a_l d_l
 a_h:Addr
 d_h:FuncData
 C_h:Fn K mg "count_shorter" s_h ["kind","length"] a_h d_h
 a_d:Addr
 d_d:FuncData
 C_d:Fn K mg "worth_at" s_d ["kind","number"] a_d d_d
 a_11:Addr
 d_11:FuncData
 C_11:Fn K mg "many_at" KZ ["kind","number"] a_11 d_11
 a_k:Addr
 d_k:FuncData
 C_k:Fn K mg "parts_at" s_k ["kinds","number"] a_k d_k
 a_s:Addr
 d_s:FuncData
 C_s:Fn K mg "all_worths" s_s ["kind"] a_s d_s
 a_i:Addr
 d_i:FuncData
 C_i:Fn K mg "_law_worths" s_i ["_law_kind_here"] a_i d_i
 a_8:Addr
 d_8:FuncData
 C_8:Fn K mg "is_within" s_8 ["one","other"] a_8 d_8
 a_m:Addr
 d_m:FuncData
 C_m:Fn K mg "are_apart" s_m ["one","other"] a_m d_m
 a_q:Addr
 d_q:FuncData
 C_q:Fn K mg "how_many" s_q ["kind"] a_q d_q
 a_0:Addr
 d_0:FuncData
 C_0:Fn K mg "law" s_0 ["_law_script"] a_0 d_0
 z_all:mg "all"=none
 z_bool:mg "bool"=none
 z_enumerate:mg "enumerate"=none
 z_int:mg "int"=none
 z_isinstance:mg "isinstance"=none
 z_len:mg "len"=none
 z_list:mg "list"=none
 z_max:mg "max"=none
 z_min:mg "min"=none
 z_range:mg "range"=none
 z_reversed:mg "reversed"=none
 z_set:mg "set"=none
 z_sorted:mg "sorted"=none
 z_str:mg "str"=none
 z_sum:mg "sum"=none
 z_tuple:mg "tuple"=none
 z_zip:mg "zip"=none
 c_DEEPEST:∃ u,mg "DEEPEST"=some u/\∃ t,u=Value.int 3 t
 c_MOST_TOLD:∃ u,mg "MOST_TOLD"=some u/\∃ t,u=Value.int 500 t
section
variable (P:Program) (w:World) {K:PySem.W.Frag} {mg:Str->Option Value} (base:Heap) (cl:Nat->Value) (tx:Tx K mg) (k:Nat) (c:List T->R T)
abbrev Ks:Prop:=Zz P w K mg base CX0 k tx.a_14 tx.d_14 ["_law_script","_law_k"] (spP cl 2 c)
abbrev Q_3:Prop:=Zz P w K mg base CX0 k tx.a_3 tx.d_3 ["_law_script","_law_k","_law_many"] (spP cl 3 c)
abbrev Q_u:Prop:=Zz P w K mg base CX0 k tx.a_u tx.d_u ["_law_script","_law_at"] (spP cl 2 c)
abbrev Q_p:Prop:=Zz P w K mg base CX0 k tx.a_p tx.d_p ["_law_script","_law_at"] (spP cl 2 c)
abbrev Q_c:Prop:=Zz P w K mg base CX0 k tx.a_c tx.d_c ["_law_script","_law_at","_law_deep"] (spP cl 3 c)
abbrev Q_a:Prop:=Zz P w K mg base CX0 k tx.a_a tx.d_a ["_law_lists"] (spP cl 1 c)
abbrev Q_6:Prop:=Zz P w K mg base CX0 k tx.a_6 tx.d_6 ["_law_kind_here"] (spP cl 1 c)
abbrev Q_7:Prop:=Zz P w K mg base CX0 k tx.a_7 tx.d_7 ["_law_kind_here"] (spP cl 1 c)
abbrev Q_o:Prop:=Zz P w K mg base CX0 k tx.a_o tx.d_o ["_law_script","_law_at","_law_most"] (spP cl 3 c)
abbrev Q_b:Prop:=Zz P w K mg base CX0 k tx.a_b tx.d_b ["_law_script","_law_at","_law_kind_here"] (spP cl 3 c)
abbrev Q_n:Prop:=Zz P w K mg base CX0 k tx.a_n tx.d_n ["thing"] (spP cl 1 c)
abbrev Kt:Prop:=Zz P w K mg base CX0 k tx.a_10 tx.d_10 ["low","high","least","most"] (spP cl 4 c)
abbrev Q_g:Prop:=Zz P w K mg base CX0 k tx.a_g tx.d_g ["thing","least","most"] (spP cl 3 c)
abbrev Q_z:Prop:=Zz P w K mg base CX0 k tx.a_z tx.d_z ["thing"] (spP cl 1 c)
abbrev Q_y:Prop:=Zz P w K mg base CX0 k tx.a_y tx.d_y ["thing"] (spP cl 1 c)
abbrev Q_r:Prop:=Zz P w K mg base CX0 k tx.a_r tx.d_r ["thing"] (spP cl 1 c)
abbrev Q_9:Prop:=Zz P w K mg base CX0 k tx.a_9 tx.d_9 ["thing","levels"] (spP cl 2 c)
abbrev XZ:Prop:=Zz P w K mg base CX0 k tx.a_13 tx.d_13 ["thing","levels"] (spP cl 2 c)
abbrev Q_4:Prop:=Zz P w K mg base CX0 k tx.a_4 tx.d_4 ["thing"] (spP cl 1 c)
abbrev Q_e:Prop:=Zz P w K mg base CX0 k tx.a_e tx.d_e ["kind"] (spP cl 1 c)
abbrev Q_w:Prop:=Zz P w K mg base CX0 k tx.a_w tx.d_w ["one","other"] (spP cl 2 c)
abbrev Q_j:Prop:=Zz P w K mg base CX0 k tx.a_j tx.d_j ["kind"] (spP cl 1 c)
abbrev Q_v:Prop:=Zz P w K mg base CX0 k tx.a_v tx.d_v ["one","other"] (spP cl 2 c)
abbrev Q_t:Prop:=Zz P w K mg base CX0 k tx.a_t tx.d_t ["kind","length"] (spP cl 2 c)
abbrev Q_5:Prop:=Zz P w K mg base CX0 k tx.a_5 tx.d_5 ["one","other"] (spP cl 2 c)
abbrev Q_x:Prop:=Zz P w K mg base CX0 k tx.a_x tx.d_x ["one_kinds","other_kinds"] (spP cl 2 c)
abbrev k0:Prop:=Zz P w K mg base CX0 k tx.a_12 tx.d_12 ["one","other"] (spP cl 2 c)
abbrev Q_2:Prop:=Zz P w K mg base CX0 k tx.a_2 tx.d_2 ["one","other"] (spP cl 2 c)
abbrev Q_f:Prop:=Zz P w K mg base CX0 k tx.a_f tx.d_f ["_law_one","_law_other"] (spP cl 2 c)
abbrev Q_1:Prop:=Zz P w K mg base CX0 k tx.a_1 tx.d_1 ["kind"] (spP cl 1 c)
abbrev Q_l:Prop:=Zz P w K mg base CX0 k tx.a_l tx.d_l ["kinds"] (spP cl 1 c)
abbrev Q_h:Prop:=Zz P w K mg base CX0 k tx.a_h tx.d_h ["kind","length"] (spP cl 2 c)
abbrev Q_d:Prop:=Zz P w K mg base CX0 k tx.a_d tx.d_d ["kind","number"] (spP cl 2 c)
abbrev k3:Prop:=Zz P w K mg base CX0 k tx.a_11 tx.d_11 ["kind","number"] (spP cl 2 c)
abbrev Q_k:Prop:=Zz P w K mg base CX0 k tx.a_k tx.d_k ["kinds","number"] (spP cl 2 c)
abbrev Q_s:Prop:=Zz P w K mg base CX0 k tx.a_s tx.d_s ["kind"] (spP cl 1 c)
abbrev Q_i:Prop:=Zz P w K mg base CX0 k tx.a_i tx.d_i ["_law_kind_here"] (spP cl 1 c)
abbrev Q_8:Prop:=Zz P w K mg base CX0 k tx.a_8 tx.d_8 ["one","other"] (spP cl 2 c)
abbrev Q_m:Prop:=Zz P w K mg base CX0 k tx.a_m tx.d_m ["one","other"] (spP cl 2 c)
abbrev Q_q:Prop:=Zz P w K mg base CX0 k tx.a_q tx.d_q ["kind"] (spP cl 1 c)
abbrev Q_0:Prop:=Zz P w K mg base CX0 k tx.a_0 tx.d_0 ["_law_script"] (spP cl 1 c)
end
theorem cZ {X:Cx} {Y:Fx} {cl:Nat->Value} {k j n:Nat} {f:Addr} {fd:FuncData} {ps:List Str} {g:List T->R T} {x:Str} {st:Stmt} {a:Expr} {es:List Expr} {ga:En->R (List T)} {p pos:Pos} (hy:Y.cl=cl) (F:Zz X.prog X.w X.K X.mg X.base CX0 j f fd ps (spP cl n g)) (hr:Jk k X.A) (C:Fn X.K X.mg x st ps f fd) (ha:UF X Y (a :: es) ga) (hj:j<=k:=by omega) (gl:Gl X x:=by rfl) (hd:(x == ("__debug__":Str))=false:=by decide)
  (hs:starEach (a :: es) X.env=(false,eval a X.env) :: starEach es X.env:=by exact ZB rfl) (hz:((backTo pos (starEach es X.env)).any fun x=>x.fst)=false:=by exact jA rfl):Snd X Y (.Call (.Name x p) (a :: es) [] pos) (zc n g ga):=vx hy F hr hj gl C.m C.F.kp C.b ha hd hs hz
section
variable {P:Program} {w:World} {K:PySem.W.Frag} {mg:Str->Option Value} {base:Heap} {cl:Nat->Value} {tx:Tx K mg}
theorem Ku:Ks P w base cl tx 1 (fun ts=>zn (KI  (en0 2 ts))):=by
 refine zU tx.C_14.F Kl rfl (fun cdv A outer s H E Y hy hr=> ?_) (fun ts h=>rfl)
 refine zi ?_ ?_
 refine zL ?_ ?_ ?_
 exact zt v8 UL (zq 1 (pv 1)) (Snd.b (j4 (by rfl) tx.z_len (zq 0 (pv 0)))) (zk _)
 exact zl (zp (zI (zb 0 (pv 0)) (zb 1 (pv 1))))
 exact zJ
 refine zi ?_ ?_
 refine zL ?_ ?_ ?_
 exact zt zX (zw hr.units) (zq 0 (pv 0)) (Snd.b (wc zh)) (zk _)
 exact zl (zp zd)
 exact zJ
 refine zl ?_
 refine zp ?_
 refine zN ?_ ?_
 refine ZS ?_ ?_
 exact zI (zb 0 (pv 0)) (UK (zb 1 (pv 1)) (j4 (by rfl) tx.z_len (zq 0 (pv 0))))
 exact zd
 exact zb 1 (pv 1)
theorem Gh {c_14:List T->R T} (O_14:Ks P w base cl tx 1 c_14):Q_3 P w base cl tx 2 (fun ts=>zn (b_3 c_14 (en0 4 ts))):=by
 refine zU tx.C_3.F KP rfl (fun cdv A outer s H E Y hy hr=> ?_) (fun ts h=>rfl)
 refine zi ?_ ?_
 refine zZ (i:=3) KP.nd (by rfl) (.inl (by rfl)) ?_
 refine UK ?_ ?_
 refine ZS ?_ ?_
 refine zN ?_ ?_
 exact cZ hy O_14 hr tx.C_14 (za (zb 0 (pv 0)) (za (zb 1 (pv 1)) zh))
 exact ZS zd (zN (zb 1 (pv 1)) zd)
 exact zd
 exact zd
 refine zl ?_
 refine zp ?_
 refine UK ?_ ?_
 refine UK ?_ ?_
 exact zN (ZS (zb 3 (pv 3)) (zb 3 (pv 3))) (qV (zb 3 (pv 3)) zd)
 exact zd
 exact zb 2 (pv 2)
theorem Gi {c_3:List T->R T} (O_3:Q_3 P w base cl tx 2 c_3):Q_u P w base cl tx 3 (fun ts=>zn (b_u c_3 (en0 3 ts))):=by
 refine zU tx.C_u.F KQ rfl (fun cdv A outer s H E Y hy hr=> ?_) (fun ts h=>rfl)
 refine zi ?_ ?_
 exact zZ (i:=2) KQ.nd (by rfl) (.inr (by rfl)) zM
 refine zi ?_ ?_
 refine zL ?_ ?_ ?_
 refine zt uQ JT ?_ ?_ (zk _)
 refine Snd.b ?_
 refine cZ hy O_3 hr tx.C_3 ?_
 exact za (zb 0 (pv 0)) (za (zb 1 (pv 1)) (za zd zh))
 exact Snd.b zd
 refine zl ?_
 refine zp ?_
 refine zI ?_ ?_
 refine wc ?_
 refine za ?_ ?_
 exact zM
 exact za zM (za zM (za zM zh))
 refine cZ hy O_3 hr tx.C_3 ?_
 refine za ?_ ?_
 exact zb 0 (pv 0)
 exact za (zN (zb 1 (pv 1)) zd) (za zd zh)
 exact zJ
 refine zl ?_
 refine zp ?_
 refine xA ?_
 refine Snd.b ?_
 refine ZI (Zt ["_law_k","_law_script","_law_at","_law_letters"] N_u (zf s_u) (by rfl) (by rfl) (by decide+kernel) (by rfl) ?_ (fun _ _ _ _ _ _=>zA (show List.Nodup (["_law_k","_law_script","_law_at","_law_letters"]:List Str) by decide+kernel) (by rfl) (.inl (by rfl)) (.inr (by rfl))) (Z7 0) (Z8 0) (fun Y' hy' _ _ _ _ _ _=> ?_) (fun Y' hy' _ _ _ _ _ _ _ hp' => ?_))
 refine W3 (by rfl) tx.z_range ?_
 refine zN ?_ ?_
 exact zd
 refine cZ hy O_3 hr tx.C_3 ?_
 refine za ?_ ?_
 exact zb 0 (pv 0)
 exact za (zN (zb 1 (pv 1)) zd) (za zd zh)
 exact Zw
 refine zI ?_ ?_
 exact zb 3 (pv 3)
 refine cZ (hy'.trans hy) O_3 hr tx.C_3 ?_
 refine za ?_ ?_
 exact zb 1 (pv 1)
 refine za ?_ ?_
 exact zN (zN (zb 2 (pv 2)) zd) (zb 0 (pv 0))
 exact za zd zh
theorem Gj {c_3 c_u:List T->R T} (O_3:Q_3 P w base cl tx 2 c_3) (O_u:Q_u P w base cl tx 3 c_u):Q_p P w base cl tx 4 (fun ts=>zn (b_p c_3 c_u (en0 6 ts))):=by
 refine zU tx.C_p.F Vu rfl (fun cdv A outer s H E Y hy hr=> ?_) (fun ts h=>rfl)
 refine zi ?_ ?_
 refine zL ?_ ?_ ?_
 refine zt uQ JT ?_ ?_ (zk _)
 refine Snd.b ?_
 refine cZ hy O_3 hr tx.C_3 ?_
 exact za (zb 0 (pv 0)) (za (zb 1 (pv 1)) (za zd zh))
 exact Snd.b zd
 refine zi ?_ ?_
 refine zZ (i:=2) Vu.nd (by rfl) (.inl (by rfl)) ?_
 refine wZ ?_ ?_
 refine cZ hy O_3 hr tx.C_3 ?_
 refine za ?_ ?_
 exact zb 0 (pv 0)
 exact za (zN (zb 1 (pv 1)) zd) (za zd zh)
 exact zd
 refine zi ?_ ?_
 refine zL ?_ ?_ ?_
 refine zt zX (zw hr.units) ?_ ?_ (zk _)
 refine Snd.b ?_
 refine cZ hy O_3 hr tx.C_3 ?_
 refine za ?_ ?_
 exact zb 0 (pv 0)
 exact za (zN (zb 1 (pv 1)) zd) (za zd zh)
 exact Snd.b zd
 refine zl ?_
 refine zZ (i:=2) Vu.nd (by rfl) (.inl (by rfl)) ?_
 refine zI ?_ ?_
 refine wc ?_
 refine za ?_ ?_
 exact QZ zd
 exact za zd (za zd zh)
 refine cZ hy O_3 hr tx.C_3 ?_
 refine za ?_ ?_
 exact zb 0 (pv 0)
 exact za (zN (zb 1 (pv 1)) zd) (za zd zh)
 exact zJ
 refine zl ?_
 refine zp ?_
 refine ZE ?_
 refine za ?_ ?_
 exact zM
 refine za ?_ ?_
 exact zb 2 (pv 2)
 refine za ?_ ?_
 refine JW (by rfl) (by rfl) tx.z_min ?_ ?_
 exact zd
 refine zN ?_ ?_
 exact zb 2 (pv 2)
 refine cZ hy O_3 hr tx.C_3 ?_
 refine za ?_ ?_
 exact zb 0 (pv 0)
 exact za (zN (zb 1 (pv 1)) zd) (za zd zh)
 exact zh
 exact zJ
 refine zi ?_ ?_
 exact WY (i:=3) Vu.nd (by rfl) (.inl (by rfl)) zh
 refine zi ?_ ?_
 refine wg PassesOwn.never (by rfl) ?_ ?_ ?_
 refine W3 (by rfl) tx.z_range ?_
 refine zN ?_ ?_
 exact zd
 refine cZ hy O_3 hr tx.C_3 ?_
 refine za ?_ ?_
 exact zb 0 (pv 0)
 exact za (zN (zb 1 (pv 1)) zd) (za zd zh)
 exact J0 (i:=4) Vu.nd (by rfl) (.inl (by rfl))
 refine zi ?_ ?_
 refine zZ (i:=5) Vu.nd (by rfl) (.inl (by rfl)) ?_
 refine cZ hy O_u hr tx.C_u ?_
 refine za ?_ ?_
 exact zb 0 (pv 0)
 refine za ?_ ?_
 exact zN (zN (zb 1 (pv 1)) zd) (ZS zd (zb 4 (pv 4)))
 exact zh
 refine zl ?_
 refine zL ?_ ?_ ?_
 exact zt xj (va hr.units) (zq 5 (pv 5)) (zq 3 (pv 3)) (by rfl)
 exact zl (xo (i:=3) (pv 3) (zb 5 (pv 5)))
 exact zJ
 refine zl ?_
 refine zp ?_
 refine ZE ?_
 refine za ?_ ?_
 exact zM
 refine za ?_ ?_
 refine Jr (by rfl) tx.z_tuple ?_
 refine ZI (Zt ["_law_k","_law_word","_law_script","_law_at"] N_p (zf s_p) (by rfl) (by rfl) (by decide+kernel) (by rfl) ?_ (fun _ _ _ _ _ _=>JM (by rfl) (Zm (zA (show List.Nodup (["_law_k","_law_word","_law_script","_law_at"]:List Str) by decide+kernel) (by rfl) (.inl (by rfl)) (.inr (by rfl))) (Zm (zA (show List.Nodup (["_law_k","_law_word","_law_script","_law_at"]:List Str) by decide+kernel) (by rfl) (.inl (by rfl)) (.inr (by rfl))) jN))) (jE _ 0 1) (jF 0 1) (fun Y' hy' _ _ _ _ _ _=> ?_) (fun Y' hy' _ _ _ _ _ _ _ hp' => ?_))
 exact xy (by rfl) tx.z_enumerate (zb 3 (pv 3))
 exact Zw
 refine ZE ?_
 refine za ?_ ?_
 exact zb 1 (pv 1)
 refine za ?_ ?_
 refine zN ?_ ?_
 exact zd
 refine cZ (hy'.trans hy) O_3 hr tx.C_3 ?_
 refine za ?_ ?_
 exact zb 2 (pv 2)
 refine za ?_ ?_
 exact zN (zN (zb 3 (pv 3)) zd) (zb 0 (pv 0))
 exact za zd zh
 exact zh
 exact zh
theorem Gk {j:Nat} (hj:4<=j) {c_3 c_p c_c:List T->R T} (O_3:Q_3 P w base cl tx 2 c_3) (O_p:Q_p P w base cl tx 4 c_p) (O_c:Q_c P w base cl tx j c_c):Q_c P w base cl tx (j+1) (fun ts=>zn (b_c c_3 c_p c_c (en0 6 ts))):=by
 refine zU tx.C_c.F XW rfl (fun cdv A outer s H E Y hy hr=> ?_) (fun ts h=>rfl)
 refine zi ?_ ?_
 refine zZ (i:=3) XW.nd (by rfl) (.inl (by rfl)) ?_
 refine cZ hy O_3 hr tx.C_3 ?_
 exact za (zb 0 (pv 0)) (za (zb 1 (pv 1)) (za zd zh))
 refine zi ?_ ?_
 refine zL ?_ ?_ ?_
 refine JJ.t ?_
 refine qX ?_ ?_
 exact zt zX (zw hr.units) (zq 2 (pv 2)) (Snd.b zd) (zk _)
 exact WC (zt v8 UL (zq 3 (pv 3)) (Snd.b zd) (zk _))
 refine zl ?_
 refine zp ?_
 refine cZ hy O_p hr tx.C_p ?_
 exact za (zb 0 (pv 0)) (za (zN (zb 1 (pv 1)) zd) zh)
 exact zJ
 refine zi ?_ ?_
 refine zL ?_ ?_ ?_
 exact zt v8 UL (zq 3 (pv 3)) (Snd.b zd) (zk _)
 refine zi ?_ ?_
 refine u7 (i:=4) (Zt ["_law_k","_law_script","_law_at","_law_deep"] N_c (zf s_c) (by rfl) (by rfl) (by decide+kernel) (by rfl) ?_ (fun _ _ _ _ _ _=>zA (show List.Nodup (["_law_k","_law_script","_law_at","_law_deep"]:List Str) by decide+kernel) (by rfl) (.inl (by rfl)) (.inr (by rfl))) (Z7 0) (Z8 0) (fun Y' hy' _ _ _ _ _ _=> ?_) (fun Y' hy' _ _ _ _ _ _ _ hp' => ?_)) XW.nd (by rfl) (.inl (by rfl)) (by rfl)
 refine W3 (by rfl) tx.z_range ?_
 refine zN ?_ ?_
 exact zd
 refine cZ hy O_3 hr tx.C_3 ?_
 refine za ?_ ?_
 exact zb 0 (pv 0)
 exact za (zN (zb 1 (pv 1)) zd) (za zd zh)
 exact Zw
 refine cZ (hy'.trans hy) O_c hr tx.C_c ?_
 refine za ?_ ?_
 exact zb 1 (pv 1)
 refine za ?_ ?_
 refine zN ?_ ?_
 exact zN (ZS zd (zb 2 (pv 2))) zd
 exact ZS zd (zb 0 (pv 0))
 exact za (wZ (zb 3 (pv 3)) zd) zh
 refine zl ?_
 refine zp ?_
 exact ZE (za zM (za (Jr (by rfl) tx.z_tuple (zb 4 (pv 4))) zh))
 exact zJ
 refine zi ?_ ?_
 refine zZ (i:=5) XW.nd (by rfl) (.inl (by rfl)) ?_
 refine cZ hy O_3 hr tx.C_3 ?_
 refine za ?_ ?_
 exact zb 0 (pv 0)
 exact za (zN (zb 1 (pv 1)) zd) (za zd zh)
 refine zl ?_
 refine zp ?_
 refine ZE ?_
 refine za ?_ ?_
 exact zM
 refine za ?_ ?_
 refine cZ hy O_c hr tx.C_c ?_
 refine za ?_ ?_
 exact zb 0 (pv 0)
 refine za ?_ ?_
 exact zN (ZS zd (zb 1 (pv 1))) zd
 exact za (wZ (zb 2 (pv 2)) zd) zh
 refine za ?_ ?_
 exact zb 5 (pv 5)
 refine za ?_ ?_
 refine JW (by rfl) (by rfl) tx.z_min ?_ ?_
 exact zd
 refine zN ?_ ?_
 exact zb 5 (pv 5)
 refine cZ hy O_3 hr tx.C_3 ?_
 refine za ?_ ?_
 exact zb 0 (pv 0)
 exact za (zN (zb 1 (pv 1)) zd) (za zd zh)
 exact zh
theorem Gm:Q_a P w base cl tx 1 (fun ts=>zn (b_a  (en0 5 ts))):=by
 refine zU tx.C_a.F Vv rfl (fun cdv A outer s H E Y hy hr=> ?_) (fun ts h=>rfl)
 refine zi ?_ ?_
 exact zZ (i:=1) Vv.nd (by rfl) (.inl (by rfl)) (wc (za (ZE zh) zh))
 refine zi ?_ ?_
 refine wg PassesOwn.never (by rfl) ?_ ?_ ?_
 exact jb (zb 0 (pv 0))
 exact J0 (i:=2) Vv.nd (by rfl) (.inl (by rfl))
 refine zi ?_ ?_
 exact WY (i:=3) Vv.nd (by rfl) (.inl (by rfl)) zh
 refine zi ?_ ?_
 refine wg PassesOwn.never (by rfl) ?_ ?_ ?_
 exact jb (zb 1 (pv 1))
 exact J0 (i:=4) Vv.nd (by rfl) (.inr (by rfl))
 refine zl ?_
 refine xp (i:=3) (pv 3) ?_
 refine ZI (Zt ["_law_one","_law_ahead"] N_a (zf s_a) (by rfl) (by rfl) (by decide+kernel) (by rfl) ?_ (fun _ _ _ _ _ _=>zA (show List.Nodup (["_law_one","_law_ahead"]:List Str) by decide+kernel) (by rfl) (.inl (by rfl)) (.inr (by rfl))) (Z7 0) (Z8 0) (fun Y' hy' _ _ _ _ _ _=> ?_) (fun Y' hy' _ _ _ _ _ _ _ hp' => ?_))
 exact jb (zb 2 (pv 2))
 exact Zw
 exact zN (zb 1 (pv 1)) (ZE (za (zb 0 (pv 0)) zh))
 exact zl (gL (i:=1) (j:=3) (pv 3) Vv.nd (by rfl) (.inl (by rfl)))
 exact zl (zp (zb 1 (pv 1)))
theorem Gn {j:Nat} (hj:1<=j) {c_6 c_a:List T->R T} (O_6:Q_6 P w base cl tx j c_6) (O_a:Q_a P w base cl tx 1 c_a):Q_6 P w base cl tx (j+1) (fun ts=>zn (b_6 c_6 c_a (en0 3 ts))):=by
 refine zU tx.C_6.F Km rfl (fun cdv A outer s H E Y hy hr=> ?_) (fun ts h=>rfl)
 refine zi ?_ ?_
 refine zL ?_ ?_ ?_
 exact zt zX (zw hr.units) (Snd.b (zI (zb 0 (pv 0)) zd)) (Snd.b zM) (zk _)
 refine zl ?_
 refine zp ?_
 refine vJ hr.hd (by rfl) tx.z_list (by rfl) tx.z_range ?_ ?_
 exact zI (zb 0 (pv 0)) zd
 exact zN (zI (zb 0 (pv 0)) zd) zd
 exact zJ
 refine zi ?_ ?_
 refine zL ?_ ?_ ?_
 exact zt zX (zw hr.units) (Snd.b (zI (zb 0 (pv 0)) zd)) (Snd.b zM) (zk _)
 refine zl ?_
 refine zp ?_
 refine ZI (Zt ["_law_word","_law_heavy"] N_6 (zf s_6) (by rfl) (by rfl) (by decide+kernel) (by rfl) ?_ (fun _ _ _ _ _ _=>JM (by rfl) (Zm (zA (show List.Nodup (["_law_word","_law_heavy"]:List Str) by decide+kernel) (by rfl) (.inl (by rfl)) (.inr (by rfl))) (Zm (zA (show List.Nodup (["_law_word","_law_heavy"]:List Str) by decide+kernel) (by rfl) (.inl (by rfl)) (.inr (by rfl))) jN))) (jE _ 0 1) (jF 0 1) (fun Y' hy' _ _ _ _ _ _=> ?_) (fun Y' hy' _ _ _ _ _ _ _ hp' => ?_))
 exact jb (zI (zb 0 (pv 0)) zd)
 exact Zw
 exact zb 0 (pv 0)
 exact zJ
 refine zi ?_ ?_
 refine zL ?_ ?_ ?_
 exact zt zX (zw hr.units) (Snd.b (zI (zb 0 (pv 0)) zd)) (Snd.b zM) (zk _)
 refine zl ?_
 refine zp ?_
 refine cZ hy O_a hr tx.C_a ?_
 refine za ?_ ?_
 refine ZI (Zt ["_law_one"] N_6 (zf s_6) (by rfl) (by rfl) (by decide+kernel) (by rfl) ?_ (fun _ _ _ _ _ _=>zA (show List.Nodup (["_law_one"]:List Str) by decide+kernel) (by rfl) (.inl (by rfl)) (.inr (by rfl))) (Z7 0) (Z8 0) (fun Y' hy' _ _ _ _ _ _=> ?_) (fun Y' hy' _ _ _ _ _ _ _ hp' => ?_))
 exact jb (zI (zb 0 (pv 0)) zd)
 exact Zw
 exact cZ (hy'.trans hy) O_6 hr tx.C_6 (za (zb 0 (pv 0)) zh)
 exact zh
 exact zJ
 refine zi ?_ ?_
 exact WY (i:=1) Km.nd (by rfl) (.inl (by rfl)) zh
 refine zi ?_ ?_
 refine wg PassesOwn.never (by rfl) ?_ ?_ ?_
 refine Q2 (by rfl) tx.z_range ?_ ?_
 exact zI (zb 0 (pv 0)) zd
 exact zN (zI (zb 0 (pv 0)) zd) zd
 exact J0 (i:=2) Km.nd (by rfl) (.inl (by rfl))
 refine zl ?_
 refine xp (i:=1) (pv 1) ?_
 refine cZ hy O_a hr tx.C_a ?_
 refine za ?_ ?_
 refine ZS ?_ ?_
 refine wc ?_
 refine za ?_ ?_
 exact cZ hy O_6 hr tx.C_6 (za (zI (zb 0 (pv 0)) zd) zh)
 exact zh
 exact zb 2 (pv 2)
 exact zh
 exact zl (zp (zb 1 (pv 1)))
theorem Go {j:Nat} (hj:9<=j) {c_6 c_7:List T->R T} (O_6:Q_6 P w base cl tx 9 c_6) (O_7:Q_7 P w base cl tx j c_7):Q_7 P w base cl tx (j+1) (fun ts=>zn (b_7 c_6 c_7 (en0 5 ts))):=by
 refine zU tx.C_7.F qO rfl (fun cdv A outer s H E Y hy hr=> ?_) (fun ts h=>rfl)
 refine zi ?_ ?_
 refine zL ?_ ?_ ?_
 refine zt UM (UP hr.units) ?_ ?_ (by rfl)
 exact Snd.b (zI (zb 0 (pv 0)) zd)
 exact Snd.b (ZE (za zM (za zM zh)))
 refine zl ?_
 exact zp (j4 (by rfl) tx.z_len (Snd.b (cZ hy O_6 hr tx.C_6 (za (zb 0 (pv 0)) zh))))
 exact zJ
 refine zi ?_ ?_
 refine zZ (i:=1) qO.nd (by rfl) (.inl (by rfl)) ?_
 refine vc ?_ ?_ ?_
 exact zt zX (zw hr.units) (Snd.b (zI (zb 0 (pv 0)) zd)) (Snd.b zM) (zk _)
 refine ZI (Zt ["_law_one"] N_7 (zf s_7) (by rfl) (by rfl) (by decide+kernel) (by rfl) ?_ (fun _ _ _ _ _ _=>zA (show List.Nodup (["_law_one"]:List Str) by decide+kernel) (by rfl) (.inl (by rfl)) (.inr (by rfl))) (Z7 0) (Z8 0) (fun Y' hy' _ _ _ _ _ _=> ?_) (fun Y' hy' _ _ _ _ _ _ _ hp' => ?_))
 exact jb (zI (zb 0 (pv 0)) zd)
 exact Zw
 exact cZ (hy'.trans hy) O_7 hr tx.C_7 (za (zb 0 (pv 0)) zh)
 exact wc zh
 refine zi ?_ ?_
 exact zZ (i:=2) qO.nd (by rfl) (.inl (by rfl)) zd
 refine zi ?_ ?_
 refine wg PassesOwn.never (by rfl) ?_ ?_ ?_
 exact jb (zb 1 (pv 1))
 exact J0 (i:=3) qO.nd (by rfl) (.inl (by rfl))
 exact zl (zZ (i:=2) qO.nd (by rfl) (.inl (by rfl)) (ZS (zb 2 (pv 2)) (zb 3 (pv 3))))
 refine zi ?_ ?_
 refine zL ?_ ?_ ?_
 exact zt zX (zw hr.units) (Snd.b (zI (zb 0 (pv 0)) zd)) (Snd.b zM) (zk _)
 refine zi ?_ ?_
 exact zZ (i:=4) qO.nd (by rfl) (.inl (by rfl)) (cZ hy O_7 hr tx.C_7 (za (zI (zb 0 (pv 0)) zd) zh))
 refine zi ?_ ?_
 refine zZ (i:=2) qO.nd (by rfl) (.inl (by rfl)) ?_
 refine zN ?_ ?_
 refine ua (by rfl) tx.z_int ?_
 exact jB zX (zw hr.units) (Snd.b (zI (zb 0 (pv 0)) zd)) (Snd.b zd) (zk _)
 refine ZS ?_ ?_
 exact zb 4 (pv 4)
 refine ua (by rfl) tx.z_int ?_
 refine Jq ZT ZT Zj Zj ?_ ?_ ?_
 exact Snd.b (zI (zb 0 (pv 0)) zd)
 exact Snd.b zd
 exact Snd.b (zI (zb 0 (pv 0)) zd)
 refine zi ?_ ?_
 refine zZ (i:=2) qO.nd (by rfl) (.inl (by rfl)) ?_
 refine zN ?_ ?_
 exact zb 2 (pv 2)
 refine ZS ?_ ?_
 exact ZS (zb 4 (pv 4)) (zb 4 (pv 4))
 refine ua (by rfl) tx.z_int ?_
 refine Jq ZT ZT Zj Zj ?_ ?_ ?_
 exact Snd.b (zI (zb 0 (pv 0)) zd)
 exact Snd.b zd
 exact Snd.b (zI (zb 0 (pv 0)) zd)
 refine zl ?_
 refine zZ (i:=2) qO.nd (by rfl) (.inl (by rfl)) ?_
 refine zN ?_ ?_
 exact zb 2 (pv 2)
 refine ZS ?_ ?_
 exact ZS (ZS (zb 4 (pv 4)) (zb 4 (pv 4))) (zb 4 (pv 4))
 refine ua (by rfl) tx.z_int ?_
 exact jB zX (zw hr.units) (Snd.b (zI (zb 0 (pv 0)) zd)) (Snd.b zd) (zk _)
 exact zJ
 exact zl (zp (zb 2 (pv 2)))
theorem Gp {c_c c_7:List T->R T} (O_c:Q_c P w base cl tx 12 c_c) (O_7:Q_7 P w base cl tx 17 c_7):Q_o P w base cl tx 18 (fun ts=>zn (b_o c_c c_7 (en0 5 ts))):=by
 refine zU tx.C_o.F XX rfl (fun cdv A outer s H E Y hy hr=> ?_) (fun ts h=>rfl)
 refine zi ?_ ?_
 refine zZ (i:=3) XX.nd (by rfl) (.inl (by rfl)) ?_
 refine cZ hy O_c hr tx.C_c ?_
 exact za (zb 0 (pv 0)) (za (zb 1 (pv 1)) (za zd zh))
 refine zi ?_ ?_
 refine wg PassesOwn.never (by rfl) ?_ ?_ ?_
 exact W3 (by rfl) tx.z_range zd
 exact J0 (i:=4) XX.nd (by rfl) (.inl (by rfl))
 refine zi ?_ ?_
 refine zL ?_ ?_ ?_
 exact zt ZT Zj (Snd.b (cZ hy O_7 hr tx.C_7 (za (zb 3 (pv 3)) zh))) (zq 2 (pv 2)) (zk _)
 exact zl (zp (zb 3 (pv 3)))
 exact zJ
 refine zl ?_
 refine zZ (i:=3) XX.nd (by rfl) (.inl (by rfl)) ?_
 refine cZ hy O_c hr tx.C_c ?_
 refine za ?_ ?_
 exact zb 0 (pv 0)
 refine za ?_ ?_
 exact zN (zN (zb 1 (pv 1)) zd) (ZS zd (zb 4 (pv 4)))
 exact za zd zh
 refine zl ?_
 refine zp ?_
 refine vc ?_ ?_ ?_
 exact zt ZT Zj (Snd.b (cZ hy O_7 hr tx.C_7 (za (zb 3 (pv 3)) zh))) (zq 2 (pv 2)) (zk _)
 exact zb 3 (pv 3)
 refine ZE ?_
 refine za ?_ ?_
 exact zM
 exact za (QZ zd) (za zd zh)
theorem Gq {j:Nat} (hj:2<=j) {c_3 c_b:List T->R T} (O_3:Q_3 P w base cl tx 2 c_3) (O_b:Q_b P w base cl tx j c_b):Q_b P w base cl tx (j+1) (fun ts=>zn (b_b c_3 c_b (en0 4 ts))):=by
 refine zU tx.C_b.F KR rfl (fun cdv A outer s H E Y hy hr=> ?_) (fun ts h=>rfl)
 refine zi ?_ ?_
 refine zL ?_ ?_ ?_
 exact zt zX (zw hr.units) (Snd.b (zI (zb 2 (pv 2)) zd)) (Snd.b zM) (zk _)
 refine zi ?_ ?_
 refine zZ (i:=3) KR.nd (by rfl) (.inl (by rfl)) ?_
 refine zN ?_ ?_
 exact zI (zb 2 (pv 2)) zd
 refine cZ hy O_3 hr tx.C_3 ?_
 exact za (zb 0 (pv 0)) (za (zb 1 (pv 1)) (za zd zh))
 refine zl ?_
 refine zp ?_
 refine ZE ?_
 refine za ?_ ?_
 exact zM
 refine za ?_ ?_
 exact JW (by rfl) (by rfl) tx.z_min (zb 3 (pv 3)) (zI (zb 2 (pv 2)) zd)
 exact za (zI (zb 2 (pv 2)) zd) zh
 exact zJ
 refine zi ?_ ?_
 refine zL ?_ ?_ ?_
 exact zt zX (zw hr.units) (Snd.b (zI (zb 2 (pv 2)) zd)) (Snd.b zM) (zk _)
 refine zl ?_
 refine zp ?_
 refine ZE ?_
 refine za ?_ ?_
 exact zM
 refine za ?_ ?_
 refine vh ?_ ?_ ?_
 exact zI (zb 2 (pv 2)) zd
 exact xk
 refine xl ?_
 refine yt (by rfl) (by rfl) tx.z_max ?_ ?_
 exact zd
 refine wZ ?_ ?_
 exact j4 (by rfl) tx.z_len (Snd.b (zI (zb 2 (pv 2)) zd))
 refine cZ hy O_3 hr tx.C_3 ?_
 exact za (zb 0 (pv 0)) (za (zb 1 (pv 1)) (za zd zh))
 exact zh
 exact zJ
 refine zi ?_ ?_
 refine zL ?_ ?_ ?_
 exact zt zX (zw hr.units) (Snd.b (zI (zb 2 (pv 2)) zd)) (Snd.b zM) (zk _)
 refine zl ?_
 refine zp ?_
 refine ZE ?_
 refine za ?_ ?_
 exact zM
 refine za ?_ ?_
 refine Jr (by rfl) tx.z_tuple ?_
 refine ZI (Zt ["_law_k","_law_one","_law_script","_law_at"] N_b (zf s_b) (by rfl) (by rfl) (by decide+kernel) (by rfl) ?_ (fun _ _ _ _ _ _=>JM (by rfl) (Zm (zA (show List.Nodup (["_law_k","_law_one","_law_script","_law_at"]:List Str) by decide+kernel) (by rfl) (.inl (by rfl)) (.inr (by rfl))) (Zm (zA (show List.Nodup (["_law_k","_law_one","_law_script","_law_at"]:List Str) by decide+kernel) (by rfl) (.inl (by rfl)) (.inr (by rfl))) jN))) (jE _ 0 1) (jF 0 1) (fun Y' hy' _ _ _ _ _ _=> ?_) (fun Y' hy' _ _ _ _ _ _ _ hp' => ?_))
 exact vN (by rfl) tx.z_enumerate (zI (zb 2 (pv 2)) zd)
 exact Zw
 refine cZ (hy'.trans hy) O_b hr tx.C_b ?_
 refine za ?_ ?_
 exact zb 2 (pv 2)
 refine za ?_ ?_
 exact zN (zb 3 (pv 3)) (ZS zd (zb 0 (pv 0)))
 exact za (zb 1 (pv 1)) zh
 exact zh
 exact zJ
 refine zl ?_
 refine zp ?_
 refine ZE ?_
 refine za ?_ ?_
 exact zM
 refine za ?_ ?_
 refine cZ hy O_b hr tx.C_b ?_
 refine za ?_ ?_
 exact zb 0 (pv 0)
 refine za ?_ ?_
 exact zN (zb 1 (pv 1)) zd
 exact za (zI (zb 2 (pv 2)) zd) zh
 refine za ?_ ?_
 refine JW (by rfl) (by rfl) tx.z_min ?_ ?_
 refine zN ?_ ?_
 exact zI (zb 2 (pv 2)) zd
 refine cZ hy O_3 hr tx.C_3 ?_
 exact za (zb 0 (pv 0)) (za (zb 1 (pv 1)) (za zd zh))
 exact zI (zb 2 (pv 2)) zd
 exact za (zI (zb 2 (pv 2)) zd) zh
theorem Gr:Q_n P w base cl tx 1 (fun ts=>zn (b_n  (en0 1 ts))):=by
 refine zU tx.C_n.F gS rfl (fun cdv A outer s H E Y hy hr=> ?_) (fun ts h=>rfl)
 refine zl ?_
 refine zp ?_
 exact ja (UV (n:="int") (ve _) (by rfl) tx.z_isinstance (by rfl) tx.z_int PyProof.Rows.Boot.«int» (zq 0 (pv 0))) (jQ (kD (UV (n:="bool") (YS _) (by rfl) tx.z_isinstance (by rfl) tx.z_bool PyProof.Rows.Boot.«bool» (zq 0 (pv 0)))))
theorem Kv {c_n:List T->R T} (O_n:Q_n P w base cl tx 1 c_n):Kt P w base cl tx 2 (fun ts=>zn (KJ c_n (en0 4 ts))):=by
 refine zU tx.C_10.F Kn rfl (fun cdv A outer s H E Y hy hr=> ?_) (fun ts h=>rfl)
 refine zl ?_
 refine zp ?_
 refine ja ?_ ?_
 exact cZ hy O_n hr tx.C_n (za (zb 0 (pv 0)) zh)
 refine ja ?_ ?_
 exact cZ hy O_n hr tx.C_n (za (zb 1 (pv 1)) zh)
 exact jQ (YO ZT ZT ZT Zj Zj Zj (zq 2 (pv 2)) (zq 0 (pv 0)) (zq 1 (pv 1)) (zq 3 (pv 3)))
theorem Gs:Q_g P w base cl tx 1 (fun ts=>zn (b_g  (en0 3 ts))):=by
 refine zU tx.C_g.F gU rfl (fun cdv A outer s H E Y hy hr=> ?_) (fun ts h=>rfl)
 refine zl ?_
 refine zp ?_
 refine ja ?_ ?_
 exact UV (n:="tuple") (W2 _) (by rfl) tx.z_isinstance (by rfl) tx.z_tuple PyProof.Rows.Boot.«tuple» (zq 0 (pv 0))
 exact jQ (Jq ZT ZT Zj Zj (zq 1 (pv 1)) (Snd.b (j4 (by rfl) tx.z_len (zq 0 (pv 0)))) (zq 2 (pv 2)))
theorem Gu:Q_z P w base cl tx 1 (fun ts=>zn (b_z  (en0 1 ts))):=by
 refine zU tx.C_z.F gW rfl (fun cdv A outer s H E Y hy hr=> ?_) (fun ts h=>rfl)
 refine zi ?_ ?_
 refine zL ?_ ?_ ?_
 refine JJ.t ?_
 refine qX ?_ ?_
 exact W1 (we (Snd.b (UV (n:="str") (vf _) (by rfl) tx.z_isinstance (by rfl) tx.z_str PyProof.Rows.Boot.«str» (zq 0 (pv 0)))))
 refine WC ?_
 refine W1 ?_
 refine UR ZT ZT Zj Zj ?_ ?_ ?_
 exact Snd.b zd
 exact Snd.b (j4 (by rfl) tx.z_len (zq 0 (pv 0)))
 exact Snd.b zd
 exact zl (zp uN)
 exact zJ
 refine zl ?_
 refine zp ?_
 refine vj hr.hd (by rfl) tx.z_all ?_
 refine Snd.b ?_
 refine ZI (Zt ["sign"] N_z (zf s_z) (by rfl) (by rfl) (by decide+kernel) (by rfl) ?_ (fun _ _ _ _ _ _=>zA (show List.Nodup (["sign"]:List Str) by decide+kernel) (by rfl) (.inl (by rfl)) (.inr (by rfl))) (Z7 0) (Z8 0) (fun Y' hy' _ _ _ _ _ _=> ?_) (fun Y' hy' _ _ _ _ _ _ _ hp' => ?_))
 exact jb (zb 0 (pv 0))
 exact Zw
 exact Jq ZT ZT Zj Zj (Snd.b zM) (zq 0 (pv 0)) (Snd.b zM)
theorem Gv {c_n c_g c_z:List T->R T} (O_n:Q_n P w base cl tx 1 c_n) (O_g:Q_g P w base cl tx 1 c_g) (O_z:Q_z P w base cl tx 1 c_z):Q_y P w base cl tx 2 (fun ts=>zn (b_y c_n c_g c_z (en0 1 ts))):=by
 refine zU tx.C_y.F gX rfl (fun cdv A outer s H E Y hy hr=> ?_) (fun ts h=>rfl)
 refine zl ?_
 refine zp ?_
 refine ja ?_ ?_
 refine cZ hy O_g hr tx.C_g ?_
 exact za (zb 0 (pv 0)) (za zd (za zd zh))
 refine ja ?_ ?_
 exact cZ hy O_z hr tx.C_z (za (zI (zb 0 (pv 0)) zd) zh)
 refine ja ?_ ?_
 exact cZ hy O_n hr tx.C_n (za (zI (zb 0 (pv 0)) zd) zh)
 refine jQ ?_
 refine Jq ZT ZT Zj Zj ?_ ?_ ?_
 exact Snd.b zd
 exact Snd.b (zI (zb 0 (pv 0)) zd)
 exact Snd.b zd
theorem Gw {c_g c_y:List T->R T} (O_g:Q_g P w base cl tx 1 c_g) (O_y:Q_y P w base cl tx 2 c_y):Q_r P w base cl tx 3 (fun ts=>zn (b_r c_g c_y (en0 2 ts))):=by
 refine zU tx.C_r.F KT rfl (fun cdv A outer s H E Y hy hr=> ?_) (fun ts h=>rfl)
 refine zi ?_ ?_
 refine zL ?_ ?_ ?_
 refine JJ.t ?_
 refine qX ?_ ?_
 refine W1 ?_
 refine we ?_
 refine Snd.b ?_
 refine cZ hy O_g hr tx.C_g ?_
 exact za (zb 0 (pv 0)) (za zd (za zd zh))
 refine WC ?_
 refine W1 ?_
 refine we ?_
 refine Snd.b ?_
 refine vj hr.hd (by rfl) tx.z_all ?_
 refine Snd.b ?_
 refine ZI (Zt ["part"] N_r (zf s_r) (by rfl) (by rfl) (by decide+kernel) (by rfl) ?_ (fun _ _ _ _ _ _=>zA (show List.Nodup (["part"]:List Str) by decide+kernel) (by rfl) (.inl (by rfl)) (.inr (by rfl))) (Z7 0) (Z8 0) (fun Y' hy' _ _ _ _ _ _=> ?_) (fun Y' hy' _ _ _ _ _ _ _ hp' => ?_))
 exact jb (zb 0 (pv 0))
 exact Zw
 exact cZ (hy'.trans hy) O_y hr tx.C_y (za (zb 0 (pv 0)) zh)
 exact zl (zp uN)
 exact zJ
 refine zi ?_ ?_
 refine u7 (i:=1) (Zt ["choice"] N_r (zf s_r) (by rfl) (by rfl) (by decide+kernel) (by rfl) ?_ (fun _ _ _ _ _ _=>zA (show List.Nodup (["choice"]:List Str) by decide+kernel) (by rfl) (.inl (by rfl)) (.inr (by rfl))) (Z7 0) (Z8 0) (fun Y' hy' _ _ _ _ _ _=> ?_) (fun Y' hy' _ _ _ _ _ _ _ hp' => ?_)) KT.nd (by rfl) (.inl (by rfl)) (by rfl)
 exact jb (zb 0 (pv 0))
 exact Zw
 exact zI (zb 0 (pv 0)) zd
 refine zl ?_
 refine zp ?_
 exact jB zX (zw hr.units) (Snd.b (xB hr.hd (by rfl) tx.z_len (by rfl) tx.z_set (zq 1 (pv 1)))) (Snd.b (j4 (by rfl) tx.z_len (zq 1 (pv 1)))) (zk _)
theorem Gx {j:Nat} (hj:3<=j) {c_10 c_9 c_r c_13:List T->R T} (O_10:Kt P w base cl tx 2 c_10) (O_9:Q_9 P w base cl tx j c_9) (O_r:Q_r P w base cl tx 3 c_r) (O_13:XZ P w base cl tx j c_13):Q_9 P w base cl tx (j+1) (fun ts=>zn (b_9 c_10 c_9 c_r c_13 (en0 2 ts))):=by
 refine zU tx.C_9.F gY rfl (fun cdv A outer s H E Y hy hr=> ?_) (fun ts h=>rfl)
 refine zi ?_ ?_
 refine zL ?_ ?_ ?_
 refine JJ.t ?_
 refine qX ?_ ?_
 exact zt zX (zw hr.units) (zq 1 (pv 1)) (Snd.b zd) (zk _)
 refine qX ?_ ?_
 exact W1 (we (Snd.b (UV (n:="tuple") (W2 _) (by rfl) tx.z_isinstance (by rfl) tx.z_tuple PyProof.Rows.Boot.«tuple» (zq 0 (pv 0)))))
 exact WC (zt zX (zw hr.units) (Snd.b (j4 (by rfl) tx.z_len (zq 0 (pv 0)))) (Snd.b zd) (zk _))
 exact zl (zp uN)
 exact zJ
 refine zi ?_ ?_
 refine zL ?_ ?_ ?_
 exact zt zX (zw hr.units) (Snd.b (zI (zb 0 (pv 0)) zd)) (Snd.b zM) (zk _)
 refine zl ?_
 refine zp ?_
 refine ja ?_ ?_
 exact jB zX (zw hr.units) (Snd.b (j4 (by rfl) tx.z_len (zq 0 (pv 0)))) (Snd.b zd) (zk _)
 refine jQ ?_
 refine cZ hy O_10 hr tx.C_10 ?_
 refine za ?_ ?_
 exact zI (zb 0 (pv 0)) zd
 refine za ?_ ?_
 exact zI (zb 0 (pv 0)) zd
 exact za (QZ zd) (za zd zh)
 exact zJ
 refine zi ?_ ?_
 refine zL ?_ ?_ ?_
 exact zt zX (zw hr.units) (Snd.b (zI (zb 0 (pv 0)) zd)) (Snd.b zM) (zk _)
 refine zl ?_
 refine zp ?_
 refine ja ?_ ?_
 exact jB zX (zw hr.units) (Snd.b (j4 (by rfl) tx.z_len (zq 0 (pv 0)))) (Snd.b zd) (zk _)
 exact jQ (cZ hy O_r hr tx.C_r (za (zI (zb 0 (pv 0)) zd) zh))
 exact zJ
 refine zi ?_ ?_
 refine zL ?_ ?_ ?_
 exact zt zX (zw hr.units) (Snd.b (zI (zb 0 (pv 0)) zd)) (Snd.b zM) (zk _)
 refine zl ?_
 refine zp ?_
 refine ja ?_ ?_
 exact jB zX (zw hr.units) (Snd.b (j4 (by rfl) tx.z_len (zq 0 (pv 0)))) (Snd.b zd) (zk _)
 refine jQ ?_
 refine cZ hy O_13 hr tx.C_13 ?_
 refine za ?_ ?_
 exact zI (zb 0 (pv 0)) zd
 exact za (wZ (zb 1 (pv 1)) zd) zh
 exact zJ
 refine zi ?_ ?_
 refine zL ?_ ?_ ?_
 exact zt zX (zw hr.units) (Snd.b (zI (zb 0 (pv 0)) zd)) (Snd.b zM) (zk _)
 refine zl ?_
 refine zp ?_
 refine ja ?_ ?_
 exact jB zX (zw hr.units) (Snd.b (j4 (by rfl) tx.z_len (zq 0 (pv 0)))) (Snd.b zd) (zk _)
 refine ja ?_ ?_
 refine cZ hy O_10 hr tx.C_10 ?_
 refine za ?_ ?_
 exact zI (zb 0 (pv 0)) zd
 refine za ?_ ?_
 exact zI (zb 0 (pv 0)) zd
 exact za zd (za zd zh)
 refine jQ ?_
 refine cZ hy O_9 hr tx.C_9 ?_
 refine za ?_ ?_
 exact zI (zb 0 (pv 0)) zd
 exact za (wZ (zb 1 (pv 1)) zd) zh
 exact zJ
 exact zl (zp uN)
theorem Kw {j:Nat} (hj:3<=j) {c_g c_9:List T->R T} (O_g:Q_g P w base cl tx 1 c_g) (O_9:Q_9 P w base cl tx j c_9):XZ P w base cl tx (j+1) (fun ts=>zn (XN c_g c_9 (en0 2 ts))):=by
 refine zU tx.C_13.F Kp rfl (fun cdv A outer s H E Y hy hr=> ?_) (fun ts h=>rfl)
 refine zl ?_
 refine zp ?_
 refine ja ?_ ?_
 refine cZ hy O_g hr tx.C_g ?_
 exact za (zb 0 (pv 0)) (za zd (za zd zh))
 refine jQ ?_
 refine vj hr.hd (by rfl) tx.z_all ?_
 refine Snd.b ?_
 refine ZI (Zt ["part","levels"] KU (zf Ko) (by rfl) (by rfl) (by decide+kernel) (by rfl) ?_ (fun _ _ _ _ _ _=>zA (show List.Nodup (["part","levels"]:List Str) by decide+kernel) (by rfl) (.inl (by rfl)) (.inr (by rfl))) (Z7 0) (Z8 0) (fun Y' hy' _ _ _ _ _ _=> ?_) (fun Y' hy' _ _ _ _ _ _ _ hp' => ?_))
 exact jb (zb 0 (pv 0))
 exact Zw
 exact cZ (hy'.trans hy) O_9 hr tx.C_9 (za (zb 0 (pv 0)) (za (zb 1 (pv 1)) zh))
theorem Gy {c_9:List T->R T} (O_9:Q_9 P w base cl tx 23 c_9):Q_4 P w base cl tx 24 (fun ts=>zn (b_4 c_9 (en0 1 ts))):=by
 obtain ⟨u_DEEPEST,c_DEEPEST⟩:=tx.c_DEEPEST
 refine zU tx.C_4.F gZ rfl (fun cdv A outer s H E Y hy hr=> ?_) (fun ts h=>rfl)
 refine zl ?_
 exact zp (cZ hy O_9 hr tx.C_9 (za (zb 0 (pv 0)) (za (yg (by rfl) c_DEEPEST.1 c_DEEPEST.2) zh)))
theorem Gz {c_4:List T->R T} (O_4:Q_4 P w base cl tx 24 c_4):Q_e P w base cl tx 25 (fun ts=>zn (b_e c_4 (en0 1 ts))):=by
 refine zU tx.C_e.F G1 rfl (fun cdv A outer s H E Y hy hr=> ?_) (fun ts h=>rfl)
 refine zl ?_
 refine zL ?_ ?_ ?_
 exact W1 (we (Snd.b (cZ hy O_4 hr tx.C_4 (za (zb 0 (pv 0)) zh))))
 exact zl xI
 exact zJ
theorem GA:Q_w P w base cl tx 1 (fun ts=>zn (b_w  (en0 4 ts))):=by
 refine zU tx.C_w.F Kq rfl (fun cdv A outer s H E Y hy hr=> ?_) (fun ts h=>rfl)
 refine zi ?_ ?_
 refine zZ (i:=2) Kq.nd (by rfl) (.inl (by rfl)) ?_
 exact yt (by rfl) (by rfl) tx.z_max (zI (zb 0 (pv 0)) zd) (zI (zb 1 (pv 1)) zd)
 refine zi ?_ ?_
 refine zZ (i:=3) Kq.nd (by rfl) (.inl (by rfl)) ?_
 exact JW (by rfl) (by rfl) tx.z_min (zI (zb 0 (pv 0)) zd) (zI (zb 1 (pv 1)) zd)
 refine zl ?_
 refine zp ?_
 refine vc ?_ ?_ ?_
 exact zt ZT Zj (zq 2 (pv 2)) (zq 3 (pv 3)) (zk _)
 refine ZE ?_
 exact za zM (za (zb 2 (pv 2)) (za (zb 3 (pv 3)) zh))
 exact ZW
theorem GB:Q_j P w base cl tx 1 (fun ts=>zn (b_j  (en0 1 ts))):=by
 refine zU tx.C_j.F G2 rfl (fun cdv A outer s H E Y hy hr=> ?_) (fun ts h=>rfl)
 refine zl ?_
 refine zp ?_
 refine ZI (Zt ["choice"] N_j (zf s_j) (by rfl) (by rfl) (by decide+kernel) (by rfl) ?_ (fun _ _ _ _ _ _=>zA (show List.Nodup (["choice"]:List Str) by decide+kernel) (by rfl) (.inl (by rfl)) (.inr (by rfl))) (Z7 0) (Z8 0) (fun Y' hy' _ _ _ _ _ _=> ?_) (fun Y' hy' _ _ _ _ _ _ _ hp' => ?_))
 exact jb (zI (zb 0 (pv 0)) zd)
 exact Zw
 exact zI (zb 0 (pv 0)) zd
theorem GC {c_j:List T->R T} (O_j:Q_j P w base cl tx 1 c_j):Q_v P w base cl tx 2 (fun ts=>zn (b_v c_j (en0 4 ts))):=by
 refine zU tx.C_v.F Kr rfl (fun cdv A outer s H E Y hy hr=> ?_) (fun ts h=>rfl)
 refine zi ?_ ?_
 exact zZ (i:=2) Kr.nd (by rfl) (.inr (by rfl)) (cZ hy O_j hr tx.C_j (za (zb 1 (pv 1)) zh))
 refine zi ?_ ?_
 refine u7 (i:=3) (Zt ["choice","words"] N_v (zf s_v) (by rfl) (by rfl) (by decide+kernel) (by rfl) ?_ (fun _ _ _ _ _ _=>zA (show List.Nodup (["choice","words"]:List Str) by decide+kernel) (by rfl) (.inl (by rfl)) (.inr (by rfl))) (Z7 0) (Z8 0) (fun Y' hy' _ _ _ _ _ _=> ?_) (fun Y' hy' _ _ _ _ _ _ _ hp' => ?_)) Kr.nd (by rfl) (.inl (by rfl)) (by rfl)
 exact jb (zI (zb 0 (pv 0)) zd)
 exact xw (zt UM (UP hr.units) (Snd.b (zI (zb 0 (pv 0)) zd)) (zq 1 (pv 1)) (by rfl))
 exact zb 0 (pv 0)
 refine zl ?_
 refine zp ?_
 refine vc ?_ ?_ ?_
 exact zt uQ JT (Snd.b (j4 (by rfl) tx.z_len (zq 3 (pv 3)))) (Snd.b zd) (zk _)
 exact ZE (za zM (za (Jr (by rfl) tx.z_tuple (zb 3 (pv 3))) zh))
 exact ZW
theorem GD:Q_t P w base cl tx 1 (fun ts=>zn (b_t  (en0 2 ts))):=by
 refine zU tx.C_t.F G4 rfl (fun cdv A outer s H E Y hy hr=> ?_) (fun ts h=>rfl)
 refine zi ?_ ?_
 refine zL ?_ ?_ ?_
 exact zt zX (zw hr.units) (Snd.b (zI (zb 0 (pv 0)) zd)) (Snd.b zM) (zk _)
 exact zl (zp (zI (zb 0 (pv 0)) zd))
 exact zJ
 refine zi ?_ ?_
 refine zL ?_ ?_ ?_
 refine JJ.t ?_
 refine YQ ?_ ?_
 exact zt zX (zw hr.units) (Snd.b (zI (zb 0 (pv 0)) zd)) (Snd.b zM) (zk _)
 refine WX ?_
 refine UR ZT ZT Zj Zj ?_ ?_ ?_
 exact Snd.b (zI (zb 0 (pv 0)) zd)
 exact zq 1 (pv 1)
 exact Snd.b (zI (zb 0 (pv 0)) zd)
 refine zl ?_
 refine zp ?_
 refine kY ?_ ?_
 exact ZE (za (zI (zb 0 (pv 0)) zd) zh)
 exact zb 1 (pv 1)
 exact zJ
 exact zl (zp (ZE zh))
theorem GE {j:Nat} (hj:2<=j) {c_t c_x c_w c_v c_12:List T->R T} (O_t:Q_t P w base cl tx 1 c_t) (O_x:Q_x P w base cl tx j c_x) (O_w:Q_w P w base cl tx 1 c_w) (O_v:Q_v P w base cl tx 2 c_v) (O_12:k0 P w base cl tx j c_12):Q_5 P w base cl tx (j+1) (fun ts=>zn (b_5 c_t c_x c_w c_v c_12 (en0 2 ts))):=by
 refine zU tx.C_5.F G5 rfl (fun cdv A outer s H E Y hy hr=> ?_) (fun ts h=>rfl)
 refine zi ?_ ?_
 refine zL ?_ ?_ ?_
 exact zt zX (zw hr.units) (Snd.b (zI (zb 0 (pv 0)) zd)) (Snd.b zM) (zk _)
 refine zl ?_
 refine zp ?_
 refine cZ hy O_x hr tx.C_x ?_
 refine za ?_ ?_
 exact zI (zb 0 (pv 0)) zd
 refine za ?_ ?_
 refine cZ hy O_t hr tx.C_t ?_
 refine za ?_ ?_
 exact zb 1 (pv 1)
 exact za (j4 (by rfl) tx.z_len (Snd.b (zI (zb 0 (pv 0)) zd))) zh
 exact zh
 exact zJ
 refine zi ?_ ?_
 refine zL ?_ ?_ ?_
 exact zt zX (zw hr.units) (Snd.b (zI (zb 1 (pv 1)) zd)) (Snd.b zM) (zk _)
 refine zl ?_
 refine zp ?_
 refine cZ hy O_x hr tx.C_x ?_
 refine za ?_ ?_
 refine cZ hy O_t hr tx.C_t ?_
 refine za ?_ ?_
 exact zb 0 (pv 0)
 exact za (j4 (by rfl) tx.z_len (Snd.b (zI (zb 1 (pv 1)) zd))) zh
 exact za (zI (zb 1 (pv 1)) zd) zh
 exact zJ
 refine zi ?_ ?_
 refine zL ?_ ?_ ?_
 refine zt WB (Jp hr.units) ?_ ?_ (zk _)
 exact Snd.b (zI (zb 0 (pv 0)) zd)
 exact Snd.b (zI (zb 1 (pv 1)) zd)
 exact zl (zp ZW)
 exact zJ
 refine zi ?_ ?_
 refine zL ?_ ?_ ?_
 exact zt zX (zw hr.units) (Snd.b (zI (zb 0 (pv 0)) zd)) (Snd.b zM) (zk _)
 refine zl ?_
 exact zp (cZ hy O_w hr tx.C_w (za (zb 0 (pv 0)) (za (zb 1 (pv 1)) zh)))
 exact zJ
 refine zi ?_ ?_
 refine zL ?_ ?_ ?_
 exact zt zX (zw hr.units) (Snd.b (zI (zb 0 (pv 0)) zd)) (Snd.b zM) (zk _)
 refine zl ?_
 exact zp (cZ hy O_v hr tx.C_v (za (zb 0 (pv 0)) (za (zb 1 (pv 1)) zh)))
 exact zJ
 refine zl ?_
 exact zp (cZ hy O_12 hr tx.C_12 (za (zb 0 (pv 0)) (za (zb 1 (pv 1)) zh)))
theorem GF {j:Nat} (hj:2<=j) {c_5:List T->R T} (O_5:Q_5 P w base cl tx j c_5):Q_x P w base cl tx (j+1) (fun ts=>zn (b_x c_5 (en0 3 ts))):=by
 refine zU tx.C_x.F KW rfl (fun cdv A outer s H E Y hy hr=> ?_) (fun ts h=>rfl)
 refine zi ?_ ?_
 refine zL ?_ ?_ ?_
 exact zt WB (Jp hr.units) (Snd.b (j4 (by rfl) tx.z_len (zq 0 (pv 0)))) (Snd.b (j4 (by rfl) tx.z_len (zq 1 (pv 1)))) (zk _)
 exact zl (zp ZW)
 exact zJ
 refine zi ?_ ?_
 refine u7 (i:=2) (Zt ["one","other"] N_x (zf s_x) (by rfl) (by rfl) (by decide+kernel) (by rfl) ?_ (fun _ _ _ _ _ _=>JM (by rfl) (Zm (zA (show List.Nodup (["one","other"]:List Str) by decide+kernel) (by rfl) (.inl (by rfl)) (.inr (by rfl))) (Zm (zA (show List.Nodup (["one","other"]:List Str) by decide+kernel) (by rfl) (.inl (by rfl)) (.inr (by rfl))) jN))) (jE _ 0 1) (jF 0 1) (fun Y' hy' _ _ _ _ _ _=> ?_) (fun Y' hy' _ _ _ _ _ _ _ hp' => ?_)) KW.nd (by rfl) (.inl (by rfl)) (by rfl)
 exact kO (by rfl) tx.z_zip (zb 0 (pv 0)) (zb 1 (pv 1))
 exact Zw
 exact cZ (hy'.trans hy) O_5 hr tx.C_5 (za (zb 0 (pv 0)) (za (zb 1 (pv 1)) zh))
 refine zi ?_ ?_
 refine zL ?_ ?_ ?_
 exact zt UM (UP hr.units) (Snd.b ZW) (zq 2 (pv 2)) (by rfl)
 exact zl (zp ZW)
 exact zJ
 refine zl ?_
 refine zp ?_
 exact ZE (za zM (za (Jr (by rfl) tx.z_tuple (zb 2 (pv 2))) zh))
theorem Kx {j:Nat} (hj:2<=j) {c_5:List T->R T} (O_5:Q_5 P w base cl tx j c_5):k0 P w base cl tx (j+1) (fun ts=>zn (XO c_5 (en0 5 ts))):=by
 refine zU tx.C_12.F qP rfl (fun cdv A outer s H E Y hy hr=> ?_) (fun ts h=>rfl)
 refine zi ?_ ?_
 refine zZ (i:=2) qP.nd (by rfl) (.inl (by rfl)) ?_
 exact yt (by rfl) (by rfl) tx.z_max (zI (zb 0 (pv 0)) zd) (zI (zb 1 (pv 1)) zd)
 refine zi ?_ ?_
 refine zZ (i:=3) qP.nd (by rfl) (.inl (by rfl)) ?_
 exact JW (by rfl) (by rfl) tx.z_min (zI (zb 0 (pv 0)) zd) (zI (zb 1 (pv 1)) zd)
 refine zi ?_ ?_
 refine zL ?_ ?_ ?_
 exact zt uQ JT (zq 2 (pv 2)) (zq 3 (pv 3)) (zk _)
 exact zl (zp ZW)
 exact zJ
 refine zi ?_ ?_
 refine zZ (i:=4) qP.nd (by rfl) (.inl (by rfl)) ?_
 refine cZ hy O_5 hr tx.C_5 ?_
 refine za ?_ ?_
 exact zI (zb 0 (pv 0)) zd
 exact za (zI (zb 1 (pv 1)) zd) zh
 refine zi ?_ ?_
 refine zL ?_ ?_ ?_
 exact zt JU jP (zq 4 (pv 4)) (Snd.b ZW) (zk _)
 refine zl ?_
 refine zp ?_
 refine ZE ?_
 refine za ?_ ?_
 exact zM
 exact za (zb 4 (pv 4)) (za (zb 2 (pv 2)) (za (zb 3 (pv 3)) zh))
 exact zJ
 refine zl ?_
 refine zp ?_
 refine vc ?_ ?_ ?_
 exact zt zX (zw hr.units) (zq 2 (pv 2)) (Snd.b zd) (zk _)
 refine ZE ?_
 refine za ?_ ?_
 exact zM
 refine za ?_ ?_
 exact zI (zb 0 (pv 0)) zd
 exact za zd (za zd zh)
 exact ZW
theorem GG {c_e c_5:List T->R T} (O_e:Q_e P w base cl tx 25 c_e) (O_5:Q_5 P w base cl tx 22 c_5):Q_2 P w base cl tx 26 (fun ts=>zn (b_2 c_e c_5 (en0 2 ts))):=by
 refine zU tx.C_2.F G7 rfl (fun cdv A outer s H E Y hy hr=> ?_) (fun ts h=>rfl)
 refine zi ?_ ?_
 exact WZ (cZ hy O_e hr tx.C_e (za (zb 0 (pv 0)) zh))
 refine zi ?_ ?_
 exact WZ (cZ hy O_e hr tx.C_e (za (zb 1 (pv 1)) zh))
 refine zl ?_
 exact zp (cZ hy O_5 hr tx.C_5 (za (zb 0 (pv 0)) (za (zb 1 (pv 1)) zh)))
theorem GH {c_2:List T->R T} (O_2:Q_2 P w base cl tx 26 c_2):Q_f P w base cl tx 27 (fun ts=>zn (b_f c_2 (en0 2 ts))):=by
 refine zU tx.C_f.F G8 rfl (fun cdv A outer s H E Y hy hr=> ?_) (fun ts h=>rfl)
 refine zl ?_
 refine zp ?_
 refine vc ?_ ?_ ?_
 refine JJ.t ?_
 refine qX ?_ ?_
 exact zt W0 JV (zq 0 (pv 0)) (Snd.b ZW) (zk _)
 exact WC (zt W0 JV (zq 1 (pv 1)) (Snd.b ZW) (zk _))
 exact ZW
 exact cZ hy O_2 hr tx.C_2 (za (zb 0 (pv 0)) (za (zb 1 (pv 1)) zh))
theorem GI {j:Nat} (hj:0<=j) {c_l c_h:List T->R T} (O_l:Q_l P w base cl tx j c_l) (O_h:Q_h P w base cl tx j c_h):Q_1 P w base cl tx (j+1) (fun ts=>zn (b_1 c_l c_h (en0 1 ts))):=by
 refine zU tx.C_1.F G9 rfl (fun cdv A outer s H E Y hy hr=> ?_) (fun ts h=>rfl)
 refine zi ?_ ?_
 refine zL ?_ ?_ ?_
 exact zt zX (zw hr.units) (Snd.b (zI (zb 0 (pv 0)) zd)) (Snd.b zM) (zk _)
 refine zl ?_
 refine zp ?_
 refine zN ?_ ?_
 exact wZ (zI (zb 0 (pv 0)) zd) (zI (zb 0 (pv 0)) zd)
 exact zd
 exact zJ
 refine zi ?_ ?_
 refine zL ?_ ?_ ?_
 exact zt zX (zw hr.units) (Snd.b (zI (zb 0 (pv 0)) zd)) (Snd.b zM) (zk _)
 exact zl (zp (j4 (by rfl) tx.z_len (Snd.b (zI (zb 0 (pv 0)) zd))))
 exact zJ
 refine zi ?_ ?_
 refine zL ?_ ?_ ?_
 exact zt zX (zw hr.units) (Snd.b (zI (zb 0 (pv 0)) zd)) (Snd.b zM) (zk _)
 refine zl ?_
 exact zp (cZ hy O_l hr tx.C_l (za (zI (zb 0 (pv 0)) zd) zh))
 exact zJ
 refine zl ?_
 refine zp ?_
 refine cZ hy O_h hr tx.C_h ?_
 refine za ?_ ?_
 exact zb 0 (pv 0)
 exact za (zN (zI (zb 0 (pv 0)) zd) zd) zh
theorem GJ {j:Nat} (hj:0<=j) {c_1:List T->R T} (O_1:Q_1 P w base cl tx j c_1):Q_l P w base cl tx (j+1) (fun ts=>zn (b_l c_1 (en0 3 ts))):=by
 refine zU tx.C_l.F XY rfl (fun cdv A outer s H E Y hy hr=> ?_) (fun ts h=>rfl)
 refine zi ?_ ?_
 exact zZ (i:=1) XY.nd (by rfl) (.inl (by rfl)) zd
 refine zi ?_ ?_
 refine wg PassesOwn.never (by rfl) ?_ ?_ ?_
 exact jb (zb 0 (pv 0))
 exact J0 (i:=2) XY.nd (by rfl) (.inl (by rfl))
 refine zl ?_
 exact zZ (i:=1) XY.nd (by rfl) (.inl (by rfl)) (ZS (zb 1 (pv 1)) (cZ hy O_1 hr tx.C_1 (za (zb 2 (pv 2)) zh)))
 exact zl (zp (zb 1 (pv 1)))
theorem GK {j:Nat} (hj:0<=j) {c_l:List T->R T} (O_l:Q_l P w base cl tx j c_l):Q_h P w base cl tx (j+1) (fun ts=>zn (b_h c_l (en0 2 ts))):=by
 refine zU tx.C_h.F Ga rfl (fun cdv A outer s H E Y hy hr=> ?_) (fun ts h=>rfl)
 refine zl ?_
 refine zp ?_
 refine kR hr.hd (by rfl) tx.z_sum ?_
 refine Snd.b ?_
 refine ZI (Zt ["each","kind"] N_h (zf s_h) (by rfl) (by rfl) (by decide+kernel) (by rfl) ?_ (fun _ _ _ _ _ _=>zA (show List.Nodup (["each","kind"]:List Str) by decide+kernel) (by rfl) (.inl (by rfl)) (.inr (by rfl))) (Z7 0) (Z8 0) (fun Y' hy' _ _ _ _ _ _=> ?_) (fun Y' hy' _ _ _ _ _ _ _ hp' => ?_))
 exact Q2 (by rfl) tx.z_range (zI (zb 0 (pv 0)) zd) (zb 1 (pv 1))
 exact Zw
 refine cZ (hy'.trans hy) O_l hr tx.C_l ?_
 refine za ?_ ?_
 refine ZS ?_ ?_
 exact wc (za (zI (zb 1 (pv 1)) zd) zh)
 exact zb 0 (pv 0)
 exact zh
theorem GL {j:Nat} (hj:20<=j) {c_j c_11 c_k:List T->R T} (O_j:Q_j P w base cl tx 1 c_j) (O_11:k3 P w base cl tx j c_11) (O_k:Q_k P w base cl tx j c_k):Q_d P w base cl tx (j+1) (fun ts=>zn (b_d c_j c_11 c_k (en0 2 ts))):=by
 refine zU tx.C_d.F Gb rfl (fun cdv A outer s H E Y hy hr=> ?_) (fun ts h=>rfl)
 refine zi ?_ ?_
 refine zL ?_ ?_ ?_
 exact zt zX (zw hr.units) (Snd.b (zI (zb 0 (pv 0)) zd)) (Snd.b zM) (zk _)
 exact zl (zp (zN (zI (zb 0 (pv 0)) zd) (zb 1 (pv 1))))
 exact zJ
 refine zi ?_ ?_
 refine zL ?_ ?_ ?_
 exact zt zX (zw hr.units) (Snd.b (zI (zb 0 (pv 0)) zd)) (Snd.b zM) (zk _)
 refine zl ?_
 exact zp (zI (cZ hy O_j hr tx.C_j (za (zb 0 (pv 0)) zh)) (zb 1 (pv 1)))
 exact zJ
 refine zi ?_ ?_
 refine zL ?_ ?_ ?_
 exact zt zX (zw hr.units) (Snd.b (zI (zb 0 (pv 0)) zd)) (Snd.b zM) (zk _)
 refine zl ?_
 refine zp ?_
 refine cZ hy O_k hr tx.C_k ?_
 exact za (zI (zb 0 (pv 0)) zd) (za (zb 1 (pv 1)) zh)
 exact zJ
 refine zl ?_
 exact zp (cZ hy O_11 hr tx.C_11 (za (zb 0 (pv 0)) (za (zb 1 (pv 1)) zh)))
theorem Ky {j:Nat} (hj:20<=j) {c_h c_k:List T->R T} (O_h:Q_h P w base cl tx 20 c_h) (O_k:Q_k P w base cl tx j c_k):k3 P w base cl tx (j+1) (fun ts=>zn (Vq c_h c_k (en0 3 ts))):=by
 refine zU tx.C_11.F Vj rfl (fun cdv A outer s H E Y hy hr=> ?_) (fun ts h=>rfl)
 refine zi ?_ ?_
 exact zZ (i:=2) Vj.nd (by rfl) (.inl (by rfl)) (zI (zb 0 (pv 0)) zd)
 refine zi ?_ ?_
 refine vk (n:=8) PassesOwn.never ?_ ?_
 refine zt ZT Zj ?_ ?_ (zk _)
 refine Snd.b ?_
 refine cZ hy O_h hr tx.C_h ?_
 exact za (zb 0 (pv 0)) (za (zN (zb 2 (pv 2)) zd) zh)
 exact zq 1 (pv 1)
 exact zl (zZ (i:=2) Vj.nd (by rfl) (.inl (by rfl)) (zN (zb 2 (pv 2)) zd))
 refine zl ?_
 refine zp ?_
 refine cZ hy O_k hr tx.C_k ?_
 refine za ?_ ?_
 refine ZS ?_ ?_
 exact wc (za (zI (zb 0 (pv 0)) zd) zh)
 exact zb 2 (pv 2)
 refine za ?_ ?_
 refine wZ ?_ ?_
 exact zb 1 (pv 1)
 exact cZ hy O_h hr tx.C_h (za (zb 0 (pv 0)) (za (zb 2 (pv 2)) zh))
 exact zh
theorem GM {j:Nat} (hj:20<=j) {c_1 c_d:List T->R T} (O_1:Q_1 P w base cl tx 20 c_1) (O_d:Q_d P w base cl tx j c_d):Q_k P w base cl tx (j+1) (fun ts=>zn (b_k c_1 c_d (en0 6 ts))):=by
 refine zU tx.C_k.F Vw rfl (fun cdv A outer s H E Y hy hr=> ?_) (fun ts h=>rfl)
 refine zi ?_ ?_
 exact WY (i:=2) Vw.nd (by rfl) (.inl (by rfl)) zh
 refine zi ?_ ?_
 exact zZ (i:=3) Vw.nd (by rfl) (.inl (by rfl)) (zb 1 (pv 1))
 refine zi ?_ ?_
 refine wg PassesOwn.never (by rfl) ?_ ?_ ?_
 exact kW (by rfl) tx.z_reversed (zb 0 (pv 0))
 exact J0 (i:=4) Vw.nd (by rfl) (.inl (by rfl))
 refine zi ?_ ?_
 exact zZ (i:=5) Vw.nd (by rfl) (.inl (by rfl)) (cZ hy O_1 hr tx.C_1 (za (zb 4 (pv 4)) zh))
 refine zi ?_ ?_
 refine xo (i:=2) (pv 2) ?_
 refine cZ hy O_d hr tx.C_d ?_
 exact za (zb 4 (pv 4)) (za (UK (zb 3 (pv 3)) (zb 5 (pv 5))) zh)
 exact zl (zZ (i:=3) Vw.nd (by rfl) (.inl (by rfl)) (qV (zb 3 (pv 3)) (zb 5 (pv 5))))
 exact zl (zp (xS hr.hd (by rfl) tx.z_tuple (by rfl) tx.z_reversed (zb 2 (pv 2))))
theorem GN {c_e c_1 c_d:List T->R T} (O_e:Q_e P w base cl tx 25 c_e) (O_1:Q_1 P w base cl tx 20 c_1) (O_d:Q_d P w base cl tx 40 c_d):Q_s P w base cl tx 41 (fun ts=>zn (b_s c_e c_1 c_d (en0 2 ts))):=by
 obtain ⟨u_MOST_TOLD,c_MOST_TOLD⟩:=tx.c_MOST_TOLD
 refine zU tx.C_s.F g6 rfl (fun cdv A outer s H E Y hy hr=> ?_) (fun ts h=>rfl)
 refine zi ?_ ?_
 exact WZ (cZ hy O_e hr tx.C_e (za (zb 0 (pv 0)) zh))
 refine zi ?_ ?_
 exact zZ (i:=1) g6.nd (by rfl) (.inl (by rfl)) (cZ hy O_1 hr tx.C_1 (za (zb 0 (pv 0)) zh))
 refine zi ?_ ?_
 refine zL ?_ ?_ ?_
 exact zt uQ JT (zq 1 (pv 1)) (Snd.b (yg (by rfl) c_MOST_TOLD.1 c_MOST_TOLD.2)) (zk _)
 exact zl xI
 exact zJ
 refine zl ?_
 refine zp ?_
 refine ZI (Zt ["number","kind"] N_s (zf s_s) (by rfl) (by rfl) (by decide+kernel) (by rfl) ?_ (fun _ _ _ _ _ _=>zA (show List.Nodup (["number","kind"]:List Str) by decide+kernel) (by rfl) (.inl (by rfl)) (.inr (by rfl))) (Z7 0) (Z8 0) (fun Y' hy' _ _ _ _ _ _=> ?_) (fun Y' hy' _ _ _ _ _ _ _ hp' => ?_))
 exact W3 (by rfl) tx.z_range (zb 1 (pv 1))
 exact Zw
 exact cZ (hy'.trans hy) O_d hr tx.C_d (za (zb 1 (pv 1)) (za (zb 0 (pv 0)) zh))
theorem GO {c_s:List T->R T} (O_s:Q_s P w base cl tx 41 c_s):Q_i P w base cl tx 42 (fun ts=>zn (b_i c_s (en0 1 ts))):=by
 refine zU tx.C_i.F Ge rfl (fun cdv A outer s H E Y hy hr=> ?_) (fun ts h=>rfl)
 refine zi ?_ ?_
 refine zL ?_ ?_ ?_
 exact zt W0 JV (zq 0 (pv 0)) (Snd.b ZW) (zk _)
 exact zl (zp (wc zh))
 exact zJ
 refine zl ?_
 refine zp ?_
 refine ZI (Zt ["_law_text","_law_worth"] N_i (zf s_i) (by rfl) (by rfl) (by decide+kernel) (by rfl) ?_ (fun _ _ _ _ _ _=>JM (by rfl) (Zm (zA (show List.Nodup (["_law_text","_law_worth"]:List Str) by decide+kernel) (by rfl) (.inl (by rfl)) (.inr (by rfl))) (Zm (zA (show List.Nodup (["_law_text","_law_worth"]:List Str) by decide+kernel) (by rfl) (.inl (by rfl)) (.inr (by rfl))) jN))) (jE _ 0 1) (jF 0 1) (fun Y' hy' _ _ _ _ _ _=> ?_) (fun Y' hy' _ _ _ _ _ _ _ hp' => ?_))
 refine jb ?_
 refine vU (by rfl) tx.z_sorted ?_
 refine ZI (Zt ["_law_worth"] N_i (zf s_i) (by rfl) (by rfl) (by decide+kernel) (by rfl) ?_ (fun _ _ _ _ _ _=>zA (show List.Nodup (["_law_worth"]:List Str) by decide+kernel) (by rfl) (.inl (by rfl)) (.inr (by rfl))) (Z7 0) (Z8 0) (fun Y' hy' _ _ _ _ _ _=> ?_) (fun Y' hy' _ _ _ _ _ _ _ hp' => ?_))
 exact jb (cZ hy O_s hr tx.C_s (za (zb 0 (pv 0)) zh))
 exact Zw
 exact ZE (za (xU hr (by rfl) tx.z_str (zb 0 (pv 0))) (za (zb 0 (pv 0)) zh))
 exact Zw
 exact zb 1 (pv 1)
theorem GP {c_1 c_2:List T->R T} (O_1:Q_1 P w base cl tx 20 c_1) (O_2:Q_2 P w base cl tx 26 c_2):Q_8 P w base cl tx 27 (fun ts=>zn (b_8 c_1 c_2 (en0 3 ts))):=by
 refine zU tx.C_8.F g9 rfl (fun cdv A outer s H E Y hy hr=> ?_) (fun ts h=>rfl)
 refine zi ?_ ?_
 exact zZ (i:=2) g9.nd (by rfl) (.inl (by rfl)) (cZ hy O_2 hr tx.C_2 (za (zb 0 (pv 0)) (za (zb 1 (pv 1)) zh)))
 refine zl ?_
 refine zp ?_
 refine ja ?_ ?_
 exact jB JU jP (zq 2 (pv 2)) (Snd.b ZW) (zk _)
 refine jQ ?_
 refine jB zX (zw hr.units) ?_ ?_ (zk _)
 exact Snd.b (cZ hy O_1 hr tx.C_1 (za (zb 2 (pv 2)) zh))
 exact Snd.b (cZ hy O_1 hr tx.C_1 (za (zb 0 (pv 0)) zh))
theorem GQ {c_2:List T->R T} (O_2:Q_2 P w base cl tx 26 c_2):Q_m P w base cl tx 27 (fun ts=>zn (b_m c_2 (en0 2 ts))):=by
 refine zU tx.C_m.F Gf rfl (fun cdv A outer s H E Y hy hr=> ?_) (fun ts h=>rfl)
 refine zl ?_
 refine zp ?_
 refine jB W0 JV ?_ ?_ (zk _)
 exact Snd.b (cZ hy O_2 hr tx.C_2 (za (zb 0 (pv 0)) (za (zb 1 (pv 1)) zh)))
 exact Snd.b ZW
theorem GR {c_e c_1:List T->R T} (O_e:Q_e P w base cl tx 25 c_e) (O_1:Q_1 P w base cl tx 20 c_1):Q_q P w base cl tx 26 (fun ts=>zn (b_q c_e c_1 (en0 1 ts))):=by
 refine zU tx.C_q.F Gg rfl (fun cdv A outer s H E Y hy hr=> ?_) (fun ts h=>rfl)
 refine zi ?_ ?_
 exact WZ (cZ hy O_e hr tx.C_e (za (zb 0 (pv 0)) zh))
 exact zl (zp (cZ hy O_1 hr tx.C_1 (za (zb 0 (pv 0)) zh)))
theorem GS {c_q c_3 c_o c_2 c_8 c_m c_b c_f c_i:List T->R T} (O_q:Q_q P w base cl tx 26 c_q) (O_3:Q_3 P w base cl tx 2 c_3) (O_o:Q_o P w base cl tx 18 c_o) (O_2:Q_2 P w base cl tx 26 c_2) (O_8:Q_8 P w base cl tx 27 c_8) (O_m:Q_m P w base cl tx 27 c_m) (O_b:Q_b P w base cl tx 10 c_b) (O_f:Q_f P w base cl tx 27 c_f) (O_i:Q_i P w base cl tx 42 c_i):Q_0 P w base cl tx 43 (fun ts=>zn (b_0 c_q c_3 c_o c_2 c_8 c_m c_b c_f c_i (en0 8 ts))):=by
 refine zU tx.C_0.F Vk rfl (fun cdv A outer s H E Y hy hr=> ?_) (fun ts h=>rfl)
 refine zi ?_ ?_
 refine zZ (i:=1) Vk.nd (by rfl) (.inl (by rfl)) ?_
 refine cZ hy O_o hr tx.C_o ?_
 exact za (zb 0 (pv 0)) (za zd (za zd zh))
 refine zi ?_ ?_
 refine zZ (i:=2) Vk.nd (by rfl) (.inl (by rfl)) ?_
 refine cZ hy O_b hr tx.C_b ?_
 exact za (zb 0 (pv 0)) (za zd (za (zb 1 (pv 1)) zh))
 refine zi ?_ ?_
 refine zZ (i:=3) Vk.nd (by rfl) (.inl (by rfl)) ?_
 refine vc ?_ ?_ ?_
 refine zt uQ JT ?_ ?_ (zk _)
 refine Snd.b ?_
 refine cZ hy O_3 hr tx.C_3 ?_
 exact za (zb 0 (pv 0)) (za zd (za zd zh))
 exact Snd.b zd
 refine cZ hy O_b hr tx.C_b ?_
 exact za (zb 0 (pv 0)) (za zd (za (zb 1 (pv 1)) zh))
 refine cZ hy O_o hr tx.C_o ?_
 exact za (zb 0 (pv 0)) (za zd (za zd zh))
 refine zi ?_ ?_
 refine zZ (i:=4) Vk.nd (by rfl) (.inl (by rfl)) ?_
 refine cZ hy O_f hr tx.C_f ?_
 refine za ?_ ?_
 exact cZ hy O_f hr tx.C_f (za (zb 1 (pv 1)) (za (zb 2 (pv 2)) zh))
 exact za (zb 3 (pv 3)) zh
 refine zi ?_ ?_
 refine zL ?_ ?_ ?_
 refine zt WB (Jp hr.units) ?_ ?_ (zk _)
 exact Snd.b (cZ hy O_i hr tx.C_i (za (zb 4 (pv 4)) zh))
 refine Snd.b ?_
 refine cZ hy O_i hr tx.C_i ?_
 refine za ?_ ?_
 refine cZ hy O_f hr tx.C_f ?_
 refine za ?_ ?_
 exact zb 1 (pv 1)
 refine za ?_ ?_
 exact cZ hy O_f hr tx.C_f (za (zb 2 (pv 2)) (za (zb 3 (pv 3)) zh))
 exact zh
 exact zh
 exact zl (zp uN)
 exact zJ
 refine zi ?_ ?_
 refine zL ?_ ?_ ?_
 refine zt WB (Jp hr.units) ?_ ?_ (zk _)
 exact Snd.b (cZ hy O_i hr tx.C_i (za (zb 4 (pv 4)) zh))
 refine Snd.b ?_
 refine cZ hy O_i hr tx.C_i ?_
 refine za ?_ ?_
 refine cZ hy O_f hr tx.C_f ?_
 refine za ?_ ?_
 exact cZ hy O_f hr tx.C_f (za (zb 3 (pv 3)) (za (zb 1 (pv 1)) zh))
 exact za (zb 2 (pv 2)) zh
 exact zh
 exact zl (zp uN)
 exact zJ
 refine zi ?_ ?_
 refine zL ?_ ?_ ?_
 refine JJ.t ?_
 refine qX ?_ ?_
 refine zt JU jP ?_ ?_ (zk _)
 exact Snd.b (cZ hy O_8 hr tx.C_8 (za (zb 2 (pv 2)) (za (zb 1 (pv 1)) zh)))
 exact Snd.b uN
 refine WC ?_
 refine zt JU jP ?_ ?_ (zk _)
 refine Snd.b ?_
 refine cZ hy O_8 hr tx.C_8 ?_
 refine za ?_ ?_
 refine cZ hy O_b hr tx.C_b ?_
 exact za (zb 0 (pv 0)) (za zd (za (zb 2 (pv 2)) zh))
 exact za (zb 1 (pv 1)) zh
 exact Snd.b uN
 exact zl (zp uN)
 exact zJ
 refine zi ?_ ?_
 refine wg PassesOwn.never (by rfl) ?_ ?_ ?_
 refine jb ?_
 refine ZE ?_
 refine za ?_ ?_
 exact ZE (za (zb 1 (pv 1)) (za (zb 2 (pv 2)) zh))
 refine za ?_ ?_
 exact ZE (za (zb 2 (pv 2)) (za (zb 3 (pv 3)) zh))
 refine za ?_ ?_
 exact ZE (za (zb 3 (pv 3)) (za (zb 1 (pv 1)) zh))
 exact zh
 exact xu (i:=5) (j:=6) (by rfl) Vk.nd (by rfl) (by rfl) (.inl (by rfl)) (.inl (by rfl))
 refine zi ?_ ?_
 exact zZ (i:=7) Vk.nd (by rfl) (.inl (by rfl)) (cZ hy O_2 hr tx.C_2 (za (zb 5 (pv 5)) (za (zb 6 (pv 6)) zh)))
 refine zi ?_ ?_
 refine zL ?_ ?_ ?_
 refine JJ.t ?_
 refine qX ?_ ?_
 refine zt WB (Jp hr.units) ?_ ?_ (zk _)
 exact Snd.b (jB W0 JV (zq 7 (pv 7)) (Snd.b ZW) (zk _))
 exact Snd.b (cZ hy O_m hr tx.C_m (za (zb 5 (pv 5)) (za (zb 6 (pv 6)) zh)))
 refine WC ?_
 refine zt WB (Jp hr.units) ?_ ?_ (zk _)
 exact Snd.b (cZ hy O_m hr tx.C_m (za (zb 5 (pv 5)) (za (zb 6 (pv 6)) zh)))
 exact Snd.b (cZ hy O_m hr tx.C_m (za (zb 6 (pv 6)) (za (zb 5 (pv 5)) zh)))
 exact zl (zp uN)
 exact zJ
 refine zi ?_ ?_
 refine zL ?_ ?_ ?_
 refine JJ.t ?_
 refine YQ ?_ ?_
 exact zt JU jP (zq 7 (pv 7)) (Snd.b ZW) (zk _)
 refine WX ?_
 refine W1 ?_
 refine JJ.t ?_
 refine YQ ?_ ?_
 refine we ?_
 exact Snd.b (cZ hy O_8 hr tx.C_8 (za (zb 7 (pv 7)) (za (zb 5 (pv 5)) zh)))
 refine WX ?_
 refine we ?_
 exact Snd.b (cZ hy O_8 hr tx.C_8 (za (zb 7 (pv 7)) (za (zb 6 (pv 6)) zh)))
 exact zl (zp uN)
 exact zJ
 refine zl ?_
 refine zL ?_ ?_ ?_
 refine zt WB (Jp hr.units) ?_ ?_ (zk _)
 exact Snd.b (cZ hy O_8 hr tx.C_8 (za (zb 5 (pv 5)) (za (zb 6 (pv 6)) zh)))
 refine Snd.b ?_
 refine ja ?_ ?_
 exact jB JU jP (zq 7 (pv 7)) (Snd.b ZW) (zk _)
 refine jQ ?_
 refine jB zX (zw hr.units) ?_ ?_ (zk _)
 exact Snd.b (cZ hy O_q hr tx.C_q (za (zb 7 (pv 7)) zh))
 exact Snd.b (cZ hy O_q hr tx.C_q (za (zb 5 (pv 5)) zh))
 exact zl (zp uN)
 exact zJ
 refine zi ?_ ?_
 refine zL ?_ ?_ ?_
 refine JJ.t ?_
 refine YQ ?_ ?_
 refine we ?_
 exact Snd.b (cZ hy O_8 hr tx.C_8 (za (zb 3 (pv 3)) (za (zb 2 (pv 2)) zh)))
 refine WX ?_
 refine W1 ?_
 refine we ?_
 exact Snd.b (cZ hy O_8 hr tx.C_8 (za (zb 3 (pv 3)) (za (zb 1 (pv 1)) zh)))
 exact zl (zp uN)
 exact zJ
 refine zl ?_
 refine zp ?_
 refine gJ ?_ ?_
 exact jB W0 JV (zq 4 (pv 4)) (Snd.b ZW) (zk _)
 refine jQ ?_
 refine ja ?_ ?_
 exact cZ hy O_8 hr tx.C_8 (za (zb 4 (pv 4)) (za (zb 1 (pv 1)) zh))
 refine ja ?_ ?_
 exact cZ hy O_8 hr tx.C_8 (za (zb 4 (pv 4)) (za (zb 2 (pv 2)) zh))
 exact jQ (cZ hy O_8 hr tx.C_8 (za (zb 4 (pv 4)) (za (zb 3 (pv 3)) zh)))
end
theorem ZK {P:Program} {w:World} {K:PySem.W.Frag} {mg:Str->Option Value} {base:Heap} {CX:CXT} {cl:Nat->Value} {k n:Nat} {f:Addr} {fd:FuncData} {ps:List Str} (hn:n=ps.length):Zz P w K mg base CX k f fd ps (spP cl n (fun _=> .bad)):=
 ⟨fun vs H Q E h=>by rw [← hn]; exact spP.len vs H Q E h,fun A outer s H args us vs Q E _ _ _ _ ⟨B,ts,_,_,_,q⟩=>q.elim⟩
section
variable {P:Program} {w:World} {K:PySem.W.Frag} {mg:Str->Option Value} {base:Heap} {cl:Nat->Value} {tx:Tx K mg}
theorem XF:Q_0 P w base cl tx 43 f_0:=by
 have O_14:Ks P w base cl tx 1 xW:=Ku
 have O_3:Q_3 P w base cl tx 2 f_3:=Gh O_14
 have O_u:Q_u P w base cl tx 3 f_u:=Gi O_3
 have O_p:Q_p P w base cl tx 4 f_p:=Gj O_3 O_u
 have R_c:∀ n:Nat,Q_c P w base cl tx (4+n) (S_c n 0):=by
  intro n
  induction n with
  | zero=>exact ZK rfl
  | succ n ih=>
   exact Gk (j:=4+n) (by omega) O_3 O_p ih
 have O_c:Q_c P w base cl tx 12 (f_c 8):=(R_c 8)
 have O_a:Q_a P w base cl tx 1 f_a:=Gm
 have R_6:∀ n:Nat,Q_6 P w base cl tx (1+n) (S_6 n 0):=by
  intro n
  induction n with
  | zero=>exact ZK rfl
  | succ n ih=>
   exact Gn (j:=1+n) (by omega) ih O_a
 have O_6:Q_6 P w base cl tx 9 (f_6 8):=(R_6 8)
 have R_7:∀ n:Nat,Q_7 P w base cl tx (9+n) (S_7 n 0):=by
  intro n
  induction n with
  | zero=>exact ZK rfl
  | succ n ih=>
   exact Go (j:=9+n) (by omega) O_6 ih
 have O_7:Q_7 P w base cl tx 17 (f_7 8):=(R_7 8)
 have O_o:Q_o P w base cl tx 18 f_o:=Gp O_c O_7
 have R_b:∀ n:Nat,Q_b P w base cl tx (2+n) (S_b n 0):=by
  intro n
  induction n with
  | zero=>exact ZK rfl
  | succ n ih=>
   exact Gq (j:=2+n) (by omega) O_3 ih
 have O_b:Q_b P w base cl tx 10 (f_b 8):=(R_b 8)
 have O_n:Q_n P w base cl tx 1 f_n:=Gr
 have O_10:Kt P w base cl tx 2 XM:=Kv O_n
 have O_g:Q_g P w base cl tx 1 f_g:=Gs
 have O_z:Q_z P w base cl tx 1 f_z:=Gu
 have O_y:Q_y P w base cl tx 2 f_y:=Gv O_n O_g O_z
 have O_r:Q_r P w base cl tx 3 f_r:=Gw O_g O_y
 have R_9:∀ n:Nat,Q_9 P w base cl tx (3+n) (S_9 n 0)/\XZ P w base cl tx (3+n) (S_9 n 1):=by
  intro n
  induction n with
  | zero=>exact ⟨ZK rfl,ZK rfl⟩
  | succ n ih=>
   exact ⟨Gx (j:=3+n) (by omega) O_10 ih.1 O_r ih.2,Kw (j:=3+n) (by omega) O_g ih.1⟩
 have O_9:Q_9 P w base cl tx 23 (f_9 20):=(R_9 20).1
 have O_13:XZ P w base cl tx 23 (gM 20):=(R_9 20).2
 have O_4:Q_4 P w base cl tx 24 f_4:=Gy O_9
 have O_e:Q_e P w base cl tx 25 f_e:=Gz O_4
 have O_w:Q_w P w base cl tx 1 f_w:=GA
 have O_j:Q_j P w base cl tx 1 f_j:=GB
 have O_v:Q_v P w base cl tx 2 f_v:=GC O_j
 have O_t:Q_t P w base cl tx 1 f_t:=GD
 have R_5:∀ n:Nat,Q_5 P w base cl tx (2+n) (S_5 n 0)/\Q_x P w base cl tx (2+n) (S_5 n 1)/\k0 P w base cl tx (2+n) (S_5 n 2):=by
  intro n
  induction n with
  | zero=>exact ⟨ZK rfl,ZK rfl,ZK rfl⟩
  | succ n ih=>
   exact ⟨GE (j:=2+n) (by omega) O_t ih.2.1 O_w O_v ih.2.2,GF (j:=2+n) (by omega) ih.1,Kx (j:=2+n) (by omega) ih.1⟩
 have O_5:Q_5 P w base cl tx 22 (f_5 20):=(R_5 20).1
 have O_x:Q_x P w base cl tx 22 (f_x 20):=(R_5 20).2.1
 have O_12:k0 P w base cl tx 22 (gN 20):=(R_5 20).2.2
 have O_2:Q_2 P w base cl tx 26 f_2:=GG O_e O_5
 have O_f:Q_f P w base cl tx 27 f_f:=GH O_2
 have R_1:∀ n:Nat,Q_1 P w base cl tx (0+n) (S_1 n 0)/\Q_l P w base cl tx (0+n) (S_1 n 1)/\Q_h P w base cl tx (0+n) (S_1 n 2):=by
  intro n
  induction n with
  | zero=>exact ⟨ZK rfl,ZK rfl,ZK rfl⟩
  | succ n ih=>
   exact ⟨GI (j:=0+n) (by omega) ih.2.1 ih.2.2,GJ (j:=0+n) (by omega) ih.1,GK (j:=0+n) (by omega) ih.2.1⟩
 have O_1:Q_1 P w base cl tx 20 (f_1 20):=(R_1 20).1
 have O_l:Q_l P w base cl tx 20 (f_l 20):=(R_1 20).2.1
 have O_h:Q_h P w base cl tx 20 (f_h 20):=(R_1 20).2.2
 have R_d:∀ n:Nat,Q_d P w base cl tx (20+n) (S_d n 0)/\k3 P w base cl tx (20+n) (S_d n 1)/\Q_k P w base cl tx (20+n) (S_d n 2):=by
  intro n
  induction n with
  | zero=>exact ⟨ZK rfl,ZK rfl,ZK rfl⟩
  | succ n ih=>
   exact ⟨GL (j:=20+n) (by omega) O_j ih.2.1 ih.2.2,Ky (j:=20+n) (by omega) O_h ih.2.2,GM (j:=20+n) (by omega) O_1 ih.1⟩
 have O_d:Q_d P w base cl tx 40 (f_d 20):=(R_d 20).1
 have O_11:k3 P w base cl tx 40 (gO 20):=(R_d 20).2.1
 have O_k:Q_k P w base cl tx 40 (f_k 20):=(R_d 20).2.2
 have O_s:Q_s P w base cl tx 41 f_s:=GN O_e O_1 O_d
 have O_i:Q_i P w base cl tx 42 f_i:=GO O_s
 have O_8:Q_8 P w base cl tx 27 f_8:=GP O_1 O_2
 have O_m:Q_m P w base cl tx 27 f_m:=GQ O_2
 have O_q:Q_q P w base cl tx 26 f_q:=GR O_e O_1
 have O_0:Q_0 P w base cl tx 43 f_0:=GS O_q O_3 O_o O_2 O_8 O_m O_b O_f O_i
 exact O_0
end
theorem fn1 {K:PySem.W.Frag} {h:Heap} {mg:Str->Option Value} {f:Addr} {od an:Option Addr} {sl:Array (Option Value)} {oc kV dc pm cd ct:Value} {x:Str} {st:Stmt} {ps:List Str} (X:K.In h) (G:h.Ns mainGlobals mg) (e:PySem.W.nsIn K mainGlobals x=some (some (.ref f))) (l:K.lookup f=some ⟨oc,od, .func (PySem.W.fnOf x x (j8 st) (ZP st) (zf st) .none kV dc pm an cd ct),sl⟩) (g:PySem.W.codeIn K cd x=true) (k:PySem.W.keepIn K (.ref f)=true)
  (hb:∀ F:Fun K x x st f (PySem.W.fnOf x x (j8 st) (ZP st) (zf st) .none kV dc pm an cd ct),L2.Binds K (PySem.W.fnOf x x (j8 st) (ZP st) (zf st) .none kV dc pm an cd ct) ps []):Fn K mg x st ps f (PySem.W.fnOf x x (j8 st) (ZP st) (zf st) .none kV dc pm an cd ct):=
 have F:=xg (st:=st) l g k
 ⟨F,hb F,PySem.W.mg_of X G e⟩
theorem fin_ {l:PySem.W.OpenLaw} {w:World} {K:PySem.W.Frag} {h:Heap} {mg:Str->Option Value} {fa:Addr} (X:K.In h) (G:h.Ns mainGlobals mg) (hfa:mg "law"=some (.ref fa)) (tx:Tx K mg) (hB:∀ (s:Shared) (v:Value),BindsTo s tx.d_0 ⟨[v],[]⟩ [("_law_script",v)]):∃ fd:FuncData,(∀ (s:Shared) (v:Value),BindsTo s fd ⟨[v],[]⟩ [("_law_script",v)])/\∀ base:Heap,K.In base->base.Ns mainGlobals mg->Zz l.prog w K mg base CX0 43 fa fd ["_law_script"] (spP (fun _=> .none) 1 f_0):=by
 have e:=hfa.symm.trans tx.C_0.m
 cases e
 exact ⟨tx.d_0,hB,fun base KB _=>XF⟩
def WP (K:PySem.W.Frag):Bool:=K.all fun p=> !(p.2.cls == Value.type "list")
theorem Vl {K:PySem.W.Frag} (h:WP K=true) {a:Addr} {o:Obj} (e:K.lookup a=some o) (c:o.cls=Value.type "list"):False:=by
 have hm:(a,o)∈K:=by
  clear h
  induction K with
  | nil=>cases e
  | cons p r ih=>
   obtain ⟨b,u⟩:=p
   by_cases hb:a=b
   ·subst hb
    have e' :some u=some o:=by simpa [List.lookup_cons] using e
    cases e'; exact List.mem_cons_self
   ·have e' :r.lookup a=some o:=by rw [List.lookup_cons,(beq_eq_false_iff_ne.mpr hb)] at e; exact e
    exact List.mem_cons_of_mem _ (ih e')
 have:=List.all_eq_true.mp h _ hm
 rw [c] at this
 simp at this
theorem XG {cl:Nat->Value} {K:PySem.W.Frag} {H:Hp} {a:Addr} {ns:List Int} (hL:f_0 [.fz (ns.map T.int)]= .ok (.bl true)) (hK:WP K=true) (hO:XI H) (hS:SqL K H a (ns.map V.int)):spP cl 1 f_0 [.ref a] H (fun v _=>v= .bl true) fun _ _ _=>False:=by
 have scrR:∀ ns:List Int,zE H (ns.map V.int) (ns.map T.int):=fun ns=>by
  induction ns with
  | nil=>exact .nil
  | cons n r ih=>exact .cons (.int n) ih
 rcases hS with (h | ⟨o,h⟩) | ⟨o,its,n,e,c,_⟩
 ·rcases hO a with z | ⟨ob,xs,z⟩ <;> (rw [h] at z; cases z)
 ·refine ⟨H,[.fz (ns.map T.int)],rfl,zx.refl H, .cons (.fz h (scrR ns)) .nil, ?_⟩
  rw [hL]
  intro v H' _ r
  cases r; rfl
 ·exact (Vl hK e c).elim
theorem walk {l:PySem.W.OpenLaw} {q:Program} {loose:List Str} {XP:(Str->Option Value)->Heap->Prop} {YP:World->Heap->Prop} {d:DefRec} {K:Params->PySem.W.Frag} (hn:l.most=some 63) (hdf:d.params.defaults=[])
  (hL:∀ ns:List Int,ns.length<=63->f_0 [.fz (ns.map T.int)]= .ok (.bl true)) (hK:∀ p,WP (K p)=true)
  (hY:∀ (w:World) (h:Heap),YP w h->(K w.params).In h)
  (F:∀ (w:World) (mg:Str->Option Value) (fa:Addr) (h:Heap),(K w.params).In h->h.Ns mainGlobals mg->mg d.name=some (.ref fa)->
   ∃ fd:FuncData,(∀ (s:Shared) (u:Value),BindsTo s fd ⟨[u],[]⟩ [("_law_script",u)])/\∀ base:Heap,(K w.params).In base->base.Ns mainGlobals mg->Zz l.prog w (K w.params) mg base CX0 43 fa fd ["_law_script"] (spP (fun _=> .none) 1 f_0)):
  PySem.W.WalkO q loose XP YP l.row.toRowW d [] (fun f vs=>PySem.call f vs):=
 L2.walk_of (n:=63) (k:=43) (x:="_law_script") (CX:=fun w=>CX0) (sp:=fun w=>spP (fun _=> .none) 1 f_0) hn (by decide) hdf ⟨rfl,by decide,by decide,rfl⟩ hY F (fun w H a ns hl hO hS=>XG (hL ns hl) (hK w.params) hO hS) fun _ _ _ _ _ z=>z
end G
namespace PySem.W.Fast
def tw4810188823069194384:=0
def tw9351759093233781129:=0
def tw547245521887676798:=0
def tw8949851744158645156:=0
def tw7055342302148386191:=0
def tw10831659795323047825:=0
def tw12975766066633019366:=0
def tw3250997873821574834:=0
def tw8629793916850483630:=0
def tw6359547504784904334:=0
def tw3817921401768521026:=0
def tw14801546981195272603:=0
def tw2104543231131773756:=0
def tw16038495959287297734:=0
def tw15703571930745924327:=0
def tw13517606491873262048:=0
def tw10271637109032449365:=0
def tw9410537885585161952:=0
def tw12176925673854376156:=0
def tw12526164243740924210:=0
def tw12091810371440617985:=0
def tw15622236555581524750:=0
def tw8672657624867288051:=0
def tw8077576630026525404:=0
def tw9101729105411118897:=0
def tw7426716097573027172:=0
def tw13262062969412224101:=0
def tw14952559709931195202:=0
def tw6735995314771898030:=0
def tw8532832116159190453:=0
def tw5718917131908122196:=0
def tw7893172449454200226:=0
def tw8791849726761572284:=0
def tw4538186287406060541:=0
def tw17562462989666431765:=0
def tw14605274700225376480:=0
def tw10239651141441162740:=0
def tw16433134312061352282:=0
def tw10349808624673049953:=0
def tw15025697782461903152:=0
def tw5895195487244772666:=0
def tw10152202807661612659:=0
def tw1349163423333528408:=0
def tw145647948173574996:=0
def tw2023337506225389241:=0
def tw9390751528013583150:=0
def tw14585472360003930389:=0
def tw14213627768255058713:=0
def tw12048184939791947395:=0
def tw8549212322327164095:=0
def tw4128669836243838653:=0
def tw18402979882531818828:=0
def tw8957658935331024718:=0
def tw4122489946135398234:=0
def tw5014185182293508882:=0
end PySem.W.Fast
open PySem PySem.W PyProof.Rows
set_option maxRecDepth 100000 in
set_option maxHeartbeats 0 in
theorem PySem.Challenge.cw_worthkinds_k31_whole_common_of_three_holds : PySem.Challenge.rw_worthkinds_k31_whole_common_of_three.Holds := by
 w_on; o_law; k_head; (case hw=>w_witness2)
 k_fill
 refine G.walk (l:=PySem.Challenge.rw_worthkinds_k31_whole_common_of_three) rfl rfl G.KN ?nl (fun w h Y=>PySem.W.kIn_of Y) ?F
 case nl=>intro p; kernel_rfl
 case F=>
  intro w mg fa h KX G0 hmg
  obtain ⟨a0,d0,C0⟩:∃ a d,G.Fn _ mg "_law_cell" G.KO ["_law_script","_law_k"] a d:=by
   refine' ⟨_,_,G.fn1 KX G0 ?e ?l ?g ?k (fun F=>F.binds (ps:=["_law_script","_law_k"]) fun _ _ _ _ _ _ us hl=>match us,hl with | [_,_],_=>rfl)⟩
   (case e=>k_is)
   (case l=>k_is)
   (case g=>k_is)
   (case k=>k_is)
  obtain ⟨a1,d1,C1⟩:∃ a d,G.Fn _ mg "_law_pick" G.s_3 ["_law_script","_law_k","_law_many"] a d:=by
   refine' ⟨_,_,G.fn1 KX G0 ?e ?l ?g ?k (fun F=>F.binds (ps:=["_law_script","_law_k","_law_many"]) fun _ _ _ _ _ _ us hl=>match us,hl with | [_,_,_],_=>rfl)⟩
   (case e=>k_is)
   (case l=>k_is)
   (case g=>k_is)
   (case k=>k_is)
  obtain ⟨a2,d2,C2⟩:∃ a d,G.Fn _ mg "_law_word_of" G.s_u ["_law_script","_law_at"] a d:=by
   refine' ⟨_,_,G.fn1 KX G0 ?e ?l ?g ?k (fun F=>F.binds (ps:=["_law_script","_law_at"]) fun _ _ _ _ _ _ us hl=>match us,hl with | [_,_],_=>rfl)⟩
   (case e=>k_is)
   (case l=>k_is)
   (case g=>k_is)
   (case k=>k_is)
  obtain ⟨a3,d3,C3⟩:∃ a d,G.Fn _ mg "_law_leaf_kind" G.s_p ["_law_script","_law_at"] a d:=by
   refine' ⟨_,_,G.fn1 KX G0 ?e ?l ?g ?k (fun F=>F.binds (ps:=["_law_script","_law_at"]) fun _ _ _ _ _ _ us hl=>match us,hl with | [_,_],_=>rfl)⟩
   (case e=>k_is)
   (case l=>k_is)
   (case g=>k_is)
   (case k=>k_is)
  obtain ⟨a4,d4,C4⟩:∃ a d,G.Fn _ mg "_law_kind" G.s_c ["_law_script","_law_at","_law_deep"] a d:=by
   refine' ⟨_,_,G.fn1 KX G0 ?e ?l ?g ?k (fun F=>F.binds (ps:=["_law_script","_law_at","_law_deep"]) fun _ _ _ _ _ _ us hl=>match us,hl with | [_,_,_],_=>rfl)⟩
   (case e=>k_is)
   (case l=>k_is)
   (case g=>k_is)
   (case k=>k_is)
  obtain ⟨a5,d5,C5⟩:∃ a d,G.Fn _ mg "_law_rows_of" G.s_a ["_law_lists"] a d:=by
   refine' ⟨_,_,G.fn1 KX G0 ?e ?l ?g ?k (fun F=>F.binds (ps:=["_law_lists"]) fun _ _ _ _ _ _ us hl=>match us,hl with | [_],_=>rfl)⟩
   (case e=>k_is)
   (case l=>k_is)
   (case g=>k_is)
   (case k=>k_is)
  obtain ⟨a6,d6,C6⟩:∃ a d,G.Fn _ mg "_law_all" G.s_6 ["_law_kind_here"] a d:=by
   refine' ⟨_,_,G.fn1 KX G0 ?e ?l ?g ?k (fun F=>F.binds (ps:=["_law_kind_here"]) fun _ _ _ _ _ _ us hl=>match us,hl with | [_],_=>rfl)⟩
   (case e=>k_is)
   (case l=>k_is)
   (case g=>k_is)
   (case k=>k_is)
  obtain ⟨a7,d7,C7⟩:∃ a d,G.Fn _ mg "_law_size" G.s_7 ["_law_kind_here"] a d:=by
   refine' ⟨_,_,G.fn1 KX G0 ?e ?l ?g ?k (fun F=>F.binds (ps:=["_law_kind_here"]) fun _ _ _ _ _ _ us hl=>match us,hl with | [_],_=>rfl)⟩
   (case e=>k_is)
   (case l=>k_is)
   (case g=>k_is)
   (case k=>k_is)
  obtain ⟨a8,d8,C8⟩:∃ a d,G.Fn _ mg "_law_small" G.s_o ["_law_script","_law_at","_law_most"] a d:=by
   refine' ⟨_,_,G.fn1 KX G0 ?e ?l ?g ?k (fun F=>F.binds (ps:=["_law_script","_law_at","_law_most"]) fun _ _ _ _ _ _ us hl=>match us,hl with | [_,_,_],_=>rfl)⟩
   (case e=>k_is)
   (case l=>k_is)
   (case g=>k_is)
   (case k=>k_is)
  obtain ⟨a9,d9,C9⟩:∃ a d,G.Fn _ mg "_law_led" G.s_b ["_law_script","_law_at","_law_kind_here"] a d:=by
   refine' ⟨_,_,G.fn1 KX G0 ?e ?l ?g ?k (fun F=>F.binds (ps:=["_law_script","_law_at","_law_kind_here"]) fun _ _ _ _ _ _ us hl=>match us,hl with | [_,_,_],_=>rfl)⟩
   (case e=>k_is)
   (case l=>k_is)
   (case g=>k_is)
   (case k=>k_is)
  obtain ⟨a10,d10,C10⟩:∃ a d,G.Fn _ mg "is_whole" G.s_n ["thing"] a d:=by
   refine' ⟨_,_,G.fn1 KX G0 ?e ?l ?g ?k (fun F=>F.binds (ps:=["thing"]) fun _ _ _ _ _ _ us hl=>match us,hl with | [_],_=>rfl)⟩
   (case e=>k_is)
   (case l=>k_is)
   (case g=>k_is)
   (case k=>k_is)
  obtain ⟨a11,d11,C11⟩:∃ a d,G.Fn _ mg "is_span" G.KS ["low","high","least","most"] a d:=by
   refine' ⟨_,_,G.fn1 KX G0 ?e ?l ?g ?k (fun F=>F.binds (ps:=["low","high","least","most"]) fun _ _ _ _ _ _ us hl=>match us,hl with | [_,_,_,_],_=>rfl)⟩
   (case e=>k_is)
   (case l=>k_is)
   (case g=>k_is)
   (case k=>k_is)
  obtain ⟨a12,d12,C12⟩:∃ a d,G.Fn _ mg "is_tuple_of" G.s_g ["thing","least","most"] a d:=by
   refine' ⟨_,_,G.fn1 KX G0 ?e ?l ?g ?k (fun F=>F.binds (ps:=["thing","least","most"]) fun _ _ _ _ _ _ us hl=>match us,hl with | [_,_,_],_=>rfl)⟩
   (case e=>k_is)
   (case l=>k_is)
   (case g=>k_is)
   (case k=>k_is)
  obtain ⟨a13,d13,C13⟩:∃ a d,G.Fn _ mg "is_word" G.s_z ["thing"] a d:=by
   refine' ⟨_,_,G.fn1 KX G0 ?e ?l ?g ?k (fun F=>F.binds (ps:=["thing"]) fun _ _ _ _ _ _ us hl=>match us,hl with | [_],_=>rfl)⟩
   (case e=>k_is)
   (case l=>k_is)
   (case g=>k_is)
   (case k=>k_is)
  obtain ⟨a14,d14,C14⟩:∃ a d,G.Fn _ mg "is_choice" G.s_y ["thing"] a d:=by
   refine' ⟨_,_,G.fn1 KX G0 ?e ?l ?g ?k (fun F=>F.binds (ps:=["thing"]) fun _ _ _ _ _ _ us hl=>match us,hl with | [_],_=>rfl)⟩
   (case e=>k_is)
   (case l=>k_is)
   (case g=>k_is)
   (case k=>k_is)
  obtain ⟨a15,d15,C15⟩:∃ a d,G.Fn _ mg "are_choices" G.s_r ["thing"] a d:=by
   refine' ⟨_,_,G.fn1 KX G0 ?e ?l ?g ?k (fun F=>F.binds (ps:=["thing"]) fun _ _ _ _ _ _ us hl=>match us,hl with | [_],_=>rfl)⟩
   (case e=>k_is)
   (case l=>k_is)
   (case g=>k_is)
   (case k=>k_is)
  obtain ⟨a16,d16,C16⟩:∃ a d,G.Fn _ mg "is_kind_within" G.s_9 ["thing","levels"] a d:=by
   refine' ⟨_,_,G.fn1 KX G0 ?e ?l ?g ?k (fun F=>F.binds (ps:=["thing","levels"]) fun _ _ _ _ _ _ us hl=>match us,hl with | [_,_],_=>rfl)⟩
   (case e=>k_is)
   (case l=>k_is)
   (case g=>k_is)
   (case k=>k_is)
  obtain ⟨a17,d17,C17⟩:∃ a d,G.Fn _ mg "are_kinds_within" G.Ko ["thing","levels"] a d:=by
   refine' ⟨_,_,G.fn1 KX G0 ?e ?l ?g ?k (fun F=>F.binds (ps:=["thing","levels"]) fun _ _ _ _ _ _ us hl=>match us,hl with | [_,_],_=>rfl)⟩
   (case e=>k_is)
   (case l=>k_is)
   (case g=>k_is)
   (case k=>k_is)
  obtain ⟨a18,d18,C18⟩:∃ a d,G.Fn _ mg "is_kind" G.s_4 ["thing"] a d:=by
   refine' ⟨_,_,G.fn1 KX G0 ?e ?l ?g ?k (fun F=>F.binds (ps:=["thing"]) fun _ _ _ _ _ _ us hl=>match us,hl with | [_],_=>rfl)⟩
   (case e=>k_is)
   (case l=>k_is)
   (case g=>k_is)
   (case k=>k_is)
  obtain ⟨a19,d19,C19⟩:∃ a d,G.Fn _ mg "need_kind" G.s_e ["kind"] a d:=by
   refine' ⟨_,_,G.fn1 KX G0 ?e ?l ?g ?k (fun F=>F.binds (ps:=["kind"]) fun _ _ _ _ _ _ us hl=>match us,hl with | [_],_=>rfl)⟩
   (case e=>k_is)
   (case l=>k_is)
   (case g=>k_is)
   (case k=>k_is)
  obtain ⟨a20,d20,C20⟩:∃ a d,G.Fn _ mg "common_whole" G.s_w ["one","other"] a d:=by
   refine' ⟨_,_,G.fn1 KX G0 ?e ?l ?g ?k (fun F=>F.binds (ps:=["one","other"]) fun _ _ _ _ _ _ us hl=>match us,hl with | [_,_],_=>rfl)⟩
   (case e=>k_is)
   (case l=>k_is)
   (case g=>k_is)
   (case k=>k_is)
  obtain ⟨a21,d21,C21⟩:∃ a d,G.Fn _ mg "words_of_pick" G.s_j ["kind"] a d:=by
   refine' ⟨_,_,G.fn1 KX G0 ?e ?l ?g ?k (fun F=>F.binds (ps:=["kind"]) fun _ _ _ _ _ _ us hl=>match us,hl with | [_],_=>rfl)⟩
   (case e=>k_is)
   (case l=>k_is)
   (case g=>k_is)
   (case k=>k_is)
  obtain ⟨a22,d22,C22⟩:∃ a d,G.Fn _ mg "common_pick" G.s_v ["one","other"] a d:=by
   refine' ⟨_,_,G.fn1 KX G0 ?e ?l ?g ?k (fun F=>F.binds (ps:=["one","other"]) fun _ _ _ _ _ _ us hl=>match us,hl with | [_,_],_=>rfl)⟩
   (case e=>k_is)
   (case l=>k_is)
   (case g=>k_is)
   (case k=>k_is)
  obtain ⟨a23,d23,C23⟩:∃ a d,G.Fn _ mg "kinds_of_parts" G.s_t ["kind","length"] a d:=by
   refine' ⟨_,_,G.fn1 KX G0 ?e ?l ?g ?k (fun F=>F.binds (ps:=["kind","length"]) fun _ _ _ _ _ _ us hl=>match us,hl with | [_,_],_=>rfl)⟩
   (case e=>k_is)
   (case l=>k_is)
   (case g=>k_is)
   (case k=>k_is)
  obtain ⟨a24,d24,C24⟩:∃ a d,G.Fn _ mg "common_kind" G.s_5 ["one","other"] a d:=by
   refine' ⟨_,_,G.fn1 KX G0 ?e ?l ?g ?k (fun F=>F.binds (ps:=["one","other"]) fun _ _ _ _ _ _ us hl=>match us,hl with | [_,_],_=>rfl)⟩
   (case e=>k_is)
   (case l=>k_is)
   (case g=>k_is)
   (case k=>k_is)
  obtain ⟨a25,d25,C25⟩:∃ a d,G.Fn _ mg "common_row" G.s_x ["one_kinds","other_kinds"] a d:=by
   refine' ⟨_,_,G.fn1 KX G0 ?e ?l ?g ?k (fun F=>F.binds (ps:=["one_kinds","other_kinds"]) fun _ _ _ _ _ _ us hl=>match us,hl with | [_,_],_=>rfl)⟩
   (case e=>k_is)
   (case l=>k_is)
   (case g=>k_is)
   (case k=>k_is)
  obtain ⟨a26,d26,C26⟩:∃ a d,G.Fn _ mg "common_many" G.KY ["one","other"] a d:=by
   refine' ⟨_,_,G.fn1 KX G0 ?e ?l ?g ?k (fun F=>F.binds (ps:=["one","other"]) fun _ _ _ _ _ _ us hl=>match us,hl with | [_,_],_=>rfl)⟩
   (case e=>k_is)
   (case l=>k_is)
   (case g=>k_is)
   (case k=>k_is)
  obtain ⟨a27,d27,C27⟩:∃ a d,G.Fn _ mg "both" G.s_2 ["one","other"] a d:=by
   refine' ⟨_,_,G.fn1 KX G0 ?e ?l ?g ?k (fun F=>F.binds (ps:=["one","other"]) fun _ _ _ _ _ _ us hl=>match us,hl with | [_,_],_=>rfl)⟩
   (case e=>k_is)
   (case l=>k_is)
   (case g=>k_is)
   (case k=>k_is)
  obtain ⟨a28,d28,C28⟩:∃ a d,G.Fn _ mg "_law_both" G.s_f ["_law_one","_law_other"] a d:=by
   refine' ⟨_,_,G.fn1 KX G0 ?e ?l ?g ?k (fun F=>F.binds (ps:=["_law_one","_law_other"]) fun _ _ _ _ _ _ us hl=>match us,hl with | [_,_],_=>rfl)⟩
   (case e=>k_is)
   (case l=>k_is)
   (case g=>k_is)
   (case k=>k_is)
  obtain ⟨a29,d29,C29⟩:∃ a d,G.Fn _ mg "count_of" G.s_1 ["kind"] a d:=by
   refine' ⟨_,_,G.fn1 KX G0 ?e ?l ?g ?k (fun F=>F.binds (ps:=["kind"]) fun _ _ _ _ _ _ us hl=>match us,hl with | [_],_=>rfl)⟩
   (case e=>k_is)
   (case l=>k_is)
   (case g=>k_is)
   (case k=>k_is)
  obtain ⟨a30,d30,C30⟩:∃ a d,G.Fn _ mg "count_of_parts" G.s_l ["kinds"] a d:=by
   refine' ⟨_,_,G.fn1 KX G0 ?e ?l ?g ?k (fun F=>F.binds (ps:=["kinds"]) fun _ _ _ _ _ _ us hl=>match us,hl with | [_],_=>rfl)⟩
   (case e=>k_is)
   (case l=>k_is)
   (case g=>k_is)
   (case k=>k_is)
  obtain ⟨a31,d31,C31⟩:∃ a d,G.Fn _ mg "count_shorter" G.s_h ["kind","length"] a d:=by
   refine' ⟨_,_,G.fn1 KX G0 ?e ?l ?g ?k (fun F=>F.binds (ps:=["kind","length"]) fun _ _ _ _ _ _ us hl=>match us,hl with | [_,_],_=>rfl)⟩
   (case e=>k_is)
   (case l=>k_is)
   (case g=>k_is)
   (case k=>k_is)
  obtain ⟨a32,d32,C32⟩:∃ a d,G.Fn _ mg "worth_at" G.s_d ["kind","number"] a d:=by
   refine' ⟨_,_,G.fn1 KX G0 ?e ?l ?g ?k (fun F=>F.binds (ps:=["kind","number"]) fun _ _ _ _ _ _ us hl=>match us,hl with | [_,_],_=>rfl)⟩
   (case e=>k_is)
   (case l=>k_is)
   (case g=>k_is)
   (case k=>k_is)
  obtain ⟨a33,d33,C33⟩:∃ a d,G.Fn _ mg "many_at" G.KZ ["kind","number"] a d:=by
   refine' ⟨_,_,G.fn1 KX G0 ?e ?l ?g ?k (fun F=>F.binds (ps:=["kind","number"]) fun _ _ _ _ _ _ us hl=>match us,hl with | [_,_],_=>rfl)⟩
   (case e=>k_is)
   (case l=>k_is)
   (case g=>k_is)
   (case k=>k_is)
  obtain ⟨a34,d34,C34⟩:∃ a d,G.Fn _ mg "parts_at" G.s_k ["kinds","number"] a d:=by
   refine' ⟨_,_,G.fn1 KX G0 ?e ?l ?g ?k (fun F=>F.binds (ps:=["kinds","number"]) fun _ _ _ _ _ _ us hl=>match us,hl with | [_,_],_=>rfl)⟩
   (case e=>k_is)
   (case l=>k_is)
   (case g=>k_is)
   (case k=>k_is)
  obtain ⟨a35,d35,C35⟩:∃ a d,G.Fn _ mg "all_worths" G.s_s ["kind"] a d:=by
   refine' ⟨_,_,G.fn1 KX G0 ?e ?l ?g ?k (fun F=>F.binds (ps:=["kind"]) fun _ _ _ _ _ _ us hl=>match us,hl with | [_],_=>rfl)⟩
   (case e=>k_is)
   (case l=>k_is)
   (case g=>k_is)
   (case k=>k_is)
  obtain ⟨a36,d36,C36⟩:∃ a d,G.Fn _ mg "_law_worths" G.s_i ["_law_kind_here"] a d:=by
   refine' ⟨_,_,G.fn1 KX G0 ?e ?l ?g ?k (fun F=>F.binds (ps:=["_law_kind_here"]) fun _ _ _ _ _ _ us hl=>match us,hl with | [_],_=>rfl)⟩
   (case e=>k_is)
   (case l=>k_is)
   (case g=>k_is)
   (case k=>k_is)
  obtain ⟨a37,d37,C37⟩:∃ a d,G.Fn _ mg "is_within" G.s_8 ["one","other"] a d:=by
   refine' ⟨_,_,G.fn1 KX G0 ?e ?l ?g ?k (fun F=>F.binds (ps:=["one","other"]) fun _ _ _ _ _ _ us hl=>match us,hl with | [_,_],_=>rfl)⟩
   (case e=>k_is)
   (case l=>k_is)
   (case g=>k_is)
   (case k=>k_is)
  obtain ⟨a38,d38,C38⟩:∃ a d,G.Fn _ mg "are_apart" G.s_m ["one","other"] a d:=by
   refine' ⟨_,_,G.fn1 KX G0 ?e ?l ?g ?k (fun F=>F.binds (ps:=["one","other"]) fun _ _ _ _ _ _ us hl=>match us,hl with | [_,_],_=>rfl)⟩
   (case e=>k_is)
   (case l=>k_is)
   (case g=>k_is)
   (case k=>k_is)
  obtain ⟨a39,d39,C39⟩:∃ a d,G.Fn _ mg "how_many" G.s_q ["kind"] a d:=by
   refine' ⟨_,_,G.fn1 KX G0 ?e ?l ?g ?k (fun F=>F.binds (ps:=["kind"]) fun _ _ _ _ _ _ us hl=>match us,hl with | [_],_=>rfl)⟩
   (case e=>k_is)
   (case l=>k_is)
   (case g=>k_is)
   (case k=>k_is)
  obtain ⟨a40,d40,C40,hB⟩:∃ a d,G.Fn _ mg "law" G.s_0 ["_law_script"] a d/\∀ (s:PySem.Shared) (v:PySem.Value),BindsTo s d ⟨[v],[]⟩ [("_law_script",v)]:=by
   refine' ⟨_,_,G.fn1 KX G0 ?e ?l ?g ?k (fun F=>F.binds (ps:=["_law_script"]) fun _ _ _ _ _ _ us hl=>match us,hl with | [_],_=>rfl),fun s v=> .of_eq rfl⟩
   (case e=>k_is)
   (case l=>k_is)
   (case g=>k_is)
   (case k=>k_is)
  refine' G.fin_ KX G0 hmg ⟨a0,d0,C0,a1,d1,C1,a2,d2,C2,a3,d3,C3,a4,d4,C4,a5,d5,C5,a6,d6,C6,a7,d7,C7,a8,d8,C8,a9,d9,C9,a10,d10,C10,a11,d11,C11,a12,d12,C12,a13,d13,C13,a14,d14,C14,a15,d15,C15,a16,d16,C16,a17,d17,C17,a18,d18,C18,a19,d19,C19,a20,d20,C20,a21,d21,C21,a22,d22,C22,a23,d23,C23,a24,d24,C24,a25,d25,C25,a26,d26,C26,a27,d27,C27,a28,d28,C28,a29,d29,C29,a30,d30,C30,a31,d31,C31,a32,d32,C32,a33,d33,C33,a34,d34,C34,a35,d35,C35,a36,d36,C36,a37,d37,C37,a38,d38,C38,a39,d39,C39,a40,d40,C40,PySem.W.mg_none_of KX G0 (by k_is),PySem.W.mg_none_of KX G0 (by k_is),PySem.W.mg_none_of KX G0 (by k_is),PySem.W.mg_none_of KX G0 (by k_is),PySem.W.mg_none_of KX G0 (by k_is),PySem.W.mg_none_of KX G0 (by k_is),PySem.W.mg_none_of KX G0 (by k_is),PySem.W.mg_none_of KX G0 (by k_is),PySem.W.mg_none_of KX G0 (by k_is),PySem.W.mg_none_of KX G0 (by k_is),PySem.W.mg_none_of KX G0 (by k_is),PySem.W.mg_none_of KX G0 (by k_is),PySem.W.mg_none_of KX G0 (by k_is),PySem.W.mg_none_of KX G0 (by k_is),PySem.W.mg_none_of KX G0 (by k_is),PySem.W.mg_none_of KX G0 (by k_is),PySem.W.mg_none_of KX G0 (by k_is),⟨_,PySem.W.mg_of KX G0 (by k_is),_,rfl⟩,⟨_,PySem.W.mg_of KX G0 (by k_is),_,rfl⟩⟩ hB
