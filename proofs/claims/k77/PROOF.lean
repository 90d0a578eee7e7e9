import PyProof.Rows.All
import Wide.All
import OpenK.AllK
import Wide.FinOn
import Lean
import PyProof.EqAt
import PyProof.EqKinds
import PyProof.TupleCall
import PyProof.NeKinds
import PyProof.WalksEnum
import PyProof.StrWalks
import PyProof.ExcAttrAll.ValueError
import PyProof.ZipIter
import KE.KRevIter
import PyProof.ListNew
import PyProof.WalksMore
import PyProof.ReprLoop
import PyProof.FactsAll.list
import PyProof.CollectIter
import PyProof.TupleOfGen
import PyProof.Draws
import PyProof.EnumMake
import PyProof.SeqI3
import KE.KMinBuiltin
import PyProof.SetRoads
import PyProof.CollectWalk
import KE.KDictSum
import PyProof.AttrMiss
import PyProof.IsiH_tuple
import KE.KDictOf
import PyProof.FitsBits
import PyProof.SliceList
import PyProof.InstFacts
import PyProof.Rows.StrNews2
import PyProof.StrBlockH
import PyProof.CallStr
import KE.KIntText
import PyProof.Rows.RuleB_pow
import KE.KSortTup
import PyProof.ReprRoads
import KE.KLam
import PySem.Challenge.RW_worthkinds_k77_steps_refused
noncomputable section
set_option maxHeartbeats 4000000
set_option Elab.async false
set_option linter.all false
set_option maxRecDepth 100000
namespace L2
open PySem PySem.Spec PyProof.Rows
abbrev Key:=Sum Int Str
def UX:Key->Value->Bool
 | .inl k,v=>Value.isInt k v
 | .inr x,v=>Value.isStrOf x v
def vW (w:World):Key->Int
 | .inl k=>hashInt k
 | .inr x=>hashStr w x
theorem zu:∀ {k:Key} {v:Value},UX k v=true->(∃ i t,k=Sum.inl i/\v=Value.int i t)\/(∃ x t,k=Sum.inr x/\v=Value.str x t)
 | .inl i,v,h=>by
  obtain ⟨t,e⟩:=Value.isInt_shape (k:=i) (v:=v) h
  exact .inl ⟨i,t,rfl,e⟩
 | .inr x,v,h=>by
  obtain ⟨t,e⟩:=Value.isStrOf_shape (x:=x) (v:=v) h
  exact .inr ⟨x,t,rfl,e⟩
theorem UY (a b:Int):decide ((Sum.inl a:Key)=Sum.inl b)=(a == b):=by
 by_cases e:a=b
 ·subst e; simp
 ·have h:¬ (Sum.inl a:Key)=Sum.inl b:=fun q=>e (Sum.inl.inj q)
  rw [decide_eq_false h]
  exact (beq_eq_false_iff_ne.mpr e).symm
theorem UZ (a b:Str):decide ((Sum.inr a:Key)=Sum.inr b)=decide (a=b):=by
 by_cases e:a=b
 ·subst e; simp
 ·have h:¬ (Sum.inr a:Key)=Sum.inr b:=fun q=>e (Sum.inr.inj q)
  rw [decide_eq_false h,decide_eq_false e]
theorem y4 (a:Int) (b:Str):decide ((Sum.inl a:Key)=Sum.inr b)=false:=decide_eq_false (fun q=>nomatch q)
theorem y6 (a:Str) (b:Int):decide ((Sum.inr a:Key)=Sum.inl b)=false:=decide_eq_false (fun q=>nomatch q)
def jY (prog:Program) (w:World):PySem.KeyKind prog w Key where
 is:=UX
 hash:=vW w
 inj:=fun v a b ha hb=>by
  rcases zu ha with ⟨i,t,rfl,rfl⟩ | ⟨x,t,rfl,rfl⟩
  ·rcases zu hb with ⟨j,u,rfl,e⟩ | ⟨y,u,rfl,e⟩
   ·injection e with e1 _; rw [e1]
   ·exact nomatch e
  ·rcases zu hb with ⟨j,u,rfl,e⟩ | ⟨y,u,rfl,e⟩
   ·exact nomatch e
   ·injection e with e1 _; rw [e1]
 byValue:=fun k v h=>by
  rcases zu h with ⟨i,t,rfl,rfl⟩ | ⟨x,t,rfl,rfl⟩ <;> rfl
 pyHash:=fun hv h=>by
  rcases zu hv with ⟨i,t,rfl,rfl⟩ | ⟨x,t,rfl,rfl⟩
  ·exact wpAny_pyHash_int h
  ·exact wpAny_pyHash_str h
 eqBool:=fun hu hv h=>by
  rcases zu hu with ⟨i,t,rfl,rfl⟩ | ⟨x,t,rfl,rfl⟩
  ·rcases zu hv with ⟨j,u,rfl,rfl⟩ | ⟨y,u,rfl,rfl⟩
   ·rw [UY] at h; exact wpAny_eqBool_int h
   ·rw [y4] at h; exact SeqAt.EqAt.int_str i t y u _ _ _ _ h
  ·rcases zu hv with ⟨j,u,rfl,rfl⟩ | ⟨y,u,rfl,rfl⟩
   ·rw [y6] at h; exact SeqAt.EqAt.str_int x t j u _ _ _ _ h
   ·rw [UZ] at h; exact wpAny_eqBool_str h
 «strs»:=fun k x t v h=>by
  rcases zu h with ⟨i,u,rfl,e⟩ | ⟨y,u,rfl,e⟩
  ·exact nomatch e
  ·injection e with e1 _
   subst e1
   cases v <;> rfl
end L2
namespace L2
open PySem PySem.Spec PyProof.Rows
inductive V where
 | non | bl (b:Bool) | int (i:Int) | str (x:Str) | byt (b:Array UInt8) | flt (b:UInt64) | ref (a:Addr) | ty (n:String)
 deriving DecidableEq
def zF:V->Value->Prop
 | .non,u=>u=Value.none
 | .bl b,u=>u=Value.bool b
 | .int i,u=>∃ t,u=Value.int i t
 | .str x,u=>∃ t,u=Value.str x t
 | .byt b,u=>∃ t,u=Value.bytes b t
 | .flt b,u=>∃ t,u=Value.float b t
 | .ref a,u=>u=Value.ref a
 | .ty n,u=>u=Value.type n
abbrev zz:List V->List Value->Prop:=Paired zF
theorem zz.length {xs:List V} {us:List Value} (r:zz xs us):xs.length=us.length:=Paired.length r
theorem zz.get:∀ {xs:List V} {us:List Value} {i:Nat} {x:V},zz xs us->xs[i]? =some x->∃ u,us[i]? =some u/\zF x u
 | _,_,_,_, .nil,e=>by simp at e
 | _,_,0,_, .cons r _,e=>by simp at e; subst e; exact ⟨_,rfl,r⟩
 | _,_,i+1,x, .cons _ t,e=>by
  obtain ⟨u,h1,h2⟩:=zz.get (i:=i) (x:=x) t (by simpa using e)
  exact ⟨u,by simpa using h1,h2⟩
theorem zz.append:∀ {xs ys:List V} {us ws:List Value},zz xs us->zz ys ws->zz (xs++ys) (us++ws)
 | _,_,_,_, .nil,s=>s
 | _,_,_,_, .cons r t,s=> .cons r (zz.append t s)
def YX:Option V->Option Value->Prop
 | some v,some u=>zF v u
 | none,none=>True
 | _,_=>False
def KV {κ:Type}:List (κ×V)->List (κ×Value)->Prop:=Paired fun (p:κ×V) (q:κ×Value)=>p.1=q.1/\zF p.2 q.2
def kV:Key->V
 | .inl i=> .int i
 | .inr x=> .str x
inductive HO where
 | lst (xs:List V)
 | tup (xs:List V)
 | dK (kvs:List (Key×V)) | dT (kvs:List (List Key×V))
 | set (S:Int->Bool) (n:Nat)
 | ins (C dx:Addr) (fs:List (Str×V))
 | own (x:Addr)
 | xd (fs:List (Str×V))
 | met (f x:Addr)
 | rng (lo hi:Int)
 | frz (o:Obj) (u:HO)
 | tbl (ps:Array Value) (q:Str)
 | ext (φ:Heap->Prop)
abbrev Hp:=Addr->Option HO
def upd (H:Hp) (a:Addr) (o:HO):Hp:=fun b=>if b=a then some o else H b
theorem zg {H:Hp} {a:Addr} {o:HO}:upd H a o a=some o:=by unfold upd; rw [if_pos rfl]
theorem zf {H:Hp} {a b:Addr} {o:HO} (h:b ≠ a):upd H a o b=H b:=by unfold upd; rw [if_neg h]
theorem zk {H:Hp} {a b:Addr} {o:HO} (h:H a=some o) (h' :H b=none):a ≠ b:=by
 intro e; subst e; rw [h] at h'; cases h'
def ITN (h:Heap) (a:Addr) (its:Array Value):Prop:=IsTup h a its/\((∃ i t,its[0]? =some (Value.int i t))\/∃ o,h.get? a=some o/\o.dict=none)
theorem ITN.new (h:Heap) (its:Array Value):ITN (h.push { cls:= .type "tuple",data:= .seq its }) h.objs.size its:=⟨IsTup.new h its, .inr ⟨_,Heap.get?_push_size _ rfl,rfl⟩⟩
section
variable (P:Program) (w:World)
def zD (H:Hp) (h:Heap) (a:Addr):HO->Prop
 | .lst xs=>xs.length<=sizeLine/\∃ (its:List Value) (n:Nat),zz xs its/\h.get? a=some { cls:= .type "list",data:= .seq its.toArray n }
 | .tup xs=>xs.length<=sizeLine/\∃ its:List Value,zz xs its/\ITN h a its.toArray
 | .dK kvs=>kvs.length<=sizeLine/\(a == sysModules)=false/\∃ vs,KV kvs vs/\h.DictOf (jY P w) a vs
 | .dT kvs=>kvs.length<=sizeLine/\(a == sysModules)=false/\∃ xs:List (List Key×Addr×Value),
   Paired (fun (p:List Key×V) (q:List Key×Addr×Value)=>p.1=q.1/\H q.2.1=some (.tup (p.1.map kV))/\zF p.2 q.2.2) kvs xs/\
   ∃ o es ep,h.get? a=some o/\o.ExactDict/\o.data= .dict es ep/\es.toList=xs.map (entryOfKey (tupleKind (jY P w)))/\(xs.map (·.1)).Nodup
 | .set S n=>h.SetOf (intKind P w) a S n
 | .ins C dx fs=>H dx=some (.own a)/\fs.length<=1000/\dx ≠ a/\h.get? a=some (PySem.W.instObj C dx)/\
   ∃ mA,h.Ns1 dx mA/\(∀ f,YX (fs.lookup f) (mA f))/\PySem.Within mA (fs.map (·.1))
 | .own _=>∃ o,h.get? a=some o
 | .xd fs=>∃ mA,h.Ns1 a mA/\∀ f,YX (fs.lookup f) (mA f)
 | .rng lo hi=>∃ t u v,h.get? a=some { cls:= .type "range",data:= .fields #[.int lo t, .int hi u, .int 1 v] }
 | .frz o u=>h.get? a=some o/\zD H h a u
 | .tbl ps q=>∃ more:Array Value,h.get? a=some { cls:= .none,data:= .fields (ps++more) }/\TriplesOk (ps++more).toList/\∀ p cv,codeAmong p (ps++more).toList=some cv->∃ c oc vs t,cv= .ref c/\H c=some (.frz oc (.own c))/\oc.data= .fields vs/\vs[1]? =some (.str q t)
 | .met f x=>h.get? a=some (PySem.W.methodObj (.ref f) (.ref x))
 | .ext φ=>φ h/\(∃ o,h.get? a=some o)/\∀ h1 h2:Heap,φ h1->(∀ o,h1.get? a=some o->h2.get? a=some o)->φ h2
def HOk (H:Hp) (h:Heap):Prop:=∀ a o,H a=some o->zD P w H h a o
end
section
variable {P:Program} {w:World} {H H' :Hp} {h h' :Heap} {a:Addr} {o:HO}
theorem zD.lt (x:zD P w H h a o):a < h.objs.size:=by
 cases o with
 | lst xs=>obtain ⟨_,_,_,_,e⟩:=x; exact Heap.lt_size e
 | tup xs=>obtain ⟨_,_,_,p,_⟩:=x; exact p.lt
 | dK kvs=>obtain ⟨_,_,_,_,o,_,_,e,_⟩:=x; exact Heap.lt_size e
 | dT kvs=>obtain ⟨_,_,_,_,o,_,_,e,_⟩:=x; exact Heap.lt_size e
 | set S n=>obtain ⟨o,_,_,_,e,_⟩:=x; exact Heap.lt_size e
 | ins C dx fs=>obtain ⟨_,_,_,e,_⟩:=x; exact Heap.lt_size e
 | own y=>obtain ⟨_,e⟩:=x; exact Heap.lt_size e
 | xd fs=>obtain ⟨_,⟨_,_,_,e,_⟩,_⟩:=x; exact Heap.lt_size e
 | rng lo hi=>obtain ⟨_,_,_,e⟩:=x; exact Heap.lt_size e
 | frz ob u=>obtain ⟨e,_⟩:=x; exact Heap.lt_size e
 | tbl ps q=>obtain ⟨_,e,_⟩:=x; exact Heap.lt_size e
 | met f y=>exact Heap.lt_size (show h.get? a=some _ from x)
 | ext φ=>obtain ⟨_,⟨_,e⟩,_⟩:=x; exact Heap.lt_size e
theorem Paired.mapP {α β:Type} {F G:α->β->Prop}:∀ {l₁:List α} {l₂:List β},Paired F l₁ l₂->(∀ a b,F a b->G a b)->Paired G l₁ l₂
 | _,_, .nil,_=> .nil
 | _,_, .cons r t,f=> .cons (f _ _ r) (Paired.mapP t f)
theorem zD.stay (x:zD P w H h a o) (k:∀ b u,(b=a\/H b=some (.own a))->h.get? b=some u->h'.get? b=some u)
  (ho:∀ b,H b=some (.own a)->H' b=some (.own a)) (ht:∀ b xs,H b=some (.tup xs)->H' b=some (.tup xs)) (hf:∀ b o u,H b=some (.frz o u)->H' b=some (.frz o u):=by exact fun _ _ _ q=>q):zD P w H' h' a o:=by
 induction o with
 | lst xs=>obtain ⟨z,its,n,r,e⟩:=x; exact ⟨z,its,n,r,k _ _ (.inl rfl) e⟩
 | tup xs=>obtain ⟨z,its,r,⟨ob,e,c⟩,q⟩:=x; exact ⟨z,its,r,⟨ob,k _ _ (.inl rfl) e,c⟩,q.imp id fun ⟨o2,e2,d2⟩=>⟨o2,k _ _ (.inl rfl) e2,d2⟩⟩
 | dK kvs=>obtain ⟨z,y,vs,r,ob,es,ep,e,c⟩:=x; exact ⟨z,y,vs,r,ob,es,ep,k _ _ (.inl rfl) e,c⟩
 | dT kvs=>
  obtain ⟨z,y,xs,r,ob,es,ep,e,c⟩:=x
  exact ⟨z,y,xs,Paired.mapP r fun p q z=>⟨z.1,ht _ _ z.2.1,z.2.2⟩,ob,es,ep,k _ _ (.inl rfl) e,c⟩
 | set S n=>obtain ⟨ob,es,ep,t,e,c⟩:=x; exact ⟨ob,es,ep,t,k _ _ (.inl rfl) e,c⟩
 | ins C dx fs=>
  obtain ⟨d,z,ne,e,mA,⟨od,es,ep,e2,c⟩,r⟩:=x
  exact ⟨ho _ d,z,ne,k _ _ (.inl rfl) e,mA,⟨od,es,ep,k _ _ (.inr d) e2,c⟩,r⟩
 | own y=>obtain ⟨ob,e⟩:=x; exact ⟨ob,k _ _ (.inl rfl) e⟩
 | xd fs=>obtain ⟨mA,⟨od,es,ep,e,c⟩,r⟩:=x; exact ⟨mA,⟨od,es,ep,k _ _ (.inl rfl) e,c⟩,r⟩
 | rng lo hi=>obtain ⟨t,u,v,e⟩:=x; exact ⟨t,u,v,k _ _ (.inl rfl) e⟩
 | frz ob u ih=>obtain ⟨e,q⟩:=x; exact ⟨k _ _ (.inl rfl) e,ih q⟩
 | tbl ps q=>
  obtain ⟨m,e,tr,al⟩:=x
  exact ⟨m,k a _ (.inl rfl) e,tr,fun p cv z=>let ⟨c,oc,vs,t,e1,e2,e3⟩:=al p cv z; ⟨c,oc,vs,t,e1,hf _ _ _ e2,e3⟩⟩
 | met f y=>
  have e:h.get? a=some (PySem.W.methodObj (.ref f) (.ref y)):=x
  show h'.get? a=some (PySem.W.methodObj (.ref f) (.ref y))
  exact k a _ (.inl rfl) e
 | ext φ=>obtain ⟨p,⟨o,e⟩,st⟩:=x; exact ⟨st _ _ p fun o q=>k _ _ (.inl rfl) q,⟨o,k _ _ (.inl rfl) e⟩,st⟩
theorem HOk.lt (x:HOk P w H h) (e:H a=some o):a < h.objs.size:=(x a o e).lt
theorem HOk.fresh (x:HOk P w H h) (e:h.objs.size<=a):H a=none:=by
 cases q:H a with
 | none=>rfl
 | some u=>exact absurd (Nat.lt_of_lt_of_le (x.lt q) e) (Nat.lt_irrefl _)
theorem HOk.kept (x:HOk P w H h) (k:∀ b u,h.get? b=some u->h'.get? b=some u):HOk P w H h' :=fun a o e=>
 (x a o e).stay (fun b u _ q=>k b u q) (fun _ q=>q) fun _ _ q=>q
theorem HOk.laid (x:HOk P w H h) (k:∀ b u,h.get? b=some u->h'.get? b=some u) (hp:h.objs.size<=a) (new:zD P w (upd H a o) h' a o):HOk P w (upd H a o) h' :=fun b u e=>by
 have hn:=x.fresh hp
 by_cases hb:b=a
 ·subst hb; rw [zg] at e; cases e; exact new
 ·rw [zf hb] at e
  exact (x b u e).stay (fun c v _ q=>k c v q) (fun c q=>by rw [zf (zk q hn)]; exact q) (fun c xs q=>by rw [zf (zk q hn)]; exact q) fun c o u q=>by rw [zf (zk q hn)]; exact q
end
def Rd (H:Hp) (a:Addr) (u:HO):Prop:=H a=some u\/∃ o,H a=some (.frz o u)
theorem Rd.ok {P:Program} {w:World} {H:Hp} {h:Heap} {a:Addr} {u:HO} (r:Rd H a u) (x:HOk P w H h):zD P w H h a u:=by
 rcases r with r | ⟨o,r⟩
 ·exact x a u r
 ·obtain ⟨_,q⟩:=x a _ r
  exact q
def Mut:Option HO->Prop
 | some (.lst _)=>True
 | some (.dK _)=>True
 | some (.dT _)=>True
 | some (.set _ _)=>True
 | some (.ins _ _ _)=>True
 | some (.ext _)=>True
 | _=>False
section
variable {P:Program} {w:World} {H:Hp} {h h' :Heap} {x e:Addr} {o' :HO}
theorem HOk.write (ok:HOk P w H h) (mu:Mut (H x)) (he:e=x\/H e=some (.own x)) (k:∀ b u,b ≠ e->h.get? b=some u->h'.get? b=some u) (heo:∃ u,h'.get? e=some u)
  (new:zD P w (upd H x o') h' x o'):HOk P w (upd H x o') h' :=fun b u q=>by
 have nown:∀ c y,H c=some (.own y)->c ≠ x:=fun c y r z=>by subst z; rw [r] at mu; exact mu
 have ntup:∀ c xs,H c=some (.tup xs)->c ≠ x:=fun c xs r z=>by subst z; rw [r] at mu; exact mu
 by_cases hb:b=x
 ·subst hb; rw [zg] at q; cases q; exact new
 ·rw [zf hb] at q
  by_cases hbe:b=e
  ·have q' :H b=some (.own x):=by
    rcases he with z | z
    ·exact absurd (hbe.trans z) hb
    ·rw [hbe]; exact z
   rw [q] at q'; cases q'
   obtain ⟨v,hv⟩:=heo
   exact ⟨v,by rw [hbe]; exact hv⟩
  ·refine (ok b u q).stay (fun c v hc r=>k c v ?_ r) (fun c r=>by rw [zf (nown c b r)]; exact r) (fun c xs r=>by rw [zf (ntup c xs r)]; exact r) fun c o u r=>by rw [zf (fun z=>by subst z; rw [r] at mu; exact mu)]; exact r
   rcases hc with rfl | hc
   ·exact hbe
   ·rintro rfl
    rcases he with z | z
    ·exact nown c b hc z
    ·rw [hc] at z; cases z; exact hb rfl
end
structure Un (fs ex:List Addr) (H H' :Hp) (h h' :Heap):Prop where
 keep:∀ b o,h.get? b=some o->H b=none->b ∉ fs->b ∉ ex->h'.get? b=some o
 slot:∀ b o,h.get? b=some o->H b=none->b∈fs->b ∉ ex->∃ sl,h'.get? b=some { o with slots:=sl }
 free:∀ b o,h.get? b=some o->H b=none->b ∉ ex->H' b=none
 there:∀ b o,h.get? b=some o->b ∉ ex->∃ o',h'.get? b=some o'
 tups:∀ b xs,H b=some (.tup xs)->H' b=some (.tup xs)
 frzs:∀ b o u,H b=some (.frz o u)->H' b=some (.frz o u)
 tbls:∀ b ps q,H b=some (.tbl ps q)->H' b=some (.tbl ps q)
section
variable {fs fs' ex ex' :List Addr} {H H1 H2:Hp} {h h1 h2 h' :Heap} {a x e:Addr} {o:HO}
theorem Un.any (u:Un fs ex H H1 h h1) {b:Addr} {ob:Obj} (q:h.get? b=some ob) (n:H b=none) (hx:b ∉ ex):∃ sl,h1.get? b=some { ob with slots:=sl }:=by
 by_cases hb:b∈fs
 ·exact u.slot b ob q n hb hx
 ·exact ⟨ob.slots,u.keep b ob q n hb hx⟩
theorem Un.kept (k:∀ b u,h.get? b=some u->h'.get? b=some u):Un fs ex H H h h' :=
 ⟨fun b ob q _ _ _=>k b ob q,fun b ob q _ _ _=>⟨ob.slots,k b ob q⟩,fun _ _ _ n _=>n,fun b ob q _=>⟨ob,k b ob q⟩,fun _ _ q=>q,fun _ _ _ q=>q,fun _ _ _ q=>q⟩
theorem Un.refl:Un fs ex H H h h:=Un.kept fun _ _ q=>q
theorem Un.laid (k:∀ b u,h.get? b=some u->h'.get? b=some u) (hp:h.objs.size<=a) (hn:H a=none):Un fs ex H (upd H a o) h h' where
 keep:=fun b u q _ _ _=>k b u q
 slot:=fun b u q _ _ _=>⟨u.slots,k b u q⟩
 free:=fun b u q n _=>by rw [zf (Nat.ne_of_lt (Nat.lt_of_lt_of_le (Heap.lt_size q) hp))]; exact n
 there:=fun b u q _=>⟨u,k b u q⟩
 tups:=fun b xs q=>by rw [zf (zk q hn)]; exact q
 frzs:=fun b u xs q=>by rw [zf (zk q hn)]; exact q
 tbls:=fun b ps q e=>by rw [zf (zk e hn)]; exact e
theorem Un.write (mu:Mut (H x)) (he:e=x\/H e=some (.own x)) (k:∀ b u,b ≠ e->h.get? b=some u->h'.get? b=some u) (heo:∃ u,h'.get? e=some u):Un fs ex H (upd H x o) h h' :=by
 have hx:∀ b,H b=none->b ≠ x:=fun b n z=>by subst z; rw [n] at mu; exact mu
 have hb:∀ b,H b=none->b ≠ e:=fun b n z=>by
  subst z
  rcases he with r | r
  ·exact hx b n r
  ·rw [n] at r; cases r
 have hm:∀ b u,H b=some u->¬ Mut (some u)->b ≠ x:=fun b u q nm z=>by subst z; rw [q] at mu; exact nm mu
 refine ⟨fun b u q n _ _=>k b u (hb b n) q,fun b u q n _ _=>⟨u.slots,k b u (hb b n) q⟩,fun b u q n _=>by rw [zf (hx b n)]; exact n,fun b u q _=> ?_,
  fun b xs q=>by rw [zf (hm b _ q fun z=>z)]; exact q,fun b u xs q=>by rw [zf (hm b _ q fun z=>z)]; exact q,fun b ps q e=>by rw [zf (hm b _ e fun z=>z)]; exact e⟩
 by_cases hbe:b=e
 ·subst hbe; exact heo
 ·exact ⟨u,k b u hbe q⟩
end
def trk (h:Heap) (H:Hp):List Addr:=(List.range h.objs.size).filter fun a=>(H a).isSome
def Wo (h:Heap) (H:Hp):Heap:=PySem.W.hideAll h (trk h H)
theorem wc (h:Heap) (H:Hp):(Wo h H).objs.size=h.objs.size:=PySem.W.hideAll_size _ _
theorem jd {h:Heap} {H:Hp} {b:Addr} {o:Obj} (e:h.get? b=some o) (n:H b=none):(Wo h H).get? b=some o:=
 PySem.W.hideAll_get _ e fun hm=>by
  have q:(H b).isSome=true:=(List.mem_filter.mp hm).2
  rw [n] at q; simp at q
theorem uC {h:Heap} {H:Hp} {b:Addr} {o:Obj} (e:(Wo h H).get? b=some o):h.get? b=some o/\H b=none:=by
 have e' :h.get? b=some o:=PySem.W.of_hideAll (trk h H) e
 refine ⟨e', ?_⟩
 cases q:H b with
 | none=>rfl
 | some x=>
  have hm:b∈trk h H:=List.mem_filter.mpr ⟨List.mem_range.mpr (Heap.lt_size e'),by simp [q]⟩
  have z:(Wo h H).get? b=none:=PySem.W.hideAll_none (trk h H) hm
  rw [z] at e; cases e
end L2
namespace L2
open PySem PySem.Spec PyProof.Rows
structure Mod (K:PySem.W.Frag) (mg:Str->Option Value) (base:Heap):Prop where
 kin:K.In base
 glob:base.Ns mainGlobals mg
 blt:∃ mb,base.Ns builtinsNs mb/\∀ x:Str,x ≠ "__name__"->mb x=bootBuiltins x
 nolimit:base.NoLimit
structure Cx where
 prog:Program
 w:World
 K:PySem.W.Frag
 mg:Str->Option Value
 base:Heap
 A:Around
 N:List Str
 s₀:Shared
 H₀:Hp
 env:Env
 outer:List Env
 stack:List Env
 ex:List Addr
 fn:Str->Bool
 calm:Bool
 pn:List (Addr×Obj)
 xe:Value->Shared->Prop
def frs (l:List Env):List Addr:=l.filterMap (·.frame)
abbrev Cx.fs (X:Cx):List Addr:=frs X.outer
def Vis (sc:Scope) (x:Str):Prop:=sc.names.lookup x=some .local\/sc.names.lookup x=some .cell\/sc.names.lookup x=some .free
def Loc (sc:Scope) (x:Str):Prop:=sc.names.lookup x=some .local\/sc.names.lookup x=some .cell
def vX (env:Env) (h:Heap) (m:Str->Option Value) (x:Str) (u:Value):Prop:=
 (env.kindOf x=some .local/\m x=some u)\/((env.kindOf x=some .cell\/env.kindOf x=some .free)/\∃ c,env.cells.lookup x=some c/\h.IsCell c (some u))
structure Cx.Ok (X:Cx):Prop where
 mod:Mod X.K X.mg X.base
 kind:X.env.scope.kind= .function
 glob:X.env.globals=mainGlobals
 blt:X.env.builtins=builtinsNs
 above:X.s₀.heap.objs.size<=X.env.locals
 inj:∀ x y c,X.env.cells.lookup x=some c->X.env.cells.lookup y=some c->x=y
 has:∀ x,(X.env.kindOf x=some .cell\/X.env.kindOf x=some .free)->∃ c,X.env.cells.lookup x=some c
 cab:∀ x c,X.fn x=true->X.env.cells.lookup x=some c->X.s₀.heap.objs.size<=c
 hd:X.calm=true->X.A.handled=none
 frames:X.A.frames=some X.stack
 stk:X.stack=X.outer\/(X.stack=X.env :: X.outer/\X.env.frame=some X.env.locals)
 exf:∀ b∈X.ex,b ≠ X.env.locals/\∀ x c,X.env.cells.lookup x=some c->c ≠ b
 bs:∀ b o,X.base.get? b=some o->X.s₀.heap.get? b=some o/\X.H₀ b=none
 bsz:X.base.objs.size<=X.s₀.heap.objs.size
 noex:∀ b o,X.base.get? b=some o->b ∉ X.ex
 exfs:∀ b∈X.ex,b ∉ X.fs
 funs:X.s₀.heap.FunFrames X.base X.outer
 frf:∀ b∈X.fs,X.H₀ b=none
structure Inv (X:Cx) (pins:List (Addr×Obj)) (σ:List (Option V)) (H:Hp) (s:Shared):Prop where
 ok:X.Ok
 os:s.os=X.s₀.os
 bare:AllBare s.gens
 base:Un X.fs X.ex X.H₀ H X.s₀.heap s.heap
 loc:∃ m,s.heap.Ns X.env.locals m/\∀ (i:Nat) (x:Str) (v:V),X.N[i]? =some x->σ[i]? =some (some v)->Vis X.env.scope x->∃ u,zF v u/\vX X.env s.heap m x u
 cell:∀ x c,X.env.cells.lookup x=some c->∃ v,s.heap.IsCell c v
 free:H X.env.locals=none
 freeC:∀ x c,X.env.cells.lookup x=some c->H c=none
 pin:∀ p∈X.pn++pins,s.heap.get? p.1=some p.2/\H p.1=none/\p.1 ≠ X.env.locals/\p.1 ∉ X.fs/\∀ v,p.2.data ≠ .cell v
 hok:HOk X.prog X.w H s.heap
 len:σ.length=X.N.length
section
variable {X:Cx} {pins:List (Addr×Obj)} {σ:List (Option V)} {H H' :Hp} {s:Shared} {h' :Heap}
theorem Cx.Ok.nofr (ok:X.Ok) {b:Addr} {o:Obj} (e:X.base.get? b=some o):b ∉ X.fs:=fun hb=>by
 have:=(ok.funs.mem hb).1
 rw [e] at this; cases this
theorem Inv.bs (I:Inv X pins σ H s):∀ b o,X.base.get? b=some o->s.heap.get? b=some o/\H b=none:=fun b o e=>
 ⟨I.base.keep b o (I.ok.bs b o e).1 (I.ok.bs b o e).2 (I.ok.nofr e) (I.ok.noex b o e),I.base.free b o (I.ok.bs b o e).1 (I.ok.bs b o e).2 (I.ok.noex b o e)⟩
theorem Inv.bk (I:Inv X pins σ H s):∀ b o,X.base.get? b=some o->s.heap.get? b=some o:=fun b o e=>(I.bs b o e).1
theorem Inv.mod (I:Inv X pins σ H s):Mod X.K X.mg X.base:=I.ok.mod
theorem Inv.kIn (I:Inv X pins σ H s):X.K.In s.heap:=I.ok.mod.kin.keeps I.bk
theorem Inv.lt (I:Inv X pins σ H s):X.env.locals < s.heap.objs.size:=let ⟨_,hn,_⟩:=I.loc; hn.lt
theorem Inv.sz (I:Inv X pins σ H s):X.s₀.heap.objs.size<=s.heap.objs.size:=Nat.le_trans I.ok.above (Nat.le_of_lt I.lt)
theorem Inv.nofs (I:Inv X pins σ H s) {a:Addr} (h:s.heap.objs.size<=a):a ∉ X.fs:=fun hb=>by
 obtain ⟨_,o,ho,_⟩:=I.ok.funs.mem hb
 exact absurd (Nat.lt_of_lt_of_le (Heap.lt_size ho) (Nat.le_trans I.sz h)) (Nat.lt_irrefl _)
theorem Inv.cne (I:Inv X pins σ H s):∀ x c,X.env.cells.lookup x=some c->c ≠ X.env.locals:=fun x c e z=>by
 obtain ⟨v,o,ho,hd⟩:=I.cell x c e
 obtain ⟨m,⟨o',es,ep,ho',hd',_⟩,_⟩:=I.loc
 rw [z,ho'] at ho; cases ho; rw [hd'] at hd; cases hd
theorem Inv.funs (I:Inv X pins σ H s):s.heap.FunFrames X.base X.outer:=by
 have all:∀ (l:List Env),(∀ b∈frs l,b∈X.fs)->X.s₀.heap.FunFrames X.base l->s.heap.FunFrames X.base l:=by
  intro l
  induction l with
  | nil=>intro _ _; trivial
  | cons env r ih=>
   intro hs hl
   obtain ⟨hk,⟨L,o,hf,hn,ho,hd⟩,hr⟩:=hl
   have hL:L∈X.fs:=hs L (by unfold frs; rw [List.filterMap_cons,hf]; exact List.mem_cons_self)
   obtain ⟨sl,e⟩:=I.base.slot L o ho (I.ok.frf L hL) hL fun z=>I.ok.exfs L z hL
   exact ⟨hk,⟨L,_,hf,hn,e,hd⟩,ih (fun b hb=>hs b (by unfold frs; rw [List.filterMap_cons,hf]; exact List.mem_cons_of_mem _ hb)) hr⟩
 exact all X.outer (fun _ hb=>hb) I.ok.funs
theorem Inv.stack (I:Inv X pins σ H s):s.heap.FunFrames X.base X.stack:=by
 rcases I.ok.stk with e | ⟨e,hf⟩
 ·rw [e]; exact I.funs
 ·rw [e]
  obtain ⟨m,hn,_⟩:=I.loc
  refine .cons (by rw [I.ok.kind]; decide) hf hn ?_ I.funs
  exact Heap.get?_none_of_le (Nat.le_trans I.ok.bsz I.ok.above)
theorem Inv.stkSub (I:Inv X pins σ H s):∀ b∈frs X.stack,b∈X.env.locals :: X.fs:=fun b hb=>by
 rcases I.ok.stk with e | ⟨e,hf⟩
 ·rw [e] at hb; exact List.mem_cons_of_mem _ hb
 ·rw [e] at hb
  unfold frs at hb
  rw [List.filterMap_cons,hf] at hb
  exact hb
theorem Inv.stkFree (I:Inv X pins σ H s):∀ b∈frs X.stack,H b=none:=fun b hb=>by
 rcases List.mem_cons.mp (I.stkSub b hb) with e | hb
 ·rw [e]; exact I.free
 ·obtain ⟨_,o,ho,_⟩:=I.ok.funs.mem hb
  exact I.base.free b o ho (I.ok.frf b hb) fun z=>I.ok.exfs b z hb
theorem Inv.step {g' :Array GenState} {t' :Nat} {d' :Drawn} {ch:List Addr} (I:Inv X pins σ H s)
  (hch:∀ b∈ch,(b∈X.ex\/X.s₀.heap.objs.size<=b)/\b ≠ X.env.locals/\(∀ x c,X.env.cells.lookup x=some c->c ≠ b)/\∀ p∈X.pn++pins,p.1 ≠ b)
  (keep:∀ b o,b ≠ X.env.locals->b ∉ X.fs->b ∉ ch->s.heap.get? b=some o->H b=none->h'.get? b=some o)
  (slot:∀ b o,b ≠ X.env.locals->b∈X.fs->b ∉ ch->s.heap.get? b=some o->H b=none->∃ sl,h'.get? b=some { o with slots:=sl }) (free:∀ b o,b ∉ ch->s.heap.get? b=some o->H b=none->H' b=none)
  (there:∀ b o,b ∉ ch->s.heap.get? b=some o->∃ o',h'.get? b=some o')
  (tups:∀ b xs,H b=some (.tup xs)->H' b=some (.tup xs)) (frzs:∀ b o u,H b=some (.frz o u)->H' b=some (.frz o u)) (tbls:∀ b ps q,H b=some (.tbl ps q)->H' b=some (.tbl ps q))
  (ns:∀ m,s.heap.Ns X.env.locals m->h'.Ns X.env.locals m) (hok:HOk X.prog X.w H' h') (hg:AllBare g'):
  Inv X pins σ H' { s with heap:=h',gens:=g',drawn:=d',toks:=t' }:=by
 have neL:∀ b o,X.s₀.heap.get? b=some o->b ≠ X.env.locals:=fun b o e=>Nat.ne_of_lt (Nat.lt_of_lt_of_le (Heap.lt_size e) I.ok.above)
 have neC:∀ b o,X.s₀.heap.get? b=some o->b ∉ X.ex->b ∉ ch:=fun b o e hx hb=>by
  rcases (hch b hb).1 with z | z
  ·exact hx z
  ·exact absurd (Nat.lt_of_lt_of_le (Heap.lt_size e) z) (Nat.lt_irrefl _)
 have cellK:∀ x c,X.env.cells.lookup x=some c->∀ v,s.heap.IsCell c v->h'.IsCell c v:=fun x c e v ⟨o,ho,hd⟩=>by
  have nch:c ∉ ch:=fun z=>(hch c z).2.2.1 x c e rfl
  by_cases hc:c∈X.fs
  ·obtain ⟨sl,q⟩:=slot c o (I.cne x c e) hc nch ho (I.freeC x c e)
   exact ⟨_,q,hd⟩
  ·exact ⟨o,keep c o (I.cne x c e) hc nch ho (I.freeC x c e),hd⟩
 refine ⟨I.ok,I.os,hg,⟨fun b o e n hb hx=> ?_,fun b o e n hb hx=> ?_,fun b o e n hx=> ?_,fun b o e hx=> ?_,fun b xs e=>tups b xs (I.base.tups b xs e),fun b o xs e=>frzs b o xs (I.base.frzs b o xs e),fun b ps q e=>tbls b ps q (I.base.tbls b ps q e)⟩, ?_,fun x c e=> ?_, ?_,fun x c e=> ?_,fun p hp=> ?_,hok,I.len⟩
 ·exact keep b o (neL b o e) hb (neC b o e hx) (I.base.keep b o e n hb hx) (I.base.free b o e n hx)
 ·obtain ⟨sl,e1⟩:=I.base.slot b o e n hb hx
  obtain ⟨sl',e2⟩:=slot b _ (neL b o e) hb (neC b o e hx) e1 (I.base.free b o e n hx)
  exact ⟨sl',e2⟩
 ·obtain ⟨o',e1⟩:=I.base.there b o e hx
  exact free b o' (neC b o e hx) e1 (I.base.free b o e n hx)
 ·obtain ⟨o',e1⟩:=I.base.there b o e hx
  exact there b o' (neC b o e hx) e1
 ·obtain ⟨m,hn,hl⟩:=I.loc
  refine ⟨m,ns m hn,fun i x v e1 e2 e3=> ?_⟩
  obtain ⟨u,r,l⟩:=hl i x v e1 e2 e3
  refine ⟨u,r, ?_⟩
  rcases l with l | ⟨k,c,e,z⟩
  ·exact .inl l
  ·exact .inr ⟨k,c,e,cellK x c e _ z⟩
 ·obtain ⟨v,z⟩:=I.cell x c e
  exact ⟨v,cellK x c e v z⟩
 ·obtain ⟨m,⟨o,_,_,ho,_⟩,_⟩:=I.loc
  exact free _ o (fun z=>(hch _ z).2.1 rfl) ho I.free
 ·obtain ⟨v,o,ho,hd⟩:=I.cell x c e
  exact free c o (fun z=>(hch c z).2.2.1 x c e rfl) ho (I.freeC x c e)
 ·obtain ⟨e,n,ne,nf,d⟩:=I.pin p hp
  have nch:p.1 ∉ ch:=fun z=>(hch p.1 z).2.2.2 p hp rfl
  exact ⟨keep p.1 p.2 ne nf nch e n,free p.1 p.2 nch e n,ne,nf,d⟩
theorem Inv.un {t' :Nat} (I:Inv X pins σ H s) (u:Un X.fs [] H H' s.heap h') (hok:HOk X.prog X.w H' h'):Inv X pins σ H' { s with heap:=h',toks:=t' }:=by
 obtain ⟨m,⟨o,es,ep,ho,r⟩,_⟩:=id I.loc
 obtain ⟨sl,hL⟩:=u.any ho I.free (by simp)
 exact I.step (g' :=s.gens) (d' :=s.drawn) (ch:=[]) (fun _ z=>nomatch z) (fun b o _ hb _ e n=>u.keep b o e n hb (by simp)) (fun b o _ hb _ e n=>u.slot b o e n hb (by simp)) (fun b o _ e n=>u.free b o e n (by simp)) (fun b o _ e=>u.there b o e (by simp)) u.tups u.frzs u.tbls (fun m' hm=>by
  obtain ⟨o',es',ep',ho',r'⟩:=hm
  rw [ho] at ho'; cases ho'
  exact ⟨_,es',ep',hL,r'⟩) hok I.bare
theorem Inv.call {g' :Array GenState} {t' :Nat} {d' :Drawn} {ch:List Addr} (I:Inv X pins σ H s) (u:Un (frs X.stack) ch H H' s.heap h') (hok:HOk X.prog X.w H' h') (hg:AllBare g')
  (hch:∀ b∈ch,(b∈X.ex\/X.s₀.heap.objs.size<=b)/\b ≠ X.env.locals/\(∀ x c,X.env.cells.lookup x=some c->c ≠ b)/\∀ p∈X.pn++pins,p.1 ≠ b):
  Inv X pins σ H' { s with heap:=h',gens:=g',drawn:=d',toks:=t' }:=by
 obtain ⟨m,⟨o,es,ep,ho,r⟩,_⟩:=id I.loc
 obtain ⟨sl,hL⟩:=u.any ho I.free fun z=>(hch _ z).2.1 rfl
 exact I.step (ch:=ch) hch (fun b o hL hb hc e n=>u.keep b o e n (fun z=>(List.mem_cons.mp (I.stkSub b z)).elim hL hb) hc) (fun b o _ _ hc e n=>u.any e n hc) (fun b o hc e n=>u.free b o e n hc) (fun b o hc e=>u.there b o e hc) u.tups u.frzs u.tbls (fun m' hm=>by
  obtain ⟨o',es',ep',ho',r'⟩:=hm
  rw [ho] at ho'; cases ho'
  exact ⟨_,es',ep',hL,r'⟩) hok hg
theorem Inv.turned {t' :Nat} {it:Addr} (I:Inv X pins σ H s) (k:∀ b o,b ≠ it->s.heap.get? b=some o->h'.get? b=some o) (hn:H it=none) (hL:it ≠ X.env.locals)
  (h1:it∈X.ex\/X.s₀.heap.objs.size<=it) (h2:∀ x c,X.env.cells.lookup x=some c->c ≠ it) (h3:∀ p∈X.pn++pins,p.1 ≠ it):Inv X pins σ H { s with heap:=h',toks:=t' }:=by
 have nit:∀ b u,H b=some u->b ≠ it:=fun b u e z=>by rw [z,hn] at e; cases e
 refine I.step (g' :=s.gens) (d' :=s.drawn) (ch:=[it]) (fun b hb=> ?_) (fun b o _ _ hc e _=>k b o (fun z=>hc (by simp [z])) e) (fun b o _ _ hc e _=>⟨o.slots,k b o (fun z=>hc (by simp [z])) e⟩) (fun _ _ _ _ n=>n)
  (fun b o hc e=>⟨o,k b o (fun z=>hc (by simp [z])) e⟩) (fun _ _ e=>e) (fun _ _ _ e=>e) (fun _ _ _ e=>e) (fun m hm=> ?_) (fun b u e=> ?_) I.bare
 ·have e:b=it:=by simpa using hb
  subst e
  exact ⟨h1,hL,h2,h3⟩
 ·obtain ⟨o,es,ep,ho,r⟩:=hm
  exact ⟨o,es,ep,k _ o (Ne.symm hL) ho,r⟩
 ·refine (I.hok b u e).stay (fun c v hc q=>k c v ?_ q) (fun _ q=>q) fun _ _ q=>q
  rcases hc with z | z
  ·rw [z]; exact nit b u e
  ·exact nit c _ z
theorem Inv.tok (I:Inv X pins σ H s) (t:Nat):Inv X pins σ H { s with toks:=t }:=I.un (h' :=s.heap) (t' :=t) Un.refl I.hok
theorem Inv.kept {t' :Nat} (I:Inv X pins σ H s) (k:∀ b u,s.heap.get? b=some u->h'.get? b=some u):Inv X pins σ H { s with heap:=h',toks:=t' }:=I.un (Un.kept k) (I.hok.kept k)
theorem Inv.laid {a:Addr} {o:HO} {t' :Nat} (I:Inv X pins σ H s) (k:∀ b u,s.heap.get? b=some u->h'.get? b=some u) (hp:s.heap.objs.size<=a) (new:zD X.prog X.w (upd H a o) h' a o):
  Inv X pins σ (upd H a o) { s with heap:=h',toks:=t' }:=I.un (Un.laid k hp (I.hok.fresh hp)) (I.hok.laid k hp new)
theorem Inv.write {x e:Addr} {o:HO} {t' :Nat} (I:Inv X pins σ H s) (mu:Mut (H x)) (he:e=x\/H e=some (.own x)) (k:∀ b u,b ≠ e->s.heap.get? b=some u->h'.get? b=some u) (heo:∃ u,h'.get? e=some u)
  (new:zD X.prog X.w (upd H x o) h' x o):Inv X pins σ (upd H x o) { s with heap:=h',toks:=t' }:=I.un (Un.write mu he k heo) (I.hok.write mu he k heo new)
theorem Inv.pins_of {pins' :List (Addr×Obj)} (I:Inv X pins σ H s) (h:∀ p∈pins',s.heap.get? p.1=some p.2/\H p.1=none/\p.1 ≠ X.env.locals/\p.1 ∉ X.fs/\∀ v,p.2.data ≠ .cell v):Inv X pins' σ H s:=
 ⟨I.ok,I.os,I.bare,I.base,I.loc,I.cell,I.free,I.freeC,fun p hp=>(List.mem_append.mp hp).elim (fun z=>I.pin p (List.mem_append_left _ z)) (h p),I.hok,I.len⟩
theorem je {N:List Str} (hN:N.Nodup) {i j:Nat} {x:Str} (a:N[i]? =some x) (b:N[j]? =some x):i=j:=by
 obtain ⟨h1,e1⟩:=List.getElem?_eq_some_iff.mp a
 obtain ⟨h2,e2⟩:=List.getElem?_eq_some_iff.mp b
 exact (List.getElem_inj hN).mp (e1.trans e2.symm)
theorem jw {M:Model} {A:Around} {E:Value->Shared->Prop} {i:Nat} {x:Str} {v:V} {u:Value} {Q:Unit->Shared->Prop} (I:Inv X pins σ H s) (hN:X.N.Nodup) (hi:X.N[i]? =some x) (hx:Loc X.env.scope x) (r:zF v u)
  (h:∀ s',Inv X pins (σ.set i (some v)) H s' ->(∃ a,Heap.SameBut a s.heap s'.heap/\(a=X.env.locals\/X.env.cells.lookup x=some a))->Q () s') (hf:X.fn x=true\/X.env.scope.names.lookup x=some .local:=by first | exact .inl rfl | exact .inr rfl | assumption):wpAny M A (storeName X.env x u) Q E s:=by
 obtain ⟨m,hn,hl⟩:=id I.loc
 have hcls:(X.env.scope.kind == .class || (X.env.scope.kind == .module && X.env.locals != X.env.globals))=false:=by rw [I.ok.kind]; rfl
 have hiσ:i < σ.length:=by rw [I.len]; exact (List.getElem?_eq_some_iff.mp hi).1
 have cne:=I.cne
 have tracked:∀ {a:Addr} {h' :Heap},(∃ o,s.heap.get? a=some o/\H a=none)->Heap.SameBut a s.heap h' ->HOk X.prog X.w H h' :=fun {a h'} ha hs b ob e=>by
  obtain ⟨_,_,hfree⟩:=ha
  refine (I.hok b ob e).stay (fun c w' hc q=>(hs.2 c ?_).trans q) (fun _ q=>q) fun _ _ q=>q
  rintro rfl
  rcases hc with rfl | hc
  ·rw [hfree] at e; cases e
  ·rw [hfree] at hc; cases hc
 rcases hx with hk | hk
 ·refine wpAny_storeName_local hk hn (fun h' hn' hs=> ?_) hcls
  obtain ⟨oL,_,_,hoL,_⟩:=id hn
  refine h _ ⟨I.ok,I.os,I.bare,⟨fun b o e n hb hx=> ?_,fun b o e n hb hx=> ?_,I.base.free,fun b o e hx=> ?_,I.base.tups,I.base.frzs,I.base.tbls⟩,⟨_,hn',fun j y v' e1 e2 e3=> ?_⟩,fun y c e=> ?_,I.free,I.freeC,fun p hp=> ?_,tracked ⟨oL,hoL,I.free⟩ hs,by simpa using I.len⟩ ⟨_,hs, .inl rfl⟩
  ·exact (hs.2 b (Nat.ne_of_lt (Nat.lt_of_lt_of_le (Heap.lt_size e) I.ok.above))).trans (I.base.keep b o e n hb hx)
  ·obtain ⟨sl,e1⟩:=I.base.slot b o e n hb hx
   exact ⟨sl,(hs.2 b (Nat.ne_of_lt (Nat.lt_of_lt_of_le (Heap.lt_size e) I.ok.above))).trans e1⟩
  ·obtain ⟨o',e1⟩:=I.base.there b o e hx
   exact ⟨o',(hs.2 b (Nat.ne_of_lt (Nat.lt_of_lt_of_le (Heap.lt_size e) I.ok.above))).trans e1⟩
  ·by_cases hj:j=i
   ·subst hj
    rw [hi] at e1; cases e1
    rw [List.getElem?_set_self hiσ] at e2
    cases e2
    exact ⟨u,r, .inl ⟨hk,by simp⟩⟩
   ·rw [List.getElem?_set_ne (Ne.symm hj)] at e2
    obtain ⟨u',r',q⟩:=hl j y v' e1 e2 e3
    refine ⟨u',r', ?_⟩
    rcases q with ⟨k,e⟩ | ⟨k,c,e,z⟩
    ·refine .inl ⟨k, ?_⟩
     have:y ≠ x:=fun e=>hj (je hN e1 (e ▸ hi))
     simp [this,e]
    ·exact .inr ⟨k,c,e,z.sameBut hs (cne y c e)⟩
  ·obtain ⟨w',z⟩:=I.cell y c e
   exact ⟨w',z.sameBut hs (cne y c e)⟩
  ·obtain ⟨e,n,ne,nf,d⟩:=I.pin p hp
   exact ⟨(hs.2 p.1 ne).trans e,n,ne,nf,d⟩
 ·have hfn:X.fn x=true:=by
   rcases hf with z | z
   ·exact z
   ·rw [z] at hk; cases hk
  obtain ⟨c,hc⟩:=I.ok.has x (.inl hk)
  obtain ⟨w',z⟩:=I.cell x c hc
  refine wpAny_storeName_cell I.ok.kind hk hc z (fun h' hc' hs=> ?_)
  obtain ⟨oc,hoc,hocd⟩:=id z
  refine h { s with heap:=h' } ⟨I.ok,I.os,I.bare,⟨fun b o e n hb hx=> ?_,fun b o e n hb hx=> ?_,I.base.free,fun b o e hx=> ?_,I.base.tups,I.base.frzs,I.base.tbls⟩,⟨m,hn.sameBut hs (Ne.symm (cne x c hc)),fun j y v' e1 e2 e3=> ?_⟩,fun y c' e=> ?_,I.free,I.freeC,fun p hp=> ?_,tracked ⟨oc,hoc,I.freeC x c hc⟩ hs,by simpa using I.len⟩ ⟨c,hs, .inr hc⟩
  ·exact (hs.2 b (Nat.ne_of_lt (Nat.lt_of_lt_of_le (Heap.lt_size e) (I.ok.cab x c hfn hc)))).trans (I.base.keep b o e n hb hx)
  ·obtain ⟨sl,e1⟩:=I.base.slot b o e n hb hx
   exact ⟨sl,(hs.2 b (Nat.ne_of_lt (Nat.lt_of_lt_of_le (Heap.lt_size e) (I.ok.cab x c hfn hc)))).trans e1⟩
  ·obtain ⟨o',e1⟩:=I.base.there b o e hx
   exact ⟨o',(hs.2 b (Nat.ne_of_lt (Nat.lt_of_lt_of_le (Heap.lt_size e) (I.ok.cab x c hfn hc)))).trans e1⟩
  ·by_cases hj:j=i
   ·subst hj
    rw [hi] at e1; cases e1
    rw [List.getElem?_set_self hiσ] at e2
    cases e2
    exact ⟨u,r, .inr ⟨.inl hk,c,hc,hc'⟩⟩
   ·rw [List.getElem?_set_ne (Ne.symm hj)] at e2
    obtain ⟨u',r',q⟩:=hl j y v' e1 e2 e3
    refine ⟨u',r', ?_⟩
    rcases q with q | ⟨k,c',e,z'⟩
    ·exact .inl q
    ·refine .inr ⟨k,c',e,z'.sameBut hs ?_⟩
     rintro rfl
     exact hj (je hN e1 (I.ok.inj _ _ _ e hc ▸ hi))
  ·by_cases hcc:c' =c
   ·subst hcc; exact ⟨_,hc'⟩
   ·obtain ⟨w2,z2⟩:=I.cell y c' e
    exact ⟨w2,z2.sameBut hs hcc⟩
  ·obtain ⟨e,n,ne,nf,d⟩:=I.pin p hp
   refine ⟨(hs.2 p.1 ?_).trans e,n,ne,nf,d⟩
   intro q
   rw [q,hoc] at e
   have q' :oc=p.2:=Option.some.inj e
   exact d w' (by rw [← q']; exact hocd)
theorem jf {M:Model} {A:Around} {E:Value->Shared->Prop} {i:Nat} {x:Str} {v:V} {u:Value} {Q:Unit->Shared->Prop} (I:Inv X pins σ H s) (hN:X.N.Nodup) (hi:X.N[i]? =some x) (hx:Loc X.env.scope x) (r:zF v u)
  (h:∀ s',Inv X pins (σ.set i (some v)) H s' ->Q () s') (hf:X.fn x=true\/X.env.scope.names.lookup x=some .local:=by first | exact .inl rfl | exact .inr rfl | assumption):wpAny M A (storeName X.env x u) Q E s:=
 jw I hN hi hx r (fun s' I' _=>h s' I') hf
theorem Inv.call' {s' :Shared} {ch:List Addr} (I:Inv X pins σ H s) (ho:s'.os=s.os) (u:Un (frs X.stack) ch H H' s.heap s'.heap) (hok:HOk X.prog X.w H' s'.heap) (hg:AllBare s'.gens)
  (hch:∀ b∈ch,(b∈X.ex\/X.s₀.heap.objs.size<=b)/\b ≠ X.env.locals/\(∀ x c,X.env.cells.lookup x=some c->c ≠ b)/\∀ p∈X.pn++pins,p.1 ≠ b):Inv X pins σ H' s' :=by
 obtain ⟨h',g',d',t',o'⟩:=s'
 have e:o' =s.os:=ho
 subst e
 exact I.call (g' :=g') (t' :=t') (d' :=d') u hok hg hch
end
abbrev XK:=Value->Option Addr->Hp->Prop
abbrev St:=List (Option V)
abbrev VK:=V->Hp->Prop
abbrev TE:=St->Hp->VK->Prop
abbrev TT:=St->Hp->(Bool->Hp->Prop)->Prop
abbrev TA:=St->Hp->(List V->Hp->Prop)->Prop
structure Wp where
 nx:St->Hp->Prop
 rt:VK
 bk:St->Hp->Prop:=fun _ _=>False
 ct:St->Hp->Prop:=fun _ _=>False
abbrev TS:=Wp->St->Hp->Prop
def EP (X:Cx) (pins:List (Addr×Obj)) (σ:St) (Q:VK) (u:Value) (s' :Shared):Prop:=∃ v H',Inv X pins σ H' s' /\zF v u/\Q v H'
def TP (X:Cx) (pins:List (Addr×Obj)) (σ:St) (Q:Bool->Hp->Prop) (b:Bool) (s' :Shared):Prop:=∃ H',Inv X pins σ H' s' /\Q b H'
def AP (X:Cx) (pins:List (Addr×Obj)) (σ:St) (Q:List V->Hp->Prop) (us:List Value) (s' :Shared):Prop:=∃ vs H',Inv X pins σ H' s' /\zz vs us/\Q vs H'
def SP (X:Cx) (pins:List (Addr×Obj)) (D:Wp) (f:Flow) (s' :Shared):Prop:=
 match f with
 | .next=>∃ σ' H',Inv X pins σ' H' s' /\D.nx σ' H'
 | .brk=>∃ σ' H',Inv X pins σ' H' s' /\D.bk σ' H'
 | .cont=>∃ σ' H',Inv X pins σ' H' s' /\D.ct σ' H'
 | .ret u=>∃ v σ' H',Inv X pins σ' H' s' /\zF v u/\D.rt v H'
def PE (X:Cx) (e:Expr) (t:TE):Prop:=
 ∀ (pins:List (Addr×Obj)) (s:Shared) (σ:St) (H:Hp) (Q:VK),Inv X pins σ H s->t σ H Q->wpAny (model X.prog X.w) X.A (eval e X.env) (EP X pins σ Q) X.xe s
def PT (X:Cx) (e:Expr) (t:TT):Prop:=
 ∀ (pins:List (Addr×Obj)) (s:Shared) (σ:St) (H:Hp) (Q:Bool->Hp->Prop),Inv X pins σ H s->t σ H Q->wpAny (model X.prog X.w) X.A (isTrue e X.env (eval e X.env)) (TP X pins σ Q) X.xe s
def PW (X:Cx) (e:Expr) (t:TT):Prop:=
 ∀ (whole:Sem Value) (pins:List (Addr×Obj)) (s:Shared) (σ:St) (H:Hp) (Q:Bool->Hp->Prop),Inv X pins σ H s->t σ H Q->wpAny (model X.prog X.w) X.A (isTrue e X.env whole) (TP X pins σ Q) X.xe s
theorem PW.pt {X:Cx} {e:Expr} {t:TT} (h:PW X e t):PT X e t:=h _
def PA (X:Cx) (es:List Expr) (t:TA):Prop:=
 ∀ (pos:Pos) (pins:List (Addr×Obj)) (s:Shared) (σ:St) (H:Hp) (Q:List V->Hp->Prop),Inv X pins σ H s->t σ H Q->wpAny (model X.prog X.w) X.A (spliced (backTo pos (starEach es X.env))) (AP X pins σ Q) X.xe s
def PS (X:Cx) (st:Stmt) (t:TS):Prop:=
 ∀ (pins:List (Addr×Obj)) (s:Shared) (σ:St) (H:Hp) (D:Wp),Inv X pins σ H s->t D σ H->wpAny (model X.prog X.w) X.A (exec st X.env) (SP X pins D) X.xe s
def PSs (X:Cx) (st:List Stmt) (t:TS):Prop:=
 ∀ (pins:List (Addr×Obj)) (s:Shared) (σ:St) (H:Hp) (D:Wp),Inv X pins σ H s->t D σ H->wpAny (model X.prog X.w) X.A (execs st X.env) (SP X pins D) X.xe s
theorem thn {α:Type} {t:Sem α} {Q Q' :α->Shared->Prop} {M:Model} {A:Around} {E:Value->Shared->Prop} {s:Shared} (h:wpAny M A t Q E s) (hQ:∀ a s,Q a s->Q' a s):wpAny M A t Q' E s:=wpAny_mono h hQ fun _ _ x=>x
end L2
namespace L2
open PySem PySem.Spec PyProof.Rows
section
variable {X:Cx}
theorem bin {a b:Expr} {ta tb:TE} (ha:PE X a ta) (hb:PE X b tb) {pins:List (Addr×Obj)} {s:Shared} {σ:St} {H:Hp} {R:V->V->Hp->Prop} (I:Inv X pins σ H s) (h:ta σ H fun x H1=>tb σ H1 fun y H2=>R x y H2)
  {α:Type} {Q:α->Shared->Prop} {f:Value->Value->Sem α}
  (hf:∀ v u s2 x y H2,Inv X pins σ H2 s2->zF x v->zF y u->R x y H2->wpAny (model X.prog X.w) X.A (f v u) Q X.xe s2):
  wpAny (model X.prog X.w) X.A (eval a X.env) (fun v s₁=>wpAny (model X.prog X.w) X.A (eval b X.env) (fun u s₂=>wpAny (model X.prog X.w) X.A (f v u) Q X.xe s₂) X.xe s₁) X.xe s:=by
 refine thn (ha pins s σ H _ I h) fun v s1 ⟨x,H1,I1,r1,q1⟩=> ?_
 refine thn (hb pins s1 σ H1 _ I1 q1) fun u s2 ⟨y,H2,I2,r2,q2⟩=> ?_
 exact hf v u s2 x y H2 I2 r1 r2 q2
def Wj (i:Nat):TE:=fun σ H Q=>∃ v,σ[i]? =some (some v)/\Q v H
def tC (v:V):TE:=fun _ H Q=>Q v H
theorem j5 {i:Nat} {x:Str} {pos:Pos} (hN:X.N[i]? =some x) (hv:Vis X.env.scope x) (hd:(x == ("__debug__":Str))=false:=by decide) (hcd:(x == ("__classdict__":Str))=false:=by decide):PE X (.Name x pos) (Wj i):=by
 intro pins s σ H Q I h
 obtain ⟨v,e,h⟩:=h
 obtain ⟨m,hn,hl⟩:=I.loc
 obtain ⟨u,r,l⟩:=hl i x v hN e hv
 have fin:EP X pins σ Q u s:=⟨v,H,I,r,h⟩
 rcases l with ⟨hk,hm⟩ | ⟨hk,c,hc,hcell⟩
 ·exact wpAny_Name (wpAny_loadName_local I.ok.kind hk hn hm fin) hd
 ·rcases hk with hk | hk
  ·exact wpAny_Name (wpAny_loadName_cell I.ok.kind hk hc hcell fin) hd
  ·exact wpAny_Name (wpAny_loadName_free I.ok.kind hk hc hcell fin hcd) hd
theorem y7 {i j pos}:PE X (.Constant (.int i) j pos) (tC (.int i)):=fun _ _ _ H _ I h=>wpAny_Constant_int ⟨.int i,H,I.tok _,⟨_,rfl⟩,h⟩
theorem qd {b j pos}:PE X (.Constant (.bool b) j pos) (tC (.bl b)):=fun _ _ _ H _ I h=>Constant_bool ⟨.bl b,H,I,rfl,h⟩
theorem y8 {j pos}:PE X (.Constant .none j pos) (tC .non):=fun _ _ _ H _ I h=>Constant_none ⟨.non,H,I,rfl,h⟩
theorem y9 {x j pos}:PE X (.Constant (.str x) j pos) (tC (.str x)):=fun _ _ _ H _ I h=>Calls.Constant_str ⟨.str x,H,I.tok _,⟨_,rfl⟩,h⟩
def Gl (X:Cx) (x:Str):Prop:=X.env.kindOf x=some .globalImplicit
theorem Zh {E:Value->Shared->Prop} {pins:List (Addr×Obj)} {s:Shared} {σ:St} {H:Hp} {x:Str} {u:Value} {pos:Pos} {Q:Value->Shared->Prop} (I:Inv X pins σ H s) (hg:Gl X x) (hm:X.mg x=some u) (h:Q u s)
  (hd:(x == ("__debug__":Str))=false:=by decide):wpAny (model X.prog X.w) X.A (eval (.Name x pos) X.env) Q E s:=
 Calls.Name_function_global I.ok.kind hg (Calls.loadGlobal_global (by rw [I.ok.glob]; exact I.mod.glob.keeps I.bk) hm h) hd
theorem Zo {E:Value->Shared->Prop} {pins:List (Addr×Obj)} {s:Shared} {σ:St} {H:Hp} {x:Str} {u:Value} {pos:Pos} {Q:Value->Shared->Prop} (I:Inv X pins σ H s) (hg:Gl X x) (hm:X.mg x=none) (hv:bootBuiltins x=some u) (h:Q u s)
  (hn:x ≠ "__name__":=by decide) (hd:(x == ("__debug__":Str))=false:=by decide):wpAny (model X.prog X.w) X.A (eval (.Name x pos) X.env) Q E s:=by
 obtain ⟨mb,h1,h2⟩:=I.mod.blt
 exact Calls.Name_function_global I.ok.kind hg (Calls.loadGlobal_builtin (by rw [I.ok.glob]; exact I.mod.glob.keeps I.bk) hm (by rw [I.ok.blt]; exact h1.keeps I.bk) ((h2 x hn).trans hv) h) hd
theorem wd {x:Str} {v:V} {u:Value} {pos:Pos} (hg:Gl X x) (hm:X.mg x=some u) (r:zF v u) (hd:(x == ("__debug__":Str))=false:=by decide):PE X (.Name x pos) (tC v):=
 fun _ _ _ H _ I h=>Zh I hg hm ⟨v,H,I,r,h⟩ hd
theorem jg {x:Str} {v:V} {u:Value} {pos:Pos} (hg:Gl X x) (hm:X.mg x=none) (hv:bootBuiltins x=some u) (r:zF v u) (hn:x ≠ "__name__":=by decide) (hd:(x == ("__debug__":Str))=false:=by decide):PE X (.Name x pos) (tC v):=
 fun _ _ _ H _ I h=>Zo I hg hm hv ⟨v,H,I,r,h⟩ hn hd
variable {a b:Expr} {ta tb:TE} {pos:Pos}
variable {tA tB' :TT} {rest:List Expr}
def tOr (t u:TT):TT:=fun σ H Q=>t σ H fun c H1=>if c=true then Q true H1 else u σ H1 Q
def vY (t:TT):TT:=fun σ H Q=>t σ H fun c H1=>Q (!c) H1
theorem ya (ha:PT X a tA):PW X (.BoolOp .Or [a] pos) tA:=by
 intro wh pins s σ H Q I h
 refine isTrue_or (thn (ha pins s σ H Q I h) fun c s1 e=> ?_)
 cases c with
 | false=>exact isTrue_or_nil e
 | true=>exact e
theorem qe (ha:PT X a tA) (hb:PW X (.BoolOp .Or (b :: rest) pos) tB'):PW X (.BoolOp .Or (a :: b :: rest) pos) (tOr tA tB'):=by
 intro wh pins s σ H Q I h
 refine isTrue_or (thn (ha pins s σ H _ I h) fun c s1 ⟨H1,I1,q1⟩=> ?_)
 cases c with
 | true=>exact ⟨H1,I1,q1⟩
 | false=>exact hb wh pins s1 σ H1 Q I1 q1
theorem yb (ha:PT X a tA):PT X (.UnaryOp .Not a pos) (vY tA):=by
 intro pins s σ H Q I h
 exact isTrue_not (ha pins s σ H (fun c H1=>Q (!c) H1) I h)
def qf (ta tb:TE):TE:=fun σ H Q=>ta σ H fun x H1=>∃ c,x= .bl c/\if c=true then tb σ H1 Q else Q (.bl false) H1
def qg (ta:TE):TE:=fun σ H Q=>ta σ H fun x H1=>∃ c,x= .bl c/\Q (.bl (!c)) H1
theorem yc {op} {t:TE} (h:PE X a t):PE X (.BoolOp op [a] pos) t:=fun pins s σ H Q I hw=>BoolOp_one (h pins s σ H Q I hw)
theorem yd (ha:PE X a ta) (hb:PE X (.BoolOp .And (b :: rest) pos) tb):PE X (.BoolOp .And (a :: b :: rest) pos) (qf ta tb):=by
 intro pins s σ H Q I h
 refine BoolOp_and (thn (ha pins s σ H _ I h) fun v s1 ⟨x,H1,I1,r1,q1⟩=> ?_)
 obtain ⟨c,rfl,q1⟩:=q1
 cases r1
 refine wpAny_truthy_bool ?_
 cases c with
 | true=>exact hb pins s1 σ H1 Q I1 q1
 | false=>exact ⟨.bl false,H1,I1,rfl,q1⟩
theorem ye (ha:PE X a ta):PE X (.UnaryOp .Not a pos) (qg ta):=by
 intro pins s σ H Q I h
 refine UnaryOp_ (thn (ha pins s σ H _ I h) fun v s1 ⟨x,H1,I1,r1,q1⟩=> ?_)
 obtain ⟨c,rfl,q1⟩:=q1
 cases r1
 exact not_of (wpAny_truthy_bool ⟨.bl (!c),H1,I1,rfl,q1⟩)
def tIf (t:TT) (ta tb:TE):TE:=fun σ H Q=>t σ H fun c H1=>if c=true then ta σ H1 Q else tb σ H1 Q
theorem Wq {c:Expr} (hc:PT X c tA) (ha:PE X a ta) (hb:PE X b tb):PE X (.IfExp c a b pos) (tIf tA ta tb):=by
 intro pins s σ H Q I h
 refine wpAny_IfExp (thn (hc pins s σ H _ I h) fun d s1 ⟨H1,I1,q1⟩=> ?_)
 cases d with
 | true=>exact ha pins s1 σ H1 Q I1 q1
 | false=>exact hb pins s1 σ H1 Q I1 q1
end
end L2
namespace L2
open PySem PySem.Spec PyProof.Rows
def SqL (K:PySem.W.Frag) (H:Hp) (a:Addr) (xs:List V):Prop:=
 Rd H a (.lst xs)\/
  ∃ (o:Obj) (its:Array Value) (n:Nat),K.lookup a=some o/\o.cls= .type "list"/\o.dict=none/\o.data= .seq its n/\its.size<=sizeLine/\zz xs its.toList
def SqT (K:PySem.W.Frag) (H:Hp) (a:Addr) (xs:List V):Prop:=
 Rd H a (.tup xs)\/
  ∃ (o:Obj) (its:Array Value) (n:Nat),K.lookup a=some o/\o.cls= .type "tuple"/\o.data= .seq its n/\its.size<=sizeLine/\zz xs its.toList
def vZ:Value->Option V
 | .none=>some .non
 | .bool b=>some (.bl b)
 | .int i _=>some (.int i)
 | .str x _=>some (.str x)
 | .bytes b _=>some (.byt b)
 | .float b _=>some (.flt b)
 | .ref a=>some (.ref a)
 | .type n=>some (.ty n)
 | _=>none
theorem zF.abs {x:V} {u:Value} (r:zF x u):vZ u=some x:=by
 cases x with
 | non=>cases r; rfl
 | bl _=>cases r; rfl
 | int _=>obtain ⟨t,rfl⟩:=r; rfl
 | str _=>obtain ⟨t,rfl⟩:=r; rfl
 | byt _=>obtain ⟨t,rfl⟩:=r; rfl
 | flt _=>obtain ⟨t,rfl⟩:=r; rfl
 | ref _=>cases r; rfl
 | ty _=>cases r; rfl
theorem zF.inj {x y:V} {u:Value} (r:zF x u) (q:zF y u):x=y:=Option.some.inj (r.abs.symm.trans q.abs)
theorem zz.inj:∀ {xs ys:List V} {us:List Value},zz xs us->zz ys us->xs=ys
 | _,_,_, .nil, .nil=>rfl
 | _,_,_, .cons r t, .cons r' t' =>by rw [r.inj r',zz.inj t t']
section
variable {X:Cx} {pins:List (Addr×Obj)} {σ:St} {H:Hp} {s:Shared} {a:Addr} {xs ys:List V}
theorem SqL.of {K:PySem.W.Frag} (h:H a=some (.lst xs)):SqL K H a xs:= .inl (.inl h)
theorem SqT.of {K:PySem.W.Frag} (h:H a=some (.tup xs)):SqT K H a xs:= .inl (.inl h)
theorem Inv.list (I:Inv X pins σ H s) (h:SqL X.K H a xs):∃ its:List Value,zz xs its/\PlainL s.heap a its.toArray/\xs.length<=sizeLine:=by
 rcases h with h | ⟨o,its,n,hk,hc,hd,hs,hz,r⟩
 ·obtain ⟨z,its,n,r,e⟩:=h.ok I.hok
  exact ⟨its,r,⟨_,n,e,rfl,rfl,rfl⟩,z⟩
 ·refine ⟨its.toList,r,⟨o,n,I.kIn a o hk,hc,hd,by simpa using hs⟩, ?_⟩
  have e:=r.length
  simp only [Array.length_toList] at e
  omega
theorem Inv.tuple (I:Inv X pins σ H s) (h:SqT X.K H a xs):∃ its:List Value,zz xs its/\IsTup s.heap a its.toArray/\xs.length<=sizeLine:=by
 rcases h with h | ⟨o,its,n,hk,hc,hs,hz,r⟩
 ·obtain ⟨z,its,r,p,_⟩:=h.ok I.hok
  exact ⟨its,r,p,z⟩
 ·refine ⟨its.toList,r,⟨o,I.kIn a o hk,hc,n,by simpa using hs⟩, ?_⟩
  have e:=r.length
  simp only [Array.length_toList] at e
  omega
theorem Inv.list_inj (I:Inv X pins σ H s) (h:SqL X.K H a xs) (h' :SqL X.K H a ys):xs=ys:=by
 obtain ⟨its,r,⟨o,n,e,_,_,d⟩,_⟩:=I.list h
 obtain ⟨its',r',⟨o',n',e',_,_,d'⟩,_⟩:=I.list h'
 rw [e] at e'; cases e'
 rw [d] at d'
 injection d' with d1 _
 have:its=its' :=by simpa using congrArg Array.toList d1
 subst this
 exact r.inj r'
theorem Inv.tuple_inj (I:Inv X pins σ H s) (h:SqT X.K H a xs) (h' :SqT X.K H a ys):xs=ys:=by
 obtain ⟨its,r,⟨o,e,_,n,d⟩,_⟩:=I.tuple h
 obtain ⟨its',r',⟨o',e',_,n',d'⟩,_⟩:=I.tuple h'
 rw [e] at e'; cases e'
 rw [d] at d'
 injection d' with d1 _
 have:its=its' :=by simpa using congrArg Array.toList d1
 subst this
 exact r.inj r'
end
abbrev Cx.wish (X:Cx) (E:Value->Shared->Prop):Cx:={ X with xe:=E }
abbrev Cx.nox (X:Cx):Cx:=X.wish fun _ _=>False
theorem Cx.Ok.wish {X:Cx} (ok:X.Ok) (E:Value->Shared->Prop):(X.wish E).Ok:=
 ⟨ok.mod,ok.kind,ok.glob,ok.blt,ok.above,ok.inj,ok.has,ok.cab,ok.hd,ok.frames,ok.stk,ok.exf,ok.bs,ok.bsz,ok.noex,ok.exfs,ok.funs,ok.frf⟩
theorem Cx.Ok.unwish {X:Cx} {E:Value->Shared->Prop} (ok:(X.wish E).Ok):X.Ok:=
 ⟨ok.mod,ok.kind,ok.glob,ok.blt,ok.above,ok.inj,ok.has,ok.cab,ok.hd,ok.frames,ok.stk,ok.exf,ok.bs,ok.bsz,ok.noex,ok.exfs,ok.funs,ok.frf⟩
section
variable {X:Cx} {pins:List (Addr×Obj)} {σ:St} {H:Hp} {s:Shared} {E:Value->Shared->Prop}
theorem Inv.wish (I:Inv X pins σ H s) (E:Value->Shared->Prop):Inv (X.wish E) pins σ H s:=⟨I.ok.wish E,I.os,I.bare,I.base,I.loc,I.cell,I.free,I.freeC,I.pin,I.hok,I.len⟩
theorem Inv.unwish (I:Inv (X.wish E) pins σ H s):Inv X pins σ H s:=⟨I.ok.unwish,I.os,I.bare,I.base,I.loc,I.cell,I.free,I.freeC,I.pin,I.hok,I.len⟩
theorem SP.unwish {D:Wp} {f:Flow} {s' :Shared} (h:SP (X.wish E) pins D f s'):SP X pins D f s' :=by
 cases f with
 | next=>obtain ⟨σ',H',I,q⟩:=h; exact ⟨σ',H',I.unwish,q⟩
 | brk=>obtain ⟨σ',H',I,q⟩:=h; exact ⟨σ',H',I.unwish,q⟩
 | cont=>obtain ⟨σ',H',I,q⟩:=h; exact ⟨σ',H',I.unwish,q⟩
 | ret u=>obtain ⟨v,σ',H',I,r,q⟩:=h; exact ⟨v,σ',H',I.unwish,r,q⟩
theorem PSs.nox {st:List Stmt} {t:TS} (h:PSs X.nox st t):PSs X st t:=fun pins s σ H D I hw=>
 wpAny_mono (h pins s σ H D (I.wish _) hw) (fun _ _ q=>q.unwish) fun _ _ z=>False.elim z
end
section
variable {X:Cx} {st:Stmt} {rest:List Stmt} {t u:TS} {e:Expr} {te:TE} {pos:Pos}
def qh:TS:=fun D σ H=>D.nx σ H
def V0 (t u:TS):TS:=fun D σ H=>t { D with nx:=u D } σ H
theorem uD:PSs X [] qh:=fun _ _ σ H _ I h=>wpAny_execs_nil ⟨σ,H,I,h⟩
theorem jh (h1:PS X st t) (h2:PSs X rest u):PSs X (st :: rest) (V0 t u):=by
 intro pins s σ H D I h
 refine wpAny_execs_cons (thn (h1 pins s σ H { D with nx:=u D } I h) fun f s1 q=> ?_)
 cases f with
 | next=>
  obtain ⟨σ',H',I',q⟩:=q
  exact h2 pins s1 σ' H' D I' q
 | ret v=>exact q
 | brk=>exact q
 | cont=>exact q
theorem ji (h1:PS X st t):PSs X [st] t:=by
 intro pins s σ H D I h
 refine wpAny_execs_cons (thn (h1 pins s σ H D I h) fun f s1 q=> ?_)
 cases f with
 | next=>exact wpAny_execs_nil q
 | ret v=>exact q
 | brk=>exact q
 | cont=>exact q
theorem Inv.quiet {pins:List (Addr×Obj)} {σ:St} {H:Hp} {s:Shared} (I:Inv X pins σ H s):interactive X.env=false:=by simp [interactive,I.ok.kind]
def qi (te:TE):TS:=fun D σ H=>te σ H fun _ H1=>D.nx σ H1
theorem jZ (he:PE X e te) (hs:swapsWith e none pos.line X.env=pure false:=by rfl):PS X (.Expr e pos) (qi te):=by
 intro pins s σ H D I h
 exact wpAny_Expr_any (thn (he pins s σ H _ I h) fun v s1 ⟨x,H1,I1,r1,q1⟩=>⟨σ,H1,I1,q1⟩) I.quiet hs
def QF (te:TE):TS:=fun D σ H=>te σ H D.rt
theorem we (he:PE X e te):PS X (.Return (some e) pos) (QF te):=by
 intro pins s σ H D I h
 exact wpAny_Return_some (thn (he pins s σ H _ I h) fun v s1 ⟨x,H1,I1,r1,q1⟩=>⟨x,σ,H1,I1,r1,q1⟩)
def V1 (c:TT) (t u:TS):TS:=fun D σ H=>c σ H fun b H1=>if b=true then t D σ H1 else u D σ H1
theorem qj {c:Expr} {a b:List Stmt} {tc:TT} (hc:PT X c tc) (ha:PSs X a t) (hb:PSs X b u):PS X (.If c a b pos) (V1 tc t u):=by
 intro pins s σ H D I h
 refine wpAny_If (thn (hc pins s σ H _ I h) fun d s1 ⟨H1,I1,q1⟩=> ?_)
 cases d with
 | true=>exact ha pins s1 σ H1 D I1 q1
 | false=>exact hb pins s1 σ H1 D I1 q1
def yf:TS:=fun _ _ _=>False
theorem wf {sts:List Stmt}:PSs X sts yf:=fun _ _ _ _ _ _ h=>h.elim
end
abbrev TG:=V->St->Hp->(St->Hp->Prop)->Prop
abbrev TGs:=List V->St->Hp->(St->Hp->Prop)->Prop
def PG (X:Cx) (target:Expr) (t:TG):Prop:=
 ∀ (pins:List (Addr×Obj)) (s:Shared) (σ:St) (H:Hp) (v:V) (u:Value) (Q:St->Hp->Prop),Inv X pins σ H s->zF v u->t v σ H Q->
  wpAny (model X.prog X.w) X.A (assign target X.env u) (fun _ s' =>∃ σ' H',Inv X pins σ' H' s' /\Q σ' H') X.xe s
def PGs (X:Cx) (ts:List Expr) (t:TGs):Prop:=
 ∀ (pins:List (Addr×Obj)) (s:Shared) (σ:St) (H:Hp) (vs:List V) (us:List Value) (Q:St->Hp->Prop),Inv X pins σ H s->zz vs us->t vs σ H Q->
  wpAny (model X.prog X.w) X.A (assignInOrder ((assignEach ts X.env).map (·.2)) us) (fun _ s' =>∃ σ' H',Inv X pins σ' H' s' /\Q σ' H') X.xe s
section
variable {X:Cx} {pos:Pos}
def jx (i:Nat):TG:=fun v σ H Q=>Q (σ.set i (some v)) H
theorem zG {i:Nat} {x:Str} (hN:X.N.Nodup) (hi:X.N[i]? =some x) (hx:Loc X.env.scope x) (hf:X.fn x=true\/X.env.scope.names.lookup x=some .local:=by first | exact .inl rfl | exact .inr rfl | assumption):PG X (.Name x pos) (jx i):=by
 intro pins s σ H v u Q I r h
 exact wpAny_assign_Name (jf I hN hi hx r (fun s' I' =>⟨_,H,I',h⟩) hf)
def qk:TGs:=fun vs σ H Q=>vs=[]/\Q σ H
def wg (t:TG) (u:TGs):TGs:=fun vs σ H Q=>∃ v r,vs=v :: r/\t v σ H fun σ' H' =>u r σ' H' Q
theorem wj:PGs X [] qk:=by
 intro pins s σ H vs us Q I r h
 obtain ⟨e,h⟩:=h
 subst e
 cases r
 exact assignInOrder_nil ⟨σ,H,I,h⟩
theorem ZL {e:Expr} {es:List Expr} {t:TG} {u:TGs} (h1:PG X e t) (h2:PGs X es u)
  (hs:(assignEach (e :: es) X.env).map (·.2)=assign e X.env :: (assignEach es X.env).map (·.2):=by rfl):PGs X (e :: es) (wg t u):=by
 intro pins s σ H vs us Q I r h
 obtain ⟨v,vr,e1,h⟩:=h
 subst e1
 cases r with
 | cons r rr=>
  rw [hs]
  refine assignInOrder_cons (thn (h1 pins s σ H _ _ _ I r h) fun _ s1 ⟨σ1,H1,I1,q1⟩=> ?_)
  exact h2 pins s1 σ1 H1 _ _ Q I1 rr q1
def qm (K:PySem.W.Frag) (n:Nat) (t:TGs):TG:=fun v σ H Q=>∃ a xs,v= .ref a/\SqT K H a xs/\xs.length=n/\t xs σ H Q
theorem ub {es:List Expr} {k:Nat} {t:TGs} {n:Nat} (hc:X.calm=true) (h:PGs X es t)
  (hn:(assignEach es X.env).length=n:=by rfl) (hst:(assignEach es X.env).findIdx? (·.1)=none:=by rfl):PG X (.Tuple es k pos) (qm X.K n t):=by
 intro pins s σ H v u Q I r hw
 obtain ⟨a,xs,e1,hq,hl,hw⟩:=hw
 subst e1
 cases r
 obtain ⟨its,rv,ht,hz⟩:=I.tuple hq
 refine assign_Tuple_tuple (I.ok.hd hc) ht (by simp [hn,← hl,rv.length]) hst fun h' hx=> ?_
 have I1:Inv X pins σ H { s with heap:=h' }:=I.kept (t' :=s.toks) fun b o e=>hx b o (Nat.ne_of_lt (Heap.lt_size e)) e
 exact h pins _ σ H xs _ Q I1 (by simpa using rv) hw
def QG (te:TE) (g:TG):TS:=fun D σ H=>te σ H fun x H1=>g x σ H1 D.nx
theorem yg {tg e:Expr} {te:TE} {g:TG} (he:PE X e te) (hg:PG X tg g) (hs:swapsWithSole [tg] e pos.line X.env=pure false:=by rfl) (hw:swappedStores [tg] e X.env=pure none:=by rfl)
  (h1:(assignEach [tg] X.env).map (·.2)=[assign tg X.env]:=by rfl):PS X (.Assign [tg] e pos) (QG te g):=by
 intro pins s σ H D I h
 refine wpAny_Assign_stores (thn (he pins s σ H _ I h) fun v s1 ⟨x,H1,I1,r1,q1⟩=> ?_) hs hw
 rw [h1]
 exact thn (hg pins s1 σ H1 x v _ I1 r1 q1) fun _ s2 q=>q
theorem uc {i:Nat} {x:Str} {e:Expr} {te:TE} {pos' :Pos} (hN:X.N.Nodup) (hi:X.N[i]? =some x) (hx:Loc X.env.scope x) (he:PE X e te) (hs:swapsWith e (some (.Name x pos')) pos.line X.env=pure false:=by rfl) (hf:X.fn x=true\/X.env.scope.names.lookup x=some .local:=by first | exact .inl rfl | exact .inr rfl | assumption):
  PS X (.Assign [.Name x pos'] e pos) (QG te (jx i)):=by
 intro pins s σ H D I h
 refine wpAny_Assign_Name (thn (he pins s σ H _ I h) fun v s1 ⟨y,H1,I1,r1,q1⟩=> ?_) hs
 exact jf I1 hN hi hx r1 (fun s2 I2=>⟨_,H1,I2,q1⟩) hf
end
section
variable {X:Cx} {pos:Pos}
def yh (c:TT) (tb:TS):TS:=fun D σ H=>∃ W:Nat->St->Hp->Prop,(∃ m,W m σ H)/\∀ m σ H,W m σ H->
 c σ H fun b H1=>if b=true then ∃ N:St->Hp->Prop,(∀ σ' H',N σ' H' ->∃ m',m' < m/\W m' σ' H')/\tb { D with nx:=N,ct:=N,bk:=D.nx } σ H1 else D.nx σ H1
theorem Wr {c:Expr} {body:List Stmt} {tc:TT} {tb:TS} (hp:PassesOwn (model X.prog X.w) X.A X.env X.xe) (hc:PT X c tc) (hb:PSs X body tb):PS X (.While c body [] pos) (yh tc tb):=by
 intro pins s σ H D I h
 obtain ⟨W,⟨m0,w0⟩,turn⟩:=h
 refine wpAny_While (codeAny_whileLoop (fun n s' =>∃ σ' H',Inv X pins σ' H' s' /\W n σ' H') ?_ m0 ⟨σ,H,I,w0⟩)
 rintro n s1 ⟨σ1,H1,I1,w1⟩
 refine wpAny_passesOwn hp (thn (hc pins s1 σ1 H1 _ I1 (turn n σ1 H1 w1)) fun b s2 ⟨H2,I2,q2⟩=> ?_)
 cases b with
 | true=>
  obtain ⟨N,hN,q2⟩:=q2
  rw [if_pos rfl]
  refine wpAny_passesOwn hp (thn (hb pins s2 σ1 H2 _ I2 q2) fun f s3 q3=> ?_)
  cases f with
  | next=>
   obtain ⟨σ3,H3,I3,n3⟩:=q3
   obtain ⟨m',hm,w3⟩:=hN σ3 H3 n3
   exact ⟨m',hm,σ3,H3,I3,w3⟩
  | cont=>
   obtain ⟨σ3,H3,I3,n3⟩:=q3
   obtain ⟨m',hm,w3⟩:=hN σ3 H3 n3
   exact ⟨m',hm,σ3,H3,I3,w3⟩
  | brk=>exact q3
  | ret v=>exact q3
 | false=>
  rw [if_neg Bool.false_ne_true]
  exact wpAny_execs_nil ⟨σ1,H2,I2,q2⟩
end
structure It where
 go:Nat->Hp->Prop
 yld:Nat->Hp->V->Hp->Prop
 stop:Nat->Hp->Prop
def jy (X:Cx) (pins:List (Addr×Obj)) (H:Hp) (b:Addr):Prop:=
 H b=none/\b ≠ X.env.locals/\b ∉ X.fs/\(b∈X.ex\/X.s₀.heap.objs.size<=b)/\(∀ x c,X.env.cells.lookup x=some c->c ≠ b)/\∀ p∈X.pn++pins,p.1 ≠ b
theorem Inv.fpOk {X:Cx} {pins:List (Addr×Obj)} {σ:St} {H H' :Hp} {s:Shared} {b:Addr} (I:Inv X pins σ H s) (hb:s.heap.objs.size<=b) (hn:H' b=none):jy X pins H' b:=by
 refine ⟨hn,Nat.ne_of_gt (Nat.lt_of_lt_of_le I.lt hb),I.nofs hb, .inr (Nat.le_trans I.sz hb),fun x c e z=> ?_,fun p hp z=> ?_⟩
 ·obtain ⟨v,q⟩:=I.cell x c e
  exact absurd (Nat.lt_of_lt_of_le q.lt (by rw [z]; exact hb)) (Nat.lt_irrefl _)
 ·exact absurd (Nat.lt_of_lt_of_le (Heap.lt_size (I.pin p hp).1) (by rw [z]; exact hb)) (Nat.lt_irrefl _)
structure Wk (P:Program) (w:World) (K:PySem.W.Frag) (tg:Expr) (J:It) (fp:List Addr) (it:Addr) (tn:Nat->Heap->Prop):Prop where
 mem:it∈fp
 obj:∀ i h,tn i h->∀ b∈fp,∃ o,h.get? b=some o/\∀ v,o.data ≠ .cell v
 keep:∀ i h h',tn i h->(∀ b∈fp,∀ o,h.get? b=some o->h'.get? b=some o)->tn i h'
 item:∀ (X:Cx),X.prog=P->X.w=w->X.K=K->X.calm=true->∀ (i:Nat) (pins:List (Addr×Obj)) (s:Shared) (σ:St) (H:Hp) (E:Value->Shared->Prop),Inv X pins σ H s->(∀ b∈fp,jy X pins H b)->tn i s.heap->J.go i H->
  wpAny (model P w) X.A (pyNext (.ref it)) (fun r s1=>∃ u,r=some u/\
   wpAny (model P w) X.A (letOwnedTupleGo tg (.ref it) u) (fun _ s2=>∃ x H',Inv X pins σ H' s2/\zF x u/\J.yld i H x H' /\tn (i+1) s2.heap/\∀ b∈fp,H' b=none) E s1) E s
 done:∀ (X:Cx),X.prog=P->X.w=w->X.K=K->X.calm=true->∀ (i:Nat) (pins:List (Addr×Obj)) (s:Shared) (σ:St) (H:Hp) (E:Value->Shared->Prop),Inv X pins σ H s->(∀ b∈fp,jy X pins H b)->tn i s.heap->J.stop i H->
  wpAny (model P w) X.A (pyNext (.ref it)) (fun r s1=>r=none/\Inv X pins σ H s1) E s
 self:∀ (A:Around) (i:Nat) (s:Shared) (Q:Value->Shared->Prop) (E:Value->Shared->Prop),tn i s.heap->Q (.ref it) s->wpAny (model P w) A (pyIter (.ref it)) Q E s
abbrev TI:=St->Hp->(It->Hp->Prop)->Prop
def PIE (X:Cx) (pins:List (Addr×Obj)) (σ:St) (tg:Expr) (R:It->Hp->Prop) (itv:Value) (s2:Shared):Prop:=
 ∃ (it:Addr) (fp:List Addr) (tn:Nat->Heap->Prop) (J:It) (H' :Hp),itv= .ref it/\Inv X pins σ H' s2/\Wk X.prog X.w X.K tg J fp it tn/\tn 0 s2.heap/\(∀ b∈fp,jy X pins H' b)/\R J H'
def PI (X:Cx) (tg iter:Expr) (wi:TI):Prop:=
 ∀ (pins:List (Addr×Obj)) (s:Shared) (σ:St) (H:Hp) (R:It->Hp->Prop),Inv X pins σ H s->wi σ H R->
  wpAny (model X.prog X.w) X.A (eval iter X.env) (fun v s1=>wpAny (model X.prog X.w) X.A (pyIter v) (PIE X pins σ tg R) X.xe s1) X.xe s
theorem JL {M:Model} {A:Around} {E:Value->Shared->Prop} {s:Shared} {tg:Expr} {it:Addr} {u:Value} {o:Obj} {n:String} {vs:Array Value} {Q:Unit->Shared->Prop} (ho:s.heap.get? it=some o) (hc:o.cls= .type n) (hd:o.data= .fields vs)
  (hn:["enumerate","zip","dict_itemiterator","dict_reverseitemiterator","odict_iterator","itertools.zip_longest","itertools.pairwise"].contains n=false) (hQ:Q () s):wpAny M A (letOwnedTupleGo tg (.ref it) u) Q E s:=by
 unfold letOwnedTupleGo
 cases tg <;> first
  | exact wpAny_pure hQ
  | (cases u <;> first
    | exact wpAny_pure hQ
    | (refine wpAny_bind (wpAny_load ho ?_); rw [hc,hd]; show wpAny M A (if (["enumerate","zip","dict_itemiterator","dict_reverseitemiterator","odict_iterator","itertools.zip_longest","itertools.pairwise"].contains n && vs[0]? == some (rawInt _))=true then _ else _) Q E s; rw [if_neg (by intro h; rw [hn,Bool.false_and] at h; cases h)]; exact wpAny_pure hQ))
def Itl (K:PySem.W.Frag) (a:Addr):It:=
 ⟨fun i H=>∃ xs x,SqL K H a xs/\xs[i]? =some x,fun i H x H' =>H' =H/\∀ xs,SqL K H a xs->xs[i]? =some x,fun i H=>∃ xs,SqL K H a xs/\xs.length<=i⟩
def Itt (K:PySem.W.Frag) (a:Addr):It:=
 ⟨fun i H=>∃ xs x,SqT K H a xs/\xs[i]? =some x,fun i H x H' =>H' =H/\∀ xs,SqT K H a xs->xs[i]? =some x,fun i H=>∃ xs,SqT K H a xs/\xs.length<=i⟩
def Itr (lo:Int) (n:Nat):It:=⟨fun i _=>i < n,fun i H x H' =>H' =H/\x= .int (lo+i),fun i _=>n<=i⟩
theorem wk {P:Program} {w:World} {K:PySem.W.Frag} {tg:Expr} (a it:Addr):Wk P w K tg (Itl K a) [it] it (fun i h=>h.IsListIter it a i) where
 mem:=by simp
 obj:=fun i h st b hb=>by
  have e:b=it:=by simpa using hb
  subst e
  obtain ⟨o,e,c,d⟩:=st
  exact ⟨o,e,fun v z=>by rw [d] at z; cases z⟩
 keep:=fun i h h' st k=>st.at fun o e=>k it (by simp) o e
 item:=by
  intro X hP hw hK hc i pins s σ H E I hf st hg
  subst hP hw hK
  obtain ⟨xs,x,hq,hx⟩:=hg
  obtain ⟨its,rv,p,hz⟩:=I.list hq
  obtain ⟨u,hu,ru⟩:=rv.get hx
  obtain ⟨f0,f1,f2,f3,f4,f5⟩:=hf it (by simp)
  refine wpAny_pyNext_list_item st p.isList (x:=u) (by simpa using hu) fun h' st' sb=> ?_
  have I1:Inv X pins σ H { s with heap:=h' }:=I.turned (t' :=s.toks) (fun b o hb e=>(sb.2 b hb).trans e) f0 f1 f3 f4 f5
  obtain ⟨o,e,c,d⟩:=id st'
  exact ⟨u,rfl,JL (s:={ s with heap:=h' }) e c d (by decide) ⟨x,H,I1,ru,⟨rfl,fun ys hy=>by rw [I.list_inj hy hq]; exact hx⟩,st',fun b hb=>(hf b hb).1⟩⟩
 done:=by
  intro X hP hw hK hc i pins s σ H E I hf st hg
  subst hP hw hK
  obtain ⟨xs,hq,hx⟩:=hg
  obtain ⟨its,rv,p,hz⟩:=I.list hq
  obtain ⟨f0,f1,f2,f3,f4,f5⟩:=hf it (by simp)
  have hl:=rv.length
  exact wpAny_pyNext_list_end (I.ok.hd hc) st p.isList (by simp; omega) fun h' eb=>⟨rfl,I.turned (t' :=s.toks) (fun b o hb e=>eb b o hb e) f0 f1 f3 f4 f5⟩
 self:=fun _ _ _ _ _ st h=>wpAny_pyIter_listiter st h
theorem JM {P:Program} {w:World} {K:PySem.W.Frag} {tg:Expr} (a it:Addr):Wk P w K tg (Itt K a) [it] it (fun i h=>h.IsTupleIter it a i) where
 mem:=by simp
 obj:=fun i h st b hb=>by
  have e:b=it:=by simpa using hb
  subst e
  obtain ⟨o,e,c,d⟩:=st
  exact ⟨o,e,fun v z=>by rw [d] at z; cases z⟩
 keep:=fun i h h' st k=>st.at fun o e=>k it (by simp) o e
 item:=by
  intro X hP hw hK hc i pins s σ H E I hf st hg
  subst hP hw hK
  obtain ⟨xs,x,hq,hx⟩:=hg
  obtain ⟨its,rv,p,hz⟩:=I.tuple hq
  obtain ⟨u,hu,ru⟩:=rv.get hx
  obtain ⟨f0,f1,f2,f3,f4,f5⟩:=hf it (by simp)
  refine wpAny_pyNext_tuple_item st (show s.heap.IsTuple a its.toArray from p) (x:=u) (by simpa using hu) fun h' st' sb=> ?_
  have I1:Inv X pins σ H { s with heap:=h' }:=I.turned (t' :=s.toks) (fun b o hb e=>(sb.2 b hb).trans e) f0 f1 f3 f4 f5
  obtain ⟨o,e,c,d⟩:=id st'
  exact ⟨u,rfl,JL (s:={ s with heap:=h' }) e c d (by decide) ⟨x,H,I1,ru,⟨rfl,fun ys hy=>by rw [I.tuple_inj hy hq]; exact hx⟩,st',fun b hb=>(hf b hb).1⟩⟩
 done:=by
  intro X hP hw hK hc i pins s σ H E I hf st hg
  subst hP hw hK
  obtain ⟨xs,hq,hx⟩:=hg
  obtain ⟨its,rv,p,hz⟩:=I.tuple hq
  obtain ⟨f0,f1,f2,f3,f4,f5⟩:=hf it (by simp)
  have hl:=rv.length
  exact wpAny_pyNext_tuple_end (I.ok.hd hc) st (show s.heap.IsTuple a its.toArray from p) (by simp; omega) fun h' eb=>⟨rfl,I.turned (t' :=s.toks) (fun b o hb e=>eb b o hb e) f0 f1 f3 f4 f5⟩
 self:=fun _ _ _ _ _ st h=>wpAny_pyIter_tupleiter st h
theorem JN {P:Program} {w:World} {K:PySem.W.Frag} {tg:Expr} (it:Addr) (lo:Int) (n:Nat):Wk P w K tg (Itr lo n) [it] it (fun i h=>IsRangeIter h it (lo+(i:Nat)*1) ((n:Int) - (i:Nat)) 1) where
 mem:=by simp
 obj:=fun i h st b hb=>by
  have e:b=it:=by simpa using hb
  subst e
  exact ⟨_,st,fun v z=>by
   have z' :Data.fields _=Data.cell v:=z
   cases z'⟩
 keep:=fun i h h' st k=>k it (by simp) _ st
 item:=by
  intro X hP hw hK hc i pins s σ H E I hf st hg
  subst hP hw hK
  obtain ⟨f0,f1,f2,f3,f4,f5⟩:=hf it (by simp)
  have W:=Walks.range (prog:=X.prog) (w:=X.w) (I.ok.hd hc) it lo 1 n
  refine W.item i s _ _ hg st fun v h' tk hv st' kk=> ?_
  obtain ⟨t,rfl⟩:=hv
  have I1:Inv X pins σ H { s with heap:=h',toks:=tk }:=I.turned (fun b o hb e=>kk b o (by simpa using hb) e) f0 f1 f3 f4 f5
  refine ⟨_,rfl,JL (s:={ s with heap:=h',toks:=tk }) (n:="range_iterator") st' rfl rfl (by decide) ⟨.int (lo+i),H,I1,⟨t, ?_⟩,⟨rfl,rfl⟩,st',fun b hb=>(hf b hb).1⟩⟩
  rw [Int.mul_one]
 done:=by
  intro X hP hw hK hc i pins s σ H E I hf st hg
  subst hP hw hK
  obtain ⟨f0,f1,f2,f3,f4,f5⟩:=hf it (by simp)
  exact wpAny_pyNext_range_end (I.ok.hd hc) st (by have:n<=i:=hg; omega) fun h' eb=>⟨rfl,I.turned (t' :=s.toks) (fun b o hb e=>eb b o hb e) f0 f1 f3 f4 f5⟩
 self:=fun _ _ _ _ _ st h=>wpAny_pyIter_rangeiter st h
end L2
namespace L2
open PySem PySem.Spec PyProof.Rows
section
variable {X:Cx} {tg:Expr}
theorem Jn {pins:List (Addr×Obj)} {σ:St} {H:Hp} {s:Shared} {R:It->Hp->Prop} {E:Value->Shared->Prop} {lo hi:Int} {t u v:Tok} {tk:Nat} (I:Inv X pins σ H s) (h1: -(2 ^ 62)<=lo) (h2:lo < 2 ^ 62) (h3: -(2 ^ 62)<=hi) (h4:hi < 2 ^ 62)
  (q:R (Itr lo (hi - lo).toNat) H):wpAny (model X.prog X.w) X.A (pyIter (.ref s.heap.objs.size)) (PIE X pins σ tg R) E { s with heap:=s.heap.push { cls:= .type "range",data:= .fields #[.int lo t, .int hi u, .int 1 v] },toks:=tk }:=by
 refine wpAny_pyIter_range (IsRange.new ..) (small_one h1 h2 h3 h4) ?_
 have I1:Inv X pins σ H { s with heap:=s.heap.push { cls:= .type "range",data:= .fields #[.int lo t, .int hi u, .int 1 v] },toks:=tk }:=I.kept fun b o e=>Heap.get?_push_of_some _ e
 refine ⟨(s.heap.push { cls:= .type "range",data:= .fields #[.int lo t, .int hi u, .int 1 v] }).objs.size,[(s.heap.push { cls:= .type "range",data:= .fields #[.int lo t, .int hi u, .int 1 v] }).objs.size],_,_,H,rfl,
  I1.kept (t' :=tk) fun b o e=>Heap.get?_push_of_some _ e,JN _ lo (hi - lo).toNat, ?_,fun b hb=> ?_,q⟩
 ·have e1:lo+((0:Nat):Int)*1=lo:=by simp
  have e2:(((hi - lo).toNat:Nat):Int) - ((0:Nat):Int)=Builtin.Range.rangeSize lo hi 1:=by rw [rangeSize_one]; split <;> omega
  show IsRangeIter _ _ (lo+((0:Nat):Int)*1) ((((hi - lo).toNat:Nat):Int) - ((0:Nat):Int)) 1
  rw [e1,e2]
  exact Heap.get?_push_size _ rfl
 ·have e:b=(s.heap.push { cls:= .type "range",data:= .fields #[.int lo t, .int hi u, .int 1 v] }).objs.size:=by simpa using hb
  subst e
  exact I1.fpOk (Nat.le_refl _) (I1.hok.fresh (Nat.le_refl _))
def qo (ta:TA):TI:=fun σ H R=>ta σ H fun vs H1=>∃ j:Int,vs=[.int j]/\ -(2 ^ 62)<=j/\j < 2 ^ 62/\R (Itr 0 j.toNat) H1
def qp (ta:TA):TI:=fun σ H R=>ta σ H fun vs H1=>∃ i j:Int,vs=[.int i, .int j]/\(-(2 ^ 62)<=i/\i < 2 ^ 62/\ -(2 ^ 62)<=j/\j < 2 ^ 62)/\R (Itr i (j - i).toNat) H1
theorem wl {a:Expr} {ta:TA} {p pos:Pos} (hg:Gl X "range") (hm:X.mg "range"=none) (ha:PA X [a] ta) (hs:starEach [a] X.env=[(false,eval a X.env)]:=by rfl):PI X tg (.Call (.Name "range" p) [a] [] pos) (qo ta):=by
 intro pins s σ H R I h
 refine Call_ (Zo I hg hm boot_range (PyProof.Rows.callWith_type1 (thn (ha pos pins s σ H _ I h) fun us s1 ⟨vs,H1,I1,r1,q1⟩=> ?_) hs rfl))
 obtain ⟨j,e,q1,q2,q⟩:=q1
 subst e
 cases r1 with
 | cons r rr=>
  cases rr
  obtain ⟨t,rfl⟩:=r
  exact call_range_1 (Jn I1 (by omega) (by omega) q1 q2 (by simpa using q))
theorem wm {a b:Expr} {ta:TA} {p pos:Pos} (hg:Gl X "range") (hm:X.mg "range"=none) (ha:PA X [a,b] ta) (hs:starEach [a,b] X.env=[(false,eval a X.env),(false,eval b X.env)]:=by rfl) (hs2:starEach [b] X.env=[(false,eval b X.env)]:=by rfl):
  PI X tg (.Call (.Name "range" p) [a,b] [] pos) (qp ta):=by
 intro pins s σ H R I h
 refine Call_ (Zo I hg hm boot_range (PyProof.Rows.callWith_type1 (thn (ha pos pins s σ H _ I h) fun us s1 ⟨vs,H1,I1,r1,q1⟩=> ?_) (by rw [hs,hs2]) (by rw [hs2]; rfl)))
 obtain ⟨i,j,e,⟨q1,q2,q3,q4⟩,q⟩:=q1
 subst e
 cases r1 with
 | cons r rr=>
  cases rr with
  | cons r' rr=>
   cases rr
   obtain ⟨t,rfl⟩:=r
   obtain ⟨t',rfl⟩:=r'
   exact call_range_2 (Jn I1 q1 q2 q3 q4 q)
def V2 (wi:TI) (g:TG) (tb:TS):TS:=fun D σ H=>wi σ H fun J H1=>∃ W:Nat->Nat->St->Hp->Prop,(∃ m,W 0 m σ H1)/\∀ i m σ H,W i m σ H->
 (J.stop i H/\D.nx σ H)\/(J.go i H/\∃ N:St->Hp->Prop,(∀ σ' H',N σ' H' ->∃ m',m' < m/\W (i+1) m' σ' H')/\∀ x H',J.yld i H x H' ->g x σ H' fun σ2 H2=>tb { D with nx:=N,ct:=N,bk:=D.nx } σ2 H2)
def jz (fp:List Addr) (h:Heap):List (Addr×Obj):=fp.filterMap fun b=>(h.get? b).map fun o=>(b,o)
theorem Z9 {fp:List Addr} {h:Heap} {b:Addr} {o:Obj} (hb:b∈fp) (e:h.get? b=some o):(b,o)∈jz fp h:=List.mem_filterMap.mpr ⟨b,hb,by rw [e]; rfl⟩
theorem wn {fp:List Addr} {h:Heap} {p:Addr×Obj} (hp:p∈jz fp h):p.1∈fp/\h.get? p.1=some p.2:=by
 obtain ⟨b,hb,e⟩:=List.mem_filterMap.mp hp
 cases q:h.get? b with
 | none=>rw [q] at e; cases e
 | some o=>
  rw [q] at e
  have e' :(b,o)=p:=Option.some.inj e
  subst e'
  exact ⟨hb,q⟩
theorem Inv.pinned {pins:List (Addr×Obj)} {σ:St} {H:Hp} {s:Shared} {fp:List Addr} (I:Inv X pins σ H s) (hf:∀ b∈fp,jy X pins H b) (ho:∀ b∈fp,∃ o,s.heap.get? b=some o/\∀ v,o.data ≠ .cell v):Inv X (pins++jz fp s.heap) σ H s:=
 I.pins_of fun p hp=>(List.mem_append.mp hp).elim (fun z=>I.pin p (List.mem_append_right _ z)) fun z=>by
  obtain ⟨hb,e⟩:=wn z
  obtain ⟨f0,f1,f2,_⟩:=hf p.1 hb
  obtain ⟨o,e',d⟩:=ho p.1 hb
  rw [e] at e'; cases e'
  exact ⟨e,f0,f1,f2,d⟩
theorem Inv.unpinned {pins pl:List (Addr×Obj)} {σ:St} {H:Hp} {s:Shared} (I:Inv X (pins++pl) σ H s):Inv X pins σ H s:=I.pins_of fun p hp=>I.pin p (List.mem_append_right _ (List.mem_append_left _ hp))
theorem yi {iter:Expr} {body:List Stmt} {wi:TI} {g:TG} {tb:TS} {pos:Pos} (hp:PassesOwn (model X.prog X.w) X.A X.env X.xe) (hc:X.calm=true) (hi:PI X tg iter wi) (hg:PG X tg g) (hb:PSs X body tb)
  (hs:∀ x,foldedSetIterable iter X.env x=pure x:=by intro _; rfl):PS X (.For tg iter body [] pos) (V2 wi g tb):=by
 intro pins s σ H D I h
 refine wpAny_For (thn (hi pins s σ H _ I h) fun v s1 h1=>thn h1 fun itv s2 h2=> ?_) hs
 obtain ⟨it,fp,tn,J,H2,e,I2,T,st2,f2,W,⟨m0,w0⟩,turn⟩:=h2
 subst e
 have stat:∀ {H' :Hp},(∀ b∈fp,H' b=none)->∀ b∈fp,jy X pins H' b:=fun hn b hb=>⟨hn b hb,(f2 b hb).2⟩
 refine codeAny_forLoop_any (fun n s' =>∃ i σ' H',Inv X pins σ' H' s' /\tn i s'.heap/\(∀ b∈fp,H' b=none)/\W i n σ' H') ?_ m0 ⟨0,σ,H2,I2,st2,fun b hb=>(f2 b hb).1,w0⟩
 rintro n s3 ⟨i,σ3,H3,I3,st3,fr3,w3⟩
 rcases turn i n σ3 H3 w3 with ⟨stop,qn⟩ | ⟨go,N,hN,step⟩
 ·refine wpAny_passesOwn hp (thn (T.done X rfl rfl rfl hc i pins s3 σ3 H3 X.xe I3 (stat fr3) st3 stop) fun r s4 ⟨hr,I4⟩=> ?_)
  subst hr
  exact wpAny_execs_nil ⟨σ3,H3,I4,qn⟩
 ·refine wpAny_passesOwn hp (thn (T.item X rfl rfl rfl hc i pins s3 σ3 H3 X.xe I3 (stat fr3) st3 go) fun r s4 ⟨u,hr,h4⟩=> ?_)
  subst hr
  refine wpAny_passesOwn hp (thn h4 fun _ s5 ⟨x,H5,I5,r5,y5,st5,fr5⟩=> ?_)
  have I5' :=I5.pinned (stat fr5) (T.obj _ _ st5)
  refine wpAny_passesOwn hp (thn (hg _ s5 σ3 H5 x u _ I5' r5 (step x H5 y5)) fun _ s6 ⟨σ6,H6,I6,q6⟩=> ?_)
  refine wpAny_passesOwn hp (thn (hb _ s6 σ6 H6 _ I6 q6) fun f s7 q7=> ?_)
  have again:∀ {σ7:St} {H7:Hp},Inv X (pins++jz fp s5.heap) σ7 H7 s7->N σ7 H7->∃ m,m < n/\∃ i σ' H',Inv X pins σ' H' s7/\tn i s7.heap/\(∀ b∈fp,H' b=none)/\W i m σ' H' :=fun {σ7 H7} I7 n7=>by
   obtain ⟨m',hm,w7⟩:=hN σ7 H7 n7
   refine ⟨m',hm,i+1,σ7,H7,I7.unpinned,T.keep _ _ _ st5 fun b hb o e=>(I7.pin (b,o) (List.mem_append_right _ (List.mem_append_right _ (Z9 hb e)))).1,fun b hb=> ?_,w7⟩
   obtain ⟨o,e,d⟩:=T.obj _ _ st5 b hb
   exact (I7.pin (b,o) (List.mem_append_right _ (List.mem_append_right _ (Z9 hb e)))).2.1
  cases f with
  | next=>obtain ⟨σ7,H7,I7,n7⟩:=q7; exact again I7 n7
  | cont=>obtain ⟨σ7,H7,I7,n7⟩:=q7; exact again I7 n7
  | brk=>obtain ⟨σ7,H7,I7,q7⟩:=q7; exact ⟨σ7,H7,I7.unpinned,q7⟩
  | ret v=>obtain ⟨x7,σ7,H7,I7,r7,q7⟩:=q7; exact ⟨x7,σ7,H7,I7.unpinned,r7,q7⟩
end
end L2
namespace L2
open PySem PySem.Spec PyProof.Rows
abbrev R2:=V->V->Hp->VK->Prop
def OpR (X:Cx) (f:Value->Value->Sem Value) (r:R2):Prop:=
 ∀ (pins:List (Addr×Obj)) (s:Shared) (σ:St) (H:Hp) (x y:V) (v u:Value) (Q:VK),Inv X pins σ H s->zF x v->zF y u->r x y H Q->
  wpAny (model X.prog X.w) X.A (f v u) (EP X pins σ Q) X.xe s
def UnR (X:Cx) (f:Value->Sem Value) (r:V->Hp->VK->Prop):Prop:=
 ∀ (pins:List (Addr×Obj)) (s:Shared) (σ:St) (H:Hp) (x:V) (v:Value) (Q:VK),Inv X pins σ H s->zF x v->r x H Q->
  wpAny (model X.prog X.w) X.A (f v) (EP X pins σ Q) X.xe s
def Z2 (X:Cx) (f:Value) (r:List V->Hp->VK->Prop):Prop:=
 ∀ (pins:List (Addr×Obj)) (s:Shared) (σ:St) (H:Hp) (xs:List V) (us:List Value) (Q:VK),Inv X pins σ H s->zz xs us->r xs H Q->
  wpAny (model X.prog X.w) X.A (call f us) (EP X pins σ Q) X.xe s
def V3 (X:Cx) (r:V->Hp->(Bool->Hp->Prop)->Prop):Prop:=
 ∀ (pins:List (Addr×Obj)) (s:Shared) (σ:St) (H:Hp) (x:V) (v:Value) (Q:Bool->Hp->Prop),Inv X pins σ H s->zF x v->r x H Q->
  wpAny (model X.prog X.w) X.A (truthy v) (TP X pins σ Q) X.xe s
def tOp (r:R2) (ta tb:TE):TE:=fun σ H Q=>ta σ H fun x H1=>tb σ H1 fun y H2=>r x y H2 Q
def tUn (r:V->Hp->VK->Prop) (ta:TE):TE:=fun σ H Q=>ta σ H fun x H1=>r x H1 Q
def rI (C:Int->Int->Prop) (g:Int->Int->V):R2:=fun x y H Q=>∃ i j,x= .int i/\y= .int j/\C i j/\Q (g i j) H
def rI0 (g:Int->Int->V):R2:=fun x y H Q=>∃ i j,x= .int i/\y= .int j/\Q (g i j) H
def rU (g:Int->V):V->Hp->VK->Prop:=fun x H Q=>∃ i,x= .int i/\Q (g i) H
section
variable {X:Cx} {a b c:Expr} {ta tb tc:TE} {pos:Pos}
theorem qr (ha:PE X a ta) (hb:PE X b tb) {pins:List (Addr×Obj)} {s:Shared} {σ:St} {H:Hp} {R:V->V->Hp->Prop} (I:Inv X pins σ H s)
  (h:ta σ H fun x H1=>tb σ H1 fun y H2=>R x y H2) {Q:Value->Shared->Prop} {f:Value->Value->Sem Value}
  (hf:∀ v u s2 x y H2,Inv X pins σ H2 s2->zF x v->zF y u->R x y H2->wpAny (model X.prog X.w) X.A (f v u) Q X.xe s2):
  wpAny (model X.prog X.w) X.A (eval a X.env) (fun v s₁=>wpAny (model X.prog X.w) X.A (eval b X.env) (fun u s₂=>wpAny (model X.prog X.w) X.A (f v u) Q X.xe s₂) X.xe s₁) X.xe s:=by
 refine thn (ha pins s σ H _ I h) fun v s1 ⟨x,H1,I1,r1,q1⟩=> ?_
 refine thn (hb pins s1 σ H1 _ I1 q1) fun u s2 ⟨y,H2,I2,r2,q2⟩=> ?_
 exact hf v u s2 x y H2 I2 r1 r2 q2
theorem qs {op:Operator} {r:R2} (ho:OpR X (binaryOp op) r) (ha:PE X a ta) (hb:PE X b tb):PE X (.BinOp a op b pos) (tOp r ta tb):=by
 intro pins s σ H Q I h
 exact wpAny_BinOp (qr ha hb I h fun v u s2 x y H2 I2 rx ry q=>ho pins s2 σ H2 x y v u Q I2 rx ry q)
theorem qt {op:UnaryOp} {r:V->Hp->VK->Prop} (ho:UnR X (unaryOp op) r) (ha:PE X a ta):PE X (.UnaryOp op a pos) (tUn r ta):=by
 intro pins s σ H Q I h
 exact UnaryOp_ (thn (ha pins s σ H _ I h) fun v s1 ⟨x,H1,I1,r1,q1⟩=>ho pins s1 σ H1 x v Q I1 r1 q1)
theorem opI {f:Value->Value->Sem Value} {C:Int->Int->Prop} {g:Int->Int->Int}
  (rule:∀ (i j:Int) (t u:Tok) (s:Shared) (Q:Value->Shared->Prop) (E:Value->Shared->Prop),C i j->Q (.int (g i j) s.toks) { s with toks:=s.toks+1 }->wpAny (model X.prog X.w) X.A (f (.int i t) (.int j u)) Q E s):
  OpR X f (rI C fun i j=> .int (g i j)):=by
 intro pins s σ H x y v u Q I rx ry h
 obtain ⟨i,j,rfl,rfl,hc,q⟩:=h
 obtain ⟨t,rfl⟩:=rx
 obtain ⟨t',rfl⟩:=ry
 exact rule i j t t' s _ _ hc ⟨.int (g i j),H,I.tok _,⟨_,rfl⟩,q⟩
theorem QH {f:Value->Value->Sem Value} {g:Int->Int->Int}
  (rule:∀ (i j:Int) (t u:Tok) (s:Shared) (Q:Value->Shared->Prop) (E:Value->Shared->Prop),Q (.int (g i j) s.toks) { s with toks:=s.toks+1 }->wpAny (model X.prog X.w) X.A (f (.int i t) (.int j u)) Q E s):
  OpR X f (rI0 fun i j=> .int (g i j)):=by
 intro pins s σ H x y v u Q I rx ry h
 obtain ⟨i,j,rfl,rfl,q⟩:=h
 obtain ⟨t,rfl⟩:=rx
 obtain ⟨t',rfl⟩:=ry
 exact rule i j t t' s _ _ ⟨.int (g i j),H,I.tok _,⟨_,rfl⟩,q⟩
theorem qu {f:Value->Value->Sem Value} {g:Int->Int->Bool}
  (rule:∀ (i j:Int) (t u:Tok) (s:Shared) (Q:Value->Shared->Prop) (E:Value->Shared->Prop),Q (.bool (g i j)) s->wpAny (model X.prog X.w) X.A (f (.int i t) (.int j u)) Q E s):
  OpR X f (rI0 fun i j=> .bl (g i j)):=by
 intro pins s σ H x y v u Q I rx ry h
 obtain ⟨i,j,rfl,rfl,q⟩:=h
 obtain ⟨t,rfl⟩:=rx
 obtain ⟨t',rfl⟩:=ry
 exact rule i j t t' s _ _ ⟨.bl (g i j),H,I,rfl,q⟩
def V4 (i j:Int):Prop:=0 < j/\j < 1073741824
def jt (i j:Int):Prop:=(-(2 ^ 64) < i/\i < 2 ^ 64)\/(-(2 ^ 64) < j/\j < 2 ^ 64)
theorem jt.ok {i j:Int} (h:jt i j):IntMulOk i j:=by
 rcases h with ⟨h1,h2⟩ | ⟨h1,h2⟩
 ·exact .of_left (intBits_le_64 h1 h2)
 ·exact .of_right (intBits_le_64 h1 h2)
theorem yj:OpR X (binaryOp .Add) (rI0 fun i j=> .int (i+j)):=QH fun _ _ _ _ _ _ _ q=>add_int q
theorem yk:OpR X (binaryOp .Sub) (rI0 fun i j=> .int (i - j)):=QH fun _ _ _ _ _ _ _ q=>sub_int q
theorem yl:OpR X (binaryOp .Mult) (rI jt fun i j=> .int (i*j)):=opI fun _ _ _ _ _ _ _ hc q=>mul_int q hc.ok
theorem uE:OpR X (binaryOp .FloorDiv) (rI V4 fun i j=> .int (i / j)):=opI fun i j _ _ _ _ _ hc q=>by
 have h1:(0:Int) < j:=hc.1
 have h2:j < 1073741824:=hc.2
 exact floordiv_int (by omega) (by rw [Int.fdiv_eq_ediv_of_nonneg i (by omega)]; exact q) (.inl (PyProof.noPylong_small (by omega)))
theorem ym:OpR X (binaryOp .Mod) (rI (fun _ j=>0 < j) fun i j=> .int (i % j)):=opI fun i j _ _ _ _ _ hc q=>by
 have h1:(0:Int) < j:=hc
 exact mod_int' (by omega) (by rw [Int.fmod_eq_emod_of_nonneg i (by omega)]; exact q)
theorem unI {f:Value->Sem Value} {g:Int->Int}
  (rule:∀ (i:Int) (t:Tok) (s:Shared) (Q:Value->Shared->Prop) (E:Value->Shared->Prop),Q (.int (g i) s.toks) { s with toks:=s.toks+1 }->wpAny (model X.prog X.w) X.A (f (.int i t)) Q E s):
  UnR X f (rU fun i=> .int (g i)):=by
 intro pins s σ H x v Q I rx h
 obtain ⟨i,rfl,q⟩:=h
 obtain ⟨t,rfl⟩:=rx
 exact rule i t s _ _ ⟨.int (g i),H,I.tok _,⟨_,rfl⟩,q⟩
theorem yn:UnR X (unaryOp .USub) (rU fun i=> .int (-i)):=unI fun _ _ _ _ _ q=>neg_int q
theorem wo:OpR X (binaryOp .Add) (fun x y H Q=>∃ i k,x= .int i/\y= .bl k/\Q (.int (i+b2i k)) H):=by
 intro pins s σ H x y v u Q I rx ry h
 obtain ⟨i,k,rfl,rfl,q⟩:=h
 obtain ⟨t,rfl⟩:=rx
 cases ry
 exact add_int_bool ⟨.int (i+b2i k),H,I.tok _,⟨_,rfl⟩,q⟩
end
section
variable {X:Cx} {a b c:Expr} {ta tb tc:TE} {pos:Pos}
theorem qw:OpR X (compareOp .Lt) (rI0 fun i j=> .bl (decide (i < j))):=qu fun _ _ _ _ _ _ _ q=>lt_int q
theorem qx:OpR X (compareOp .LtE) (rI0 fun i j=> .bl (decide (i<=j))):=qu fun _ _ _ _ _ _ _ q=>le_int q
theorem qy:OpR X (compareOp .Gt) (rI0 fun i j=> .bl (decide (j < i))):=qu fun _ _ _ _ _ _ _ q=>gt_int q
theorem ZM (b:Expr) {op:CmpOp} (h:op ≠ .In:=by decide) (h2:op ≠ .NotIn:=by decide):behindInMarks op b=false:=by
 have e1:(op == CmpOp.In)=false:=by cases op <;> first | rfl | exact absurd rfl h
 have e2:(op == CmpOp.NotIn)=false:=by cases op <;> first | rfl | exact absurd rfl h2
 cases b <;> simp [behindInMarks,e1,e2]
theorem uF {op:CmpOp} {r:R2} (ho:OpR X (compareOp op) r) (ha:PE X a ta) (hb:PE X b tb) (hm:behindInMarks op b=false):PE X (.Compare a [op] [b] pos) (tOp r ta tb):=by
 intro pins s σ H Q I h
 exact wpAny_Compare1 (qr ha hb I h fun v u s2 x y H2 I2 rx ry q=>ho pins s2 σ H2 x y v u Q I2 rx ry q) hm
def yo (t:TE):TT:=fun σ H Q=>t σ H fun x H' =>∃ k,x= .bl k/\Q k H'
theorem uG {op:CmpOp} {r:R2} (ho:OpR X (compareOp op) r) (ha:PE X a ta) (hb:PE X b tb) (hm:behindInMarks op b=false):PT X (.Compare a [op] [b] pos) (yo (tOp r ta tb)):=by
 intro pins s σ H Q I h
 refine wpAny_isTrue_Compare1 (thn (ha pins s σ H _ I h) fun v s1 ⟨x,H1,I1,r1,q1⟩=>thn (hb pins s1 σ H1 _ I1 q1) fun u s2 ⟨y,H2,I2,r2,q2⟩=>
  thn (ho pins s2 σ H2 x y v u _ I2 r1 r2 q2) fun c s3 ⟨z,H3,I3,r3,k,e,q3⟩=> ?_) hm
 subst e
 cases r3
 exact wpAny_truthy_bool ⟨H3,I3,q3⟩
def ud (r r' :R2) (ta tb tc:TE):TE:=fun σ H Q=>ta σ H fun x H1=>tb σ H1 fun y H2=>r x y H2 fun z H3=>∃ k,z= .bl k/\
 (if k=true then tc σ H3 fun w' H4=>r' y w' H4 Q else Q (.bl false) H3)
theorem Ws {op op' :CmpOp} {r r' :R2} (ho:OpR X (compareOp op) r) (ho' :OpR X (compareOp op') r') (ha:PE X a ta) (hb:PE X b tb) (hc:PE X c tc)
  (hm:lastMarks [op,op'] [b,c]=false:=by with_unfolding_all rfl):PE X (.Compare a [op,op'] [b,c] pos) (ud r r' ta tb tc):=by
 intro pins s σ H Q I h
 refine Compare_chain (thn (ha pins s σ H _ I h) fun v s1 ⟨x,H1,I1,r1,q1⟩=>chain_link (thn (hb pins s1 σ H1 _ I1 q1) fun u s2 ⟨y,H2,I2,r2,q2⟩=>
  thn (ho pins s2 σ H2 x y v u _ I2 r1 r2 q2) fun d s3 ⟨z,H3,I3,r3,k,e,q3⟩=> ?_)) hm
 subst e
 cases r3
 refine wpAny_truthy_bool ?_
 cases k with
 | false=>exact ite_ff ⟨.bl false,H3,I3,rfl,q3⟩
 | true=>exact ite_tt (chain_last (thn (hc pins s3 σ H3 _ I3 q3) fun w' s4 ⟨z',H4,I4,r4,q4⟩=>ho' pins s4 σ H4 y z' u w' Q I4 r2 r4 q4))
theorem Wt {op op' :CmpOp} {r r' :R2} (ho:OpR X (compareOp op) r) (ho' :OpR X (compareOp op') r') (ha:PE X a ta) (hb:PE X b tb) (hc:PE X c tc)
  (hm:lastMarks [op,op'] [b,c]=false:=by with_unfolding_all rfl):PT X (.Compare a [op,op'] [b,c] pos) (yo (ud r r' ta tb tc)):=by
 intro pins s σ H Q I h
 refine isTrue_chain (thn (ha pins s σ H _ I h) fun v s1 ⟨x,H1,I1,r1,q1⟩=>test_link (thn (hb pins s1 σ H1 _ I1 q1) fun u s2 ⟨y,H2,I2,r2,q2⟩=>
  thn (ho pins s2 σ H2 x y v u _ I2 r1 r2 q2) fun d s3 ⟨z,H3,I3,r3,k,e,q3⟩=> ?_)) hm
 subst e
 cases r3
 refine wpAny_truthy_bool ?_
 cases k with
 | false=>
  obtain ⟨k',e',q'⟩:=q3
  cases e'
  exact ite_ff ⟨H3,I3,q'⟩
 | true=>
  refine ite_tt (test_last (thn (hc pins s3 σ H3 _ I3 q3) fun w' s4 ⟨z',H4,I4,r4,q4⟩=>thn (ho' pins s4 σ H4 y z' u w' _ I4 r2 r4 q4) fun d' s5 ⟨z2,H5,I5,r5,k2,e2,q5⟩=> ?_))
  subst e2
  cases r5
  exact wpAny_truthy_bool ⟨H5,I5,q5⟩
def QI (K:PySem.W.Frag) (x:V) (H:Hp) (k:Bool):Prop:=
 match x with
 | .non=>k=false
 | .bl b=>k=b
 | .int i=>k=(i != 0)
 | .str y=>y.length<=sizeLine/\k=((y.length:Int) != 0)
 | .byt y=>y.size<=sizeLine/\k=((y.size:Int) != 0)
 | .ref p=>(∃ xs,SqL K H p xs/\k= !xs.isEmpty)\/(∃ xs,SqT K H p xs/\k= !xs.isEmpty)\/∃ kvs,H p=some (.dK kvs)/\k= !kvs.isEmpty
 | _=>False
theorem JO {κ:Type} {kvs:List (κ×V)} {vs:List (κ×Value)} (r:KV kvs vs):(!vs.isEmpty)= !kvs.isEmpty:=by
 cases r <;> rfl
theorem j6 {xs:List V} {its:List Value} (r:zz xs its):(!its.toArray.isEmpty)= !xs.isEmpty:=by
 cases r <;> simp
theorem j7:(sizeLine:Nat) < 2 ^ 63:=by rw [sizeLine_eq]; decide
theorem yq:V3 X (fun x H Q=>∃ k,QI X.K x H k/\Q k H):=by
 intro pins s σ H x v Q I rx h
 obtain ⟨k,e,q⟩:=h
 have hl:=j7
 have hs:sizeLine=16777216:=sizeLine_eq
 cases x with
 | non=>
  cases rx
  have e' :k=false:=e
  subst e'
  exact truthy_none ⟨H,I,q⟩
 | bl b=>
  cases rx
  have e' :k=b:=e
  subst e'
  exact wpAny_truthy_bool ⟨H,I,q⟩
 | int i=>
  obtain ⟨t,rfl⟩:=rx
  have e' :k=(i != 0):=e
  subst e'
  exact PySem.P.truthy_int ⟨H,I,q⟩
 | str y=>
  obtain ⟨t,rfl⟩:=rx
  obtain ⟨hy,e'⟩:y.length<=sizeLine/\k=((y.length:Int) != 0):=e
  subst e'
  exact PySem.P.truthy_str (by omega) ⟨H,I.tok _,q⟩
 | byt y=>
  obtain ⟨t,rfl⟩:=rx
  obtain ⟨hy,e'⟩:y.size<=sizeLine/\k=((y.size:Int) != 0):=e
  subst e'
  exact PySem.W.truthy_bytes (by omega) ⟨H,I.tok _,q⟩
 | ref p=>
  cases rx
  have e' :(∃ xs,SqL X.K H p xs/\k= !xs.isEmpty)\/(∃ xs,SqT X.K H p xs/\k= !xs.isEmpty)\/∃ kvs,H p=some (.dK kvs)/\k= !kvs.isEmpty:=e
  rcases e' with ⟨xs,hx,e'⟩ | ⟨xs,hx,e'⟩ | ⟨kvs,hx,e'⟩
  ·subst e'
   obtain ⟨its,r,pl,hz⟩:=I.list hx
   have hlen:=r.length
   exact wpAny_truthy_list pl.isList (by simp only [List.size_toArray]; omega) ⟨H,I.tok _,by rw [j6 r]; exact q⟩
  ·subst e'
   obtain ⟨its,r,pl,hz⟩:=I.tuple hx
   have hlen:=r.length
   exact truthy_tuple pl (by simp only [List.size_toArray]; omega) ⟨H,I.tok _,by rw [j6 r]; exact q⟩
  ·subst e'
   obtain ⟨hz,hS,vs,r,m⟩:kvs.length<=sizeLine/\(p == sysModules)=false/\∃ vs,KV kvs vs/\s.heap.DictOf (jY X.prog X.w) p vs:=I.hok p _ hx
   have hlen:kvs.length=vs.length:=Paired.length r
   exact wpAny_truthy_dict hS m (by omega) ⟨H,I.tok _,by rw [JO r]; exact q⟩
 | _=>exact (show False from e).elim
theorem Wu (ha:PE X a ta) (he:∀ whole,isTrue a X.env whole=(do let v ← whole; standAt a.pos; holding [v] (truthy v))):
  PT X a (fun σ H Q=>ta σ H fun x H' =>∃ k,QI X.K x H' k/\Q k H'):=by
 intro pins s σ H Q I h
 exact isTrue_plain (thn (ha pins s σ H _ I h) fun v s1 ⟨x,H1,I1,r1,q1⟩=>yq pins s1 σ H1 x v Q I1 r1 q1) (he _)
theorem JP:OpR X (binaryOp .Add) (fun x y H Q=>∃ i j,x= .str i/\y= .str j/\i.length+j.length<=sizeLine/\Q (.str (i++j)) H):=by
 intro pins s σ H x y v u Q I rx ry h
 obtain ⟨i,j,rfl,rfl,hz,q⟩:=h
 obtain ⟨t,rfl⟩:=rx
 obtain ⟨t',rfl⟩:=ry
 exact add_str (fun t' tk=>⟨.str (i++j),H,I.tok _,⟨_,rfl⟩,q⟩) hz
theorem ZF {x:V} {us:List Value} (r:zz [x] us):∃ u,us=[u]/\zF x u:=by
 cases r with
 | cons r1 r2=>cases r2; exact ⟨_,rfl,r1⟩
theorem wp {x y:V} {us:List Value} (r:zz [x,y] us):∃ u w',us=[u,w']/\zF x u/\zF y w' :=by
 cases r with
 | cons r1 r2=>
  cases r2 with
  | cons r3 r4=>cases r4; exact ⟨_,_,rfl,r1,r3⟩
theorem wq (hc:X.calm=true):Z2 X (.builtin "max") (fun xs H Q=>∃ i j,xs=[.int i, .int j]/\Q (.int (if j > i then j else i)) H):=by
 intro pins s σ H xs us Q I r h
 obtain ⟨i,j,rfl,q⟩:=h
 obtain ⟨u,w',rfl,⟨t,rfl⟩,⟨t',rfl⟩⟩:=wp r
 refine max_two_ints (I.ok.hd hc) fun h' tk k=>⟨_,H,I.kept k, ?_,q⟩
 by_cases hj:j > i
 ·rw [if_pos hj,if_pos hj]; exact ⟨_,rfl⟩
 ·rw [if_neg hj,if_neg hj]; exact ⟨_,rfl⟩
end
end L2
namespace L2
open PySem PySem.Spec PyProof.Rows
structure yr (h:Heap) (x dx C:Addr) (mA:Str->Option Value):Prop where
 obj:h.get? x=some (PySem.W.instObj C dx)
 ns:h.Ns1 dx mA
 ne:dx ≠ x
theorem wt {h:Heap} {dx:Addr} {mA:Str->Option Value} (n:h.Ns1 dx mA):∃ od,h.get? dx=some od/\∀ name,PySem.W.lookIn name od=some (mA name):=by
 obtain ⟨o,es,ep,ho,hd,hk,_,hm⟩:=n
 refine ⟨o,ho,fun name=> ?_⟩
 have e:=hm name
 unfold nsFind findBy at e
 rw [← Array.find?_toList] at e
 unfold PySem.W.lookIn
 rw [hd]
 dsimp only
 split
 ·rename_i y q
  rw [q] at e
  exact congrArg some e
 ·rename_i q
  rw [q] at e
  have a:es.toList.any (·.refKey)=false:=by
   rw [List.any_eq_false]
   intro y hy
   obtain ⟨z,t,hkey⟩:=hk y (Array.mem_toList_iff.mp hy)
   simp [DictEntry.refKey,hkey]
  have a' :¬ es.toList.any (·.refKey)=true:=by rw [a]; exact Bool.false_ne_true
  rw [if_neg a']
  exact congrArg some e
theorem yr.look {h:Heap} {x dx C:Addr} {mA:Str->Option Value} (I:yr h x dx C mA):∃ od,PySem.W.InstAt h x (PySem.W.instObj C dx) C (some od)/\∀ name,PySem.W.lookIn name od=some (mA name):=
 let ⟨od,ho,hl⟩:=wt I.ns
 ⟨od,⟨I.obj,rfl,rfl,ho⟩,hl⟩
section
variable {prog:Program} {w:World} {A:Around} {E:Value->Shared->Prop} {s:Shared} {K:PySem.W.Frag} {x dx C f:Addr} {mA:Str->Option Value} {name:Str} {v:Value}
theorem uH {ns:List Str} {Q:Unit->Shared->Prop} (X:K.In s.heap) (I:yr s.heap x dx C mA)
  (hs:PySem.W.findIn K (.ref C) "__setattr__"=some (some (.builtin "object.__setattr__"))) (hp:PySem.W.plainOver K C=true) (ht:PySem.W.takerIn K C name=some none) (hh:PySem.W.hasDictIn K C=true)
  (hw:PySem.Within mA ns) (hsz:ns.length<=sizeLine)
  (h:∀ h',yr h' x dx C (fun y=>if y=name then some v else mA y)->Heap.SameBut dx s.heap h' ->Q () { s with heap:=h',toks:=s.toks+2 }):
  wpAny (model prog w) A (setAttr (.ref x) name v) Q E s:=by
 obtain ⟨od,J,hl⟩:=I.look
 refine PySem.W.set_plain X J hs (PySem.W.osa_open (s:={ s with toks:=s.toks+1 }) (r:=none) X J hp ht fun b=> ?_)
 obtain ⟨cd,hc,hd'⟩:=PySem.W.any_some hh
 have hx:s.heap.get? x=some ⟨.ref C,some dx, .plain, #[]⟩:=I.obj
 refine wpAny_bind (wpAny_pure (wpAny_bind (wpAny_bind (wpAny_loadPart hx (wpAny_bind (PySem.W.Looks.here (s:={ s with toks:=s.toks+1 }) (PySem.W.looks_clsIn X hc) ?_))))))
 rw [hd']
 refine wpAny_pure (a:=some dx) (wpAny_bind (wpAny_pure (wpAny_bind ?_)))
 refine wpAny_nsSet1 (s:={ s with toks:=s.toks+1 }) I.ns fun h' hn2 hs2=> ?_
 obtain ⟨oD,esD,epD,hoD,hdD,hcD⟩:=hn2.count (PySem.Within.cons name v hw)
 refine wpAny_bind (wpAny_lookBehind hoD (by rw [hdD]; exact pastItsLine_dict (Nat.le_trans hcD (by rw [List.length_cons]; omega))) ?_)
 exact wpAny_pure (h _ ⟨(hs2.2 _ (Ne.symm I.ne)).trans I.obj,hn2,I.ne⟩ hs2)
theorem Wv {R:Result->Shared->Prop} {vs:List Value} {kw:List (Str×Value)} (X:K.In s.heap) (hm:PySem.W.makesIn K C=true)
  (hi:PySem.W.findIn K (.ref C) "__init__"=some (some (.ref f))) (hf:PySem.W.typeIn K (.ref f)=some (.type "function"))
  (h:codeAny (model prog w) (A.under (.builtin "type.__call__" ⟨.ref C :: vs,kw⟩)) (.call (.ref f) ⟨.ref (s.heap.objs.size+1) :: vs,kw⟩) (PySem.W.InitBack (s.heap.objs.size+1) R)
   { s with heap:=(s.heap.push PySem.W.emptyDict).push (PySem.W.instObj C s.heap.objs.size) }):
  codeAny (model prog w) A (.call (.ref C) ⟨vs,kw⟩) R s:=by
 obtain ⟨hh,g,d,t,os⟩:=s
 exact PySem.W.make_core (PySem.W.makes_of X hm) (PySem.W.looks_findIn X hi) (fun self=>PySem.W.bind_fn X self hf) (.inl rfl) h
end
def jA (f:Str) (v:V):List (Str×V)->List (Str×V)
 | []=>[(f,v)]
 | (g,x) :: r=>if g=f then (g,v) :: r else (g,x) :: jA f v r
theorem ZN (f g:Str) (v:V):∀ fs:List (Str×V),(jA f v fs).lookup g=if g=f then some v else fs.lookup g
 | []=>by
  show List.lookup g [(f,v)]=_
  by_cases h:g=f
  ·have hb:(g == f)=true:=beq_iff_eq.mpr h
   simp only [List.lookup,hb,if_pos h]
  ·have hb:(g == f)=false:=beq_eq_false_iff_ne.mpr h
   simp only [List.lookup,hb,if_neg h]
 | (k,x) :: r=>by
  have ih:=ZN f g v r
  rw [show jA f v ((k,x) :: r)=(if k=f then (k,v) :: r else (k,x) :: jA f v r) from rfl]
  by_cases hk:k=f
  ·rw [if_pos hk]
   by_cases h:g=k
   ·have hb:(g == k)=true:=beq_iff_eq.mpr h
    simp only [List.lookup,hb,if_pos (h.trans hk)]
   ·have hb:(g == k)=false:=beq_eq_false_iff_ne.mpr h
    simp only [List.lookup,hb,if_neg (fun e:g=f=>h (e.trans hk.symm))]
  ·rw [if_neg hk]
   by_cases h:g=k
   ·have hb:(g == k)=true:=beq_iff_eq.mpr h
    simp only [List.lookup,hb,if_neg (fun e:g=f=>hk (h.symm.trans e))]
   ·have hb:(g == k)=false:=beq_eq_false_iff_ne.mpr h
    simp only [List.lookup,hb]
    exact ih
theorem ZO (f:Str) (v:V):∀ fs:List (Str×V),f∈(jA f v fs).map (·.1)/\∀ g,g∈fs.map (·.1)->g∈(jA f v fs).map (·.1)
 | []=>⟨by simp [jA],fun g h=>by simp at h⟩
 | (k,x) :: r=>by
  obtain ⟨i1,i2⟩:=ZO f v r
  rw [show jA f v ((k,x) :: r)=(if k=f then (k,v) :: r else (k,x) :: jA f v r) from rfl]
  by_cases hk:k=f
  ·rw [if_pos hk]
   subst hk
   exact ⟨by simp,fun g h=>by simpa using h⟩
  ·rw [if_neg hk]
   refine ⟨?_,fun g h=> ?_⟩
   ·rw [List.map_cons]
    exact List.mem_cons_of_mem _ i1
   ·rw [List.map_cons] at h ⊢
    rcases List.mem_cons.mp h with e | e
    ·exact List.mem_cons.mpr (.inl e)
    ·exact List.mem_cons_of_mem _ (i2 g e)
theorem ZP (f:Str) (v:V):∀ fs:List (Str×V),(jA f v fs).length<=fs.length+1
 | []=>by simp [jA]
 | (k,x) :: r=>by
  have ih:=ZP f v r
  rw [show jA f v ((k,x) :: r)=(if k=f then (k,v) :: r else (k,x) :: jA f v r) from rfl]
  by_cases hk:k=f
  ·rw [if_pos hk,List.length_cons,List.length_cons]; omega
  ·rw [if_neg hk,List.length_cons,List.length_cons]; omega
section
variable {P:Program} {w:World} {H H' :Hp} {h h' :Heap} {a C dx:Addr} {fs fs' :List (Str×V)}
theorem wu (hok:HOk P w H h) (e:H a=some (.ins C dx fs)):∃ mA,yr h a dx C mA/\(∀ f,YX (fs.lookup f) (mA f))/\PySem.Within mA (fs.map (·.1))/\fs.length<=1000/\H dx=some (.own a):=by
 obtain ⟨d,z,ne,ob,mA,n,r,q⟩:=(show zD P w H h a (.ins C dx fs) from hok a _ e)
 exact ⟨mA,⟨ob,n,ne⟩,r,q,z,d⟩
end
structure Cls (K:PySem.W.Frag) (C:Addr):Prop where
 pg:PySem.W.plainGet K C Str.empty=true
 hd:PySem.W.hasDictIn K C=true
 po:PySem.W.plainOver K C=true
 sa:PySem.W.findIn K (.ref C) "__setattr__"=some (some (.builtin "object.__setattr__"))
theorem Cls.get {K:PySem.W.Frag} {C:Addr} (c:Cls K C) (f:Str):PySem.W.plainGet K C f=true:=c.pg
def NoAttr (K:PySem.W.Frag) (C:Addr) (f:Str):Prop:=PySem.W.findIn K (.ref C) f=some none
theorem NoAttr.taker {K:PySem.W.Frag} {C:Addr} {f:Str} (n:NoAttr K C f):PySem.W.takerIn K C f=some none:=by
 unfold PySem.W.takerIn
 rw [show PySem.W.findIn K (.ref C) f=some none from n]
 rfl
section
variable {X:Cx} {pins:List (Addr×Obj)} {σ:St} {H:Hp} {s:Shared} {a C dx:Addr} {fs:List (Str×V)} {f:Str} {v:V} {A:Around} {E:Value->Shared->Prop}
theorem JQ {y:V} {u:Value} {Q:Unit->Shared->Prop} (I:Inv X pins σ H s) (e:H a=some (.ins C dx fs)) (c:Cls X.K C) (n:NoAttr X.K C f) (hl:fs.length < 1000) (ry:zF y u)
  (h:∀ s',Inv X pins σ (upd H a (.ins C dx (jA f y fs))) s' ->Q () s'):wpAny (model X.prog X.w) A (setAttr (.ref a) f u) Q E s:=by
 obtain ⟨mA,O,r,wi,_,ho⟩:=wu I.hok e
 have hz:(fs.map (·.1)).length<=sizeLine:=by rw [List.length_map,sizeLine_eq]; omega
 refine uH I.kIn O c.sa c.po n.taker c.hd wi hz fun h' O' sb=>h _ ?_
 have hd:∃ o,h'.get? dx=some o:=let ⟨o,_,_,e',_⟩:=O'.ns; ⟨o,e'⟩
 refine I.write (x:=a) (e:=dx) (by rw [e]; exact True.intro) (.inr ho) (fun b q hb z=>(sb.2 b hb).trans z) hd ?_
 refine ⟨by rw [zf O.ne]; exact ho, ?_,O.ne,O'.obj,_,O'.ns,fun g=> ?_,fun g hg=> ?_⟩
 ·have:=ZP f y fs; omega
 ·show YX ((jA f y fs).lookup g) (if g=f then some u else mA g)
  rw [ZN]
  by_cases q:g=f
  ·rw [if_pos q,if_pos q]; exact ry
  ·rw [if_neg q,if_neg q]; exact r g
 ·by_cases q:g=f
  ·rw [q]; exact (ZO f y fs).1
  ·refine (ZO f y fs).2 g (wi g fun z=>hg ?_)
   show (if g=f then some u else mA g)=none
   rw [if_neg q]; exact z
theorem Inv.made (I:Inv X pins σ H s):Inv X pins σ (upd (upd H s.heap.objs.size (.own (s.heap.objs.size+1))) (s.heap.objs.size+1) (.ins C s.heap.objs.size []))
  { s with heap:=(s.heap.push PySem.W.emptyDict).push (PySem.W.instObj C s.heap.objs.size) }:=by
 have e1:(s.heap.push PySem.W.emptyDict).get? s.heap.objs.size=some PySem.W.emptyDict:=Heap.get?_push_size s.heap rfl
 have e2:((s.heap.push PySem.W.emptyDict).push (PySem.W.instObj C s.heap.objs.size)).get? (s.heap.objs.size+1)=some (PySem.W.instObj C s.heap.objs.size):=by
  have:=Heap.get?_push_size (s.heap.push PySem.W.emptyDict) (o:=PySem.W.instObj C s.heap.objs.size) rfl
  rwa [Heap.size_push] at this
 have e3:(s.heap.push PySem.W.emptyDict).Ns s.heap.objs.size (fun _=>none):=⟨PySem.W.emptyDict, #[],_,e1,rfl,(fun e he=>absurd he (by simp)),fun _=>rfl⟩
 have I1:=I.laid (a:=s.heap.objs.size) (o:= .own (s.heap.objs.size+1)) (h' :=s.heap.push PySem.W.emptyDict) (t' :=s.toks) (fun b u q=>Heap.get?_push_of_some _ q) (Nat.le_refl _) ⟨_,e1⟩
 refine I1.laid (a:=s.heap.objs.size+1) (o:= .ins C s.heap.objs.size []) (t' :=s.toks) (fun b u q=>Heap.get?_push_of_some _ q) (Nat.le_of_eq (Heap.size_push _ _)) ?_
 have ne:s.heap.objs.size ≠ s.heap.objs.size+1:=Nat.ne_of_lt (Nat.lt_succ_self _)
 refine ⟨by rw [zf ne,zg],Nat.zero_le _,ne,e2,fun _=>none,(Heap.Ns1.of_empty e3).at fun o q=>Heap.get?_push_of_some _ q,fun _=>True.intro,fun y hy=>absurd rfl hy⟩
end
def V5 (K:PySem.W.Frag) (ta tv:TE) (f:Str):TS:=fun D σ H=>tv σ H fun y H1=>ta σ H1 fun x H2=>∃ a C dx fs,x= .ref a/\H2 a=some (.ins C dx fs)/\Cls K C/\NoAttr K C f/\fs.length < 1000/\
 D.nx σ (upd H2 a (.ins C dx (jA f y fs)))
section
variable {X:Cx} {o e value:Expr} {f:Str} {pos pos' tpos:Pos} {ta tv:TE}
theorem ue (ha:PE X o ta) (hv:PE X value tv) (hs:swapsWith value (some (.Attribute o f pos')) pos.line X.env=pure false):PS X (.Assign [.Attribute o f pos'] value pos) (V5 X.K ta tv f):=by
 intro pins s σ H D I h
 refine plainObj_wpAny_Assign_Attribute (thn (hv pins s σ H _ I h) fun u s1 ⟨y,H1,I1,ry,q⟩=>thn (ha pins s1 σ H1 _ I1 q) fun ov s2 ⟨x,H2,I2,rx,a,C,dx,fs,ex,ea,c,n,l,q2⟩=> ?_) hs
 subst ex
 obtain rfl:ov=Value.ref a:=rx
 exact JQ I2 ea c n l ry fun s3 I3=>⟨σ,_,I3,q2⟩
end
section
variable {X:Cx} {pins:List (Addr×Obj)} {σ:St} {H:Hp} {s:Shared} {A:Around} {E:Value->Shared->Prop} {Q:Value->Shared->Prop} {c:Value} {b:Bool}
inductive JR (K:PySem.W.Frag) (H:Hp):V->Value->Prop where
 | non:JR K H .non (.type "NoneType")
 | bl (x:Bool):JR K H (.bl x) (.type "bool")
 | int (i:Int):JR K H (.int i) (.type "int")
 | str (x:Str):JR K H (.str x) (.type "str")
 | flt (x:UInt64):JR K H (.flt x) (.type "float")
 | lst {a:Addr} {xs:List V} (e:H a=some (.lst xs)):JR K H (.ref a) (.type "list")
 | frz {a:Addr} {o:Obj} {xs:List V} (e:H a=some (.frz o (.lst xs))):JR K H (.ref a) (.type "list")
 | tup {a:Addr} {xs:List V} (e:H a=some (.tup xs)):JR K H (.ref a) (.type "tuple")
 | dK {a:Addr} {kvs:List (Key×V)} (e:H a=some (.dK kvs)):JR K H (.ref a) (.type "dict")
 | dT {a:Addr} {kvs:List (List Key×V)} (e:H a=some (.dT kvs)):JR K H (.ref a) (.type "dict")
 | ins {a C dx:Addr} {fs:List (Str×V)} (e:H a=some (.ins C dx fs)) (cl:Cls K C) (ha:PySem.W.findIn K (.ref C) "__class__"=some (some (.builtin "object.__class__")))
   (hn:PySem.W.specialIn K (.builtin "object.__class__") "__get__"=some (some (.builtin "getset_descriptor.__get__"))) (htk:PySem.W.takesIn K (.builtin "object.__class__")=some true)
   (hm:PySem.W.mroIn K C (.type "object")=some true):JR K H (.ref a) (.ref C)
theorem wv {x:V} {u t:Value} (I:Inv X pins σ H s) (rx:zF x u) (ty:JR X.K H x t) (e:PySem.W.kitOne X.K t c=some b) (h:∀ tk,Q (.bool b) { s with toks:=tk }):
  wpAny (model X.prog X.w) A (call (.builtin "isinstance") [u,c]) Q E s:=by
 cases ty with
 | non=>cases (show u=Value.none from rx); exact PySem.W.kia_one PySem.W.kitx_none I.kIn True.intro e (fun z=>nomatch z) h
 | bl y=>cases (show u=Value.bool y from rx); exact PySem.W.kia_one PySem.W.kitx_bool I.kIn True.intro e (fun z=>nomatch z) h
 | int i=>obtain ⟨t,q⟩:=(show ∃ t,u=Value.int i t from rx); cases q; exact PySem.W.kia_one PySem.W.kitx_int I.kIn True.intro e (fun z=>nomatch z) h
 | str y=>obtain ⟨t,q⟩:=(show ∃ t,u=Value.str y t from rx); cases q; exact PySem.W.kia_one PySem.W.kitx_str I.kIn True.intro e (fun z=>nomatch z) h
 | flt y=>obtain ⟨t,q⟩:=(show ∃ t,u=Value.float y t from rx); cases q; exact PySem.W.kia_one PySem.W.kitx_float I.kIn True.intro e (fun z=>nomatch z) h
 | @lst a xs ea=>
  cases (show u=Value.ref a from rx)
  obtain ⟨_,_,n,_,h1⟩:=(show zD X.prog X.w H s.heap a (.lst xs) from I.hok a _ ea)
  exact PySem.W.kia_one PySem.W.kitx_list I.kIn ⟨_,h1,rfl⟩ e (fun z=>nomatch z) h
 | @frz a ob xs ea=>
  cases (show u=Value.ref a from rx)
  obtain ⟨_,_,_,n,_,h1⟩:=(show zD X.prog X.w H s.heap a (.frz ob (.lst xs)) from I.hok a _ ea)
  exact PySem.W.kia_one PySem.W.kitx_list I.kIn ⟨_,h1,rfl⟩ e (fun z=>nomatch z) h
 | @tup a xs ea=>
  cases (show u=Value.ref a from rx)
  obtain ⟨_,_,_,p,_⟩:=(show zD X.prog X.w H s.heap a (.tup xs) from I.hok a _ ea)
  obtain ⟨o,h1,h2,_⟩:=p
  exact PySem.W.kia_one PySem.W.kitx_tuple I.kIn ⟨o,h1,h2⟩ e (fun z=>nomatch z) h
 | @dK a kvs ea=>
  cases (show u=Value.ref a from rx)
  obtain ⟨_,_,vs,_,p⟩:=(show zD X.prog X.w H s.heap a (.dK kvs) from I.hok a _ ea)
  obtain ⟨o,es,ep,h1,h2,_⟩:=p
  exact PySem.W.kia_one PySem.W.kitx_dict I.kIn ⟨o,h1,h2.1⟩ e (fun z=>nomatch z) h
 | @dT a kvs ea=>
  cases (show u=Value.ref a from rx)
  obtain ⟨_,_,xs,_,o,es,ep,h1,h2,_⟩:=(show zD X.prog X.w H s.heap a (.dT kvs) from I.hok a _ ea)
  exact PySem.W.kia_one PySem.W.kitx_dict I.kIn ⟨o,h1,h2.1⟩ e (fun z=>nomatch z) h
 | @ins a C dx fs ea cl ha hn htk hm=>
  cases (show u=Value.ref a from rx)
  obtain ⟨mA,O,_⟩:=wu I.hok ea
  obtain ⟨od,J,_⟩:=O.look
  exact PySem.W.kia_one (PySem.W.kitx_own (cl.get _) cl.hd ha hn htk hm) I.kIn J e (fun z=>nomatch z) h
end
end L2
namespace L2
open PySem PySem.Spec PyProof.Rows
structure Z1 (k:Nat) (A:Around):Prop where
 hd:A.handled=none
 dp:A.depth+3*k+5 < recursionLimit
 un:A.units+16*k+200 < cLine
 gd:A.guards=some []
theorem Z1.mono {j k:Nat} {A:Around} (r:Z1 k A) (h:j<=k):Z1 j A:=⟨r.hd,by have:=r.dp; omega,by have:=r.un; omega,r.gd⟩
theorem Z1.deeper {k:Nat} {A:Around} (r:Z1 (k+1) A) (env:Env):Z1 k (A.deeper env):=
 ⟨r.hd,by have:=r.dp; show A.depth+1+3*k+5 < _; omega,by have:=r.un; show A.units+3+16*k+200 < _; omega,r.gd⟩
theorem JS {A:Around} {C:Addr} {us:List Value} {kw:List (Str×Value)}:(A.under (.builtin "type.__call__" ⟨.ref C :: us,kw⟩)).depth=A.depth+1:=by
 first | rfl | simp [Around.under,Code.weight,Code.isCreation,Code.isGuard,Code.isCaller,Code.frames,Code.isFrame,guardIds]
theorem JT {A:Around} {C:Addr} {us:List Value} {kw:List (Str×Value)}:(A.under (.builtin "type.__call__" ⟨.ref C :: us,kw⟩)).units=A.units+1:=by
 first | rfl | simp [Around.under,Code.cUnits,Code.frames,Code.isFrame]
theorem Z1.make {k:Nat} {A:Around} (r:Z1 (k+1) A) (C:Addr) (us:List Value) (kw:List (Str×Value)):Z1 k (A.under (.builtin "type.__call__" ⟨.ref C :: us,kw⟩)):=
 ⟨r.hd,by have:=r.dp; rw [JS]; omega,by have:=r.un; rw [JT]; omega,by first | exact r.gd | simpa [Around.under,Code.guards,Code.isGuard,pushGuards,guardIds] using r.gd⟩
theorem Z1.depth {k:Nat} {A:Around} (r:Z1 k A):A.depth < recursionLimit:=by have:=r.dp; omega
theorem Z1.units {k:Nat} {A:Around} (r:Z1 k A):A.units+64 < cLine:=by have:=r.un; omega
def V6:TA:=fun _ H Q=>Q [] H
def qz (ta:TE) (tr:TA):TA:=fun σ H Q=>ta σ H fun x H1=>tr σ H1 fun xs H2=>Q (x :: xs) H2
section
variable {X:Cx} {e:Expr} {es:List Expr} {te:TE} {t:TA} {pos:Pos}
theorem zB:PA X [] V6:=fun _ _ _ _ H Q I h=>Calls.spliced_nil ⟨[],H,I, .nil,h⟩
theorem zi (ha:PE X e te) (hr:PA X es t) (hs:starEach (e :: es) X.env=(false,eval e X.env) :: starEach es X.env:=by rfl):PA X (e :: es) (qz te t):=by
 intro pos pins s σ H Q I h
 rw [hs]
 show wpAny _ _ (spliced ((false,eval e X.env) :: backTo pos (starEach es X.env))) _ _ s
 refine Calls.spliced_cons (thn (ha pins s σ H _ I h) fun u s1 ⟨x,H1,I1,r1,q1⟩=> ?_)
 exact thn (hr pos pins s1 σ H1 _ I1 q1) fun us s2 ⟨xs,H2,I2,r2,q2⟩=>⟨x :: xs,H2,I2, .cons r1 r2,q2⟩
def V7 (t:TA):TE:=fun σ H Q=>t σ H fun xs H1=>xs.length<=sizeLine/\∀ p,H1 p=none->Q (.ref p) (upd H1 p (.tup xs))
def V8 (t:TA):TE:=fun σ H Q=>t σ H fun xs H1=>xs.length<=sizeLine/\∀ p,H1 p=none->Q (.ref p) (upd H1 p (.lst xs))
theorem uf {x1} (h:PA X es t):PE X (.Tuple es x1 pos) (V7 t):=by
 intro pins s σ H Q I hq
 refine wpAny_Tuple_spliced (thn (h pos pins s σ H _ I hq) fun us s1 ⟨xs,H1,I1,r,z,q⟩=>⟨by rw [← r.length]; exact z, ?_⟩)
 have hf:H1 s1.heap.objs.size=none:=I1.hok.fresh (Nat.le_refl _)
 refine ⟨.ref s1.heap.objs.size,upd H1 s1.heap.objs.size (.tup xs),I1.laid (t' :=s1.toks) (fun b u e=>Heap.get?_push_of_some _ e) (Nat.le_refl _) ?_,rfl,q _ hf⟩
 exact ⟨z,us,r,⟨_,Heap.get?_push_size _ rfl,rfl,_,rfl⟩, .inr ⟨_,Heap.get?_push_size _ rfl,rfl⟩⟩
theorem ug (h:PA X es t):PE X (.List es pos) (V8 t):=by
 intro pins s σ H Q I hq
 refine wpAny_List_spliced (thn (h pos pins s σ H _ I hq) fun us s1 ⟨xs,H1,I1,r,z,q⟩=>⟨by rw [← r.length]; exact z, ?_⟩)
 have hf:H1 s1.heap.objs.size=none:=I1.hok.fresh (Nat.le_refl _)
 refine ⟨.ref s1.heap.objs.size,upd H1 s1.heap.objs.size (.lst xs),I1.laid (t' :=s1.toks) (fun b u e=>Heap.get?_push_of_some _ e) (Nat.le_refl _) ?_,rfl,q _ hf⟩
 exact ⟨z,us,0,r,Heap.get?_push_size _ rfl⟩
end
abbrev Sp:=List V->Hp->VK->XK->Prop
abbrev CXT:=List Env->Hp->Shared->XK->Value->Shared->Prop
structure Jo (P:Program) (w:World) (K:PySem.W.Frag) (mg:Str->Option Value) (base:Heap) (A:Around) (outer:List Env) (s:Shared) (H:Hp):Prop where
 frames:A.frames=some outer
 mod:Mod K mg base
 bs:∀ b o,base.get? b=some o->s.heap.get? b=some o/\H b=none
 bsz:base.objs.size<=s.heap.objs.size
 funs:s.heap.FunFrames base outer
 frf:∀ b∈frs outer,H b=none
 hok:HOk P w H s.heap
 bare:AllBare s.gens
def CE (outer:List Env) (P:Program) (w:World) (H:Hp) (s:Shared) (Q:VK) (u:Value) (s' :Shared):Prop:=
 ∃ v H',s'.os=s.os/\AllBare s'.gens/\Un (frs outer) [] H H' s.heap s'.heap/\HOk P w H' s'.heap/\zF v u/\Q v H'
def CR (CX:CXT) (outer:List Env) (P:Program) (w:World) (H:Hp) (s:Shared) (Q:VK) (E:XK) (r:Result) (s' :Shared):Prop:=
 match r with
 | .ok (.ret u)=>CE outer P w H s Q u s'
 | .ok _=>False
 | .error e=>CX outer H s E e s'
structure zA (P:Program) (w:World) (K:PySem.W.Frag) (mg:Str->Option Value) (base:Heap) (CX:CXT) (k:Nat) (f:Addr) (fd:FuncData) (ps:List Str) (sp:Sp):Prop where
 len:∀ vs H Q E,sp vs H Q E->vs.length=ps.length
 run:∀ (A:Around) (outer:List Env) (s:Shared) (H:Hp) (args:Args) (us:List Value) (vs:List V) (Q:VK) (E:XK),Z1 k A->Jo P w K mg base A outer s H->BindsTo s fd args (ps.zip us)->zz vs us->sp vs H Q E->
  codeAny (model P w) A (.call (.ref f) args) (CR CX outer P w H s Q E) s
theorem Jo.make {P:Program} {w:World} {K:PySem.W.Frag} {mg:Str->Option Value} {base:Heap} {A:Around} {outer:List Env} {s:Shared} {H:Hp} (e:Jo P w K mg base A outer s H) (C:Addr) (us:List Value) (kw:List (Str×Value)):
  Jo P w K mg base (A.under (.builtin "type.__call__" ⟨.ref C :: us,kw⟩)) outer s H:=⟨by first | exact e.frames | (simpa [Around.under,Code.envs,Code.isFrame,pushEnvs] using e.frames),e.mod,e.bs,e.bsz,e.funs,e.frf,e.hok,e.bare⟩
section
variable {X:Cx} {pins:List (Addr×Obj)} {σ:St} {H:Hp} {s s' :Shared}
theorem Inv.env0 (I:Inv X pins σ H s):Jo X.prog X.w X.K X.mg X.base X.A X.stack s H:=
 ⟨I.ok.frames,I.ok.mod,I.bs,Nat.le_trans I.ok.bsz I.sz,I.stack,I.stkFree,I.hok,I.bare⟩
theorem Inv.after {Q:VK} {u:Value} (I:Inv X pins σ H s) (h:CE X.stack X.prog X.w H s Q u s'):EP X pins σ Q u s' :=by
 obtain ⟨v,H',os,bare,un,hok,r,q⟩:=h
 obtain ⟨hh,g,d,t,os'⟩:=s'
 obtain rfl:os' =s.os:=os
 exact ⟨v,H',I.call (h' :=hh) (g' :=g) (d' :=d) (t' :=t) (ch:=[]) un hok bare (fun b z=>absurd z (by simp)),r,q⟩
end
def qA (sp:Sp) (dvs:List V) (E:XK) (t:TA):TE:=fun σ H Q=>t σ H fun vs H1=>sp (vs++dvs) H1 Q E
def qB (C:Addr) (sp:Sp) (dvs:List V) (E:XK) (t:TA):TE:=fun σ H Q=>t σ H fun vs H1=>∀ x dx,H1 x=none->H1 dx=none->dx ≠ x->
 sp (.ref x :: (vs++dvs)) (upd (upd H1 dx (.own x)) x (.ins C dx [])) (fun v H2=>v= .non/\Q (.ref x) H2) E
def Binds (K:PySem.W.Frag) (fd:FuncData) (ps:List Str) (ds:List Value):Prop:=
 ∀ (s:Shared) (us:List Value),K.In s.heap->(us++ds).length=ps.length->BindsTo s fd ⟨us,[]⟩ (ps.zip (us++ds))
theorem Binds.all {K:PySem.W.Frag} {fd:FuncData} {ps:List Str} (h:∀ us:List Value,us.length=ps.length->bindArgs fd ⟨us,[]⟩=pure (ps.zip us)):Binds K fd ps []:=fun s us _ hl=>by
 rw [List.append_nil] at hl ⊢
 exact .of_eq (h us hl)
def zJ (CX:CXT) (X:Cx) (E:XK):Prop:=∀ (pins:List (Addr×Obj)) (σ:St) (H:Hp) (s:Shared) (e:Value) (s' :Shared),Inv X pins σ H s->CX X.stack H s E e s' ->X.xe e s'
section
variable {X:Cx} {CX:CXT} {k:Nat} {f C:Addr} {fd:FuncData} {ps:List Str} {sp:Sp} {dvs:List V} {ds:List Value} {E:XK} {x m:Str} {p pos apos:Pos} {e o:Expr} {es:List Expr} {ta:TE} {t:TA}
theorem yt {pins:List (Addr×Obj)} {σ:St} {H:Hp} {s:Shared} {Q:VK} {us:List Value} {vs:List V} (F:zA X.prog X.w X.K X.mg X.base CX k f fd ps sp) (hr:Z1 k X.A) (hb:Binds X.K fd ps ds) (hd:zz dvs ds) (hx:zJ CX X E)
  (I:Inv X pins σ H s) (r:zz vs us) (h:sp (vs++dvs) H Q E):wpAny (model X.prog X.w) X.A (call (.ref f) us) (EP X pins σ Q) X.xe s:=by
 have r2:zz (vs++dvs) (us++ds):=r.append hd
 have hl:(us++ds).length=ps.length:=by rw [← r2.length]; exact F.len _ _ _ _ h
 refine wpAny_call (codeAny_mono (F.run X.A X.stack s H ⟨us,[]⟩ (us++ds) (vs++dvs) Q E hr I.env0 (hb s us I.kIn hl) r2 h) fun r s' hq=> ?_)
 cases r with
 | error e=>exact hx pins σ H s e s' I hq
 | ok fl=>
  cases fl with
  | ret u=>exact I.after hq
  | next=>exact False.elim hq
  | brk=>exact False.elim hq
  | cont=>exact False.elim hq
theorem uI (F:zA X.prog X.w X.K X.mg X.base CX k f fd ps sp) (hr:Z1 k X.A) (hg:Gl X x) (hm:X.mg x=some (.ref f)) (hk:PySem.W.keepIn X.K (.ref f)=true) (hb:Binds X.K fd ps ds) (hd:zz dvs ds) (hx:zJ CX X E)
  (ha:PA X (e :: es) t) (hdb:(x == ("__debug__":Str))=false:=by decide) (he:starEach (e :: es) X.env=(false,eval e X.env) :: starEach es X.env:=by rfl) (hpl:(backTo pos (starEach es X.env)).any (·.1)=false:=by rfl):
  PE X (.Call (.Name x p) (e :: es) [] pos) (qA sp dvs E t):=by
 intro pins s σ H Q I h
 refine wpAny_Call_Name_kw (Zh I hg hm ?_ hdb)
 refine PySem.W.callWith_K (h₀:=X.base) I.ok.mod.kin hk (thn (ha pos pins s σ H _ I h) fun us s1 ⟨vs,H1,I1,r,q⟩=>⟨I1.kIn, ?_⟩) he hpl
 exact yt F hr hb hd hx I1 r q
structure Mk (K:PySem.W.Frag) (C f:Addr):Prop where
 makes:PySem.W.makesIn K C=true
 init:PySem.W.findIn K (.ref C) "__init__"=some (some (.ref f))
 fn:PySem.W.isFn K (.ref f)=true
 kp:PySem.W.keepIn K (.ref C)=true
theorem Ww {pins:List (Addr×Obj)} {σ:St} {H:Hp} {s:Shared} {Q:VK} {us:List Value} {vs:List V} (M:Mk X.K C f) (F:zA X.prog X.w X.K X.mg X.base CX k f fd ps sp) (hr:Z1 (k+1) X.A) (hb:Binds X.K fd ps ds) (hd:zz dvs ds)
  (hx:zJ CX X E) (I:Inv X pins σ H s) (r:zz vs us)
  (h:∀ x dx,H x=none->H dx=none->dx ≠ x->sp (.ref x :: (vs++dvs)) (upd (upd H dx (.own x)) x (.ins C dx [])) (fun v H2=>v= .non/\Q (.ref x) H2) E):
  wpAny (model X.prog X.w) X.A (call (.ref C) us) (EP X pins σ Q) X.xe s:=by
 have hq:=h (s.heap.objs.size+1) s.heap.objs.size (I.hok.fresh (Nat.le_succ _)) (I.hok.fresh (Nat.le_refl _)) (Nat.ne_of_lt (Nat.lt_succ_self _))
 have I2:=Inv.made (C:=C) I
 have r2:zz (V.ref (s.heap.objs.size+1) :: (vs++dvs)) (Value.ref (s.heap.objs.size+1) :: (us++ds)):= .cons rfl (r.append hd)
 have hl:(Value.ref (s.heap.objs.size+1) :: us++ds).length=ps.length:=by
  have e:=r2.length
  rw [F.len _ _ _ _ hq] at e
  exact e.symm
 refine wpAny_call (Wv (f:=f) I.kIn M.makes M.init (beq_iff_eq.mp M.fn) (codeAny_mono (F.run _ X.stack _ _ ⟨Value.ref (s.heap.objs.size+1) :: us,[]⟩ (Value.ref (s.heap.objs.size+1) :: (us++ds)) _ _ E (hr.make C us [])
  (I2.env0.make C us []) (hb _ (Value.ref (s.heap.objs.size+1) :: us) I2.kIn hl) r2 hq) fun r s' hq' => ?_))
 cases r with
 | error e=>exact hx pins σ _ _ e s' I2 hq'
 | ok fl=>
  cases fl with
  | ret u=>
   obtain ⟨v,H',I3,rv,ev,q3⟩:=I2.after hq'
   subst ev
   exact ⟨rv,⟨V.ref (s.heap.objs.size+1),H',I3,rfl,q3⟩⟩
  | next=>exact False.elim hq'
  | brk=>exact False.elim hq'
  | cont=>exact False.elim hq'
theorem uJ (M:Mk X.K C f) (F:zA X.prog X.w X.K X.mg X.base CX k f fd ps sp) (hr:Z1 (k+1) X.A) (hg:Gl X x) (hm:X.mg x=some (.ref C)) (hb:Binds X.K fd ps ds) (hd:zz dvs ds) (hx:zJ CX X E)
  (ha:PA X (e :: es) t) (hdb:(x == ("__debug__":Str))=false:=by decide) (he:starEach (e :: es) X.env=(false,eval e X.env) :: starEach es X.env:=by rfl) (hpl:(backTo pos (starEach es X.env)).any (·.1)=false:=by rfl):
  PE X (.Call (.Name x p) (e :: es) [] pos) (qB C sp dvs E t):=by
 intro pins s σ H Q I h
 refine wpAny_Call_Name_kw (Zh I hg hm ?_ hdb)
 refine PySem.W.callWith_K (h₀:=X.base) I.ok.mod.kin M.kp (thn (ha pos pins s σ H _ I h) fun us s1 ⟨vs,H1,I1,r,q⟩=>⟨I1.kIn, ?_⟩) he hpl
 exact Ww M F hr hb hd hx I1 r q
end
section
variable {X:Cx} {CX:CXT} {k:Nat} {f C:Addr} {fd:FuncData} {ps ks:List Str} {sp:Sp} {E:XK} {x m:Str} {p pos apos kpos:Pos} {e o:Expr} {es:List Expr} {kws:List Keyword} {te ta:TE} {t tk:TA} {nm:Option Str}
variable {g:List Value->List Value->List Value} {gV:List V->List V->List V}
end
structure zc (N P:List Str) (sc:Scope):Prop where
 kind:sc.kind= .function
 co:sc.isCoroutine=false
 gen:sc.isGenerator=false
 nd:N.Nodup
 pre:N.take P.length=P
 par:∀ x∈P,sc.names.lookup x=some .local\/sc.names.lookup x=some .cell
 nofree:∀ y∈sc.names,y.2 ≠ .free
theorem jB {kindOf:Str->Option NameKind} {x:Str}:∀ {binds:List (Str×Value)} {m:Str->Option Value},(∀ v,(x,v) ∉ binds)->bindL kindOf binds m x=m x
 | [],_,_=>rfl
 | (n,v) :: r,m,h=>by
  unfold bindL
  rw [jB fun w hw=>h w (List.mem_cons_of_mem _ hw)]
  split
  ·have:x ≠ n:=by rintro rfl; exact h v List.mem_cons_self
   simp [this]
  ·rfl
theorem jC {kindOf:Str->Option NameKind} {x:Str}:∀ {binds:List (Str×Value)} {m:Str->Option Value},(∀ v,(x,v) ∉ binds)->bindC kindOf binds m x=m x
 | [],_,_=>rfl
 | (n,v) :: r,m,h=>by
  unfold bindC
  rw [jC fun w hw=>h w (List.mem_cons_of_mem _ hw)]
  split
  ·rfl
  ·have:x ≠ n:=by rintro rfl; exact h v List.mem_cons_self
   simp [this]
theorem jD {kindOf:Str->Option NameKind} {x:Str} {v:Value}:∀ {P:List Str} {vs:List Value} {i:Nat} {m:Str->Option Value},P.Nodup->P[i]? =some x->vs[i]? =some v->kindOf x=some .local->
  bindL kindOf (P.zip vs) m x=some v
 | [],_,_,_,_,h,_,_=>by simp at h
 | _ :: _,[],_,_,_,_,h,_=>by simp at h
 | p :: P,w :: vs,0,m,nd,h1,h2,hk=>by
  simp at h1 h2; subst h1; subst h2
  show bindL kindOf ((p,w) :: P.zip vs) m p=_
  unfold bindL
  rw [jB fun v hv=>(List.nodup_cons.mp nd).1 (List.of_mem_zip hv).1,if_pos hk]
  simp
 | p :: P,w :: vs,i+1,m,nd,h1,h2,hk=>by
  show bindL kindOf ((p,w) :: P.zip vs) m x=_
  unfold bindL
  exact jD (i:=i) (List.nodup_cons.mp nd).2 (by simpa using h1) (by simpa using h2) hk
theorem jE {kindOf:Str->Option NameKind} {x:Str} {v:Value}:∀ {P:List Str} {vs:List Value} {i:Nat} {m:Str->Option Value},P.Nodup->P[i]? =some x->vs[i]? =some v->kindOf x ≠ some .local->
  bindC kindOf (P.zip vs) m x=some v
 | [],_,_,_,_,h,_,_=>by simp at h
 | _ :: _,[],_,_,_,_,h,_=>by simp at h
 | p :: P,w :: vs,0,m,nd,h1,h2,hk=>by
  simp at h1 h2; subst h1; subst h2
  show bindC kindOf ((p,w) :: P.zip vs) m p=_
  unfold bindC
  rw [jC fun v hv=>(List.nodup_cons.mp nd).1 (List.of_mem_zip hv).1,if_neg hk]
  simp
 | p :: P,w :: vs,i+1,m,nd,h1,h2,hk=>by
  show bindC kindOf ((p,w) :: P.zip vs) m x=_
  unfold bindC
  exact jE (i:=i) (List.nodup_cons.mp nd).2 (by simpa using h1) (by simpa using h2) hk
def start (N:List Str) (vs:List V):St:=vs.map some++List.replicate (N.length - vs.length) none
def Zx (CX:CXT) (P:Program) (w:World) (K:PySem.W.Frag) (mg:Str->Option Value) (base:Heap) (N:List Str) (qual:Str) (scope:Scope) (f:Addr) (cd:Value) (A:Around) (outer:List Env) (s:Shared) (H:Hp) (E:XK):Cx where
 prog:=P
 w:=w
 K:=K
 mg:=mg
 base:=base
 A:=A.deeper (envOfC qual scope s.heap.objs.size f cd)
 N:=N
 s₀:=s
 H₀:=H
 env:=envOfC qual scope s.heap.objs.size f cd
 outer:=outer
 stack:=envOfC qual scope s.heap.objs.size f cd :: outer
 ex:=[]
 calm:=true
 fn:=fun _=>true
 pn:=[]
 xe:=fun e s' =>wpAny (model P w) (A.deeper (envOfC qual scope s.heap.objs.size f cd)) (leaving (envOfC qual scope s.heap.objs.size f cd) e) (fun _ s'' =>CX outer H s E e s'') (fun e' s'' =>CX outer H s E e' s'') s'
theorem Jp {sc:Scope} {n:Nat} {x:Str} (h:sc.names.lookup x=some .cell):∃ c,(cellsFrom n sc.names []).lookup x=some c:=by
 have q:=PySem.W.cellsFrom_some sc.names n [] (.inl h)
 exact Option.isSome_iff_exists.mp q
theorem jF {CX:CXT} {P:Program} {w:World} {K:PySem.W.Frag} {mg:Str->Option Value} {base:Heap} {N ps:List Str} {qual:Str} {scope:Scope} {f:Addr} {cd:Value} {A:Around} {outer:List Env} {s s1:Shared} {H:Hp} {E:XK} {us:List Value} {vs:List V}
  (S:zc N ps scope) (hd:A.handled=none) (e0:Jo P w K mg base A outer s H) (hl:vs.length=ps.length) (r:zz vs us)
  (x:InCallC s s.heap.objs.size (bindL (envOfC qual scope s.heap.objs.size f cd).kindOf (ps.zip us) fun _=>none) (cellsFrom (s.heap.objs.size+1) scope.names []) (bindC (envOfC qual scope s.heap.objs.size f cd).kindOf (ps.zip us) fun _=>none) s1):
  Inv (Zx CX P w K mg base N qual scope f cd A outer s H E) [] (start N vs) H s1:=by
 have hpl:ps.length<=N.length:=by have:=congrArg List.length S.pre; rw [List.length_take] at this; omega
 obtain ⟨h1,tk,rfl,hk⟩:=x.done
 have noA:∀ b:Addr,b ∉ (Zx CX P w K mg base N qual scope f cd A outer s H E).ex:=fun b z=>absurd (show b∈([]:List Addr) from z) (by simp)
 refine ⟨⟨e0.mod,S.kind,rfl,rfl,Nat.le_refl _,fun y z c h1 h2=> ?_,fun y hy=> ?_,fun y c _ h=> ?_,fun _=>hd,Around.frames_deeper e0.frames, .inr ⟨rfl,rfl⟩,fun b z=>absurd z (noA b),e0.bs,e0.bsz,fun b _ _=>noA b,fun b z=>absurd z (noA b),e0.funs,e0.frf⟩,
  rfl,e0.bare,Un.kept hk,⟨_,x.toInCall.ns,fun i y v h1 h2 h3=> ?_⟩,fun y c h=>⟨_,x.cell y c h⟩,e0.hok.fresh (Nat.le_refl _),fun y c h=> ?_,fun p hp=>absurd (show p∈([]:List (Addr×Obj)) from hp) (by simp),e0.hok.kept hk, ?_⟩
 ·exact name_of_addr x.apart (PySem.mem_of_lookup h1) (PySem.mem_of_lookup h2)
 ·have hy:scope.names.lookup y=some .cell\/scope.names.lookup y=some .free:=hy
  rcases hy with hy | hy
  ·exact Jp hy
  ·exact absurd rfl (S.nofree _ (PySem.mem_of_lookup hy))
 ·exact Nat.le_of_lt (x.above y c (PySem.mem_of_lookup h))
 ·have hi:i < vs.length:=by
   unfold start at h2
   by_cases hi:i < vs.length
   ·exact hi
   ·rw [List.getElem?_append_right (by simpa using hi)] at h2
    rw [List.getElem?_replicate] at h2
    split at h2 <;> cases h2
  have ha:vs[i]? =some v:=by
   unfold start at h2
   rw [List.getElem?_append_left (by simpa using hi),List.getElem?_map] at h2
   cases e:vs[i]? with
   | none=>rw [e] at h2; cases h2
   | some a=>rw [e] at h2; cases h2; rfl
  obtain ⟨u,hu,rv⟩:=r.get ha
  have hp:ps[i]? =some y:=by
   rw [← S.pre,List.getElem?_take_of_lt (by omega)]; exact h1
  have ndP:ps.Nodup:=by rw [← S.pre]; exact S.nd.sublist (List.take_sublist _ _)
  refine ⟨u,rv, ?_⟩
  rcases S.par y (List.mem_of_getElem? hp) with k | k
  ·exact .inl ⟨k,jD ndP hp hu k⟩
  ·obtain ⟨c,e⟩:=Jp (n:=s.heap.objs.size+1) k
   refine .inr ⟨.inl k,c,e, ?_⟩
   have q:=x.cell y c e
   rw [jE ndP hp hu (by show scope.names.lookup y ≠ _; rw [k]; decide)] at q
   exact q
 ·exact e0.hok.fresh (Nat.le_of_lt (x.above y c (PySem.mem_of_lookup h)))
 ·unfold start
  show _=N.length
  rw [List.length_append,List.length_map,List.length_replicate]
  omega
theorem uK {CX:CXT} {P:Program} {w:World} {K:PySem.W.Frag} {mg:Str->Option Value} {base:Heap} {k:Nat} {f:Addr} {name qual:Str} {params:Arguments} {body:List Stmt} {scope:Scope} {dV kV doc pm cdv ct oc:Value} {an od:Option Addr}
  {osl:Array (Option Value)} {N ps:List Str} {sp:Sp} (lk:K.lookup f=some ⟨oc,od, .func (PySem.W.fnOf name qual params body scope dV kV doc pm an cdv ct),osl⟩) (hcd:PySem.W.codeIn K cdv qual=true) (S:zc N ps scope)
  (len:∀ vs H Q E,sp vs H Q E->vs.length=ps.length)
  (hbody:∀ (A:Around) (outer:List Env) (s:Shared) (H:Hp) (vs:List V) (Q:VK) (E:XK),Z1 k (A.deeper (envOfC qual scope s.heap.objs.size f cdv))->sp vs H Q E->
   ∃ t,PSs (Zx CX P w K mg base N qual scope f cdv A outer s H E) body t/\t { nx:=fun _ H' =>Q .non H',rt:=Q } (start N vs) H):
  zA P w K mg base CX (k+1) f (PySem.W.fnOf name qual params body scope dV kV doc pm an cdv ct) ps sp:=by
 refine ⟨len,fun A outer s H args us vs Q E hr e0 hb r hsp=> ?_⟩
 have hl:=len _ _ _ _ hsp
 have KX:K.In s.heap:=e0.mod.kin.keeps fun b o e=>(e0.bs b o e).1
 have lim:s.heap.NoLimit:=e0.mod.nolimit.keeps fun b o e=>(e0.bs b o e).1
 have hkind:∀ y∈ps.zip us,scope.names.lookup y.1=some .local\/(scope.names.lookup y.1=some .cell/\((cellsFrom (s.heap.objs.size+1) scope.names []).lookup y.1).isSome=true):=fun ⟨n,v⟩ hy=>by
  rcases S.par n (List.of_mem_zip hy).1 with q | q
  ·exact .inl q
  ·exact .inr ⟨q,PySem.W.cellsFrom_some _ _ _ (.inl q)⟩
 refine codeAny_call_function hr.depth (KX _ _ lk) rfl S.co S.gen rfl (PySem.W.codeRec_of KX hcd) (hb _ _ _ _ ?_)
 refine wpAny_newFunctionEnv_cells S.kind hkind fun env he s1 x=> ?_
 subst he
 refine ⟨lim.keeps x.toInCall.keep,codeAny_func ?_⟩
 obtain ⟨t,ht,hq⟩:=hbody A outer s H vs Q E (hr.deeper _) hsp
 have I:Inv (Zx CX P w K mg base N qual scope f cdv A outer s H E) [] (start N vs) H s1:=jF S hr.hd e0 hl r x
 refine wpAny_mono (ht [] s1 (start N vs) H _ I hq) (fun fl s' hs=> ?_) fun e s' hs=>hs
 have fin:∀ {σ' :St} {H' :Hp} {v:V} {u:Value},Inv (Zx CX P w K mg base N qual scope f cdv A outer s H E) [] σ' H' s' ->zF v u->Q v H' ->CE outer P w H s Q u s' :=
  fun {σ' H' v u} J rv q=>⟨v,H',J.os,J.bare,J.base,J.hok,rv,q⟩
 cases fl with
 | ret u=>
  obtain ⟨v,σ',H',J,rv,q⟩:=hs
  exact fin J rv q
 | next=>
  obtain ⟨σ',H',J,q⟩:=hs
  exact fin (v:=V.non) (u:=Value.none) J rfl q
 | brk=>
  obtain ⟨_,_,_,q⟩:=hs
  exact False.elim q
 | cont=>
  obtain ⟨_,_,_,q⟩:=hs
  exact False.elim q
end L2
namespace L2
open PySem PySem.Spec PyProof.Rows
section
variable {X:Cx} {x:Str} {p pos:Pos} {e:Expr} {es:List Expr} {t:TA} {id T:String} {r:List V->Hp->VK->Prop}
def tCB (r:List V->Hp->VK->Prop) (t:TA):TE:=fun σ H Q=>t σ H fun vs H1=>r vs H1 Q
theorem Z3 (hc:Z2 X (.builtin id) r) (hg:Gl X x) (hm:X.mg x=none) (hv:bootBuiltins x=some (.builtin id)) (ha:PA X (e :: es) t) (hn:x ≠ "__name__":=by decide) (hdb:(x == ("__debug__":Str))=false:=by decide)
  (he:starEach (e :: es) X.env=(false,eval e X.env) :: starEach es X.env:=by rfl) (hpl:(backTo pos (starEach es X.env)).any (·.1)=false:=by rfl):PE X (.Call (.Name x p) (e :: es) [] pos) (tCB r t):=by
 intro pins s σ H Q I h
 refine wpAny_Call_Name_kw (Zo I hg hm hv ?_ hn hdb)
 exact PyProof.Rows.callWith_builtin1 (thn (ha pos pins s σ H _ I h) fun us s1 ⟨vs,H1,I1,r1,q1⟩=>hc pins s1 σ H1 vs us Q I1 r1 q1) he hpl
theorem ww (hc:Z2 X (.type T) r) (hg:Gl X x) (hm:X.mg x=none) (hv:bootBuiltins x=some (.type T)) (ha:PA X (e :: es) t) (hn:x ≠ "__name__":=by decide) (hdb:(x == ("__debug__":Str))=false:=by decide)
  (he:starEach (e :: es) X.env=(false,eval e X.env) :: starEach es X.env:=by rfl) (hpl:(backTo pos (starEach es X.env)).any (·.1)=false:=by rfl):PE X (.Call (.Name x p) (e :: es) [] pos) (tCB r t):=by
 intro pins s σ H Q I h
 refine wpAny_Call_Name_kw (Zo I hg hm hv ?_ hn hdb)
 exact PyProof.Rows.callWith_type1 (thn (ha pos pins s σ H _ I h) fun us s1 ⟨vs,H1,I1,r1,q1⟩=>hc pins s1 σ H1 vs us Q I1 r1 q1) he hpl
end
end L2
namespace HT
open PySem PyProof.Rows
section
open PySem.SeqAt
open PySem.AutoSeq1 (wpAny_loadPart')
open PySem.MeetsSeq PySem.MeetsSeq2 PySem.MeetsSeq3
end
section
variable {prog:Program} {w:World} {A:Around} {E:Value->Shared->Prop} {s:Shared}
theorem cat_tup {t b:Addr} {vs ws:List Value} {Q:Value->Shared->Prop} (ht:IsTup s.heap t vs.toArray) (hb:IsTup s.heap b ws.toArray) (hv:vs ≠ [])
  (h1:ws=[]->Q (.ref t) s) (h2:ws ≠ []->Q (.ref s.heap.objs.size) { s with heap:=s.heap.push { cls:= .type "tuple",data:= .seq (vs++ws).toArray } })
  (hsz:vs.length+ws.length<=sizeLine):wpAny (model prog w) A (binaryOp .Add (.ref t) (.ref b)) Q E s:=by
 obtain ⟨⟨cls,dd,data,sl⟩,ho,hc,n,hd⟩:=id ht
 obtain ⟨⟨cls2,dd2,data2,sl2⟩,ho2,hc2,n2,hd2⟩:=id hb
 simp only at hc hd hc2 hd2
 subst hc hd hc2 hd2
 have e:vs.toArray++ws.toArray=(vs++ws).toArray:=by simp
 by_cases hw:ws=[]
 ·exact concat_meets ⟨_,ho,rfl⟩ ⟨_,ho2,rfl⟩ noFill_tuple_add seq_tuple_add PySem.F.slot_tuple_add PySem.F.entry_tuple_add (PySem.F.args_tuple_add_2 _ _)
   (tuple_addW1 t b vs.toArray ws.toArray n n2 dd dd2 sl sl2 (by simpa using hv) (by simp [hw])) ⟨ho,ho2,h1 hw⟩
 ·refine concat_meets ⟨_,ho,rfl⟩ ⟨_,ho2,rfl⟩ noFill_tuple_add seq_tuple_add PySem.F.slot_tuple_add PySem.F.entry_tuple_add (PySem.F.args_tuple_add_2 _ _)
   (tuple_addW2 t b vs.toArray ws.toArray n n2 dd dd2 sl sl2 (by simpa using hv) (by simpa using hw) (by rw [List.size_toArray,List.size_toArray]; exact hsz)) ⟨ho,ho2, ?_⟩
  rw [e]
  exact h2 hw
end
end HT
namespace L2
open PySem PySem.Spec PyProof.Rows
section
variable {X:Cx} {e:Expr} {te:TE} {lo hi:Option Expr} {tl th:TO} {pos p2:Pos}
def qC (K:PySem.W.Frag):R2:=fun x y H Q=>∃ a b xs ys,x= .ref a/\y= .ref b/\SqT K H a xs/\SqT K H b ys/\xs ≠ []/\xs.length+ys.length<=sizeLine/\
 (ys=[]->Q (.ref a) H)/\(ys ≠ []->∀ p,H p=none->Q (.ref p) (upd H p (.tup (xs++ys))))
theorem zz.nil_iff {xs:List V} {us:List Value} (r:zz xs us):us=[]↔xs=[]:=by
 cases r with
 | nil=>simp
 | cons _ _=>simp
theorem uL:OpR X (binaryOp .Add) (qC X.K):=by
 intro pins s σ H x y v u Q I rx ry h
 obtain ⟨a,b,xs,ys,rfl,rfl,ha,hb,hx,hz,q1,q2⟩:=h
 cases rx
 cases ry
 obtain ⟨its,r1,p1,_⟩:=I.tuple ha
 obtain ⟨its2,r2,p2,_⟩:=I.tuple hb
 refine HT.cat_tup p1 p2 (fun z=>hx (r1.nil_iff.mp z)) (fun z=>⟨.ref a,H,I,rfl,q1 (r2.nil_iff.mp z)⟩) (fun z=> ?_) (by rw [← r1.length,← r2.length]; exact hz)
 refine ⟨.ref s.heap.objs.size,_,I.laid (t' :=s.toks) (o:= .tup (xs++ys)) (fun b ob q=>Heap.get?_push_of_some _ q) (Nat.le_refl _) ?_,rfl,q2 (fun w=>z (r2.nil_iff.mpr w)) _ (I.hok.fresh (Nat.le_refl _))⟩
 exact ⟨by rw [List.length_append]; exact hz,_,r1.append r2,ITN.new _ _⟩
end
end L2
namespace L2
open PySem PySem.Spec PyProof.Rows
def ixN (n:Nat) (i:Int):Option Nat:=if 0<=i then (if i < n then some i.toNat else none) else if -(n:Int)<=i then some (i+n).toNat else none
def atI {α:Type} (xs:List α) (i:Int):Option α:=(ixN xs.length i).bind fun j=>xs[j]?
theorem uM {n:Nat} {i:Int} {j:Nat} (h:ixN n i=some j):seqIndex? i n=some j/\j < n/\ -(n:Int)<=i/\i < n:=by
 unfold ixN at h
 by_cases h0:0<=i
 ·rw [if_pos h0] at h
  by_cases h1:i < n
  ·rw [if_pos h1] at h
   have e:i.toNat=j:=Option.some.inj h
   exact ⟨by rw [seqIndex_of h0 h1,e],by omega,by omega,h1⟩
  ·rw [if_neg h1] at h; cases h
 ·rw [if_neg h0] at h
  by_cases h1: -(n:Int)<=i
  ·rw [if_pos h1] at h
   have e:(i+n).toNat=j:=Option.some.inj h
   exact ⟨by rw [seqIndex_neg (by omega) h1,e],by omega,h1,by omega⟩
  ·rw [if_neg h1] at h; cases h
theorem J0 {α:Type} {xs:List α} {i:Int} {v:α} (h:atI xs i=some v):∃ j,seqIndex? i xs.length=some j/\xs[j]? =some v/\j < xs.length/\ -(xs.length:Int)<=i/\i < xs.length:=by
 unfold atI at h
 cases e:ixN xs.length i with
 | none=>rw [e] at h; cases h
 | some j=>
  rw [e] at h
  obtain ⟨h1,h2,h3,h4⟩:=uM e
  exact ⟨j,h1,h,h2,h3,h4⟩
theorem J4 {α:Type} {xs:List α} {j:Nat} {v:α} (h:xs[j]? =some v):atI xs (j:Int)=some v:=by
 have hj:j < xs.length:=(List.getElem?_eq_some_iff.mp h).1
 have e:ixN xs.length (j:Int)=some j:=by
  unfold ixN
  rw [if_pos (by omega),if_pos (by omega)]; simp
 unfold atI; rw [e]; exact h
def J6 (b:Expr):Prop:=∀ o i,subscripted b false o i=operate [o,i] (getItem o i)
def IxR (X:Cx) (r:R2):Prop:=
 ∀ (value slice:Expr) (pins:List (Addr×Obj)) (s:Shared) (σ:St) (H:Hp) (x y:V) (v u:Value) (Q:VK),Inv X pins σ H s->zF x v->zF y u->r x y H Q->
  subscripted slice false v u=operate [v,u] (getItem v u)->wpAny (model X.prog X.w) X.A (subscriptTail value slice v u) (EP X pins σ Q) X.xe s
def MtR (X:Cx) (id:String) (r:V->List V->Hp->VK->Prop):Prop:=
 ∀ (pins:List (Addr×Obj)) (s:Shared) (σ:St) (H:Hp) (x:V) (xs:List V) (v:Value) (us:List Value) (Q:VK),Inv X pins σ H s->zF x v->zz xs us->r x xs H Q->
  wpAny (model X.prog X.w) X.A (call (.builtin id) (v :: us)) (EP X pins σ Q) X.xe s
section
variable {X:Cx} {a b:Expr} {ta tb:TE} {pos:Pos}
theorem IxR.or {r r' :R2} (h:IxR X r) (h' :IxR X r'):IxR X (fun x y H Q=>r x y H Q\/r' x y H Q):=by
 intro value slice pins s σ H x y v u Q I rx ry q hs
 rcases q with q | q
 ·exact h value slice pins s σ H x y v u Q I rx ry q hs
 ·exact h' value slice pins s σ H x y v u Q I rx ry q hs
theorem yu {r:R2} (hr:IxR X r) (ha:PE X a ta) (hb:PE X b tb) (hs:J6 b):PE X (.Subscript a b pos) (tOp r ta tb):=by
 intro pins s σ H Q I h
 exact Subscript_ (qr ha hb I h fun v u s2 x y H2 I2 rx ry q=>hr a b pins s2 σ H2 x y v u Q I2 rx ry q (hs _ _))
def QJ (K:PySem.W.Frag):R2:=fun x y H Q=>∃ p xs i v,x= .ref p/\y= .int i/\SqL K H p xs/\atI xs i=some v/\Q v H
def QK (K:PySem.W.Frag):R2:=fun x y H Q=>∃ p xs i v,x= .ref p/\y= .int i/\SqT K H p xs/\atI xs i=some v/\Q v H
def QL:R2:=fun x y H Q=>∃ z i c,x= .str z/\y= .int i/\z.length<=sizeLine/\atI z.cps.toList i=some c/\Q (.str ⟨#[c]⟩) H
theorem uN:IxR X (QJ X.K):=by
 intro value slice pins s σ H x y v u Q I rx ry h hs
 obtain ⟨p,xs,i,z,rfl,rfl,hq,he,q⟩:=h
 cases rx
 obtain ⟨t,rfl⟩:=ry
 obtain ⟨its,r,pl,hz⟩:=I.list hq
 obtain ⟨j,h1,h2,h3,h4,h5⟩:=J0 he
 obtain ⟨w,ew,rw'⟩:=r.get h2
 have hl:=r.length
 have hn:=j7
 have fin:EP X pins σ Q w s:=⟨z,H,I,rw',q⟩
 by_cases h0:0<=i
 ·have hj:i.toNat=j:=by
   rw [seqIndex_of h0 h5] at h1
   exact Option.some.inj h1
  exact item_listR pl.isList h0 (by omega) (by rw [hj]; simpa using ew) fin hs
 ·have hj:(i+(its.toArray.size:Int)).toNat=j:=by
   rw [seqIndex_neg (by omega) h4] at h1
   rw [List.size_toArray,← hl]
   exact Option.some.inj h1
  exact subscriptTail_builtinR (x:=w) pl.isList.typeIs slot_list_getitem.lookup
   (wpAny_getItem_list_neg (Q:=fun r s' =>r=w/\EP X pins σ Q r s') pl.isList (by omega) (by rw [List.size_toArray] <;> omega) (by omega) (by rw [hj]; simpa using ew) ⟨rfl,fin⟩) hs
theorem yv:IxR X (QK X.K):=by
 intro value slice pins s σ H x y v u Q I rx ry h hs
 obtain ⟨p,xs,i,z,rfl,rfl,hq,he,q⟩:=h
 cases rx
 obtain ⟨t,rfl⟩:=ry
 obtain ⟨its,r,pl,hz⟩:=I.tuple hq
 obtain ⟨j,h1,h2,h3,h4,h5⟩:=J0 he
 obtain ⟨w,ew,rw'⟩:=r.get h2
 have hl:=r.length
 have hn:=j7
 have fin:EP X pins σ Q w s:=⟨z,H,I,rw',q⟩
 exact subscriptTail_builtinR (x:=w) pl.typeIs slot_tuple_getitem.lookup
  (getItem_tuple (j:=j) (Q:=fun r s' =>r=w/\EP X pins σ Q r s') pl (by omega) (by omega) (by rw [List.size_toArray,← hl]; exact h1) (by simpa using ew) ⟨rfl,fin⟩) hs
theorem yw:IxR X QL:=by
 intro value slice pins s σ H x y v u Q I rx ry h hs
 obtain ⟨z,i,c,rfl,rfl,hz,he,q⟩:=h
 obtain ⟨t,rfl⟩:=rx
 obtain ⟨t',rfl⟩:=ry
 obtain ⟨j,h1,h2,h3,h4,h5⟩:=J0 he
 have hl:z.cps.toList.length=z.length:=by simp [Str.length]
 rw [hl] at h1 h4 h5
 have hn:=j7
 exact tail_any (typeIs_str s z t) slot_str_getitem.lookup (getItem_str (c:=c) (by
  have e1:decide (i < -(2 ^ 63:Int))=false:=decide_eq_false (by omega)
  have e2:decide (i ≥ 2 ^ 63)=false:=decide_eq_false (by omega)
  rw [e1,e2,Bool.or_false]) (by rw [h1]; simpa using h2) ⟨.str ⟨#[c]⟩,H,I.tok _,⟨_,rfl⟩,q⟩) hs
def rIx (K:PySem.W.Frag):R2:=fun x y H Q=>QJ K x y H Q\/QK K x y H Q\/QL x y H Q
theorem uh:IxR X (rIx X.K):=uN.or (yv.or yw)
theorem jG:Z2 X (.builtin "len") (fun xs H Q=>∃ p ys,xs=[.ref p]/\(SqL X.K H p ys\/SqT X.K H p ys)/\Q (.int ys.length) H):=by
 intro pins s σ H xs us Q I r h
 obtain ⟨p,ys,rfl,hq,q⟩:=h
 obtain ⟨u,rfl,rx⟩:=ZF r
 cases rx
 have hn:=j7
 rcases hq with hq | hq
 ·obtain ⟨its,r',pl,hz⟩:=I.list hq
  have hlen:=r'.length
  exact Calls.call_len_list pl.isList (by simp only [List.size_toArray] <;> omega) ⟨.int ys.length,H,I.tok _,⟨s.toks+1,by rw [List.size_toArray,hlen]⟩,q⟩
 ·obtain ⟨its,r',pl,hz⟩:=I.tuple hq
  have hlen:=r'.length
  exact len_tuple pl (by simp only [List.size_toArray] <;> omega) ⟨.int ys.length,H,I.tok _,⟨s.toks+1,by rw [List.size_toArray,hlen]⟩,q⟩
theorem jH:Z2 X (.builtin "len") (fun xs H Q=>∃ z,xs=[.str z]/\z.length<=sizeLine/\Q (.int z.length) H):=by
 intro pins s σ H xs us Q I r h
 obtain ⟨z,rfl,hz,q⟩:=h
 obtain ⟨u,rfl,t,rfl⟩:=ZF r
 have hn:=j7
 exact len_str (by omega) ⟨.int z.length,H,I.tok _,⟨_,rfl⟩,q⟩
theorem Z2.or {f:Value} {r r' :List V->Hp->VK->Prop} (h:Z2 X f r) (h' :Z2 X f r'):Z2 X f (fun xs H Q=>r xs H Q\/r' xs H Q):=by
 intro pins s σ H xs us Q I rs q
 rcases q with q | q
 ·exact h pins s σ H xs us Q I rs q
 ·exact h' pins s σ H xs us Q I rs q
def tyV (K:PySem.W.Frag) (T:String) (x:V) (H:Hp):Prop:=match x with
 | .str _=>T="str"
 | .int _=>T="int"
 | .ref p=>(T="list"/\∃ xs,SqL K H p xs)\/(T="tuple"/\∃ o,K.lookup p=some o/\o.cls= .type "tuple"/\o.dict=none)\/
   (T="dict"/\((∃ kvs,H p=some (.dK kvs))\/∃ kvs,H p=some (.dT kvs)))\/(T="set"/\∃ S n,H p=some (.set S n))
 | _=>False
theorem yx {pins:List (Addr×Obj)} {σ:St} {H:Hp} {s:Shared} {T:String} {x:V} {v:Value} (I:Inv X pins σ H s) (r:zF x v) (ty:tyV X.K T x H):
  s.TypeIs v T/\∀ a,v= .ref a->∃ ob,s.heap.get? a=some ob/\ob.dict=none:=by
 cases x with
 | str z=>
  obtain ⟨t,rfl⟩:=r
  cases (show T="str" from ty)
  exact ⟨typeIs_str s z t,fun _ e=>nomatch e⟩
 | int i=>
  obtain ⟨t,rfl⟩:=r
  cases (show T="int" from ty)
  exact ⟨typeIs_int s i t,fun _ e=>nomatch e⟩
 | ref p=>
  cases r
  rcases ty with ⟨rfl,xs,hq⟩ | ⟨rfl,o,hk,hc,hd⟩ | ⟨rfl,hk⟩ | ⟨rfl,S,n,hk⟩
  ·obtain ⟨its,_,pl,_⟩:=I.list hq
   refine ⟨pl.isList.typeIs,fun a e=> ?_⟩
   cases e
   obtain ⟨o,n,e,c,hd,_⟩:=pl
   exact ⟨o,e,hd⟩
  ·refine ⟨⟨o,I.kIn p o hk,hc⟩,fun a e=> ?_⟩
   cases e
   exact ⟨o,I.kIn _ o hk,hd⟩
  ·have z:∃ o,s.heap.get? p=some o/\o.ExactDict:=by
    rcases hk with ⟨kvs,hk⟩ | ⟨kvs,hk⟩
    ·obtain ⟨_,_,_,_,o,_,_,e,ex,_⟩:=I.hok p _ hk
     exact ⟨o,e,ex⟩
    ·obtain ⟨_,_,_,_,o,_,_,e,ex,_⟩:=I.hok p _ hk
     exact ⟨o,e,ex⟩
   obtain ⟨o,e,ex⟩:=z
   refine ⟨⟨o,e,ex.1⟩,fun a e2=> ?_⟩
   cases e2
   exact ⟨o,e,ex.2.1⟩
  ·obtain ⟨o,_,_,_,e,ex,_⟩:=I.hok p _ hk
   refine ⟨⟨o,e,ex.1⟩,fun a e2=> ?_⟩
   cases e2
   exact ⟨o,e,ex.2.1⟩
 | _=>exact False.elim ty
def tBM (K:PySem.W.Frag) (T:String) (r:V->List V->Hp->VK->Prop) (to:TE) (t:TA):TE:=fun σ H Q=>to σ H fun x H1=>tyV K T x H1/\t σ H1 fun xs H2=>r x xs H2 Q
variable {o e:Expr} {es:List Expr} {to:TE} {t:TA} {name:Str} {apos cpos:Pos} {T id:String} {r:V->List V->Hp->VK->Prop}
theorem Wx (pa:PlainAttrs T) (slot:Slot T name id) (hty:typeOf (.builtin id)=pure (.type "method_descriptor")) (hm:MtR X id r) (ho:PE X o to) (ha:PA X (e :: es) t)
  (hbase:attributeBase o name X.env (eval o X.env)=eval o X.env:=by rfl)
  (hfew:((backTo cpos (starEach (e :: es) X.env)).all (fun x=> !x.1) && (backToKw cpos (keywordEach [] X.env)).all (fun x=>x.1.isSome)
   && decide ((e :: es).length+([]:List Keyword).length+(if ([]:List Keyword).isEmpty then 0 else 1) < 30))=true:=by rfl)
  (hline:(apos.endLine == cpos.line)=true:=by rfl) (hs:starEach (e :: es) X.env=(false,eval e X.env) :: starEach es X.env:=by rfl) (hplain:(backTo cpos (starEach es X.env)).any (·.1)=false:=by rfl):
  PE X (.Call (.Attribute o name apos) (e :: es) [] cpos) (tBM X.K T r to t):=by
 intro pins s σ H Q I h
 refine wpAny_Call_method_late hbase hfew hline rfl (thn (ho pins s σ H _ I h) fun v s1 ⟨x,H1,I1,r1,ty,q1⟩=> ?_)
 obtain ⟨h1,h2⟩:=yx I1 r1 ty
 refine ⟨T,id,pa,slot,hty,h1,h2, ?_⟩
 have hA:=ha cpos pins s1 σ H1 _ I1 q1
 rw [hs] at hA ⊢
 refine Calls.callWith_builtin (by show (false || (backTo cpos (starEach es X.env)).any (·.1))=false; rw [hplain] <;> rfl) (Calls.evalArgs_plain ?_)
 exact thn hA fun us s2 ⟨vs,H2,I2,r2,q2⟩=>hm pins s2 σ H2 x vs v us Q I2 r1 r2 q2
end
end L2
namespace L2
open PySem PySem.Spec PyProof.Rows
def MtM (X:Cx) (id:String) (r:V->List V->Hp->VK->Prop):Prop:=
 ∀ (pins:List (Addr×Obj)) (s:Shared) (σ:St) (H:Hp) (x:V) (xs:List V) (v:Value) (us:List Value) (Q:VK),Inv X pins σ H s->zF x v->zz xs us->r x xs H Q->
  wpAny (model X.prog X.w) X.A (call (.builtin id) (v :: us)) (EP X pins σ Q) X.xe s
theorem zz.one:∀ {x:V} {us:List Value},zz [x] us->∃ u,us=[u]/\zF x u
 | _,_, .cons r .nil=>⟨_,rfl,r⟩
theorem zz.rep {xs:List V} {us:List Value} (h:zz xs us):∀ k:Nat,zz (List.replicate k xs).flatten (List.replicate k us).flatten
 | 0=> .nil
 | k+1=>by
  rw [List.replicate_succ,List.replicate_succ,List.flatten_cons,List.flatten_cons]
  exact zz.append h (zz.rep h k)
theorem Zp (its:List Value):∀ (k:Nat) (acc:List Value),
  List.foldl (fun x1 x2=>x1++x2) acc.toArray (List.replicate k its.toArray)=(acc++(List.replicate k its).flatten).toArray
 | 0,acc=>by simp
 | k+1,acc=>by
  have e:acc.toArray++its.toArray=(acc++its).toArray:=by simp
  have e2:(acc++its)++(List.replicate k its).flatten=acc++(List.replicate (k+1) its).flatten:=by
   rw [List.replicate_succ,List.flatten_cons,List.append_assoc]
  rw [← e2,← Zp its k (acc++its),← e,List.replicate_succ,List.foldl_cons]
section
variable {X:Cx} {pins:List (Addr×Obj)} {σ:St} {H:Hp} {s:Shared} {l b:Addr} {xs ys zs:List V}
theorem Inv.lset {its its' :List Value} {n:Nat} {f:Array Value->Array Value} {t' :Nat} (I:Inv X pins σ H s) (hH:H l=some (.lst xs))
  (e:s.heap.get? l=some { cls:= .type "list",data:= .seq its.toArray n }) (hf:f its.toArray=its'.toArray) (hv:zz ys its') (hz:ys.length<=sizeLine):
  Inv X pins σ (upd H l (.lst ys)) { s with heap:=s.heap.update l (Obj.mapSeq f),toks:=t' }:=by
 have q:=PySem.IsL.update e f
 rw [hf] at q
 refine I.write (x:=l) (e:=l) (by rw [hH]; exact trivial) (.inl rfl) (fun b' u hb hu=>(Heap.get?_update_other s.heap (Obj.mapSeq f) (Ne.symm hb)).trans hu) ⟨_,q⟩ ?_
 exact ⟨hz,its',_,hv,q⟩
theorem Inv.lnew {its:List Value} {t' :Nat} (I:Inv X pins σ H s) (hv:zz ys its) (hz:ys.length<=sizeLine):
  Inv X pins σ (upd H s.heap.objs.size (.lst ys)) { s with heap:=s.heap.push { cls:= .type "list",data:= .seq its.toArray },toks:=t' }:=
 I.laid (fun _ _ q=>Heap.get?_push_of_some _ q) (Nat.le_refl _) ⟨hz,its,0,hv,Heap.get?_push_size _ rfl⟩
theorem Inv.fresh (I:Inv X pins σ H s):H s.heap.objs.size=none:=I.hok.fresh (Nat.le_refl _)
theorem Inv.lstM (I:Inv X pins σ H s) (hH:H l=some (.lst xs)):xs.length<=sizeLine/\∃ (its:List Value) (n:Nat),zz xs its/\xs.length=its.length/\s.heap.get? l=some { cls:= .type "list",data:= .seq its.toArray n }:=by
 obtain ⟨z,its,n,r,e⟩:=I.hok l _ hH
 exact ⟨z,its,n,r,r.length,e⟩
theorem Jq {n:Nat} (h:n<=sizeLine):Builtin.List.listTooLong n=false:=by
 unfold Builtin.List.listTooLong
 exact decide_eq_false (by omega)
end
section
variable {X:Cx}
def uO:V->List V->Hp->VK->Prop:=fun x vs H Q=>∃ l xs y,x= .ref l/\vs=[y]/\H l=some (.lst xs)/\xs.length < sizeLine/\Q .non (upd H l (.lst (xs++[y])))
theorem jI:MtM X "list.append" uO:=by
 intro pins s σ H x vs v us Q I rx rv h
 obtain ⟨l,xs,y,rfl,rfl,hH,hz,q⟩:=h
 cases rx
 obtain ⟨u,rfl,ru⟩:=rv.one
 obtain ⟨z,its,n,r,hl,e⟩:=I.lstM hH
 refine call_meets F.slot_list_append ⟨_,e,rfl⟩ F.entry_list_append (F.args_list_append_2 _ _) (PySem.list_append l its.toArray n u (by rw [List.size_toArray]; omega)) ⟨e, ?_⟩
 refine ⟨.non,_,I.lset (its' :=its++[u]) hH e (by simp) (r.append (.cons ru .nil)) ?_,rfl,q⟩
 rw [List.length_append,List.length_singleton]
 omega
def uP:V->List V->Hp->VK->Prop:=fun x vs H Q=>∃ l b xs zs,x= .ref l/\vs=[.ref b]/\H l=some (.lst xs)/\H b=some (.lst zs)/\xs.length+zs.length<=sizeLine/\Q .non (upd H l (.lst (xs++zs)))
theorem wx:MtM X "list.extend" uP:=by
 intro pins s σ H x vs v us Q I rx rv h
 obtain ⟨l,b,xs,zs,rfl,rfl,hH,hB,hz,q⟩:=h
 cases rx
 obtain ⟨u,rfl,ru⟩:=rv.one
 cases ru
 obtain ⟨z,its,n,r,hl,e⟩:=I.lstM hH
 obtain ⟨z2,its2,n2,r2,hl2,e2⟩:=I.lstM hB
 have hsz:its.toArray.size+its2.toArray.size<=sizeLine:=by rw [List.size_toArray,List.size_toArray]; omega
 have hlong:¬ (!its.toArray.isEmpty && Builtin.List.listTooLong (its.toArray.size+its2.toArray.size))=true:=by
  rw [Jq hsz,Bool.and_false]
  exact Bool.false_ne_true
 refine call_meets F.slot_list_extend ⟨_,e,rfl⟩ F.entry_list_extend (F.args_list_extend_2 _ _)
  (AutoSeq1.list_extend_list_list_0 l its.toArray n b its2.toArray n2 hlong (by rw [List.size_toArray]; omega) (by omega)) ⟨e,e2, ?_⟩
 refine ⟨.non,_,I.lset (its' :=its++its2) hH e (by simp) (r.append r2) ?_,rfl,q⟩
 rw [List.length_append]
 omega
def V9:R2:=fun x y H Q=>∃ l b xs zs,x= .ref l/\y= .ref b/\H l=some (.lst xs)/\H b=some (.lst zs)/\xs.length+zs.length<=sizeLine/\∀ p,H p=none->Q (.ref p) (upd H p (.lst (xs++zs)))
theorem yy:OpR X (binaryOp .Add) V9:=by
 intro pins s σ H x y v u Q I rx ry h
 obtain ⟨l,b,xs,zs,rfl,rfl,hH,hB,hz,q⟩:=h
 cases rx
 cases ry
 obtain ⟨z,its,n,r,hl,e⟩:=I.lstM hH
 obtain ⟨z2,its2,n2,r2,hl2,e2⟩:=I.lstM hB
 refine PySem.P.add_list e e2 ?_ (by rw [List.size_toArray,List.size_toArray]; omega)
 have ea:its.toArray++its2.toArray=(its++its2).toArray:=by simp
 rw [ea]
 exact ⟨.ref _,_,I.lnew (t' :=s.toks) (r.append r2) (by rw [List.length_append]; omega),rfl,q _ I.fresh⟩
def Va:R2:=fun x y H Q=>∃ l k xs,x= .ref l/\y= .int k/\H l=some (.lst xs)/\ -(2 ^ 63)<=k/\k < 2 ^ 63/\xs.length*k.toNat<=sizeLine/\
 ∀ p,H p=none->Q (.ref p) (upd H p (.lst (List.replicate k.toNat xs).flatten))
theorem J7 {α:Type} (xs:List α) (k:Nat):(List.replicate k xs).flatten.length=k*xs.length:=by
 induction k with
 | zero=>simp
 | succ k ih=>rw [List.replicate_succ,List.flatten_cons,List.length_append,ih,Nat.succ_mul,Nat.add_comm]
theorem yz:OpR X (binaryOp .Mult) Va:=by
 intro pins s σ H x y v u Q I rx ry h
 obtain ⟨l,k,xs,rfl,rfl,hH,h1,h2,hz,q⟩:=h
 cases rx
 obtain ⟨t,rfl⟩:=ry
 obtain ⟨z,its,n,r,hl,e⟩:=I.lstM hH
 have hlen:its.toArray.size*k.toNat<=sizeLine:=by rw [List.size_toArray,← hl]; exact hz
 have hcap:¬ its.toArray.size*k.toNat > (2 ^ 63 - 1) / 8:=by
  have:(sizeLine:Nat)<=(2 ^ 63 - 1) / 8:=by decide
  omega
 have hfit:¬ (!Builtin.List.listFitsIndex k)=true:=by
  rw [fitsIndex_both h1 h2]
  exact Bool.false_ne_true
 have hlong:¬ Builtin.List.listTooLong (its.toArray.size*k.toNat)=true:=by
  rw [Jq hlen]
  exact Bool.false_ne_true
 have hnew:List.foldl (fun x1 x2=>x1++x2) #[] (List.replicate (if its.toArray.isEmpty=true then 0 else k.toNat) its.toArray)=(List.replicate k.toNat its).flatten.toArray:=by
  have f0:∀ m:Nat,List.foldl (fun x1 x2=>x1++x2) #[] (List.replicate m its.toArray)=(List.replicate m its).flatten.toArray:=fun m=>by
   have:=Zp its m []
   rw [List.nil_append] at this
   exact this
  rw [f0]
  cases its with
  | nil=>simp
  | cons a r' =>rw [if_neg (by simp)]
 refine wpAny_binaryOp_repeat_ref (T:="list") (U:="int") (by decide) ⟨_,e,rfl⟩ (fun s' =>typeIs_int s' k t) noFill_list_mul F.fills_int_mul F.slot_int_rmul repeat_list F.slot_int_index.lookup
  (call_meets F.slot_int_rmul (typeIs_int s k t) F.entry_int_rmul (F.args_int_rmul_2 _ _) (int___rmul___int_list k t l its.toArray n)
   ⟨e,rfl,⟨_,e,rfl⟩,call_meets F.slot_list_mul ⟨_,e,rfl⟩ F.entry_list_mul (F.args_list_mul_2 _ _) (AutoListH.list___mul___list_int_3 l its.toArray n k t hfit hcap hlong) ⟨e, ?_⟩⟩)
 rw [hnew]
 exact ⟨.ref _,_,I.lnew (t' :=s.toks) (r.rep k.toNat) (by rw [J7,Nat.mul_comm]; exact hz),rfl,q _ I.fresh⟩
end
section
variable {prog:Program} {w:World} {A:Around} {E:Value->Shared->Prop} {s:Shared}
end
section
variable {X:Cx}
end
end L2
namespace Att
open PySem PySem.W PySem.Calls PyProof.Rows
theorem ZQ {P:Params} {h:Heap}:∀ (ns:List Int) (vs:List Value),WellAll P h vs (ns.map WData.int)->IntsAre vs ns:=by
 intro ns
 induction ns with
 | nil=>
  intro vs w
  rw [List.map_nil] at w
  cases w
  exact .nil
 | cons n ns ih=>
  intro vs w
  rw [List.map_cons] at w
  cases w with
  | cons a b=>
   cases a
   exact .cons _ _ (ih _ b)
theorem wy {l:OpenLaw} {n:Nat} (hn:l.most=some n) {P:Params} {h:Heap} {args:List WData} {vals:List Value}
  (hpre:l.row.toRowW.claim.pre args=true) (hwl:WellAll P h vals args):
  ∃ a vs ns,vals=[Value.ref a]/\args=[WData.list (ns.map WData.int)]/\h.get? a=some { cls:= .type "list",data:= .seq vs.toArray }/\IntsAre vs ns/\ns.length<=n:=by
 have hsh:WShape.hasAll [] args [.list .int]=true:=(pre_splitW hpre).1
 have hc:l.pre.holds [] { args:=args }=true:=(pre_splitW hpre).2
 obtain ⟨d,r,rfl,h1,h2⟩:=hasAllW_cons hsh
 obtain rfl:=hasAllW_nil h2
 obtain ⟨xs,rfl,h3⟩:=hasW_list h1
 obtain ⟨ns,rfl⟩:=items_int h3
 have hlen:ns.length<=n:=by
  unfold OpenLaw.pre at hc
  have h4:(WTm.not (.lt (.lit (.int (n:Int))) (.len (.arg 0)))).holds [] { args:=[.list (ns.map .int)] }=true:=by
   have h4:=(holds_andW hc).1
   rw [hn] at h4
   exact h4
  have h5:=condW_of h4 (w_not (w_lt w_lit (w_len_list (w_arg rfl))))
  rw [List.length_map] at h5
  refine Nat.le_of_not_lt fun q=> ?_
  have q' :(n:Int) < ((ns.length:Nat):Int):=by omega
  first
   | (rw [decide_eq_true q'] at h5; exact absurd h5 (by decide))
   | (simp at h5; omega)
 cases hwl with
 | cons w1 w2=>
  cases w2
  cases w1 with
  | list ho hall=>exact ⟨_,_,ns,rfl,rfl,ho,ZQ ns _ hall,hlen⟩
theorem wz (l:OpenLaw) (args:List WData):l.row.toRowW.claim.post args (.bool true) args=true:=
 postW_of (r:=l.row.toRowW) (X:=(true == true))
  (show WShape.has [] (.bool true) .bool=true by first | rfl | decide | simp [WShape.has,WShape.arms,WShape.armsAll])
  (show (WTm.eq .res (.lit (.bool true))).value [] { args:=args,res:=some (.bool true),after:=args }=some (.bool (true == true)) from w_eq_bool (w_res rfl) w_lit) rfl
theorem attach_call {l:OpenLaw} {n:Nat} {q:Program} {loose:List Str} {XP:(Str->Option Value)->Heap->Prop} {YP:World->Heap->Prop} {d:DefRec}
  (hn:l.most=some n) (hdf:d.params.defaults=[])
  (call:∀ (w:World) (s₀ s₁:Shared) (mg mb:Str->Option Value) (fa:Addr) (o:Obj) (pm cd doc:Value) (a:Addr) (vs:List Value) (ns:List Int),
   Ground q loose [] XP w s₀ mg mb s₁.heap->YP w s₁.heap->
   s₁.heap.get? fa=some o->o.data= .func (docDef d.name d.params d.body d.scope pm cd doc)->s₁.heap.CodeRec cd d.name->mg d.name=some (.ref fa)->
   s₁.heap.get? a=some { cls:= .type "list",data:= .seq vs.toArray }->IntsAre vs ns->ns.length<=n->s₁.gens= #[]->
   codeAny (model l.prog w) callerA (.call (.ref fa) ⟨[.ref a],[]⟩) (fun r s' =>r= .ok (.ret (.bool true))/\OldK s₁.heap s'.heap/\s'.os=s₁.os/\AllBare s'.gens) s₁):
  WalkO q loose XP YP l.row.toRowW d [] (fun f vs=>PySem.call f vs):=by
 intro w s₀ s₁ mg mb G Y fa o pm cd doc dV kV ho hd hcd hD hmg hg args vals as hpre hlay hrd hwl hlo
 obtain rfl:dV= .none:=Dflts.none hD hdf
 obtain rfl:kV= .none:=Dflts.noKw hD
 obtain ⟨a,vs,ns,rfl,rfl,hobj,hints,hlen⟩:=wy hn hpre hwl
 refine enter_call (codeAny_mono (call w s₀ s₁ mg mb fa o pm cd doc a vs ns G Y ho (fd_plain hd) hcd hmg hobj hints hlen hg) fun r s' hq=> ?_)
 obtain ⟨rfl,h2,h3,h4⟩:=hq
 exact ⟨.inl ⟨.bool true, .bool true,[],rfl,fun _=>rfl, .bool true,wz l _,fun _=>⟨List.Pairwise.nil,fun _ hm=>(nomatch hm)⟩⟩,h2,h3,h4⟩
section
variable {prog:Program} {w:World} {A:Around} {E:Value->Shared->Prop} {s:Shared} {K:Frag}
end
end Att
namespace L2
open PySem PySem.Spec PyProof.Rows
theorem jJ:∀ {vs:List Value} {ns:List Int},IntsAre vs ns->zz (ns.map V.int) vs
 | _,_, .nil=> .nil
 | _,_, .cons n t h=> .cons ⟨t,rfl⟩ (jJ h)
end L2
namespace L2
open PySem PySem.Spec PyProof.Rows
end L2
namespace L2
open PySem PySem.Spec PyProof.Rows
def zL (s:Stmt):Arguments:=match s with
 | .FunctionDef _ a _ _ _ _ _ _ _ _=>a
 | _=>{ posonlyargs:=[],args:=[],vararg:=none,kwonlyargs:=[],kw_defaults:=[],kwarg:=none,defaults:=[] }
def zo (s:Stmt):List Stmt:=match s with
 | .FunctionDef _ _ b _ _ _ _ _ _ _=>b
 | _=>[]
def z9 (s:Stmt):Scope:=match s with
 | .FunctionDef _ _ _ _ _ _ sc _ _ _=>sc
 | _=>{ kind:= .function,names:=[],isGenerator:=false,isCoroutine:=false }
abbrev CX0:CXT:=fun _ _ _ _ _ _=>False
structure Fun (K:PySem.W.Frag) (x qual:Str) (st:Stmt) (f:Addr) (fd:FuncData):Prop where
 ex:∃ (oc:Value) (od:Option Addr) (kV doc pm:Value) (an:Option Addr) (cdv ct:Value) (osl:Array (Option Value)),
  fd=PySem.W.fnOf x qual (zL st) (zo st) (z9 st) .none kV doc pm an cdv ct/\K.lookup f=some ⟨oc,od, .func fd,osl⟩/\PySem.W.codeIn K cdv qual=true
 kp:PySem.W.keepIn K (.ref f)=true
section
variable {P:Program} {w:World} {K:PySem.W.Frag} {mg:Str->Option Value} {base:Heap}
theorem Fun.ok {x qual:Str} {st:Stmt} {f:Addr} {fd:FuncData} {N ps:List Str} {k:Nat} {sp:Sp} (F:Fun K x qual st f fd) (S:zc N ps (z9 st)) (len:∀ vs H Q E,sp vs H Q E->vs.length=ps.length)
  (hbody:∀ (cdv:Value) (A:Around) (outer:List Env) (s:Shared) (H:Hp) (vs:List V) (Q:VK) (E:XK),Z1 k (A.deeper (envOfC qual (z9 st) s.heap.objs.size f cdv))->sp vs H Q E->
   ∃ t,PSs (Zx CX0 P w K mg base N qual (z9 st) f cdv A outer s H E).nox (zo st) t/\t { nx:=fun _ H' =>Q .non H',rt:=Q } (start N vs) H):zA P w K mg base CX0 (k+1) f fd ps sp:=by
 obtain ⟨oc,od,kV,doc,pm,an,cdv,ct,osl,rfl,lk,hcd⟩:=F.ex
 refine uK lk hcd S len fun A outer s H vs Q E hr hsp=> ?_
 obtain ⟨t,h,q⟩:=hbody cdv A outer s H vs Q E hr hsp
 exact ⟨t,h.nox,q⟩
theorem Fun.binds {x qual:Str} {st:Stmt} {f:Addr} {fd:FuncData} {ps:List Str} (F:Fun K x qual st f fd)
  (h:∀ (kV doc pm:Value) (an:Option Addr) (cdv ct:Value) (us:List Value),us.length=ps.length->bindArgs (PySem.W.fnOf x qual (zL st) (zo st) (z9 st) .none kV doc pm an cdv ct) ⟨us,[]⟩=pure (ps.zip us)):Binds K fd ps []:=by
 obtain ⟨oc,od,kV,doc,pm,an,cdv,ct,osl,rfl,lk,hcd⟩:=F.ex
 exact .all (h kV doc pm an cdv ct)
theorem ui {x qual:Str} {st:Stmt} {f:Addr} {oc:Value} {od an:Option Addr} {osl:Array (Option Value)} {kV doc pm cdv ct:Value} (l:K.lookup f=some ⟨oc,od, .func (PySem.W.fnOf x qual (zL st) (zo st) (z9 st) .none kV doc pm an cdv ct),osl⟩)
  (c:PySem.W.codeIn K cdv qual=true) (k:PySem.W.keepIn K (.ref f)=true):Fun K x qual st f (PySem.W.fnOf x qual (zL st) (zo st) (z9 st) .none kV doc pm an cdv ct):=⟨⟨oc,od,kV,doc,pm,an,cdv,ct,osl,rfl,l,c⟩,k⟩
end
section
variable {X:Cx}
theorem pv (i:Nat) {x:Str} {pos:Pos} (hN:X.N[i]? =some x:=by rfl) (hv:Vis X.env.scope x:=by first | exact Or.inl rfl | exact Or.inr (Or.inl rfl) | exact Or.inr (Or.inr rfl)) (hd:(x == ("__debug__":Str))=false:=by decide)
  (hcd:(x == ("__classdict__":Str))=false:=by decide):PE X (.Name x pos) (Wj i):=j5 hN hv hd hcd
end
def zh (H H' :Hp):Prop:=∀ b o,H b=some o->H' b=some o
theorem zh.refl (H:Hp):zh H H:=fun _ _ h=>h
theorem zh.trans {H H1 H2:Hp} (a:zh H H1) (b:zh H1 H2):zh H H2:=fun c o h=>b c o (a c o h)
theorem zh.free {H H' :Hp} (e:zh H H') {l:Addr} (h:H' l=Option.none):H l=Option.none:=by
 cases q:H l with
 | none=>rfl
 | some o=>
  rw [e l o q] at h
  cases h
end L2
namespace L2
open PySem PySem.Spec PyProof.Rows PySem.W
theorem Jr {env:Env} {outer:List Env} {L:Addr} (h:env.frame=some L):frs (env :: outer)=L :: frs outer:=by
 unfold frs; rw [List.filterMap_cons,h]
structure J8 (P:Program) (w:World) (outer:List Env) (H:Hp) (s s' :Shared) (ea:Addr) (cls a0:Value) (B:Heap) (H' :Hp):Prop where
 os:s'.os=s.os
 bare:AllBare s'.gens
 fly:Heap.FlyingW B outer ea cls a0 s'.heap
 hok:HOk P w H' B
 un:Un (frs outer) [] H H' s.heap s'.heap
 inB:∀ b o,s.heap.get? b=some o->b ∉ frs outer->(H b=none->B.get? b=some o)/\∃ o',B.get? b=some o'
def CX1 (P:Program) (w:World):CXT:=fun outer H s E e s' =>∃ ea cls a0 B H',e= .ref ea/\J8 P w outer H s s' ea cls a0 B H' /\E cls none H'
section
variable {X:Cx} {pins:List (Addr×Obj)} {σ:St} {H H' :Hp} {s s' :Shared} {ea:Addr} {cls a0:Value} {B:Heap} {h' h'' :Heap}
theorem Inv.frNf (I:Inv X pins σ H s):∀ b∈frs X.stack,H b=none/\∃ o,s.heap.get? b=some o/\∀ vs,o.data ≠ .fields vs:=fun b hb=>⟨I.stkFree b hb,(I.stack.mem hb).2⟩
theorem J8.on {P:Program} {w:World} {outer:List Env} (L:J8 P w outer H s s' ea cls a0 B H') (ff:∀ b∈frs outer,H b=none/\∃ o,s.heap.get? b=some o/\∀ vs,o.data ≠ .fields vs)
  (fl:Heap.FlyingW B outer ea cls a0 h') (sl:s'.heap.UpToSlots h'):J8 P w outer H s { s' with heap:=h' } ea cls a0 B H' where
 os:=L.os
 bare:=L.bare
 fly:=fl
 hok:=L.hok
 inB:=L.inB
 un:=by
  have slot:∀ b o,s.heap.get? b=some o->H b=none->b∈frs outer->∃ sl,h'.get? b=some { o with slots:=sl }:=fun b o e n hb=>by
   obtain ⟨sl1,e1⟩:=L.un.slot b o e n hb (by simp)
   obtain ⟨_,o2,e2,nf⟩:=ff b hb
   rw [e] at e2; cases e2
   obtain ⟨sl2,e3⟩:=sl b _ e1 nf
   exact ⟨sl2,e3⟩
  exact ⟨fun b o e n hb _=>fl.1 b o ((L.inB b o e hb).1 n),fun b o e n hb _=>slot b o e n hb,L.un.free,fun b o e _=>by
   by_cases hb:b∈frs outer
   ·obtain ⟨sl1,e1⟩:=slot b o e (ff b hb).1 hb
    exact ⟨_,e1⟩
   ·obtain ⟨o',e'⟩:=(L.inB b o e hb).2
    exact ⟨o',fl.1 b o' e'⟩,L.un.tups,L.un.frzs,L.un.tbls⟩
theorem Inv.old (I:Inv X pins σ H s) {b:Addr} {o:Obj} (hX:X.stack=X.env :: X.outer) (hf:X.env.frame=some X.env.locals) (e:X.s₀.heap.get? b=some o) (hb:b ∉ frs X.outer):b ∉ frs X.stack:=by
 rw [hX,Jr hf]
 intro z
 rcases List.mem_cons.mp z with z | z
 ·exact absurd (Nat.lt_of_lt_of_le (Heap.lt_size e) I.ok.above) (by rw [z]; exact Nat.lt_irrefl _)
 ·exact hb z
theorem J9 {X:Cx} (hX:X.stack=X.env :: X.outer) (hf:X.env.frame=some X.env.locals) {b:Addr} (hb:b∈frs X.outer):b∈frs X.stack:=by
 rw [hX,Jr hf]; exact List.mem_cons_of_mem _ hb
theorem J8.out (I:Inv X pins σ H s) (hX:X.stack=X.env :: X.outer) (hf:X.env.frame=some X.env.locals) (hex:X.ex=[]) (L:J8 X.prog X.w X.stack H s s' ea cls a0 B H')
  (fl:Heap.FlyingW B X.outer ea cls a0 h') (sl:s'.heap.UpToSlots h'):J8 X.prog X.w X.outer X.H₀ X.s₀ { s' with heap:=h' } ea cls a0 B H' where
 os:=L.os.trans I.os
 bare:=L.bare
 fly:=fl
 hok:=L.hok
 inB:=fun b o e hb=>by
  have nx:b ∉ X.ex:=by rw [hex]; simp
  obtain ⟨o1,e1⟩:=I.base.there b o e nx
  have hb' :=I.old hX hf e hb
  exact ⟨fun n=>(L.inB b o (I.base.keep b o e n hb nx) hb').1 (I.base.free b o e n nx),(L.inB b o1 e1 hb').2⟩
 un:=by
  have nx:∀ b,b ∉ X.ex:=fun b=>by rw [hex]; simp
  have slot:∀ b o,X.s₀.heap.get? b=some o->X.H₀ b=none->b∈frs X.outer->∃ sl,h'.get? b=some { o with slots:=sl }:=fun b o e n hb=>by
   obtain ⟨sl1,e1⟩:=I.base.slot b o e n hb (nx b)
   have n1:=I.base.free b o e n (nx b)
   obtain ⟨sl2,e2⟩:=L.un.slot b _ e1 n1 (J9 hX hf hb) (by simp)
   obtain ⟨_,o3,e3,nf⟩:=I.frNf b (J9 hX hf hb)
   rw [e1] at e3; cases e3
   obtain ⟨sl4,e4⟩:=sl b _ e2 nf
   exact ⟨sl4,e4⟩
  refine ⟨fun b o e n hb _=> ?_,fun b o e n hb _=>slot b o e n hb,fun b o e n _=> ?_,fun b o e _=> ?_,fun b xs e=>L.un.tups b xs (I.base.tups b xs e),fun b o xs e=>L.un.frzs b o xs (I.base.frzs b o xs e),fun b ps q e=>L.un.tbls b ps q (I.base.tbls b ps q e)⟩
  ·exact fl.1 b o ((L.inB b o (I.base.keep b o e n hb (nx b)) (I.old hX hf e hb)).1 (I.base.free b o e n (nx b)))
  ·obtain ⟨o1,e1⟩:=I.base.there b o e (nx b)
   exact L.un.free b o1 e1 (I.base.free b o e n (nx b)) (by simp)
  ·by_cases hb:b∈frs X.outer
   ·obtain ⟨sl1,e1⟩:=slot b o e (I.ok.frf b hb) hb
    exact ⟨_,e1⟩
   ·obtain ⟨o1,e1⟩:=I.base.there b o e (nx b)
    obtain ⟨o',e'⟩:=(L.inB b o1 e1 (I.old hX hf e hb)).2
    exact ⟨o',fl.1 b o' e'⟩
theorem J8.made (I:Inv X pins σ H s) (hX:X.stack=X.env :: X.outer) (hf:X.env.frame=some X.env.locals) (hex:X.ex=[]) {vs:List Value} (hx:Heap.MadeExcOf s.heap h' ea cls vs)
  (fl:Heap.FlyingW (hideAll s.heap (frs X.stack)) X.outer ea cls a0 h'') (sl:h'.UpToSlots h''):J8 X.prog X.w X.outer X.H₀ X.s₀ { s with heap:=h'' } ea cls a0 (hideAll s.heap (frs X.stack)) H where
 os:=I.os
 bare:=I.bare
 fly:=fl
 hok:=fun a o e=>(I.hok a o e).stay (fun b u hb q=>hideAll_get _ q fun z=>by
   have:=I.stkFree b z
   rcases hb with rfl | hb
   ·rw [e] at this; cases this
   ·rw [hb] at this; cases this) (fun _ q=>q) fun _ _ q=>q
 inB:=fun b o e hb=>by
  have nx:b ∉ X.ex:=by rw [hex]; simp
  obtain ⟨o1,e1⟩:=I.base.there b o e nx
  have hb' :=I.old hX hf e hb
  exact ⟨fun n=>hideAll_get _ (I.base.keep b o e n hb nx) hb',o1,hideAll_get _ e1 hb'⟩
 un:=by
  have nx:∀ b,b ∉ X.ex:=fun b=>by rw [hex]; simp
  have slot:∀ b o,X.s₀.heap.get? b=some o->X.H₀ b=none->b∈frs X.outer->∃ sl,h''.get? b=some { o with slots:=sl }:=fun b o e n hb=>by
   obtain ⟨sl1,e1⟩:=I.base.slot b o e n hb (nx b)
   obtain ⟨_,o3,e3,nf⟩:=I.frNf b (J9 hX hf hb)
   rw [e1] at e3; cases e3
   obtain ⟨sl4,e4⟩:=sl b _ (hx.keeps b _ e1) nf
   exact ⟨sl4,e4⟩
  refine ⟨fun b o e n hb _=> ?_,fun b o e n hb _=>slot b o e n hb,fun b o e n _=>I.base.free b o e n (nx b),fun b o e _=> ?_,I.base.tups,I.base.frzs,I.base.tbls⟩
  ·exact fl.1 b o (hideAll_get _ (I.base.keep b o e n hb (nx b)) (I.old hX hf e hb))
  ·by_cases hb:b∈frs X.outer
   ·obtain ⟨sl1,e1⟩:=slot b o e (I.ok.frf b hb) hb
    exact ⟨_,e1⟩
   ·obtain ⟨o1,e1⟩:=I.base.there b o e (nx b)
    exact ⟨o1,fl.1 b o1 (hideAll_get _ e1 (I.old hX hf e hb))⟩
end
section
variable {P:Program} {w:World} {K:Frag} {mg:Str->Option Value} {base:Heap} {N:List Str} {qual:Str} {scope:Scope} {f:Addr} {cd:Value} {A:Around} {outer:List Env} {s:Shared} {H:Hp} {E:XK}
theorem ZY:zJ (CX1 P w) (Zx (CX1 P w) P w K mg base N qual scope f cd A outer s H E) E:=by
 intro pins σ H1 s1 e s' I ⟨ea,cls,a0,B,H',he,L,hE⟩
 subst he
 exact wpAny_leaves_onW (base:=B) I.ok.frames rfl L.fly fun h' fl sl=>⟨ea,cls,a0,B,H',rfl,L.out I rfl rfl rfl fl sl,hE⟩
theorem wA {x:Str} {C:Addr} {bm bmN:List Value} {Bn Bb newId nid initId inN:String} {np cpos pos:Pos} {e:Expr} {t:TA} (O:OwnCls x C bm newId mg base) (Fn:ExcBaseFacts Bn newId inN bmN) (hBn:bm.contains (.type Bn)=true) (FB:ExcBaseFacts Bb nid initId bm)
  (hg:Gl (Zx (CX1 P w) P w K mg base N qual scope f cd A outer s H E) x) (ha:PA (Zx (CX1 P w) P w K mg base N qual scope f cd A outer s H E) [e] t)
  (he:starEach [e] (envOfC qual scope s.heap.objs.size f cd)=[(false,eval e (envOfC qual scope s.heap.objs.size f cd))]) (hd:(x == ("__debug__":Str))=false:=by decide):
  PS (Zx (CX1 P w) P w K mg base N qual scope f cd A outer s H E) (.Raise (some (.Call (.Name x np) [e] [] cpos)) none pos) (fun _ σ H1=>t σ H1 fun vs H2=>vs.length<=sizeLine/\E (.ref C) none H2):=by
 intro pins s1 σ H1 D I hw
 obtain ⟨tl,N',nm,q,bs,hdct,sn,sub,ab,col,dd,k0,k1,k2,k3,k5,mN,hC,hN,hni,T⟩:=O.obj
 have hp:(backTo cpos (starEach [e] (envOfC qual scope s.heap.objs.size f cd))).any (·.1)=false:=by rw [he]; rfl
 refine wpAny_Raise_call_subU (C:=C) (nm:=nm) (q:=q) (N:=N') (bs:=bs) (bm:=tl) (hdct:=hdct) (sn:=sn) (sub:=sub) (ab:=ab) (col:=col) (dd:=dd) (k0:=k0) (k1:=k1) (k2:=k2) (k3:=k3) (k5:=k5)
  Fn hBn FB (mN:=mN) (T.hasType FB.hasBase) (I.ok.hd rfl) hp hni (Zh I hg O.bound ⟨rfl, ?_⟩ hd)
 have h2:=ha cpos pins s1 σ H1 _ I hw
 have he' :starEach [e] (Zx (CX1 P w) P w K mg base N qual scope f cd A outer s H E).env=[(false,eval e (Zx (CX1 P w) P w K mg base N qual scope f cd A outer s H E).env)]:=he
 rw [he'] at h2 ⊢
 refine Calls.evalArgs_plain (thn h2 fun us s2 ⟨vs,H2,I2,r,hl,hE⟩=>⟨rfl,by rw [← r.length]; exact hl,I2.bk _ _ hC,hN.keeps I2.bk,T.keeps I2.bk,fun h' ea hx=> ?_⟩)
 have hin:∀ env∈(Zx (CX1 P w) P w K mg base N qual scope f cd A outer s H E).stack,∀ b,env.frame=some b->b∈frs (Zx (CX1 P w) P w K mg base N qual scope f cd A outer s H E).stack:=fun env he b hb=>List.mem_filterMap.mpr ⟨env,he,hb⟩
 exact wpAny_leaves_madeW (base:=hideAll s2.heap (frs (Zx (CX1 P w) P w K mg base N qual scope f cd A outer s H E).stack)) (h:=s2.heap) I2.ok.frames rfl (fun b o q=>of_hideAll _ q) (funFrames_hide I2.stack hin) hx fun h'' t' fl _ _ sl=>
  ⟨ea, .ref C, .ref t',_,H2,rfl,J8.made I2 rfl rfl rfl hx fl sl,hE⟩
end
end L2
namespace L2
open PySem PySem.Spec PyProof.Rows PySem.W
theorem zD.there {P:Program} {w:World} {H:Hp} {h:Heap} {a:Addr} {o:HO} (x:zD P w H h a o):∃ ob,h.get? a=some ob:=by
 cases o with
 | lst xs=>obtain ⟨_,_,_,_,e⟩:=x; exact ⟨_,e⟩
 | tup xs=>obtain ⟨_,_,_,⟨_,e,_⟩,_⟩:=x; exact ⟨_,e⟩
 | dK kvs=>obtain ⟨_,_,_,_,o,_,_,e,_⟩:=x; exact ⟨_,e⟩
 | dT kvs=>obtain ⟨_,_,_,_,o,_,_,e,_⟩:=x; exact ⟨_,e⟩
 | set S n=>obtain ⟨o,_,_,_,e,_⟩:=x; exact ⟨_,e⟩
 | ins C dx fs=>obtain ⟨_,_,_,e,_⟩:=x; exact ⟨_,e⟩
 | own y=>obtain ⟨_,e⟩:=x; exact ⟨_,e⟩
 | xd fs=>obtain ⟨_,⟨_,_,_,e,_⟩,_⟩:=x; exact ⟨_,e⟩
 | rng lo hi=>obtain ⟨_,_,_,e⟩:=x; exact ⟨_,e⟩
 | frz ob u=>obtain ⟨e,_⟩:=x; exact ⟨_,e⟩
 | tbl ps q=>obtain ⟨_,e,_⟩:=x; exact ⟨_,e⟩
 | met f y=>exact ⟨_,(show h.get? a=some _ from x)⟩
 | ext φ=>obtain ⟨_,e,_⟩:=x; exact e
def Js (cls:Value) (a:Addr) (h:Heap):Prop:=∃ o,h.get? a=some o/\o.cls=cls
theorem Js.ok {P:Program} {w:World} {H:Hp} {h:Heap} {a:Addr} {cls:Value} (x:Js cls a h):zD P w H h a (.ext (Js cls a)):=
 ⟨x,let ⟨o,e,_⟩:=x; ⟨o,e⟩,fun _ _ ⟨o,e,c⟩ k=>⟨o,k o e,c⟩⟩
abbrev Cx.try' (X:Cx) (pn:List (Addr×Obj)) (xe:Value->Shared->Prop):Cx:={ X with pn:=pn,xe:=xe }
abbrev Cx.mark' (X:Cx) (e:Value):Cx:={ X with A:=X.A.mark (some e),calm:=false,xe:=fun _ _=>False }
section
variable {X:Cx} {pins pins' :List (Addr×Obj)} {σ:St} {H H' :Hp} {s s' :Shared} {xe:Value->Shared->Prop}
theorem Cx.Ok.try' (ok:X.Ok) {pn:List (Addr×Obj)}:(X.try' pn xe).Ok:=
 ⟨ok.mod,ok.kind,ok.glob,ok.blt,ok.above,ok.inj,ok.has,ok.cab,ok.hd,ok.frames,ok.stk,ok.exf,ok.bs,ok.bsz,ok.noex,ok.exfs,ok.funs,ok.frf⟩
theorem Cx.Ok.untry {pn:List (Addr×Obj)} (ok:(X.try' pn xe).Ok):X.Ok:=
 ⟨ok.mod,ok.kind,ok.glob,ok.blt,ok.above,ok.inj,ok.has,ok.cab,ok.hd,ok.frames,ok.stk,ok.exf,ok.bs,ok.bsz,ok.noex,ok.exfs,ok.funs,ok.frf⟩
theorem Inv.try' (I:Inv X pins σ H s) (xe:Value->Shared->Prop):Inv (X.try' (X.pn++pins) xe) [] σ H s:=
 ⟨I.ok.try',I.os,I.bare,I.base,I.loc,I.cell,I.free,I.freeC,fun p hp=>I.pin p (by simpa using hp),I.hok,I.len⟩
theorem Inv.untry (I:Inv (X.try' (X.pn++pins) xe) pins' σ H s):Inv X pins σ H s:=
 ⟨I.ok.untry,I.os,I.bare,I.base,I.loc,I.cell,I.free,I.freeC,fun p hp=>I.pin p (List.mem_append_left _ hp),I.hok,I.len⟩
theorem Inv.mark' (I:Inv X pins σ H s) (e:Value):Inv (X.mark' e) pins σ H s:=
 ⟨⟨I.ok.mod,I.ok.kind,I.ok.glob,I.ok.blt,I.ok.above,I.ok.inj,I.ok.has,I.ok.cab,fun z=>(by cases z),I.ok.frames,I.ok.stk,I.ok.exf,I.ok.bs,I.ok.bsz,I.ok.noex,I.ok.exfs,I.ok.funs,I.ok.frf⟩,I.os,I.bare,I.base,I.loc,I.cell,I.free,I.freeC,I.pin,I.hok,I.len⟩
theorem Inv.unmark {e:Value} (I:Inv (X.mark' e) pins σ H s) (hd:X.calm=true->X.A.handled=none):Inv X pins σ H s:=
 ⟨⟨I.ok.mod,I.ok.kind,I.ok.glob,I.ok.blt,I.ok.above,I.ok.inj,I.ok.has,I.ok.cab,hd,I.ok.frames,I.ok.stk,I.ok.exf,I.ok.bs,I.ok.bsz,I.ok.noex,I.ok.exfs,I.ok.funs,I.ok.frf⟩,I.os,I.bare,I.base,I.loc,I.cell,I.free,I.freeC,I.pin,I.hok,I.len⟩
theorem SP.untry {D:Wp} {f:Flow} {pins' :List (Addr×Obj)} (h:SP (X.try' (X.pn++pins) xe) pins' D f s'):SP X pins D f s' :=by
 cases f with
 | next=>obtain ⟨σ',H',I,q⟩:=h; exact ⟨σ',H',I.untry,q⟩
 | brk=>obtain ⟨σ',H',I,q⟩:=h; exact ⟨σ',H',I.untry,q⟩
 | cont=>obtain ⟨σ',H',I,q⟩:=h; exact ⟨σ',H',I.untry,q⟩
 | ret u=>obtain ⟨v,σ',H',I,r,q⟩:=h; exact ⟨v,σ',H',I.untry,r,q⟩
theorem uQ {A:Around} {E:Value->Shared->Prop} {M:Model} {i:Nat} {n:Str} {pos:Pos} {Q:Unit->Shared->Prop} (I:Inv X pins σ H s) (hN:X.N.Nodup) (hi:X.N[i]? =some n) (hl:X.env.kindOf n=some .local) (h:∀ s',Inv X pins (σ.set i none) H s' ->Q () s'):
  wpAny M A (do bindName X.env n .none; unbindBehindTheSuite X.env n pos) Q E s:=by
 obtain ⟨m,hn,hlo⟩:=id I.loc
 have hcls:(X.env.scope.kind == .class || (X.env.scope.kind == .module && X.env.locals != X.env.globals))=false:=by rw [I.ok.kind]; rfl
 refine wpAny_nameGoes_keeps hl hn hcls fun h' v hn' hs=> ?_
 obtain ⟨oL,_,_,hoL,_⟩:=id hn
 refine h _ ⟨I.ok,I.os,I.bare,⟨fun b o e n hb hx=> ?_,fun b o e n hb hx=> ?_,I.base.free,fun b o e hx=> ?_,I.base.tups,I.base.frzs,I.base.tbls⟩,⟨_,hn',fun j y v' e1 e2 e3=> ?_⟩,fun y c e=> ?_,I.free,I.freeC,fun p hp=> ?_,fun b ob e=> ?_,by simpa using I.len⟩
 ·exact (hs.2 b (Nat.ne_of_lt (Nat.lt_of_lt_of_le (Heap.lt_size e) I.ok.above))).trans (I.base.keep b o e n hb hx)
 ·obtain ⟨sl,e1⟩:=I.base.slot b o e n hb hx
  exact ⟨sl,(hs.2 b (Nat.ne_of_lt (Nat.lt_of_lt_of_le (Heap.lt_size e) I.ok.above))).trans e1⟩
 ·obtain ⟨o',e1⟩:=I.base.there b o e hx
  exact ⟨o',(hs.2 b (Nat.ne_of_lt (Nat.lt_of_lt_of_le (Heap.lt_size e) I.ok.above))).trans e1⟩
 ·by_cases hj:j=i
  ·subst hj
   have hiσ:j < σ.length:=by rw [I.len]; exact (List.getElem?_eq_some_iff.mp hi).1
   rw [List.getElem?_set_self hiσ] at e2
   cases e2
  ·rw [List.getElem?_set_ne (Ne.symm hj)] at e2
   obtain ⟨u',r',q⟩:=hlo j y v' e1 e2 e3
   refine ⟨u',r', ?_⟩
   rcases q with ⟨k,e⟩ | ⟨k,c,e,z⟩
   ·refine .inl ⟨k, ?_⟩
    have:y ≠ n:=fun e=>hj (je hN e1 (e ▸ hi))
    simp [this,e]
   ·exact .inr ⟨k,c,e,z.sameBut hs (I.cne y c e)⟩
 ·obtain ⟨w',z⟩:=I.cell y c e
  exact ⟨w',z.sameBut hs (I.cne y c e)⟩
 ·obtain ⟨e,n,ne,nf,d⟩:=I.pin p hp
  exact ⟨(hs.2 p.1 ne).trans e,n,ne,nf,d⟩
 ·refine (I.hok b ob e).stay (fun c w' hc q=>(hs.2 c ?_).trans q) (fun _ q=>q) fun _ _ q=>q
  rintro rfl
  rcases hc with rfl | hc
  ·rw [I.free] at e; cases e
  ·rw [I.free] at hc; cases hc
end
section
variable {prog:Program} {w:World} {A:Around} {E:Value->Shared->Prop} {s:Shared} {env:Env}
theorem JU {K:Frag} {e:Addr} {cls c:Value} {t:Expr} {n:Str} {b₀:Stmt} {suite:List Stmt} {pos:Pos} {rest:List ExceptHandler} {Q:Flow->Shared->Prop} (hx:exmOne K cls c=some true)
  (h:wpAny (model prog w) (A.mark (some (.ref e))) (eval t env) (fun v s₁=>v=c/\K.In s₁.heap/\(∃ oe,s₁.heap.get? e=some oe/\oe.cls=cls)/\
   wpAny (model prog w) (A.mark (some (.ref e))) (setFlight (.ref e) none) (fun _ s₂=>
     wpAny (model prog w) (A.mark (some (.ref e))) (storeName env n (.ref e)) (fun _ s₃=>
      wpAny (model prog w) (A.mark (some (.ref e))) (execs (b₀ :: suite) env)
       (fun f s₄=>wpAny (model prog w) A (do bindName env n .none; unbindBehindTheSuite env n pos) (fun _ s₅=>Q f s₅) E s₄)
       (fun _ _=>False) s₃) (fun _ _=>False) s₂) (fun _ _=>False) s₁) (fun _ _=>False) s):
  wpAny (model prog w) A (handleBy (.ref e) env (.ExceptHandler (some t) (some n) (b₀ :: suite) pos :: rest)) Q E s:=by
 refine wpAny_handleBy_cons (codeAny_handlers_test (wpAny_mono h (fun v s₁ h₁=> ?_) fun _ _ y=>y.elim)) (by intro q; cases q)
 obtain ⟨rfl,X,⟨oe,he,hcls⟩,hk⟩:=h₁
 have LT:Looks (model prog w) s₁.heap (typeOf (.ref e)) cls:=by
  rw [← hcls]
  exact (Looks.ld he).andThen .now
 refine (exm_one X LT hx) _ _ _ _ (fun b o q=>q) (codeAny_handlers_suite_as ?_)
 exact wpAny_mono hk (fun _ s₂ h₂=>wpAny_mono h₂ (fun _ s₃ h₃=>wpAny_mono h₃ (fun _ _ y=>y) fun _ _ y=>y.elim) fun _ _ y=>y.elim) fun _ _ y=>y.elim
end
end L2
namespace L2
open PySem PySem.Spec PyProof.Rows PySem.W
section
variable {X:Cx} {pins:List (Addr×Obj)} {σ:St} {H H' :Hp} {s s' :Shared} {ea:Addr} {cls a0:Value} {B:Heap} {h3:Heap}
theorem Inv.caught (I:Inv X pins σ H s) (L:J8 X.prog X.w X.stack H s s' ea cls a0 B H') (fl:Heap.FlyingW B X.stack ea cls a0 h3) (sl:s'.heap.UpToSlots h3):Inv X pins σ H' { s' with heap:=h3 }:=
 have L3:=L.on I.frNf fl sl
 I.call' (ch:=[]) L3.os L3.un (L.hok.kept fl.1) L3.bare (fun b z=>absurd z (by simp))
theorem J8.fresh {P:Program} {w:World} {outer:List Env} (L:J8 P w outer H s s' ea cls a0 B H'):H' ea=none:=by
 cases q:H' ea with
 | none=>rfl
 | some o=>
  obtain ⟨ob,e⟩:=(L.hok ea o q).there
  have:=L.fly.2.1
  rw [e] at this; cases this
theorem Inv.caughtX (I:Inv X pins σ H s) (L:J8 X.prog X.w X.stack H s s' ea cls a0 B H') (fl:Heap.FlyingW B X.stack ea cls a0 h3) (sl:s'.heap.UpToSlots h3):Inv X pins σ (upd H' ea (.ext (Js cls ea))) { s' with heap:=h3 }:=by
 have L3:=L.on I.frNf fl sl
 have hfree:=L.fresh
 obtain ⟨oe,vs,he,hc,hd,_⟩:=fl.first
 have hne:∀ b o,s.heap.get? b=some o->b ≠ ea:=fun b o e z=>by
  subst z
  by_cases hb:b∈frs X.stack
  ·obtain ⟨n,o2,e2,nf⟩:=I.frNf b hb
   obtain ⟨sl1,e3⟩:=L3.un.slot b o2 e2 n hb (by simp)
   have e3:h3.get? b=some { o2 with slots:=sl1 }:=e3
   rw [he] at e3; cases e3
   exact nf vs hd
  ·obtain ⟨o',e'⟩:=(L.inB b o e hb).2
   have:=L.fly.2.1
   rw [e'] at this; cases this
 have nt:∀ b u,H' b=some u->b ≠ ea:=fun b u e z=>by rw [z,hfree] at e; cases e
 refine I.call' (ch:=[]) L3.os ⟨L3.un.keep,L3.un.slot,fun b o e n hx=> ?_,L3.un.there,fun b xs e=> ?_,fun b o xs e=> ?_,fun b ps q e=> ?_⟩ ?_ L3.bare (fun b z=>absurd z (by simp))
 ·rw [zf (hne b o e)]; exact L3.un.free b o e n hx
 ·have:=L3.un.tups b xs e
  rw [zf (nt b _ this)]; exact this
 ·have:=L3.un.frzs b o xs e
  rw [zf (nt b _ this)]; exact this
 ·have:=L3.un.tbls b ps q e
  rw [zf (nt b _ this)]; exact this
 ·intro b u e
  by_cases hb:b=ea
  ·subst hb
   rw [zg] at e; cases e
   exact Js.ok ⟨oe,he,hc⟩
  ·rw [zf hb] at e
   exact ((L.hok.kept fl.1) b u e).stay (fun _ _ _ q=>q) (fun c q=>by rw [zf (nt c _ q)]; exact q) (fun c xs q=>by rw [zf (nt c _ q)]; exact q) fun c o u q=>by rw [zf (nt c _ q)]; exact q
end
end L2
namespace PySem
open PySem.W
section
variable {M:Model} {A:Around} {E:Value->Shared->Prop} {s:Shared}
end
end PySem
namespace L2
open PySem PySem.Spec PyProof.Rows PySem.W
section
variable {X:Cx} {pins:List (Addr×Obj)} {σ:St} {H H' :Hp} {s s' :Shared} {ea C:Addr} {cls a0:Value} {B:Heap} {h' :Heap}
def yA (X:Cx) (E:XK):Prop:=∀ (pins:List (Addr×Obj)) (σ:St) (H:Hp) (s:Shared) (e:Value) (s' :Shared) (C:Addr) (m:Str->Option Value) (E' :Value->Shared->Prop) (cenv:Env),Inv X pins σ H s->s.heap.Ns C m->H C=none->X.s₀.heap.objs.size<=C->C ∉ frs X.stack->cenv.frame=X.env.frame->CX1 X.prog X.w X.stack H s E e s' ->
 wpAny (model X.prog X.w) X.A (noteFrame e cenv) (fun _ s'' =>∃ m,s''.heap.Ns C m/\∀ h',Heap.SameBut C s''.heap h' ->∀ env:Env,env.locals=C->wpAny (model X.prog X.w) X.A (passOn "comprehension.variables-let-go" e env:Sem Value) (fun _ _=>False) X.xe { s'' with heap:=h' }) E' s'
theorem j8 {E:XK} (h:E=fun _ _ _=>False):yA X E:=fun pins σ H s e s' C m E' cenv I _ _ _ _ _ ⟨_,_,_,_,_,_,_,z⟩=>by subst h; exact z.elim
end
end L2
namespace L2
open PySem PySem.Spec PyProof.Rows
theorem PE.imp {X:Cx} {e:Expr} {t t' :TE} (h:PE X e t) (i:∀ σ H Q,t' σ H Q->t σ H Q):PE X e t' :=fun pins s σ H Q I q=>h pins s σ H Q I (i σ H Q q)
theorem PT.imp {X:Cx} {e:Expr} {t t' :TT} (h:PT X e t) (i:∀ σ H Q,t' σ H Q->t σ H Q):PT X e t' :=fun pins s σ H Q I q=>h pins s σ H Q I (i σ H Q q)
theorem PA.imp {X:Cx} {e:List Expr} {t t' :TA} (h:PA X e t) (i:∀ σ H Q,t' σ H Q->t σ H Q):PA X e t' :=fun pos pins s σ H Q I q=>h pos pins s σ H Q I (i σ H Q q)
theorem PS.imp {X:Cx} {e:Stmt} {t t' :TS} (h:PS X e t) (i:∀ D σ H,t' D σ H->t D σ H):PS X e t' :=fun pins s σ H D I q=>h pins s σ H D I (i D σ H q)
theorem PSs.imp {X:Cx} {e:List Stmt} {t t' :TS} (h:PSs X e t) (i:∀ D σ H,t' D σ H->t D σ H):PSs X e t' :=fun pins s σ H D I q=>h pins s σ H D I (i D σ H q)
end L2
namespace PV
open PySem
def jK:Expr->Bool
 | .Starred _ _=>false
 | _=>true
theorem zv {e:Expr} {rest:List Expr} {env:Env} (h:jK e=true):starEach (e :: rest) env=(false,eval e env) :: starEach rest env:=by
 cases e <;> first | rfl | cases h
theorem st2 {a b:Expr} {env:Env} (h:jK a=true) (h' :jK b=true):starEach [a,b] env=[(false,eval a env),(false,eval b env)]:=by
 rw [zv h,zv h']; rfl
theorem st1 {a:Expr} {env:Env} (h:jK a=true):starEach [a] env=[(false,eval a env)]:=by
 rw [zv h]; rfl
theorem zH {pos:Pos} {env:Env}:∀ {es:List Expr},es.all jK=true->((backTo pos (starEach es env)).any fun x=>x.fst)=false
 | [],_=>rfl
 | e :: es,h=>by
  rw [List.all_cons,Bool.and_eq_true] at h
  rw [zv h.1]
  have:=zH (pos:=pos) (env:=env) h.2
  show (false || ((backTo pos (starEach es env)).any fun x=>x.fst))=false
  rw [this]; rfl
open PySem PySem.Spec PyProof.Rows L2
abbrev Sg:=L2.St
inductive T where
 | non | bl (b:Bool) | int (i:Int) | str (x:Str) | tup (xs:List T) | lst (xs:List T) | fz (xs:List T)
inductive R (α:Type) where
 | ok (a:α) | ex (c:Nat) | bad
def R.bind {α β:Type} (r:R α) (f:α->R β):R β:=match r with
 | .ok a=>f a
 | .ex c=> .ex c
 | .bad=> .bad
mutual
inductive Rep (H:Hp):V->T->Prop where
 | non:Rep H .non .non
 | bl (b:Bool):Rep H (.bl b) (.bl b)
 | int (i:Int):Rep H (.int i) (.int i)
 | str (x:Str):Rep H (.str x) (.str x)
 | tup {a:Addr} {xs:List V} {ts:List T}:H a=some (.tup xs)->zn H xs ts->Rep H (.ref a) (.tup ts)
 | lst {a:Addr} {xs:List V} {ts:List T}:H a=some (.lst xs)->zn H xs ts->Rep H (.ref a) (.lst ts)
 | fz {a:Addr} {o:Obj} {xs:List V} {ts:List T}:H a=some (.frz o (.lst xs))->zn H xs ts->Rep H (.ref a) (.fz ts)
inductive zn (H:Hp):List V->List T->Prop where
 | nil:zn H [] []
 | cons {v:V} {t:T} {vs:List V} {ts:List T}:Rep H v t->zn H vs ts->zn H (v :: vs) (t :: ts)
end
mutual
theorem Rep.mono {H H' :Hp} (s:zh H H'):∀ {v:V} {t:T},Rep H v t->Rep H' v t
 | _,_, .non=> .non
 | _,_, .bl b=> .bl b
 | _,_, .int i=> .int i
 | _,_, .str x=> .str x
 | _,_, .tup h r=> .tup (s _ _ h) (zn.mono s r)
 | _,_, .lst h r=> .lst (s _ _ h) (zn.mono s r)
 | _,_, .fz h r=> .fz (s _ _ h) (zn.mono s r)
theorem zn.mono {H H' :Hp} (s:zh H H'):∀ {v:List V} {t:List T},zn H v t->zn H' v t
 | _,_, .nil=> .nil
 | _,_, .cons h r=> .cons (Rep.mono s h) (zn.mono s r)
end
theorem zn.length {H:Hp}:∀ {vs:List V} {ts:List T},zn H vs ts->vs.length=ts.length
 | _,_, .nil=>rfl
 | _,_, .cons _ r=>congrArg (·+1) (zn.length r)
theorem zn.get {H:Hp}:∀ {vs:List V} {ts:List T} {i:Nat} {t:T},zn H vs ts->ts[i]? =some t->∃ v,vs[i]? =some v/\Rep H v t
 | _,_,_,_, .nil,e=>by simp at e
 | _,_,0,_, .cons r _,e=>by simp at e; subst e; exact ⟨_,rfl,r⟩
 | _,_,i+1,t, .cons _ q,e=>by
  obtain ⟨v,h1,h2⟩:=zn.get (i:=i) (t:=t) q (by simpa using e)
  exact ⟨v,by simpa using h1,h2⟩
theorem zn.getV {H:Hp}:∀ {vs:List V} {ts:List T} {i:Nat} {v:V},zn H vs ts->vs[i]? =some v->∃ t,ts[i]? =some t/\Rep H v t
 | _,_,_,_, .nil,e=>by simp at e
 | _,_,0,_, .cons r _,e=>by simp at e; subst e; exact ⟨_,rfl,r⟩
 | _,_,i+1,v, .cons _ q,e=>by
  obtain ⟨t,h1,h2⟩:=zn.getV (i:=i) (v:=v) q (by simpa using e)
  exact ⟨t,by simpa using h1,h2⟩
theorem zn.append {H:Hp}:∀ {vs ws:List V} {ts us:List T},zn H vs ts->zn H ws us->zn H (vs++ws) (ts++us)
 | _,_,_,_, .nil,q=>q
 | _,_,_,_, .cons r t,q=> .cons r (zn.append t q)
theorem zn.rep {H:Hp} {vs:List V} {ts:List T} (h:zn H vs ts):∀ n:Nat,zn H (List.replicate n vs).flatten (List.replicate n ts).flatten
 | 0=> .nil
 | n+1=>by
  rw [List.replicate_succ,List.replicate_succ,List.flatten_cons,List.flatten_cons]
  exact h.append (zn.rep h n)
theorem zn.nil_iff {H:Hp} {vs:List V} {ts:List T} (h:zn H vs ts):vs=[]↔ts=[]:=by
 cases h <;> simp
def zp (B H H' :Hp):Hp:=fun b=>match H b with
 | none=>H' b
 | some _=>B b
theorem zy {B H H' :Hp} {b:Addr} (h:H b=none):zp B H H' b=H' b:=by unfold zp; rw [h]
theorem zC {B H H' :Hp} {b:Addr} {o:HO} (h:H b=some o):zp B H H' b=B b:=by unfold zp; rw [h]
theorem zp.ge {B H H' :Hp} (s:zh B H) (s' :zh H H'):zh B (zp B H H'):=fun b o h=>by
 rw [zC (s b o h)]; exact h
theorem zp.le {B H H' :Hp} (s:zh B H) (s' :zh H H'):zh (zp B H H') H' :=fun b o h=>by
 cases q:H b with
 | none=>rw [zy q] at h; exact h
 | some u=>rw [zC q] at h; exact s' b o (s b o h)
theorem zp.self (B H:Hp) (s:zh B H):zp B H H=B:=by
 funext b
 cases q:H b with
 | none=>
  rw [zy q,q]
  cases z:B b with
  | none=>rfl
  | some o=>rw [s b o z] at q; cases q
 | some u=>rw [zC q]
theorem zp.trans {B H H1 H2:Hp} (s1:zh H H1) (s2:zh H1 H2):zp (zp B H H1) H1 H2=zp B H H2:=by
 funext b
 cases q:H b with
 | none=>
  rw [zy q]
  cases z:H1 b with
  | none=>rw [zy z]
  | some o=>rw [zC z,zy q,z,s2 b o z]
 | some u=>rw [zC q,zC (s1 b u q),zC q]
inductive Sl where
 | un | vl (t:T) | ow (ts:List T) | xc (c:Nat)
abbrev En:=List Sl
structure Fx where
 B0:Hp
 H0:Hp
 E:XK
 cl:Nat->Value
structure SI (Y:Fx) (B:Hp) (ρ:En) (σ:Sg) (H:Hp):Prop where
 s0:zh Y.B0 Y.H0
 sH:zh Y.H0 H
 sB:zh B H
 old:∀ b o,Y.H0 b=some o->B b=Y.B0 b
 len:ρ.length=σ.length
 vl:∀ (i:Nat) (t:T),ρ[i]? =some (Sl.vl t)->∃ v:V,σ[i]? =some (some v)/\Rep B v t
 ow:∀ (i:Nat) (ts:List T),ρ[i]? =some (Sl.ow ts)->∃ (a:Addr) (xs:List V),σ[i]? =some (some (V.ref a))/\B a=none/\Y.H0 a=none/\H a=some (.lst xs)/\zn B xs ts/\
  ∀ (j:Nat) (us:List T),j ≠ i->ρ[j]? =some (Sl.ow us)->σ[j]? ≠ some (some (V.ref a))
 xc:∀ (i:Nat) (c:Nat),ρ[i]? =some (Sl.xc c)->∃ a:Addr,σ[i]? =some (some (V.ref a))/\B a=some (.ext (Js (Y.cl c) a))
theorem SI.grow {Y:Fx} {B:Hp} {ρ:En} {σ:Sg} {H H' :Hp} (I:SI Y B ρ σ H) (s:zh H H'):SI Y (zp B H H') ρ σ H' where
 s0:=I.s0
 sH:=I.sH.trans s
 sB:=zp.le I.sB s
 old:=fun b o h=>by rw [zC (I.sH b o h)]; exact I.old b o h
 len:=I.len
 vl:=fun i t h=>let ⟨v,e,r⟩:=I.vl i t h; ⟨v,e,r.mono (zp.ge I.sB s)⟩
 ow:=fun i ts h=>let ⟨a,xs,e,b,h0,hh,r,d⟩:=I.ow i ts h; ⟨a,xs,e,by rw [zC hh]; exact b,h0,s _ _ hh,r.mono (zp.ge I.sB s),d⟩
 xc:=fun i c h=>let ⟨a,e,r⟩:=I.xc i c h; ⟨a,e,zp.ge I.sB s a _ r⟩
def XP (Y:Fx) (B:Hp) (c:Nat):Prop:=∀ (d:Option Addr) (H' :Hp),zh Y.H0 H' ->zh B H' ->Y.E (Y.cl c) d H'
def Po {α β:Type} (Y:Fx) (rel:Hp->Hp->β->α->Prop) (B H:Hp) (r:R α) (Q:β->Hp->Prop):Prop:=match r with
 | .ok a=>∀ b H',zh H H' ->rel (zp B H H') H' b a->Q b H'
 | .ex c=>XP Y B c
 | .bad=>False
abbrev rC:Hp->Hp->V->T->Prop:=fun B _ v t=>Rep B v t
abbrev rB:Hp->Hp->V->T->Prop:=fun _ H v t=>Rep H v t
abbrev rCs:Hp->Hp->List V->List T->Prop:=fun B _ v t=>zn B v t
abbrev rE {α:Type}:Hp->Hp->α->α->Prop:=fun _ _ a b=>a=b
def tS {α β:Type} (Y:Fx) (rel:Hp->Hp->β->α->Prop) (f:En->R α) (ρ:En):Sg->Hp->(β->Hp->Prop)->Prop:=fun σ H Q=>∃ B,SI Y B ρ σ H/\Po Y rel B H (f ρ) Q
structure Snd (X:Cx) (Y:Fx) (e:Expr) (f:En->R T):Prop where
 mk ::
 go:∀ ρ,PE X e (tS Y rC f ρ)
instance {X:Cx} {Y:Fx} {e:Expr} {f:En->R T}:CoeFun (Snd X Y e f) fun _=>∀ ρ,PE X e (tS Y rC f ρ):=⟨Snd.go⟩
structure Zi (X:Cx) (Y:Fx) (e:Expr) (f:En->R T):Prop where
 mk ::
 go:∀ ρ,PE X e (tS Y rB f ρ)
instance {X:Cx} {Y:Fx} {e:Expr} {f:En->R T}:CoeFun (Zi X Y e f) fun _=>∀ ρ,PE X e (tS Y rB f ρ):=⟨Zi.go⟩
structure Jt (X:Cx) (Y:Fx) (e:Expr) (f:En->R Bool):Prop where
 mk ::
 go:∀ ρ,PT X e (tS Y rE f ρ)
instance {X:Cx} {Y:Fx} {e:Expr} {f:En->R Bool}:CoeFun (Jt X Y e f) fun _=>∀ ρ,PT X e (tS Y rE f ρ):=⟨Jt.go⟩
structure jX (X:Cx) (Y:Fx) (es:List Expr) (f:En->R (List T)):Prop where
 mk ::
 go:∀ ρ,PA X es (tS Y rCs f ρ)
instance {X:Cx} {Y:Fx} {es:List Expr} {f:En->R (List T)}:CoeFun (jX X Y es f) fun _=>∀ ρ,PA X es (tS Y rCs f ρ):=⟨jX.go⟩
theorem step {α α' β β' :Type} {Y:Fx} {rel:Hp->Hp->β->α->Prop} {rel' :Hp->Hp->β' ->α' ->Prop} {f:En->R α} {k:α->R α'} {ρ:En} {B:Hp} {σ:Sg} {H:Hp} {Q:β' ->Hp->Prop} {K:β->Hp->Prop}
  (I:SI Y B ρ σ H) (h:Po Y rel' B H ((f ρ).bind k) Q)
  (n:∀ a b H1,f ρ= .ok a->zh H H1->rel (zp B H H1) H1 b a->SI Y (zp B H H1) ρ σ H1->Po Y rel' (zp B H H1) H1 (k a) Q->K b H1):tS Y rel f ρ σ H K:=by
 refine ⟨B,I, ?_⟩
 cases e:f ρ with
 | bad=>rw [e] at h; exact h
 | ex c=>rw [e] at h; exact h
 | ok a=>
  rw [e] at h
  intro b H1 s r
  refine n a b H1 e s r (I.grow s) ?_
  have h' :Po Y rel' B H (k a) Q:=h
  revert h'
  cases k a with
  | bad=>exact fun h' =>h'
  | ex c=>exact fun h' d H' s0 sB' =>h' d H' s0 ((zp.ge I.sB s).trans sB')
  | ok a' =>exact fun h' b' H2 s2 r2=>h' b' H2 (s.trans s2) (by rw [← zp.trans s s2]; exact r2)
theorem zZ {α β:Type} {Y:Fx} {rel:Hp->Hp->β->α->Prop} {ρ:En} {B:Hp} {σ:Sg} {H:Hp} {a:α} {b:β} {Q:β->Hp->Prop} (I:SI Y B ρ σ H) (h:Po Y rel B H (.ok a) Q) (r:rel B H b a):Q b H:=h b H (zh.refl H) (by rw [zp.self B H I.sB]; exact r)
theorem Snd.b {X:Cx} {Y:Fx} {e:Expr} {f:En->R T} (h:Snd X Y e f):Zi X Y e f:= .mk fun ρ=>PE.imp (h ρ) fun σ H Q ⟨B,I,q⟩=>⟨B,I,by
 revert q
 cases f ρ with
 | bad=>exact fun q=>q
 | ex c=>exact fun q=>q
 | ok a=>exact fun q b H' s r=>q b H' s (r.mono (zp.le I.sB s))⟩
section
variable {X:Cx} {Y:Fx} {a b c:Expr} {fa fb fc:En->R T} {pos:Pos}
def vE (i:Nat):En->R T:=fun ρ=>match ρ[i]? with
 | some (.vl t)=> .ok t
 | _=> .bad
def vB (i:Nat):En->R T:=fun ρ=>match ρ[i]? with
 | some (.vl t)=> .ok t
 | some (.ow ts)=> .ok (.lst ts)
 | _=> .bad
def cE (t:T):En->R T:=fun _=> .ok t
theorem qD (i:Nat) {x:Str} (h:PE X (.Name x pos) (Wj i)):Snd X Y (.Name x pos) (vE i):= .mk fun ρ=>PE.imp h fun σ H Q ⟨B,I,q⟩=>by
 unfold vE at q
 split at q
 ·rename_i t e
  obtain ⟨v,e1,r⟩:=I.vl i t e
  exact ⟨v,e1,zZ I q r⟩
 ·exact q.elim
theorem yB (i:Nat) {x:Str} (h:PE X (.Name x pos) (Wj i)):Zi X Y (.Name x pos) (vB i):= .mk fun ρ=>PE.imp h fun σ H Q ⟨B,I,q⟩=>by
 unfold vB at q
 split at q
 ·rename_i t e
  obtain ⟨v,e1,r⟩:=I.vl i t e
  exact ⟨v,e1,zZ I q (r.mono I.sB)⟩
 ·rename_i ts e
  obtain ⟨a,xs,e1,_,_,hh,r,_⟩:=I.ow i ts e
  exact ⟨.ref a,e1,zZ I q (.lst hh (r.mono I.sB))⟩
 ·exact q.elim
theorem qE {i j}:Snd X Y (.Constant (.int i) j pos) (cE (.int i)):= .mk fun ρ=>PE.imp y7 fun σ H Q ⟨B,I,q⟩=>zZ I q (.int i)
theorem Vb {i j}:Snd X Y (.Constant (.bool i) j pos) (cE (.bl i)):= .mk fun ρ=>PE.imp qd fun σ H Q ⟨B,I,q⟩=>zZ I q (.bl i)
theorem qF {j}:Snd X Y (.Constant .none j pos) (cE .non):= .mk fun ρ=>PE.imp y8 fun σ H Q ⟨B,I,q⟩=>zZ I q .non
theorem yC {i j}:Snd X Y (.Constant (.str i) j pos) (cE (.str i)):= .mk fun ρ=>PE.imp y9 fun σ H Q ⟨B,I,q⟩=>zZ I q (.str i)
def zb:En->R (List T):=fun _=> .ok []
def z0 (f:En->R T) (g:En->R (List T)):En->R (List T):=fun ρ=>(f ρ).bind fun t=>(g ρ).bind fun ts=> .ok (t :: ts)
theorem yD:jX X Y [] zb:= .mk fun ρ=>PA.imp zB fun σ H Q ⟨B,I,q⟩=>zZ I q .nil
theorem uj {es:List Expr} {g:En->R (List T)} (h:Snd X Y a fa) (hs:jX X Y es g) (hq:starEach (a :: es) X.env=(false,eval a X.env) :: starEach es X.env:=by exact zv rfl):jX X Y (a :: es) (z0 fa g):= .mk fun ρ=>
 PA.imp (zi (h ρ) (hs ρ) hq) fun σ H Q ⟨B,I,q⟩=>step I q fun t v H1 _ s1 r1 I1 q1=>step I1 q1 fun ts vs H2 _ s2 r2 I2 q2=>zZ I2 q2 (.cons (r1.mono (zp.ge I1.sB s2)) r2)
theorem zh.new {H:Hp} {p:Addr} (h:H p=none) (o:HO):zh H (upd H p o):=fun b u q=>by rw [zf (zk q h)]; exact q
theorem ZR {B H:Hp} {p:Addr} (h:H p=none) (o:HO):zp B H (upd H p o) p=some o:=by rw [zy h,zg]
def bnd:Nat:=16777216
theorem zR {n:Nat} (h:n<=bnd):n<=sizeLine:=by rw [sizeLine_eq]; exact h
def zw (g:En->R (List T)):En->R T:=fun ρ=>(g ρ).bind fun ts=>if ts.length<=bnd then .ok (.tup ts) else .bad
def zS (g:En->R (List T)):En->R T:=fun ρ=>(g ρ).bind fun ts=>if ts.length<=bnd then .ok (.lst ts) else .bad
theorem uR {ρ:En} {σ:Sg} {B H:Hp} {xs:List V} {ts:List T} (I:SI Y B ρ σ H) (r:zn B xs ts) {p:Addr} (h:H p=none):Rep (zp B H (upd H p (.tup xs))) (.ref p) (.tup ts):=
 .tup (ZR h _) (r.mono (zp.ge I.sB (zh.new h _)))
theorem uS {ρ:En} {σ:Sg} {B H:Hp} {xs:List V} {ts:List T} (I:SI Y B ρ σ H) (r:zn B xs ts) {p:Addr} (h:H p=none):Rep (zp B H (upd H p (.lst xs))) (.ref p) (.lst ts):=
 .lst (ZR h _) (r.mono (zp.ge I.sB (zh.new h _)))
theorem qG {es:List Expr} {g:En->R (List T)} {x1} (h:jX X Y es g):Snd X Y (.Tuple es x1 pos) (zw g):= .mk fun ρ=>PE.imp (uf (h ρ)) fun σ H Q ⟨B,I,q⟩=>
 step I q fun ts vs H1 _ s1 r1 I1 q1=>by
  split at q1
  ·rename_i hb
   refine ⟨by rw [r1.length]; exact zR hb,fun p hp=>q1 _ _ (zh.new hp _) (uR I1 r1 hp)⟩
  ·exact q1.elim
theorem qH {es:List Expr} {g:En->R (List T)} (h:jX X Y es g):Snd X Y (.List es pos) (zS g):= .mk fun ρ=>PE.imp (ug (h ρ)) fun σ H Q ⟨B,I,q⟩=>
 step I q fun ts vs H1 _ s1 r1 I1 q1=>by
  split at q1
  ·rename_i hb
   refine ⟨by rw [r1.length]; exact zR hb,fun p hp=>q1 _ _ (zh.new hp _) (uS I1 r1 hp)⟩
  ·exact q1.elim
end
end PV
namespace PV
open PySem PySem.Spec PyProof.Rows L2
def eqL (f:T->T->Option Bool):List T->List T->Option Bool
 | [],[]=>some true
 | [],_ :: _=>some false
 | _ :: _,[]=>some false
 | x :: xs,y :: ys=>match f x y with
  | none=>none
  | some b=>match eqL f xs ys with
   | none=>none
   | some c=>some (b && c)
def b2 (b:Bool):Int:=if b then 1 else 0
def eqF:Nat->T->T->Option Bool
 | _, .non, .non=>some true
 | _, .bl a, .bl b=>some (a == b)
 | _, .bl a, .int j=>some (b2 a == j)
 | _, .int i, .bl b=>some (i == b2 b)
 | _, .int i, .int j=>some (i == j)
 | _, .str x, .str y=>some (x == y)
 | n+1, .tup xs, .tup ys=>eqL (eqF n) xs ys
 | n+1, .lst xs, .lst ys=>eqL (eqF n) xs ys
 | n+1, .fz xs, .lst ys=>eqL (eqF n) xs ys
 | n+1, .lst xs, .fz ys=>eqL (eqF n) xs ys
 | n+1, .fz xs, .fz ys=>eqL (eqF n) xs ys
 | 0, .tup _, .tup _=>none
 | 0, .lst _, .lst _=>none
 | 0, .fz _, .lst _=>none
 | 0, .lst _, .fz _=>none
 | 0, .fz _, .fz _=>none
 | _, .non,_=>some false
 | _, .bl _,_=>some false
 | _, .int _,_=>some false
 | _, .str _,_=>some false
 | _, .tup _,_=>some false
 | _, .lst _,_=>some false
 | _, .fz _,_=>some false
mutual
theorem Rep.fn {H:Hp}:∀ {v:V} {t t' :T},Rep H v t->Rep H v t' ->t=t'
 | _,_,_, .non, .non=>rfl
 | _,_,_, .bl _, .bl _=>rfl
 | _,_,_, .int _, .int _=>rfl
 | _,_,_, .str _, .str _=>rfl
 | _,_,_, .tup h r, .tup h' r' =>by
  rw [h] at h'; cases h'; rw [zn.fn r r']
 | _,_,_, .tup h r, .lst h' r' =>by rw [h] at h'; cases h'
 | _,_,_, .tup h r, .fz h' r' =>by rw [h] at h'; cases h'
 | _,_,_, .lst h r, .tup h' r' =>by rw [h] at h'; cases h'
 | _,_,_, .lst h r, .lst h' r' =>by
  rw [h] at h'; cases h'; rw [zn.fn r r']
 | _,_,_, .lst h r, .fz h' r' =>by rw [h] at h'; cases h'
 | _,_,_, .fz h r, .tup h' r' =>by rw [h] at h'; cases h'
 | _,_,_, .fz h r, .lst h' r' =>by rw [h] at h'; cases h'
 | _,_,_, .fz h r, .fz h' r' =>by
  rw [h] at h'; cases h'; rw [zn.fn r r']
theorem zn.fn {H:Hp}:∀ {v:List V} {t t' :List T},zn H v t->zn H v t' ->t=t'
 | _,_,_, .nil, .nil=>rfl
 | _,_,_, .cons h r, .cons h' r' =>by rw [Rep.fn h h',zn.fn r r']
end
theorem Za {f:T->T->Option Bool} (hf:∀ x b,f x x=some b->b=true):∀ (xs:List T) (b:Bool),eqL f xs xs=some b->b=true
 | [],b,h=>by
  have h' :some true=some b:=h
  cases h'; rfl
 | x :: xs,b,h=>by
  unfold eqL at h
  cases e:f x x with
  | none=>rw [e] at h; cases h
  | some c=>
   rw [e] at h
   cases e' :eqL f xs xs with
   | none=>rw [e'] at h; cases h
   | some d=>
    rw [e'] at h
    cases h
    rw [hf x c e,Za hf xs d e']
    rfl
theorem zU:∀ (n:Nat) (t:T) (b:Bool),eqF n t t=some b->b=true
 | n, .non,b,h=>by unfold eqF at h; cases h; rfl
 | n, .bl x,b,h=>by unfold eqF at h; cases h; simp
 | n, .int x,b,h=>by unfold eqF at h; cases h; simp
 | n, .str x,b,h=>by unfold eqF at h; cases h; simp
 | 0, .tup x,b,h=>by unfold eqF at h; cases h
 | 0, .lst x,b,h=>by unfold eqF at h; cases h
 | 0, .fz x,b,h=>by unfold eqF at h; cases h
 | n+1, .tup x,b,h=>by unfold eqF at h; exact Za (zU n) x b h
 | n+1, .lst x,b,h=>by unfold eqF at h; exact Za (zU n) x b h
 | n+1, .fz x,b,h=>by unfold eqF at h; exact Za (zU n) x b h
theorem wB {f:T->T->Option Bool}:∀ {xs ys:List T} {b:Bool},eqL f xs ys=some b->
  ∃ e:Nat->Bool,(∀ j x y,xs[j]? =some x->ys[j]? =some y->f x y=some (e j))/\((List.range (min xs.length ys.length)).all e && xs.length == ys.length)=b
 | [],[],b,h=>by
  have h' :some true=some b:=h
  cases h'
  exact ⟨fun _=>true,fun j x y h=>by simp at h,by simp⟩
 | [],y :: ys,b,h=>by
  have h' :some false=some b:=h
  cases h'
  exact ⟨fun _=>true,fun j x y h=>by simp at h,by simp⟩
 | x :: xs,[],b,h=>by
  have h' :some false=some b:=h
  cases h'
  exact ⟨fun _=>true,fun j x y h h' =>by simp at h',by simp⟩
 | x :: xs,y :: ys,b,h=>by
  unfold eqL at h
  cases e:f x y with
  | none=>rw [e] at h; cases h
  | some c=>
   rw [e] at h
   cases e' :eqL f xs ys with
   | none=>rw [e'] at h; cases h
   | some d=>
    rw [e'] at h
    cases h
    obtain ⟨g,h1,h2⟩:=wB e'
    refine ⟨fun j=>match j with | 0=>c | j+1=>g j,fun j u v hu hv=> ?_, ?_⟩
    ·cases j with
     | zero=>simp at hu hv; subst hu hv; exact e
     | succ j=>exact h1 j u v (by simpa using hu) (by simpa using hv)
    ·have z:min (x :: xs).length (y :: ys).length=min xs.length ys.length+1:=by simp only [List.length_cons]; omega
     rw [z,List.range_succ_eq_map,List.all_cons,List.all_map]
     have z2:((x :: xs).length == (y :: ys).length)=(xs.length == ys.length):=by simp
     rw [z2,← h2,Bool.and_assoc]
     rfl
section
variable {X:Cx} {pins:List (Addr×Obj)} {σ:Sg} {H:Hp} {s:Shared}
theorem zV {a:Addr} {xs:List V} {ts:List T} (I:L2.Inv X pins σ H s) (h:H a=some (.tup xs)) (r:zn H xs ts):∃ its:List Value,zz xs its/\s.heap.IsTuple a its.toArray/\ts.length=its.length/\xs.length<=sizeLine:=by
 obtain ⟨its,rv,p,z⟩:=I.tuple (SqT.of h)
 exact ⟨its,rv,p,by rw [← r.length]; exact rv.length,z⟩
theorem zq {a:Addr} {xs:List V} {ts:List T} (I:L2.Inv X pins σ H s) (h:Rd H a (.lst xs)) (r:zn H xs ts):∃ its:List Value,zz xs its/\s.heap.IsList a its.toArray/\ts.length=its.length/\xs.length<=sizeLine:=by
 obtain ⟨its,rv,p,z⟩:=I.list (.inl h)
 exact ⟨its,rv,p.isList,by rw [← r.length]; exact rv.length,z⟩
end
abbrev EqN (A:Around) (s:Shared) (u u' :Value) (b:Bool):Prop:=SeqAt.EqAt A s u u' b/\SeqAt.RcAt A s u u' b/\SeqAt.RcNeAt A s u u' (!b)
section
variable {X:Cx} {pins:List (Addr×Obj)} {σ:Sg} {H:Hp} {s:Shared}
theorem wC {xs ys:List V} {ts us:List T} {its its' :List Value} {A:Around} {f:T->T->Option Bool} {e:Nat->Bool} (r:zn H xs ts) (r' :zn H ys us) (v:zz xs its) (v' :zz ys its')
  (he:∀ (j:Nat) (x y:T),ts[j]? =some x->us[j]? =some y->f x y=some (e j))
  (ih:∀ (x y:T) (b:Bool) (p q:V) (u w:Value),f x y=some b->Rep H p x->Rep H q y->zF p u->zF q w->EqN A s u w b) (j:Nat) (h1:j < its.toArray.size) (h2:j < its'.toArray.size):
  SeqAt.EqAt A s its.toArray[j] its'.toArray[j] (e j):=by
 have l1:=v.length
 have l2:=v'.length
 have m1:=r.length
 have m2:=r'.length
 have k1:j < xs.length:=by simp at h1; omega
 have k2:j < ys.length:=by simp at h2; omega
 obtain ⟨t,et,rt⟩:=r.getV (List.getElem?_eq_getElem k1)
 obtain ⟨t',et',rt'⟩:=r'.getV (List.getElem?_eq_getElem k2)
 obtain ⟨u,eu,ru⟩:=v.get (List.getElem?_eq_getElem k1)
 obtain ⟨u',eu',ru'⟩:=v'.get (List.getElem?_eq_getElem k2)
 have q1:its.toArray[j]=u:=by
  have:its[j]? =some its.toArray[j]:=by simp at h1 ⊢
  rw [eu] at this; exact (Option.some.inj this).symm
 have q2:its'.toArray[j]=u' :=by
  have:its'[j]? =some its'.toArray[j]:=by simp at h2 ⊢
  rw [eu'] at this; exact (Option.some.inj this).symm
 rw [q1,q2]
 exact (ih t t' (e j) _ _ u u' (he j t t' et et') rt rt' ru ru').1
theorem uU {A:Around} {a c:Addr} {xs ys:List V} {ts us:List T} {b:Bool} {f:T->T->Option Bool} (I:L2.Inv X pins σ H s) (hu:A.units < cLine) (ha:H a=some (.tup xs)) (hc:H c=some (.tup ys)) (r:zn H xs ts) (r' :zn H ys us)
  (hb:eqL f ts us=some b) (hr:∀ x b,f x x=some b->b=true)
  (ih:∀ (x y:T) (b:Bool) (p q:V) (u w:Value),f x y=some b->Rep H p x->Rep H q y->zF p u->zF q w->EqN A.in1 s u w b):EqN A s (.ref a) (.ref c) b:=by
 obtain ⟨its,v,p,l,_⟩:=zV I ha r
 obtain ⟨its',v',p',l',_⟩:=zV I hc r'
 obtain ⟨e,he,hb'⟩:=wB hb
 have hp:=wC (A:=A.in1) r r' v v' he ih
 have z:((List.range (min its.toArray.size its'.toArray.size)).all e && its.toArray.size == its'.toArray.size)=b:=by
  rw [← hb']; simp [l,l']
 have R:=SeqAt.RcAt.tuples p p' hu hp
 have N:=SeqAt.RcNeAt.tuples p p' hu hp
 rw [z] at R
 have N' :SeqAt.RcNeAt A s (.ref a) (.ref c) (!b):=by
  rw [← z]; exact N
 refine ⟨?_,R,N'⟩
 by_cases hac:a=c
 ·subst hac
  rw [ha] at hc; cases hc
  have:=r.fn r'; subst this
  rw [Za hr ts b hb]
  exact SeqAt.EqAt.same _
 ·exact SeqAt.EqAt.of_refs hac R
theorem jj {A:Around} {a c:Addr} {xs ys:List V} {ts us:List T} {b:Bool} {f:T->T->Option Bool} (I:L2.Inv X pins σ H s) (hu:A.units < cLine) (ha:Rd H a (.lst xs)) (hc:Rd H c (.lst ys)) (r:zn H xs ts) (r' :zn H ys us)
  (hb:eqL f ts us=some b) (hr:∀ x b,f x x=some b->b=true)
  (ih:∀ (x y:T) (b:Bool) (p q:V) (u w:Value),f x y=some b->Rep H p x->Rep H q y->zF p u->zF q w->EqN A.in1 s u w b):EqN A s (.ref a) (.ref c) b:=by
 obtain ⟨its,v,p,l,_⟩:=zq I ha r
 obtain ⟨its',v',p',l',_⟩:=zq I hc r'
 obtain ⟨e,he,hb'⟩:=wB hb
 have hp:=wC (A:=A.in1) r r' v v' he ih
 have RN:SeqAt.RcAt A s (.ref a) (.ref c) b/\SeqAt.RcNeAt A s (.ref a) (.ref c) (!b):=by
  by_cases hl:its.toArray.size=its'.toArray.size
  ·have z:(List.range its.toArray.size).all e=b:=by
    rw [← hb']
    have:ts.length=us.length:=by simp at hl; omega
    rw [this]
    have k:its.toArray.size=us.length:=by simp; omega
    rw [k]; simp
   have R:=SeqAt.RcAt.lists p p' hl hu hp
   have N:=SeqAt.RcNeAt.lists p p' hl hu hp
   rw [z] at R
   refine ⟨R, ?_⟩
   rw [← z]; exact N
  ·have hl' :(its.toArray.size != its'.toArray.size)=true:=by simpa using hl
   have z:b=false:=by
    rw [← hb']
    have:¬ ts.length=us.length:=by simp at hl; omega
    simp [this]
   subst z
   exact ⟨SeqAt.RcAt.lists_lengths p p' hl' hu,SeqAt.RcNeAt.lists_lengths p p' hl' hu⟩
 refine ⟨?_,RN.1,RN.2⟩
 by_cases hac:a=c
 ·subst hac
  have hxy:xs=ys:=by
   rcases ha with ha | ⟨o,ha⟩ <;> rcases hc with hc | ⟨o',hc⟩ <;> (rw [ha] at hc; cases hc) <;> rfl
  subst hxy
  have:=r.fn r'; subst this
  rw [Za hr ts b hb]
  exact SeqAt.EqAt.same _
 ·exact SeqAt.EqAt.of_refs hac RN.1
end
section
variable {X:Cx} {pins:List (Addr×Obj)} {σ:Sg} {H:Hp} {s:Shared}
theorem Zq {A:Around}:A.in1.units=A.units+1:=rfl
set_option maxHeartbeats 2000000 in
theorem wD (I:L2.Inv X pins σ H s):∀ (A:Around),A.units < cLine->∀ (x y:T) (b:Bool) (p q:V) (u w:Value),eqF 0 x y=some b->Rep H p x->Rep H q y->zF p u->zF q w->EqN A s u w b:=by
 intro A hu x y b p q u w h rp rq ru rw'
 have hu' :=hu
 cases rp with
 | non=>
  obtain rfl:u=Value.none:=ru
  cases rq with
  | non=>obtain rfl:w=Value.none:=rw'; unfold eqF at h; cases h; exact ⟨.same _, .none_none, .none_none⟩
  | bl c=>obtain rfl:w=Value.bool c:=rw'; unfold eqF at h; cases h; exact ⟨.none_bool _, .none_bool _, .none_bool _⟩
  | int c=>obtain ⟨t,rfl⟩:=rw'; unfold eqF at h; cases h; exact ⟨.none_int _ _, .none_int _ _, .none_int _ _⟩
  | str c=>obtain ⟨t,rfl⟩:=rw'; unfold eqF at h; cases h; exact ⟨.none_str _ _, .none_str _ _, .none_str _ _⟩
  | tup h1 r1=>obtain rfl:w=Value.ref _:=rw'; unfold eqF at h; cases h; obtain ⟨i,_,p,_⟩:=zV I h1 r1; exact ⟨.none_tuple p hu', .none_tuple p hu', .none_tuple p hu'⟩
  | lst h1 r1=>obtain rfl:w=Value.ref _:=rw'; unfold eqF at h; cases h; obtain ⟨i,_,p,_⟩:=zq I (.inl h1) r1; exact ⟨.none_list p hu', .none_list p hu', .none_list p hu'⟩
  | fz h1 r1=>obtain rfl:w=Value.ref _:=rw'; unfold eqF at h; cases h; obtain ⟨i,_,p,_⟩:=zq I (.inr ⟨_,h1⟩) r1; exact ⟨.none_list p hu', .none_list p hu', .none_list p hu'⟩
 | bl d=>
  obtain rfl:u=Value.bool d:=ru
  cases rq with
  | non=>obtain rfl:w=Value.none:=rw'; unfold eqF at h; cases h; exact ⟨.bool_none _, .bool_none _, .bool_none _⟩
  | bl c=>obtain rfl:w=Value.bool c:=rw'; unfold eqF at h; cases h; exact ⟨.bool_bool _ _, .bool_bool _ _, .bool_bool _ _⟩
  | int c=>obtain ⟨t,rfl⟩:=rw'; unfold eqF at h; cases h; exact ⟨.bool_int _ _ _, .bool_int _ _ _, .bool_int _ _ _⟩
  | str c=>obtain ⟨t,rfl⟩:=rw'; unfold eqF at h; cases h; exact ⟨.bool_str _ _ _, .bool_str _ _ _, .bool_str _ _ _⟩
  | tup h1 r1=>obtain rfl:w=Value.ref _:=rw'; unfold eqF at h; cases h; obtain ⟨i,_,p,_⟩:=zV I h1 r1; exact ⟨.bool_tuple _ p hu', .bool_tuple _ p hu', .bool_tuple _ p hu'⟩
  | lst h1 r1=>obtain rfl:w=Value.ref _:=rw'; unfold eqF at h; cases h; obtain ⟨i,_,p,_⟩:=zq I (.inl h1) r1; exact ⟨.bool_list _ p hu', .bool_list _ p hu', .bool_list _ p hu'⟩
  | fz h1 r1=>obtain rfl:w=Value.ref _:=rw'; unfold eqF at h; cases h; obtain ⟨i,_,p,_⟩:=zq I (.inr ⟨_,h1⟩) r1; exact ⟨.bool_list _ p hu', .bool_list _ p hu', .bool_list _ p hu'⟩
 | int d=>
  obtain ⟨t0,rfl⟩:=ru
  cases rq with
  | non=>obtain rfl:w=Value.none:=rw'; unfold eqF at h; cases h; exact ⟨.int_none _ _, .int_none _ _, .int_none _ _⟩
  | bl c=>obtain rfl:w=Value.bool c:=rw'; unfold eqF at h; cases h; exact ⟨.int_bool _ _ _, .int_bool _ _ _, .int_bool _ _ _⟩
  | int c=>obtain ⟨t,rfl⟩:=rw'; unfold eqF at h; cases h; exact ⟨.int_int _ _ _ _, .int_int _ _ _ _, .int_int _ _ _ _⟩
  | str c=>obtain ⟨t,rfl⟩:=rw'; unfold eqF at h; cases h; exact ⟨.int_str _ _ _ _, .int_str _ _ _ _, .int_str _ _ _ _⟩
  | tup h1 r1=>obtain rfl:w=Value.ref _:=rw'; unfold eqF at h; cases h; obtain ⟨i,_,p,_⟩:=zV I h1 r1; exact ⟨.int_tuple _ _ p hu', .int_tuple _ _ p hu', .int_tuple _ _ p hu'⟩
  | lst h1 r1=>obtain rfl:w=Value.ref _:=rw'; unfold eqF at h; cases h; obtain ⟨i,_,p,_⟩:=zq I (.inl h1) r1; exact ⟨.int_list _ _ p hu', .int_list _ _ p hu', .int_list _ _ p hu'⟩
  | fz h1 r1=>obtain rfl:w=Value.ref _:=rw'; unfold eqF at h; cases h; obtain ⟨i,_,p,_⟩:=zq I (.inr ⟨_,h1⟩) r1; exact ⟨.int_list _ _ p hu', .int_list _ _ p hu', .int_list _ _ p hu'⟩
 | str d=>
  obtain ⟨t0,rfl⟩:=ru
  cases rq with
  | non=>obtain rfl:w=Value.none:=rw'; unfold eqF at h; cases h; exact ⟨.str_none _ _, .str_none _ _, .str_none _ _⟩
  | bl c=>obtain rfl:w=Value.bool c:=rw'; unfold eqF at h; cases h; exact ⟨.str_bool _ _ _, .str_bool _ _ _, .str_bool _ _ _⟩
  | int c=>obtain ⟨t,rfl⟩:=rw'; unfold eqF at h; cases h; exact ⟨.str_int _ _ _ _, .str_int _ _ _ _, .str_int _ _ _ _⟩
  | str c=>obtain ⟨t,rfl⟩:=rw'; unfold eqF at h; cases h; exact ⟨.str_str _ _ _ _, .str_str _ _ _ _, .str_str _ _ _ _⟩
  | tup h1 r1=>obtain rfl:w=Value.ref _:=rw'; unfold eqF at h; cases h; obtain ⟨i,_,p,_⟩:=zV I h1 r1; exact ⟨.str_tuple _ _ p hu', .str_tuple _ _ p hu', .str_tuple _ _ p hu'⟩
  | lst h1 r1=>obtain rfl:w=Value.ref _:=rw'; unfold eqF at h; cases h; obtain ⟨i,_,p,_⟩:=zq I (.inl h1) r1; exact ⟨.str_list _ _ p hu', .str_list _ _ p hu', .str_list _ _ p hu'⟩
  | fz h1 r1=>obtain rfl:w=Value.ref _:=rw'; unfold eqF at h; cases h; obtain ⟨i,_,p,_⟩:=zq I (.inr ⟨_,h1⟩) r1; exact ⟨.str_list _ _ p hu', .str_list _ _ p hu', .str_list _ _ p hu'⟩
 | tup h0 r0=>
  obtain rfl:u=Value.ref _:=ru
  obtain ⟨i0,_,p0,_⟩:=zV I h0 r0
  cases rq with
  | non=>obtain rfl:w=Value.none:=rw'; unfold eqF at h; cases h; exact ⟨.tuple_none p0 hu', .tuple_none p0 hu', .tuple_none p0 hu'⟩
  | bl c=>obtain rfl:w=Value.bool c:=rw'; unfold eqF at h; cases h; exact ⟨.tuple_bool _ p0 hu', .tuple_bool _ p0 hu', .tuple_bool _ p0 hu'⟩
  | int c=>obtain ⟨t,rfl⟩:=rw'; unfold eqF at h; cases h; exact ⟨.tuple_int _ _ p0 hu', .tuple_int _ _ p0 hu', .tuple_int _ _ p0 hu'⟩
  | str c=>obtain ⟨t,rfl⟩:=rw'; unfold eqF at h; cases h; exact ⟨.tuple_str _ _ p0 hu', .tuple_str _ _ p0 hu', .tuple_str _ _ p0 hu'⟩
  | tup h1 r1=>unfold eqF at h; cases h
  | lst h1 r1=>obtain rfl:w=Value.ref _:=rw'; unfold eqF at h; cases h; obtain ⟨i,_,p,_⟩:=zq I (.inl h1) r1; exact ⟨.tuple_list p0 p hu', .tuple_list p0 p hu', .tuple_list p0 p hu'⟩
  | fz h1 r1=>obtain rfl:w=Value.ref _:=rw'; unfold eqF at h; cases h; obtain ⟨i,_,p,_⟩:=zq I (.inr ⟨_,h1⟩) r1; exact ⟨.tuple_list p0 p hu', .tuple_list p0 p hu', .tuple_list p0 p hu'⟩
 | lst h0 r0=>
  obtain rfl:u=Value.ref _:=ru
  obtain ⟨i0,_,p0,_⟩:=zq I (.inl h0) r0
  cases rq with
  | non=>obtain rfl:w=Value.none:=rw'; unfold eqF at h; cases h; exact ⟨.list_none p0 hu', .list_none p0 hu', .list_none p0 hu'⟩
  | bl c=>obtain rfl:w=Value.bool c:=rw'; unfold eqF at h; cases h; exact ⟨.list_bool _ p0 hu', .list_bool _ p0 hu', .list_bool _ p0 hu'⟩
  | int c=>obtain ⟨t,rfl⟩:=rw'; unfold eqF at h; cases h; exact ⟨.list_int _ _ p0 hu', .list_int _ _ p0 hu', .list_int _ _ p0 hu'⟩
  | str c=>obtain ⟨t,rfl⟩:=rw'; unfold eqF at h; cases h; exact ⟨.list_str _ _ p0 hu', .list_str _ _ p0 hu', .list_str _ _ p0 hu'⟩
  | tup h1 r1=>obtain rfl:w=Value.ref _:=rw'; unfold eqF at h; cases h; obtain ⟨i,_,p,_⟩:=zV I h1 r1; exact ⟨.list_tuple p0 p hu', .list_tuple p0 p hu', .list_tuple p0 p hu'⟩
  | lst h1 r1=>unfold eqF at h; cases h
  | fz h1 r1=>unfold eqF at h; cases h
 | fz h0 r0=>
  obtain rfl:u=Value.ref _:=ru
  obtain ⟨i0,_,p0,_⟩:=zq I (.inr ⟨_,h0⟩) r0
  cases rq with
  | non=>obtain rfl:w=Value.none:=rw'; unfold eqF at h; cases h; exact ⟨.list_none p0 hu', .list_none p0 hu', .list_none p0 hu'⟩
  | bl c=>obtain rfl:w=Value.bool c:=rw'; unfold eqF at h; cases h; exact ⟨.list_bool _ p0 hu', .list_bool _ p0 hu', .list_bool _ p0 hu'⟩
  | int c=>obtain ⟨t,rfl⟩:=rw'; unfold eqF at h; cases h; exact ⟨.list_int _ _ p0 hu', .list_int _ _ p0 hu', .list_int _ _ p0 hu'⟩
  | str c=>obtain ⟨t,rfl⟩:=rw'; unfold eqF at h; cases h; exact ⟨.list_str _ _ p0 hu', .list_str _ _ p0 hu', .list_str _ _ p0 hu'⟩
  | tup h1 r1=>obtain rfl:w=Value.ref _:=rw'; unfold eqF at h; cases h; obtain ⟨i,_,p,_⟩:=zV I h1 r1; exact ⟨.list_tuple p0 p hu', .list_tuple p0 p hu', .list_tuple p0 p hu'⟩
  | lst h1 r1=>unfold eqF at h; cases h
  | fz h1 r1=>unfold eqF at h; cases h
set_option maxHeartbeats 2000000 in
theorem wE (I:L2.Inv X pins σ H s):∀ (n:Nat) (A:Around),A.units+n < cLine->∀ (x y:T) (b:Bool) (p q:V) (u w:Value),eqF n x y=some b->Rep H p x->Rep H q y->zF p u->zF q w->EqN A s u w b:=by
 intro n
 induction n with
 | zero=>exact fun A hu x y b p q u w h=>wD I A (by omega) x y b p q u w h
 | succ n ih=>
  intro A hu x y b p q u w h rp rq ru rw'
  have low:eqF 0 x y=some b->EqN A s u w b:=fun h=>wD I A (by omega) x y b p q u w h rp rq ru rw'
  have hu' :A.units < cLine:=by omega
  have ih' :=ih A.in1 (by rw [Zq]; omega)
  cases rp with
  | tup h0 r0=>
   cases rq with
   | tup h1 r1=>
    obtain rfl:u=Value.ref _:=ru
    obtain rfl:w=Value.ref _:=rw'
    unfold eqF at h
    exact uU I hu' h0 h1 r0 r1 h (zU n) ih'
   | _=>exact low (by unfold eqF at h ⊢; exact h)
  | lst h0 r0=>
   cases rq with
   | lst h1 r1=>
    obtain rfl:u=Value.ref _:=ru
    obtain rfl:w=Value.ref _:=rw'
    unfold eqF at h
    exact jj I hu' (.inl h0) (.inl h1) r0 r1 h (zU n) ih'
   | fz h1 r1=>
    obtain rfl:u=Value.ref _:=ru
    obtain rfl:w=Value.ref _:=rw'
    unfold eqF at h
    exact jj I hu' (.inl h0) (.inr ⟨_,h1⟩) r0 r1 h (zU n) ih'
   | _=>exact low (by unfold eqF at h ⊢; exact h)
  | fz h0 r0=>
   cases rq with
   | lst h1 r1=>
    obtain rfl:u=Value.ref _:=ru
    obtain rfl:w=Value.ref _:=rw'
    unfold eqF at h
    exact jj I hu' (.inr ⟨_,h0⟩) (.inl h1) r0 r1 h (zU n) ih'
   | fz h1 r1=>
    obtain rfl:u=Value.ref _:=ru
    obtain rfl:w=Value.ref _:=rw'
    unfold eqF at h
    exact jj I hu' (.inr ⟨_,h0⟩) (.inr ⟨_,h1⟩) r0 r1 h (zU n) ih'
   | _=>exact low (by unfold eqF at h ⊢; exact h)
  | _=>exact low (by cases rq <;> (unfold eqF at h ⊢; exact h))
end
section
variable {X:Cx} {Y:Fx} {a b c d:Expr} {fa fb fc fd:En->R T} {pos:Pos}
def rG (Y:Fx) (g:T->T->R T):R2:=fun x y H Q=>∃ B t t',zh B H/\Rep B x t/\Rep B y t' /\Po Y rC B H (g t t') Q
def zd (g:T->T->R T) (fa fb:En->R T):En->R T:=fun ρ=>(fa ρ).bind fun x=>(fb ρ).bind fun y=>g x y
theorem wF {op:Operator} {g:T->T->R T} (ho:OpR X (binaryOp op) (rG Y g)) (ha:Snd X Y a fa) (hb:Snd X Y b fb):Snd X Y (.BinOp a op b pos) (zd g fa fb):= .mk fun ρ=>
 PE.imp (qs ho (ha ρ) (hb ρ)) fun σ H Q ⟨B,I,q⟩=>step I q fun t v H1 _ s1 r1 I1 q1=>step I1 q1 fun t' v' H2 _ s2 r2 I2 q2=>
  ⟨_,t,t',I2.sB,r1.mono (zp.ge I1.sB s2),r2,q2⟩
theorem po0 {g:R T} {B H:Hp} {Q:VK} {t:T} {v:V} (sB:zh B H) (q:Po Y rC B H g Q) (e:g= .ok t) (r:Rep B v t):Q v H:=by
 subst e
 exact q v H (zh.refl H) (by show Rep (zp B H H) v t; rw [zp.self B H sB]; exact r)
theorem qI {g:R T} {B H:Hp} {Q:VK} {ts:List T} {xs:List V} {p:Addr} (sB:zh B H) (q:Po Y rC B H g Q) (e:g= .ok (.tup ts)) (r:zn B xs ts) (h:H p=none):Q (.ref p) (upd H p (.tup xs)):=by
 subst e
 exact q _ _ (zh.new h _) (.tup (ZR h _) (r.mono (zp.ge sB (zh.new h _))))
theorem QM {g:R T} {B H:Hp} {Q:VK} {ts:List T} {xs:List V} {p:Addr} (sB:zh B H) (q:Po Y rC B H g Q) (e:g= .ok (.lst ts)) (r:zn B xs ts) (h:H p=none):Q (.ref p) (upd H p (.lst xs)):=by
 subst e
 exact q _ _ (zh.new h _) (.lst (ZR h _) (r.mono (zp.ge sB (zh.new h _))))
def zY:T->T->R T
 | .int i, .int j=> .ok (.int (i+j))
 | .bl x, .int j=> .ok (.int (b2 x+j))
 | .int i, .bl y=> .ok (.int (i+b2 y))
 | .str x, .str y=>if x.length+y.length<=bnd then .ok (.str (x++y)) else .bad
 | .tup xs, .tup ys=>if xs.length+ys.length<=bnd then .ok (.tup (xs++ys)) else .bad
 | .lst xs, .lst ys=>if xs.length+ys.length<=bnd then .ok (.lst (xs++ys)) else .bad
 | _,_=> .bad
theorem Wy {prog:Program} {w:World} {A:Around} {E:Value->Shared->Prop} {s:Shared} {t b:Addr} {vs ws:List Value} {Q:Value->Shared->Prop} (ht:IsTup s.heap t vs.toArray) (hb:IsTup s.heap b ws.toArray) (hv:vs=[])
  (h1:Q (.ref b) s):wpAny (model prog w) A (binaryOp .Add (.ref t) (.ref b)) Q E s:=by
 obtain ⟨⟨cls,dd,data,sl⟩,ho,hc,n,hd⟩:=id ht
 obtain ⟨⟨cls2,dd2,data2,sl2⟩,ho2,hc2,n2,hd2⟩:=id hb
 simp only at hc hd hc2 hd2
 subst hc hd hc2 hd2
 exact concat_meets ⟨_,ho,rfl⟩ ⟨_,ho2,rfl⟩ noFill_tuple_add seq_tuple_add PySem.F.slot_tuple_add PySem.F.entry_tuple_add (PySem.F.args_tuple_add_2 _ _)
   (tuple_addW0 t b vs.toArray ws.toArray n n2 dd dd2 sl sl2 (by simp [hv])) ⟨ho,ho2,h1⟩
theorem uV:OpR X (binaryOp .Add) (rG Y zY):=by
 intro pins s σ H x y v u Q I rx ry h
 obtain ⟨B,t,t',sB,r,r',q⟩:=h
 cases r with
 | int i=>
  cases r' with
  | int j=>exact yj pins s σ H _ _ v u Q I rx ry ⟨i,j,rfl,rfl,po0 sB q rfl (.int _)⟩
  | bl y=>exact wo pins s σ H _ _ v u Q I rx ry ⟨i,y,rfl,rfl,po0 sB q rfl (.int _)⟩
  | _=>exact q.elim
 | bl x=>
  cases r' with
  | int j=>
   obtain rfl:v=Value.bool x:=rx
   obtain ⟨tk,rfl⟩:=ry
   exact IntBool.add_bool_int (⟨.int _,H,I.tok _,⟨_,rfl⟩,po0 sB q rfl (.int _)⟩)
  | _=>exact q.elim
 | str x=>
  cases r' with
  | str y=>
   by_cases hb:x.length+y.length<=bnd
   ·exact JP pins s σ H _ _ v u Q I rx ry ⟨x,y,rfl,rfl,zR hb,po0 sB q (if_pos hb) (.str _)⟩
   ·rw [show zY (.str x) (.str y)= .bad from if_neg hb] at q; exact q.elim
  | _=>exact q.elim
 | @tup a xs ts h1 r1=>
  cases r' with
  | @tup a' ys us h2 r2=>
   by_cases hb:ts.length+us.length<=bnd
   ·have eg:zY (.tup ts) (.tup us)= .ok (.tup (ts++us)):=if_pos hb
    have hz:xs.length+ys.length<=sizeLine:=by rw [r1.length,r2.length]; exact zR hb
    by_cases hx:xs=[]
    ·obtain rfl:v=Value.ref a:=rx
     obtain rfl:u=Value.ref a' :=ry
     obtain ⟨its,rv,p,_⟩:=I.tuple (SqT.of (sB _ _ h1))
     obtain ⟨its',rv',p',_⟩:=I.tuple (SqT.of (sB _ _ h2))
     have et:ts=[]:=r1.nil_iff.mp hx
     refine Wy p p' (rv.nil_iff.mpr hx) ⟨.ref a',H,I,rfl,po0 sB q eg ?_⟩
     rw [et]; exact .tup h2 r2
    ·refine uL pins s σ H _ _ v u Q I rx ry ⟨a,a',xs,ys,rfl,rfl,SqT.of (sB _ _ h1),SqT.of (sB _ _ h2),hx,hz,fun hy=> ?_,fun hy p hp=> ?_⟩
     ·refine po0 sB q eg ?_
      rw [r2.nil_iff.mp hy,List.append_nil]
      exact .tup h1 r1
     ·exact qI sB q eg (r1.append r2) hp
   ·rw [show zY (.tup ts) (.tup us)= .bad from if_neg hb] at q; exact q.elim
  | _=>exact q.elim
 | @lst a xs ts h1 r1=>
  cases r' with
  | @lst a' ys us h2 r2=>
   by_cases hb:ts.length+us.length<=bnd
   ·have eg:zY (.lst ts) (.lst us)= .ok (.lst (ts++us)):=if_pos hb
    have hz:xs.length+ys.length<=sizeLine:=by rw [r1.length,r2.length]; exact zR hb
    exact yy pins s σ H _ _ v u Q I rx ry ⟨a,a',xs,ys,rfl,rfl,sB _ _ h1,sB _ _ h2,hz,fun p hp=>QM sB q eg (r1.append r2) hp⟩
   ·rw [show zY (.lst ts) (.lst us)= .bad from if_neg hb] at q; exact q.elim
  | _=>exact q.elim
 | _=>cases r' <;> exact q.elim
theorem qJ (ha:Snd X Y a fa) (hb:Snd X Y b fb):Snd X Y (.BinOp a .Add b pos) (zd zY fa fb):=wF uV ha hb
def Ju:T->T->R T
 | .int i, .int j=> .ok (.int (i - j))
 | _,_=> .bad
def Zr:T->T->R T
 | .int i, .int j=>if 0 < j then .ok (.int (i % j)) else .bad
 | _,_=> .bad
def jL:T->T->R T
 | .int i, .int j=>if 0 < j/\j < 1073741824 then .ok (.int (i / j)) else .bad
 | _,_=> .bad
instance (i j:Int):Decidable (jt i j):=by unfold jt; infer_instance
def zT:T->T->R T
 | .int i, .int j=>if jt i j then .ok (.int (i*j)) else .bad
 | .lst xs, .int k=>if 0<=k/\k < 1000000/\xs.length*k.toNat<=bnd then .ok (.lst (List.replicate k.toNat xs).flatten) else .bad
 | .tup xs, .int k=>if 2<=k/\k < 1000000/\xs ≠ []/\xs.length*k.toNat<=bnd then .ok (.tup (List.replicate k.toNat xs).flatten) else .bad
 | _,_=> .bad
theorem uW:OpR X (binaryOp .Sub) (rG Y Ju):=by
 intro pins s σ H x y v u Q I rx ry h
 obtain ⟨B,t,t',sB,r,r',q⟩:=h
 cases r with
 | int i=>
  cases r' with
  | int j=>exact yk pins s σ H _ _ v u Q I rx ry ⟨i,j,rfl,rfl,po0 sB q rfl (.int _)⟩
  | _=>exact q.elim
 | _=>cases r' <;> exact q.elim
theorem uX:OpR X (binaryOp .Mod) (rG Y Zr):=by
 intro pins s σ H x y v u Q I rx ry h
 obtain ⟨B,t,t',sB,r,r',q⟩:=h
 cases r with
 | int i=>
  cases r' with
  | int j=>
   by_cases hj:0 < j
   ·exact ym pins s σ H _ _ v u Q I rx ry ⟨i,j,rfl,rfl,hj,po0 sB q (if_pos hj) (.int _)⟩
   ·rw [show Zr (.int i) (.int j)= .bad from if_neg hj] at q; exact q.elim
  | _=>exact q.elim
 | _=>cases r' <;> exact q.elim
theorem Wz:OpR X (binaryOp .FloorDiv) (rG Y jL):=by
 intro pins s σ H x y v u Q I rx ry h
 obtain ⟨B,t,t',sB,r,r',q⟩:=h
 cases r with
 | int i=>
  cases r' with
  | int j=>
   by_cases hj:0 < j/\j < 1073741824
   ·exact uE pins s σ H _ _ v u Q I rx ry ⟨i,j,rfl,rfl,hj,po0 sB q (if_pos hj) (.int _)⟩
   ·rw [show jL (.int i) (.int j)= .bad from if_neg hj] at q; exact q.elim
  | _=>exact q.elim
 | _=>cases r' <;> exact q.elim
theorem JV (l:Addr) (items:Array Value) (n:Nat) (dd:Option Addr) (sl:Array (Option Value)) (x:Int) (u:Tok) (h1:2<=x) (h2:x < 1000000) (hne:items.isEmpty=false) (hsz:items.size*x.toNat<=sizeLine):
  Meets (Builtin.«tuple.__mul__» ⟨[.ref l, .int x u],[]⟩) (fun _ R s=>s.heap.get? l=some { cls:= .type "tuple",dict:=dd,data:= .seq items n,slots:=sl }/\
   R (.ok (.ret (Value.ref s.heap.objs.size))) { s with heap:=s.heap.push { cls:=Value.type "tuple",data:=Data.seq (List.foldl (fun x1 x2=>x1++x2) #[] (List.replicate x.toNat items)) },toks:=s.toks }):=
 .of_wp fun prog w A R s h=>by
  obtain ⟨hp,g,d,tk,os⟩:=s; obtain ⟨hl,h⟩:=h
  have f1:=AutoSeq1.idx_int
  have e0:(items.size:Int)*x=((items.size*x.toNat:Nat):Int):=by
   have:x=((x.toNat:Nat):Int):=by omega
   rw [Int.natCast_mul,← this]
  have sl1:(sizeLine:Nat)=16777216:=sizeLine_eq
  have c1:¬ (decide (x < -(2 ^ 63)) || decide (x ≥ 2 ^ 63))=true:=by simp; omega
  have c2:¬ (items.isEmpty || x == 1)=true:=by simp [hne]; omega
  have c3:¬ (decide (x<=0) || items.isEmpty)=true:=by simp [hne]; omega
  have c4:¬ ((items.size:Int)*x > (2 ^ 63 - 1) / 8):=by rw [e0]; omega
  have c5:¬ Builtin.Tuple.tupleTooMany ((items.size:Int)*x)=true:=by
   unfold Builtin.Tuple.tupleTooMany
   rw [e0]
   intro z
   have:=of_decide_eq_true z
   omega
  unfold Builtin.«tuple.__mul__»
  wp_walk using wpAny_loadPart' hl
  rw [if_neg c1]
  wp_walk using wpAny_loadPart' hl
  rw [if_neg c2]
  try dsimp only
  rw [if_neg c3]
  try dsimp only
  rw [if_neg c4]
  try dsimp only
  rw [if_neg c5]
  try dsimp only
  have hsz' :sizeOk (.seq (List.foldl (fun x1 x2=>x1++x2) #[] (List.replicate x.toNat items))):=by
   show (List.foldl (fun x1 x2=>x1++x2) #[] (List.replicate x.toNat items)).size<=sizeLine
   have:=Zp items.toList x.toNat []
   rw [List.nil_append] at this
   have q:List.foldl (fun x1 x2=>x1++x2) #[] (List.replicate x.toNat items)=(List.replicate x.toNat items.toList).flatten.toArray:=by
    simpa using this
   rw [q,List.size_toArray,J7,Array.length_toList,Nat.mul_comm]
   exact hsz
  exact wpAny_bind (m:=Builtin.Tuple.tupleExact _) (wpAny_newObj_type (wpAny_pure ⟨_,rfl,h⟩) hsz')
theorem jM:seqRepeat? (.type "tuple")=pure (some (.builtin "tuple.__mul__")):=by
 unfold seqRepeat?
 rw [PySem.seqSlot_of (T:="tuple") (name:="__mul__") (id:="tuple.__mul__") F.slot_tuple_mul.lookup (by decide+kernel),PySem.seqSlot_of (T:="tuple") (name:="__rmul__") (id:="tuple.__rmul__") F.slot_tuple_rmul.lookup (by decide+kernel)]
 rfl
theorem ZH:fillsNumberSlot (.type "tuple") "mul"=pure false:=
 PySem.fillsNumberSlot_seq (id:="tuple.__mul__") (r:=some (.builtin "tuple.__rmul__")) F.slot_tuple_mul.lookup (by decide+kernel) F.slot_tuple_rmul.lookup (by decide+kernel)
theorem ZZ (a:Int) (t:Tok) (l:Addr) (items:Array Value) (n:Nat) (dd:Option Addr) (sl:Array (Option Value)):
  Meets (Builtin.«int.__rmul__» ⟨[.int a t, .ref l],[]⟩) (fun _ R s=>s.heap.get? l=some { cls:= .type "tuple",dict:=dd,data:= .seq items n,slots:=sl }/\R (.ok (.ret Value.notImplemented)) s):=
 .of_wp fun prog w A R s h=>by obtain ⟨hp,g,d,tk,os⟩:=s; obtain ⟨hl,h⟩:=h; wp_walk; exact ⟨_,rfl,h⟩
theorem uY {prog:Program} {w:World} {A:Around} {E:Value->Shared->Prop} {s:Shared} {l:Addr} {its:List Value} {k:Int} {t:Tok} {Q:Value->Shared->Prop} (p:IsTup s.heap l its.toArray) (hne:its ≠ []) (h1:2<=k) (h2:k < 1000000)
  (hsz:its.length*k.toNat<=sizeLine) (q:Q (.ref s.heap.objs.size) { s with heap:=s.heap.push { cls:= .type "tuple",data:= .seq (List.replicate k.toNat its).flatten.toArray } }):
  wpAny (model prog w) A (binaryOp .Mult (.ref l) (.int k t)) Q E s:=by
 obtain ⟨⟨cls,dd,data,sl⟩,ho,hc,n,hd⟩:=id p
 simp only at hc hd
 subst hc hd
 refine wpAny_binaryOp_repeat_ref (T:="tuple") (U:="int") (by decide) ⟨_,ho,rfl⟩ (fun s' =>typeIs_int s' k t) ZH F.fills_int_mul F.slot_int_rmul jM F.slot_int_index.lookup
  (call_meets F.slot_int_rmul (typeIs_int s k t) F.entry_int_rmul (F.args_int_rmul_2 _ _) (ZZ k t l its.toArray n dd sl)
   ⟨ho,rfl,⟨_,ho,rfl⟩,call_meets F.slot_tuple_mul ⟨_,ho,rfl⟩ F.entry_tuple_mul (F.args_tuple_mul_2 _ _) (JV l its.toArray n dd sl k t h1 h2 (by simpa using hne) (by simpa using hsz)) ⟨ho, ?_⟩⟩)
 have:=Zp its k.toNat []
 rw [List.nil_append] at this
 rw [this]
 exact q
theorem uZ:OpR X (binaryOp .Mult) (rG Y zT):=by
 intro pins s σ H x y v u Q I rx ry h
 obtain ⟨B,t,t',sB,r,r',q⟩:=h
 cases r with
 | int i=>
  cases r' with
  | int j=>
   by_cases hj:jt i j
   ·exact yl pins s σ H _ _ v u Q I rx ry ⟨i,j,rfl,rfl,hj,po0 sB q (if_pos hj) (.int _)⟩
   ·rw [show zT (.int i) (.int j)= .bad from if_neg hj] at q; exact q.elim
  | _=>exact q.elim
 | @lst l xs ts h1 r1=>
  cases r' with
  | int k=>
   by_cases hk:0<=k/\k < 1000000/\ts.length*k.toNat<=bnd
   ·have eg:zT (.lst ts) (.int k)= .ok (.lst (List.replicate k.toNat ts).flatten):=if_pos hk
    exact yz pins s σ H _ _ v u Q I rx ry ⟨l,k,xs,rfl,rfl,sB _ _ h1,by omega,by omega,by rw [r1.length]; exact zR hk.2.2,fun p hp=>QM sB q eg (r1.rep _) hp⟩
   ·rw [show zT (.lst ts) (.int k)= .bad from if_neg hk] at q; exact q.elim
  | _=>exact q.elim
 | @tup l xs ts h1 r1=>
  cases r' with
  | int k=>
   by_cases hk:2<=k/\k < 1000000/\ts ≠ []/\ts.length*k.toNat<=bnd
   ·have eg:zT (.tup ts) (.int k)= .ok (.tup (List.replicate k.toNat ts).flatten):=if_pos hk
    obtain rfl:v=Value.ref l:=rx
    obtain ⟨tk,rfl⟩:=ry
    obtain ⟨its,rv,p,_⟩:=I.tuple (SqT.of (sB _ _ h1))
    have ln:ts.length=its.length:=r1.length.symm.trans rv.length
    have hne:its ≠ []:=fun z=>hk.2.2.1 (by rw [z] at ln; exact List.length_eq_zero_iff.mp ln)
    refine uY p hne hk.1 hk.2.1 (by rw [← ln]; exact zR hk.2.2.2) ⟨.ref s.heap.objs.size,upd H s.heap.objs.size (.tup (List.replicate k.toNat xs).flatten),I.laid (t' :=s.toks) (fun b u e=>Heap.get?_push_of_some _ e) (Nat.le_refl _) ?_,rfl, ?_⟩
    ·exact ⟨by rw [J7,r1.length,Nat.mul_comm]; exact zR hk.2.2.2,(List.replicate k.toNat its).flatten,rv.rep _,⟨_,Heap.get?_push_size _ rfl,rfl,_,rfl⟩, .inr ⟨_,Heap.get?_push_size _ rfl,rfl⟩⟩
    ·exact qI sB q eg (r1.rep _) (I.hok.fresh (Nat.le_refl _))
   ·rw [show zT (.tup ts) (.int k)= .bad from if_neg hk] at q; exact q.elim
  | _=>exact q.elim
 | _=>cases r' <;> exact q.elim
theorem qK (ha:Snd X Y a fa) (hb:Snd X Y b fb):Snd X Y (.BinOp a .Sub b pos) (zd Ju fa fb):=wF uW ha hb
theorem qM (ha:Snd X Y a fa) (hb:Snd X Y b fb):Snd X Y (.BinOp a .Mod b pos) (zd Zr fa fb):=wF uX ha hb
theorem yE (ha:Snd X Y a fa) (hb:Snd X Y b fb):Snd X Y (.BinOp a .FloorDiv b pos) (zd jL fa fb):=wF Wz ha hb
theorem qN (ha:Snd X Y a fa) (hb:Snd X Y b fb):Snd X Y (.BinOp a .Mult b pos) (zd zT fa fb):=wF uZ ha hb
def U0 (fa:En->R T):En->R T:=fun ρ=>(fa ρ).bind fun x=>match x with
 | .int i=> .ok (.int (-i))
 | _=> .bad
theorem qO (ha:Snd X Y a fa):Snd X Y (.UnaryOp .USub a pos) (U0 fa):= .mk fun ρ=>PE.imp (qt yn (ha ρ)) fun σ H Q ⟨B,I,q⟩=>step I q fun t v H1 _ s1 r1 I1 q1=>by
 cases r1 with
 | int i=>exact ⟨i,rfl,po0 I1.sB q1 rfl (.int _)⟩
 | _=>exact q1.elim
def ju (g:T->T->R Bool):R2:=fun x y H Q=>∃ t t' b,Rep H x t/\Rep H y t' /\g t t' = .ok b/\Q (.bl b) H
def j0 (g:T->T->R Bool) (fa fb:En->R T):En->R T:=fun ρ=>(fa ρ).bind fun x=>(fb ρ).bind fun y=>(g x y).bind fun b=> .ok (.bl b)
def zM (g:T->T->R Bool) (fa fb:En->R T):En->R Bool:=fun ρ=>(fa ρ).bind fun x=>(fb ρ).bind fun y=>g x y
def Nx (g:T->T->R Bool):Prop:=∀ t t' c,g t t' ≠ .ex c
theorem U1 {op:CmpOp} {g:T->T->R Bool} (nx:Nx g) (ho:OpR X (compareOp op) (ju g)) (ha:Zi X Y a fa) (hb:Zi X Y b fb) (hm:behindInMarks op b=false):Snd X Y (.Compare a [op] [b] pos) (j0 g fa fb):= .mk fun ρ=>
 PE.imp (uF ho (ha ρ) (hb ρ) hm) fun σ H Q ⟨B,I,q⟩=>step I q fun t v H1 _ s1 r1 I1 q1=>step I1 q1 fun t' v' H2 _ s2 r2 I2 q2=>by
  cases e:g t t' with
  | bad=>rw [e] at q2; exact q2.elim
  | ex c=>exact absurd e (nx _ _ _)
  | ok b=>rw [e] at q2; exact ⟨t,t',b,r1.mono s2,r2,e,zZ I2 q2 (.bl b)⟩
theorem wG {op:CmpOp} {g:T->T->R Bool} (nx:Nx g) (ho:OpR X (compareOp op) (ju g)) (ha:Zi X Y a fa) (hb:Zi X Y b fb) (hm:behindInMarks op b=false):Jt X Y (.Compare a [op] [b] pos) (zM g fa fb):= .mk fun ρ=>
 PT.imp (uG ho (ha ρ) (hb ρ) hm) fun σ H Q ⟨B,I,q⟩=>step I q fun t v H1 _ s1 r1 I1 q1=>step I1 q1 fun t' v' H2 _ s2 r2 I2 q2=>by
  cases e:g t t' with
  | bad=>rw [e] at q2; exact q2.elim
  | ex c=>exact absurd e (nx _ _ _)
  | ok b=>rw [e] at q2; exact ⟨t,t',b,r1.mono s2,r2,e,b,rfl,zZ I2 q2 rfl⟩
def eqC (t t' :T):R Bool:=match eqF 30 t t' with
 | some b=> .ok b
 | none=> .bad
def neC (t t' :T):R Bool:=match eqF 30 t t' with
 | some b=> .ok (!b)
 | none=> .bad
theorem yF:Nx eqC:=fun t t' c h=>by unfold eqC at h; split at h <;> cases h
theorem qP:Nx neC:=fun t t' c h=>by unfold neC at h; split at h <;> cases h
theorem uk (hu:X.A.units+64 < cLine):OpR X (compareOp .Eq) (ju eqC):=by
 intro pins s σ H x y v u Q I rx ry h
 obtain ⟨t,t',b,r,r',e,q⟩:=h
 unfold eqC at e
 split at e
 ·rename_i k ek
  have e' :k=b:=by injection e
  subst e'
  exact (wE I 30 X.A (by omega) t t' k x y v u ek r r' rx ry).2.1 _ _ _ _ ⟨.bl k,H,I,rfl,q⟩
 ·cases e
theorem yG (hu:X.A.units+64 < cLine):OpR X (compareOp .NotEq) (ju neC):=by
 intro pins s σ H x y v u Q I rx ry h
 obtain ⟨t,t',b,r,r',e,q⟩:=h
 unfold neC at e
 split at e
 ·rename_i k ek
  cases e
  exact (wE I 30 X.A (by omega) t t' k x y v u ek r r' rx ry).2.2 _ _ _ _ ⟨.bl (!k),H,I,rfl,q⟩
 ·cases e
def ltC:T->T->R Bool
 | .int i, .int j=> .ok (decide (i < j))
 | _,_=> .bad
def leC:T->T->R Bool
 | .int i, .int j=> .ok (decide (i<=j))
 | .str x, .str y=> .ok (!decide (y.cps.toList < x.cps.toList))
 | _,_=> .bad
def gtC:T->T->R Bool
 | .int i, .int j=> .ok (decide (j < i))
 | _,_=> .bad
theorem yH:Nx ltC:=fun t t' c h=>by unfold ltC at h; split at h <;> cases h
theorem jk:Nx leC:=fun t t' c h=>by unfold leC at h; split at h <;> cases h
theorem qQ:Nx gtC:=fun t t' c h=>by unfold gtC at h; split at h <;> cases h
theorem ul:OpR X (compareOp .Lt) (ju ltC):=by
 intro pins s σ H x y v u Q I rx ry h
 obtain ⟨t,t',b,r,r',e,q⟩:=h
 unfold ltC at e
 split at e
 ·rename_i i j; cases e; cases r; cases r'; exact qw pins s σ H _ _ v u Q I rx ry ⟨i,j,rfl,rfl,q⟩
 ·cases e
theorem yI:OpR X (compareOp .Gt) (ju gtC):=by
 intro pins s σ H x y v u Q I rx ry h
 obtain ⟨t,t',b,r,r',e,q⟩:=h
 unfold gtC at e
 split at e
 ·rename_i i j; cases e; cases r; cases r'; exact qy pins s σ H _ _ v u Q I rx ry ⟨i,j,rfl,rfl,q⟩
 ·cases e
theorem Zs:OpR X (compareOp .LtE) (ju leC):=by
 intro pins s σ H x y v u Q I rx ry h
 obtain ⟨t,t',b,r,r',e,q⟩:=h
 unfold leC at e
 split at e
 ·rename_i i j; cases e; cases r; cases r'; exact qx pins s σ H _ _ v u Q I rx ry ⟨i,j,rfl,rfl,q⟩
 ·rename_i i j; cases e; cases r; cases r'
  obtain ⟨t1,rfl⟩:=rx
  obtain ⟨t2,rfl⟩:=ry
  exact PySem.P.le_str ⟨.bl _,H,I,rfl,q⟩
 ·cases e
end
section
variable {X:Cx} {Y:Fx} {a b c d:Expr} {fa fb fc fd:En->R T} {pos:Pos}
def UR (f:T->Option Bool):List T->Option Bool
 | []=>some false
 | t :: r=>match f t with
  | none=>none
  | some b=>match UR f r with
   | none=>none
   | some c=>some (b || c)
def inC (t t' :T):R Bool:=match t' with
 | .tup ys=>match UR (fun y=>eqF 30 y t) ys with | some b=> .ok b | none=> .bad
 | .lst ys=>match UR (fun y=>eqF 30 y t) ys with | some b=> .ok b | none=> .bad
 | _=> .bad
def qR (t t' :T):R Bool:=(inC t t').bind fun b=> .ok (!b)
theorem yJ:Nx inC:=fun t t' c h=>by
 unfold inC at h
 split at h
 ·split at h <;> cases h
 ·split at h <;> cases h
 ·cases h
open Classical in
theorem Ja {H:Hp} (f:T->Option Bool):∃ e:Value->Bool,∀ (v:V) (t:T) (u:Value) (b:Bool),zF v u->Rep H v t->f t=some b->e u=b:=by
 refine ⟨fun u=>decide (∃ v t,zF v u/\Rep H v t/\f t=some true),fun v t u b rv r e=> ?_⟩
 cases b with
 | true=>exact decide_eq_true ⟨v,t,rv,r,e⟩
 | false=>
  refine decide_eq_false ?_
  rintro ⟨v',t',rv',r',e'⟩
  have:=rv.inj rv'; subst this
  have:=r.fn r'; subst this
  rw [e] at e'; cases e'
theorem wH {H:Hp} {f:T->Option Bool} {e:Value->Bool} (he:∀ (v:V) (t:T) (u:Value) (b:Bool),zF v u->Rep H v t->f t=some b->e u=b):∀ {xs:List V} {ts:List T} {its:List Value} {b:Bool},
  zz xs its->zn H xs ts->UR f ts=some b->its.any e=b/\∀ u∈its,∃ v t k,zF v u/\Rep H v t/\f t=some k
 | _,_,_,b, .nil, .nil,h=>by
  have h' :some false=some b:=h
  cases h'
  exact ⟨rfl,fun u hu=>by simp at hu⟩
 | _,_,_,b, .cons rv vs, .cons r rs,h=>by
  rename_i v u vals us t ts
  unfold UR at h
  cases q:f t with
  | none=>rw [q] at h; cases h
  | some k=>
   rw [q] at h
   cases q' :UR f ts with
   | none=>rw [q'] at h; cases h
   | some k' =>
    rw [q'] at h
    cases h
    obtain ⟨h1,h2⟩:=wH he vs rs q'
    refine ⟨by rw [List.any_cons,h1,he v t u k rv r q],fun w hw=> ?_⟩
    rcases List.mem_cons.mp hw with rfl | hw
    ·exact ⟨v,t,k,rv,r,q⟩
    ·exact h2 w hw
theorem U2 (hu:X.A.units+64 < cLine) (neg:Bool):OpR X (compareOp (if neg then .NotIn else .In)) (ju (if neg then qR else inC)):=by
 intro pins s σ H x y v u Q I rx ry h
 obtain ⟨t,t',b,r,r',e,q⟩:=h
 have hs:∃ k,inC t t' = .ok k/\b=(if neg then !k else k):=by
  cases neg with
  | false=>exact ⟨b,e,rfl⟩
  | true=>
   have e' :qR t t' = .ok b:=e
   unfold qR at e'
   cases z:inC t t' with
   | bad=>rw [z] at e'; cases e'
   | ex k=>exact absurd z (yJ _ _ _)
   | ok k=>rw [z] at e'; cases e'; exact ⟨k,rfl,rfl⟩
 obtain ⟨k,ek,rfl⟩:=hs
 unfold inC at ek
 obtain ⟨f,hf⟩:=Ja (H:=H) fun y=>eqF 30 y t
 have eqa:∀ w,(∃ v t' k,zF v w/\Rep H v t' /\eqF 30 t' t=some k)->SeqAt.EqAt X.A.in1 s w v (f w):=fun w ⟨v',t',k,rv,rr,ee⟩=>by
  rw [hf v' t' w k rv rr ee]
  exact (wE I 30 X.A.in1 (by rw [Zq]; omega) t' t k v' x w v ee rr r rv rx).1
 split at ek
 ·rename_i ys
  split at ek
  ·rename_i k' hk
   cases ek
   cases r' with
   | @tup l xs _ h1 r1=>
    obtain rfl:u=Value.ref l:=ry
    obtain ⟨its,rv,p,_⟩:=zV I h1 r1
    obtain ⟨h2,h3⟩:=wH hf rv r1 hk
    have h4:its.toArray.any f=k:=by simpa using h2
    cases neg with
    | false=>exact SeqAt.in_tupleAt f p (fun w hw=>eqa w (h3 w (by simpa using hw))) (by rw [h4]; exact ⟨.bl k,H,I,rfl,q⟩)
    | true=>exact SeqAt.notIn_tupleAt f p (fun w hw=>eqa w (h3 w (by simpa using hw))) (by rw [h4]; exact ⟨.bl (!k),H,I,rfl,q⟩)
  ·cases ek
 ·rename_i ys
  split at ek
  ·rename_i k' hk
   cases ek
   cases r' with
   | @lst l xs _ h1 r1=>
    obtain rfl:u=Value.ref l:=ry
    obtain ⟨its,rv,p,_⟩:=zq I (.inl h1) r1
    obtain ⟨h2,h3⟩:=wH hf rv r1 hk
    have h4:its.toArray.any f=k:=by simpa using h2
    cases neg with
    | false=>exact SeqAt.in_listAt f p (fun w hw=>eqa w (h3 w (by simpa using hw))) (by rw [h4]; exact ⟨.bl k,H,I,rfl,q⟩)
    | true=>exact SeqAt.notIn_listAt f p (fun w hw=>eqa w (h3 w (by simpa using hw))) (by rw [h4]; exact ⟨.bl (!k),H,I,rfl,q⟩)
  ·cases ek
 ·cases ek
theorem yK (hu:X.A.units+64 < cLine):OpR X (compareOp .In) (ju inC):=U2 hu false
def Wl (t t' :T):R Bool:=match t' with
 | .non=>match t with | .non=> .ok true | _=> .ok false
 | .bl k=>match t with | .bl j=> .ok (j == k) | _=> .ok false
 | _=> .bad
def U3 (t t' :T):R Bool:=(Wl t t').bind fun b=> .ok (!b)
theorem yL:Nx Wl:=fun t t' c h=>by
 unfold Wl at h
 split at h
 ·split at h <;> cases h
 ·split at h <;> cases h
 ·cases h
theorem U4 (neg:Bool):OpR X (compareOp (if neg then .IsNot else .Is)) (ju (if neg then U3 else Wl)):=by
 intro pins s σ H x y v u Q I rx ry h
 obtain ⟨t,t',b,r,r',e,q⟩:=h
 have hs:∃ k,Wl t t' = .ok k/\b=(if neg then !k else k):=by
  cases neg with
  | false=>exact ⟨b,e,rfl⟩
  | true=>
   have e' :U3 t t' = .ok b:=e
   unfold U3 at e'
   cases z:Wl t t' with
   | bad=>rw [z] at e'; cases e'
   | ex k=>exact absurd z (yL _ _ _)
   | ok k=>rw [z] at e'; cases e'; exact ⟨k,rfl,rfl⟩
 obtain ⟨k,ek,rfl⟩:=hs
 have go:plainIs v u=true/\(v == u)=k:=by
  cases r' with
  | non=>
   obtain rfl:u=Value.none:=ry
   cases r with
   | non=>obtain rfl:v=Value.none:=rx; cases ek; exact ⟨rfl,rfl⟩
   | bl j=>obtain rfl:v=Value.bool j:=rx; cases ek; exact ⟨rfl,rfl⟩
   | int j=>obtain ⟨t,rfl⟩:=rx; cases ek; exact ⟨rfl,rfl⟩
   | str j=>obtain ⟨t,rfl⟩:=rx; cases ek; exact ⟨rfl,rfl⟩
   | tup _ _=>obtain rfl:v=Value.ref _:=rx; cases ek; exact ⟨rfl,rfl⟩
   | lst _ _=>obtain rfl:v=Value.ref _:=rx; cases ek; exact ⟨rfl,rfl⟩
   | fz _ _=>obtain rfl:v=Value.ref _:=rx; cases ek; exact ⟨rfl,rfl⟩
  | bl k' =>
   obtain rfl:u=Value.bool k' :=ry
   cases r with
   | non=>obtain rfl:v=Value.none:=rx; cases ek; exact ⟨rfl,rfl⟩
   | bl j=>obtain rfl:v=Value.bool j:=rx; cases ek; exact ⟨rfl,by cases j <;> cases k' <;> rfl⟩
   | int j=>obtain ⟨t,rfl⟩:=rx; cases ek; exact ⟨rfl,rfl⟩
   | str j=>obtain ⟨t,rfl⟩:=rx; cases ek; exact ⟨rfl,rfl⟩
   | tup _ _=>obtain rfl:v=Value.ref _:=rx; cases ek; exact ⟨rfl,rfl⟩
   | lst _ _=>obtain rfl:v=Value.ref _:=rx; cases ek; exact ⟨rfl,rfl⟩
   | fz _ _=>obtain rfl:v=Value.ref _:=rx; cases ek; exact ⟨rfl,rfl⟩
  | _=>cases ek
 cases neg with
 | false=>exact wpAny_is_plain go.1 (by rw [go.2]; exact ⟨.bl k,H,I,rfl,q⟩)
 | true=>exact wpAny_isNot_plain go.1 (by rw [go.2]; exact ⟨.bl (!k),H,I,rfl,q⟩)
theorem yM:OpR X (compareOp .Is) (ju Wl):=U4 false
def chE (g g' :T->T->R Bool) (fa fb fc:En->R T):En->R T:=fun ρ=>(fa ρ).bind fun x=>(fb ρ).bind fun y=>(g x y).bind fun k=>if k=true then (fc ρ).bind fun z=>(g' y z).bind fun k' => .ok (.bl k') else .ok (.bl false)
def chT (g g' :T->T->R Bool) (fa fb fc:En->R T):En->R Bool:=fun ρ=>(fa ρ).bind fun x=>(fb ρ).bind fun y=>(g x y).bind fun k=>if k=true then (fc ρ).bind fun z=>g' y z else .ok false
theorem U5 {op op' :CmpOp} {g g' :T->T->R Bool} (nx:Nx g) (nx' :Nx g') (ho:OpR X (compareOp op) (ju g)) (ho' :OpR X (compareOp op') (ju g')) (ha:Zi X Y a fa) (hb:Zi X Y b fb) (hc:Zi X Y c fc)
  (hm:lastMarks [op,op'] [b,c]=false:=by with_unfolding_all rfl):Snd X Y (.Compare a [op,op'] [b,c] pos) (chE g g' fa fb fc):= .mk fun ρ=>
 PE.imp (Ws ho ho' (ha ρ) (hb ρ) (hc ρ) hm) fun σ H Q ⟨B,I,q⟩=>step I q fun t v H1 _ s1 r1 I1 q1=>step I1 q1 fun t' v' H2 _ s2 r2 I2 q2=>by
  cases e:g t t' with
  | bad=>rw [e] at q2; exact q2.elim
  | ex c=>exact absurd e (nx _ _ _)
  | ok k=>
   rw [e] at q2
   refine ⟨t,t',k,r1.mono s2,r2,e,k,rfl, ?_⟩
   cases k with
   | false=>exact zZ I2 q2 (.bl false)
   | true=>
    refine step I2 q2 fun t3 v3 H3 _ s3 r3 I3 q3=> ?_
    ·cases e:g' t' t3 with
     | bad=>rw [e] at q3; exact q3.elim
     | ex c=>exact absurd e (nx' _ _ _)
     | ok k=>rw [e] at q3; exact ⟨t',t3,k,r2.mono s3,r3,e,zZ I3 q3 (.bl k)⟩
theorem wI {op op' :CmpOp} {g g' :T->T->R Bool} (nx:Nx g) (nx' :Nx g') (ho:OpR X (compareOp op) (ju g)) (ho' :OpR X (compareOp op') (ju g')) (ha:Zi X Y a fa) (hb:Zi X Y b fb) (hc:Zi X Y c fc)
  (hm:lastMarks [op,op'] [b,c]=false:=by with_unfolding_all rfl):Jt X Y (.Compare a [op,op'] [b,c] pos) (chT g g' fa fb fc):= .mk fun ρ=>
 PT.imp (Wt ho ho' (ha ρ) (hb ρ) (hc ρ) hm) fun σ H Q ⟨B,I,q⟩=>step I q fun t v H1 _ s1 r1 I1 q1=>step I1 q1 fun t' v' H2 _ s2 r2 I2 q2=>by
  cases e:g t t' with
  | bad=>rw [e] at q2; exact q2.elim
  | ex c=>exact absurd e (nx _ _ _)
  | ok k=>
   rw [e] at q2
   refine ⟨t,t',k,r1.mono s2,r2,e,k,rfl, ?_⟩
   cases k with
   | false=>exact ⟨false,rfl,zZ I2 q2 rfl⟩
   | true=>
    refine step I2 q2 fun t3 v3 H3 _ s3 r3 I3 q3=> ?_
    ·cases e:g' t' t3 with
     | bad=>rw [e] at q3; exact q3.elim
     | ex c=>exact absurd e (nx' _ _ _)
     | ok k=>rw [e] at q3; exact ⟨t',t3,k,r2.mono s3,r3,e,k,rfl,zZ I3 q3 rfl⟩
def U6 (r r' r'' :R2) (ta tb tc td:TE):TE:=fun σ H Q=>ta σ H fun x H1=>tb σ H1 fun y H2=>r x y H2 fun z H3=>∃ k,z= .bl k/\
 (if k=true then tc σ H3 fun w' H4=>r' y w' H4 fun z' H5=>∃ k',z' = .bl k' /\(if k' =true then td σ H5 fun w2 H6=>r'' w' w2 H6 Q else Q (.bl false) H5) else Q (.bl false) H3)
theorem wJ {op op' op'' :CmpOp} {r r' r'' :R2} {ta tb tc td:TE} (ho:OpR X (compareOp op) r) (ho' :OpR X (compareOp op') r') (ho'' :OpR X (compareOp op'') r'') (ha:PE X a ta) (hb:PE X b tb) (hc:PE X c tc) (hd:PE X d td)
  (hm:lastMarks [op,op',op''] [b,c,d]=false:=by with_unfolding_all rfl):PE X (.Compare a [op,op',op''] [b,c,d] pos) (U6 r r' r'' ta tb tc td):=by
 intro pins s σ H Q I h
 refine Compare_chain (thn (ha pins s σ H _ I h) fun v s1 ⟨x,H1,I1,r1,q1⟩=>chain_link (thn (hb pins s1 σ H1 _ I1 q1) fun u s2 ⟨y,H2,I2,r2,q2⟩=>
  thn (ho pins s2 σ H2 x y v u _ I2 r1 r2 q2) fun d' s3 ⟨z,H3,I3,r3,k,e,q3⟩=> ?_)) hm
 subst e
 cases r3
 refine wpAny_truthy_bool ?_
 cases k with
 | false=>exact ite_ff ⟨.bl false,H3,I3,rfl,q3⟩
 | true=>
  refine ite_tt (chain_link (thn (hc pins s3 σ H3 _ I3 q3) fun w' s4 ⟨z',H4,I4,r4,q4⟩=>thn (ho' pins s4 σ H4 y z' u w' _ I4 r2 r4 q4) fun d2 s5 ⟨z5,H5,I5,r5,k5,e5,q5⟩=> ?_))
  subst e5
  cases r5
  refine wpAny_truthy_bool ?_
  cases k5 with
  | false=>exact ite_ff ⟨.bl false,H5,I5,rfl,q5⟩
  | true=>exact ite_tt (chain_last (thn (hd pins s5 σ H5 _ I5 q5) fun w6 s6 ⟨z6,H6,I6,r6,q6⟩=>ho'' pins s6 σ H6 z' z6 w' w6 Q I6 r4 r6 q6))
def QN (g g' g'' :T->T->R Bool) (fa fb fc fd:En->R T):En->R T:=fun ρ=>(fa ρ).bind fun x=>(fb ρ).bind fun y=>(g x y).bind fun k=>if k=true then (fc ρ).bind fun z=>(g' y z).bind fun k' =>
 if k' =true then (fd ρ).bind fun w=>(g'' z w).bind fun k'' => .ok (.bl k'') else .ok (.bl false) else .ok (.bl false)
theorem WA {op op' op'' :CmpOp} {g g' g'' :T->T->R Bool} (nx:Nx g) (nx' :Nx g') (nx'' :Nx g'') (ho:OpR X (compareOp op) (ju g)) (ho' :OpR X (compareOp op') (ju g')) (ho'' :OpR X (compareOp op'') (ju g''))
  (ha:Zi X Y a fa) (hb:Zi X Y b fb) (hc:Zi X Y c fc) (hd:Zi X Y d fd)
  (hm:lastMarks [op,op',op''] [b,c,d]=false:=by with_unfolding_all rfl):Snd X Y (.Compare a [op,op',op''] [b,c,d] pos) (QN g g' g'' fa fb fc fd):= .mk fun ρ=>
 PE.imp (wJ ho ho' ho'' (ha ρ) (hb ρ) (hc ρ) (hd ρ) hm) fun σ H Q ⟨B,I,q⟩=>step I q fun t v H1 _ s1 r1 I1 q1=>step I1 q1 fun t' v' H2 _ s2 r2 I2 q2=>by
  cases e:g t t' with
  | bad=>rw [e] at q2; exact q2.elim
  | ex c=>exact absurd e (nx _ _ _)
  | ok k=>
   rw [e] at q2
   refine ⟨t,t',k,r1.mono s2,r2,e,k,rfl, ?_⟩
   cases k with
   | false=>exact zZ I2 q2 (.bl false)
   | true=>
    refine step I2 q2 fun t3 v3 H3 _ s3 r3 I3 q3=> ?_
    ·cases e:g' t' t3 with
     | bad=>rw [e] at q3; exact q3.elim
     | ex c=>exact absurd e (nx' _ _ _)
     | ok k=>
      rw [e] at q3
      refine ⟨t',t3,k,r2.mono s3,r3,e,k,rfl, ?_⟩
      cases k with
      | false=>exact zZ I3 q3 (.bl false)
      | true=>
       refine step I3 q3 fun t4 v4 H4 _ s4 r4 I4 q4=> ?_
       ·cases e:g'' t3 t4 with
        | bad=>rw [e] at q4; exact q4.elim
        | ex c=>exact absurd e (nx'' _ _ _)
        | ok k=>rw [e] at q4; exact ⟨t3,t4,k,r3.mono s4,r4,e,zZ I4 q4 (.bl k)⟩
variable {rest:List Expr} {ga gb:En->R Bool}
def Zn (fa fb:En->R T):En->R T:=fun ρ=>(fa ρ).bind fun x=>match x with
 | .bl true=>fb ρ
 | .bl false=> .ok (.bl false)
 | _=> .bad
def QO (fa:En->R T):En->R T:=fun ρ=>(fa ρ).bind fun x=>match x with
 | .bl k=> .ok (.bl (!k))
 | _=> .bad
theorem qS {op} (h:Snd X Y a fa):Snd X Y (.BoolOp op [a] pos) fa:= .mk fun ρ=>yc (h ρ)
theorem qT (ha:Snd X Y a fa) (hb:Snd X Y (.BoolOp .And (b :: rest) pos) fb):Snd X Y (.BoolOp .And (a :: b :: rest) pos) (Zn fa fb):= .mk fun ρ=>
 PE.imp (yd (ha ρ) (hb ρ)) fun σ H Q ⟨B,I,q⟩=>step I q fun t v H1 _ s1 r1 I1 q1=>by
  cases r1 with
  | bl k=>
   refine ⟨k,rfl, ?_⟩
   cases k with
   | true=>exact ⟨_,I1,q1⟩
   | false=>exact zZ I1 q1 (.bl false)
  | _=>exact q1.elim
theorem qU (ha:Snd X Y a fa):Snd X Y (.UnaryOp .Not a pos) (QO fa):= .mk fun ρ=>
 PE.imp (ye (ha ρ)) fun σ H Q ⟨B,I,q⟩=>step I q fun t v H1 _ s1 r1 I1 q1=>by
  cases r1 with
  | bl k=>exact ⟨k,rfl,zZ I1 q1 (.bl (!k))⟩
  | _=>exact q1.elim
structure WB (X:Cx) (Y:Fx) (e:Expr) (f:En->R Bool):Prop where
 mk ::
 go:∀ ρ,PW X e (tS Y rE f ρ)
instance {X:Cx} {Y:Fx} {e:Expr} {f:En->R Bool}:CoeFun (WB X Y e f) fun _=>∀ ρ,PW X e (tS Y rE f ρ):=⟨WB.go⟩
theorem WB.t {e:Expr} {f:En->R Bool} (h:WB X Y e f):Jt X Y e f:= .mk fun ρ=>(h ρ).pt
theorem PW.imp {e:Expr} {t t' :TT} (h:PW X e t) (i:∀ σ H Q,t' σ H Q->t σ H Q):PW X e t' :=fun wh pins s σ H Q I q=>h wh pins s σ H Q I (i σ H Q q)
def orT (fa fb:En->R Bool):En->R Bool:=fun ρ=>(fa ρ).bind fun x=>if x=true then .ok true else fb ρ
def JW (fa:En->R Bool):En->R Bool:=fun ρ=>(fa ρ).bind fun x=> .ok (!x)
theorem qV (h:Jt X Y a ga):WB X Y (.BoolOp .Or [a] pos) ga:= .mk fun ρ=>ya (h ρ)
theorem Vc (ha:Jt X Y a ga) (hb:WB X Y (.BoolOp .Or (b :: rest) pos) gb):WB X Y (.BoolOp .Or (a :: b :: rest) pos) (orT ga gb):= .mk fun ρ=>
 PW.imp (qe (ha ρ) (hb ρ)) fun σ H Q ⟨B,I,q⟩=>step I q fun t v H1 _ s1 r1 I1 q1=>by
  have r1' :v=t:=r1
  subst r1'
  cases v with
  | false=>exact ⟨_,I1,q1⟩
  | true=>exact zZ I1 q1 rfl
theorem qW (ha:Jt X Y a ga):Jt X Y (.UnaryOp .Not a pos) (JW ga):= .mk fun ρ=>
 PT.imp (yb (ha ρ)) fun σ H Q ⟨B,I,q⟩=>step I q fun t v H1 _ s1 r1 I1 q1=>by
  have r1' :v=t:=r1
  subst r1'
  exact zZ I1 q1 rfl
def tru:T->R Bool
 | .bl k=> .ok k
 | .non=> .ok false
 | .int i=> .ok (i != 0)
 | .tup xs=> .ok (!xs.isEmpty)
 | .lst xs=> .ok (!xs.isEmpty)
 | _=> .bad
def wK (fa:En->R T):En->R Bool:=fun ρ=>(fa ρ).bind tru
theorem isE {H:Hp} {xs:List V} {ts:List T} (r:zn H xs ts):(!xs.isEmpty)= !ts.isEmpty:=by cases r <;> rfl
theorem qX (ha:Zi X Y a fa) (he:∀ whole,isTrue a X.env whole=(do let v ← whole; standAt a.pos; holding [v] (truthy v)):=by intro _; rfl):Jt X Y a (wK fa):= .mk fun ρ=>
 PT.imp (Wu (ha ρ) he) fun σ H Q ⟨B,I,q⟩=>step I q fun t v H1 _ s1 r1 I1 q1=>by
  cases r1 with
  | bl k=>exact ⟨k,rfl,zZ I1 q1 rfl⟩
  | non=>exact ⟨false,rfl,zZ I1 q1 rfl⟩
  | int i=>exact ⟨_,rfl,zZ I1 q1 rfl⟩
  | tup h r=>exact ⟨_, .inr (.inl ⟨_,SqT.of h,rfl⟩),zZ I1 q1 (isE r)⟩
  | lst h r=>exact ⟨_, .inl ⟨_,SqL.of h,rfl⟩,zZ I1 q1 (isE r)⟩
  | _=>exact q1.elim
def ifE (g:En->R Bool) (fa fb:En->R T):En->R T:=fun ρ=>(g ρ).bind fun k=>if k=true then fa ρ else fb ρ
theorem Vd (hc:Jt X Y c ga) (ha:Snd X Y a fa) (hb:Snd X Y b fb):Snd X Y (.IfExp c a b pos) (ifE ga fa fb):= .mk fun ρ=>
 PE.imp (Wq (hc ρ) (ha ρ) (hb ρ)) fun σ H Q ⟨B,I,q⟩=>step I q fun t v H1 _ s1 r1 I1 q1=>by
  have r1' :v=t:=r1
  subst r1'
  cases v with
  | true=>exact ⟨_,I1,q1⟩
  | false=>exact ⟨_,I1,q1⟩
end
end PV
namespace PV
open PySem PySem.Spec PyProof.Rows L2
section
variable {X:Cx} {Y:Fx} {a b c d:Expr} {fa fb fc fd:En->R T} {pos p:Pos}
def ap1 (g:T->R T) (fa:En->R T):En->R T:=fun ρ=>(fa ρ).bind g
abbrev St1 (X:Cx) (a:Expr):Prop:=starEach [a] X.env=[(false,eval a X.env)]
theorem Jv {id:String} {x:Str} {r:List V->Hp->VK->Prop} {g:T->R T} (hc:Z2 X (.builtin id) r) (hr:∀ v t B H Q,Rep H v t->zh B H->Po Y rC B H (g t) Q->r [v] H Q)
  (gl:Gl X x) (mg:X.mg x=none) (bt:bootBuiltins x=some (.builtin id)) (ha:Zi X Y a fa) (hs:St1 X a:=by exact st1 rfl) (hn:x ≠ "__name__":=by decide) (hd:(x == ("__debug__":Str))=false:=by decide):Snd X Y (.Call (.Name x p) [a] [] pos) (ap1 g fa):= .mk fun ρ=>
 PE.imp (Z3 hc gl mg bt (zi (ha ρ) zB hs) hn hd hs rfl) fun σ H Q ⟨B,I,q⟩=>step I q fun t v H1 _ s1 r1 I1 q1=>hr v t _ H1 Q r1 I1.sB q1
def Zy:T->R T
 | .tup xs=> .ok (.int xs.length)
 | .lst xs=> .ok (.int xs.length)
 | .fz xs=> .ok (.int xs.length)
 | .str x=>if x.length<=bnd then .ok (.int x.length) else .bad
 | _=> .bad
theorem qY (v:V) (t:T) (B H:Hp) (Q:VK) (r:Rep H v t) (sB:zh B H) (q:Po Y rC B H (Zy t) Q):
  (∃ p ys,[v]=[V.ref p]/\(SqL X.K H p ys\/SqT X.K H p ys)/\Q (V.int ys.length) H)\/(∃ z,[v]=[V.str z]/\z.length<=sizeLine/\Q (V.int z.length) H):=by
 cases r with
 | tup h r=>exact .inl ⟨_,_,rfl, .inr (SqT.of h),po0 sB q rfl (by rw [r.length]; exact .int _)⟩
 | lst h r=>exact .inl ⟨_,_,rfl, .inl (SqL.of h),po0 sB q rfl (by rw [r.length]; exact .int _)⟩
 | fz h r=>exact .inl ⟨_,_,rfl, .inl (.inl (.inr ⟨_,h⟩)),po0 sB q rfl (by rw [r.length]; exact .int _)⟩
 | str x=>
  by_cases hb:x.length<=bnd
  ·exact .inr ⟨x,rfl,zR hb,po0 sB q (if_pos hb) (.int _)⟩
  ·rw [show Zy (.str x)= .bad from if_neg hb] at q; exact q.elim
 | _=>exact q.elim
theorem qZ (gl:Gl X "len") (mg:X.mg "len"=none) (ha:Zi X Y a fa) (hs:St1 X a:=by exact st1 rfl):Snd X Y (.Call (.Name "len" p) [a] [] pos) (ap1 Zy fa):=
 Jv (jG.or jH) qY gl mg PySem.boot_len ha hs
def tyN:T->String
 | .non=>"NoneType"
 | .bl _=>"bool"
 | .int _=>"int"
 | .str _=>"str"
 | .tup _=>"tuple"
 | .lst _=>"list"
 | .fz _=>"list"
def isT (n:String) (t:T):Bool:=tyN t == n || (n == "int" && tyN t == "bool")
theorem Q0 {H:Hp} {v:V} {t:T} (K:PySem.W.Frag) (r:Rep H v t):JR K H v (.type (tyN t)):=by
 cases r with
 | non=>exact .non
 | bl b=>exact .bl b
 | int b=>exact .int b
 | str b=>exact .str b
 | tup h _=>exact .tup h
 | lst h _=>exact .lst h
 | fz h _=>exact .frz h
theorem WC:Z2 X (.builtin "isinstance") (fun xs H Q=>∃ v n t,xs=[v, .ty n]/\Rep H v t/\PySem.W.kitOne X.K (.type (tyN t)) (.type n)=some (isT n t)/\Q (.bl (isT n t)) H):=by
 intro pins s σ H xs us Q I rv h
 obtain ⟨v,n,t,rfl,r,hk,q⟩:=h
 obtain ⟨u,w,rfl,ru,rw'⟩:=wp rv
 obtain rfl:w=Value.type n:=rw'
 exact wv I ru (Q0 X.K r) hk fun tk=>⟨.bl _,H,I.tok tk,rfl,q⟩
def U7 (n:String) (t:T):R T:= .ok (.bl (isT n t))
theorem U8 (K:PySem.W.Frag) (t:T):PySem.W.kitOne K (.type (tyN t)) (.type "int")=some (isT "int" t):=by cases t <;> rfl
theorem WD (K:PySem.W.Frag) (t:T):PySem.W.kitOne K (.type (tyN t)) (.type "bool")=some (isT "bool" t):=by cases t <;> rfl
theorem U9 (K:PySem.W.Frag) (t:T):PySem.W.kitOne K (.type (tyN t)) (.type "str")=some (isT "str" t):=by cases t <;> rfl
theorem jN (K:PySem.W.Frag) (t:T):PySem.W.kitOne K (.type (tyN t)) (.type "tuple")=some (isT "tuple" t):=by cases t <;> rfl
theorem WE (K:PySem.W.Frag) (t:T):PySem.W.kitOne K (.type (tyN t)) (.type "list")=some (isT "list" t):=by cases t <;> rfl
theorem WF {n:String} {p' :Pos} (hk:∀ t,PySem.W.kitOne X.K (.type (tyN t)) (.type n)=some (isT n t)) (gl:Gl X "isinstance") (mg:X.mg "isinstance"=none) (gl' :Gl X (Str.ofString n)) (mg' :X.mg (Str.ofString n)=none) (bt:bootBuiltins (Str.ofString n)=some (.type n)) (ha:Zi X Y a fa)
  (hs:starEach [a, .Name (Str.ofString n) p'] X.env=[(false,eval a X.env),(false,eval (.Name (Str.ofString n) p') X.env)]:=by exact st2 rfl rfl) (hs2:starEach [.Name (Str.ofString n) p'] X.env=[(false,eval (.Name (Str.ofString n) p') X.env)]:=by exact st1 rfl)
  (hn:Str.ofString n ≠ "__name__":=by decide) (hd:(Str.ofString n == ("__debug__":Str))=false:=by decide) (hz:((backTo pos (starEach [.Name (Str.ofString n) p'] X.env)).any fun x=>x.fst)=false:=by exact zH rfl):
  Snd X Y (.Call (.Name "isinstance" p) [a, .Name (Str.ofString n) p'] [] pos) (ap1 (U7 n) fa):= .mk fun ρ=>
 PE.imp (Z3 WC gl mg PyProof.Rows.Boot.«isinstance» (zi (ha ρ) (zi (jg (v:= .ty n) gl' mg' bt rfl hn hd) zB hs2) (by rw [hs,hs2])) (by decide) (by decide) (by rw [hs,hs2]) hz) fun σ H Q ⟨B,I,q⟩=>
  step I q fun t v H1 _ s1 r1 I1 q1=>⟨v,n,t,rfl,r1,hk t,po0 I1.sB q1 rfl (.bl _)⟩
def atT (xs:List T) (i:Int):R T:=match atI xs i with
 | some t=> .ok t
 | none=> .bad
def ixT:T->T->R T
 | .tup xs, .int i=>atT xs i
 | .lst xs, .int i=>atT xs i
 | .fz xs, .int i=>atT xs i
 | .str z, .int i=>if z.length<=bnd then match atI z.cps.toList i with | some c=> .ok (.str ⟨#[c]⟩) | none=> .bad else .bad
 | _,_=> .bad
theorem Jw {H:Hp} {xs:List V} {ts:List T} {i:Int} {t:T} (r:zn H xs ts) (h:atI ts i=some t):∃ v,atI xs i=some v/\Rep H v t:=by
 unfold atI at h ⊢
 rw [r.length]
 cases e:ixN ts.length i with
 | none=>rw [e] at h; cases h
 | some j=>
  rw [e] at h
  obtain ⟨v,h1,h2⟩:=r.get (show ts[j]? =some t from h)
  exact ⟨v,h1,h2⟩
theorem Ve (ha:Snd X Y a fa) (hb:Snd X Y b fb) (hs:J6 b:=by exact fun _ _=>rfl):Snd X Y (.Subscript a b pos) (zd ixT fa fb):= .mk fun ρ=>
 PE.imp (yu uh (ha ρ) (hb ρ) hs) fun σ H Q ⟨B,I,q⟩=>step I q fun t v H1 _ s1 r1 I1 q1=>step I1 q1 fun t' v' H2 _ s2 r2 I2 q2=>by
  have r1:=r1.mono (zp.ge I1.sB s2)
  cases r2 with
  | int i=>
   cases r1 with
   | @tup _ xs ts h r=>
    have q2:Po Y rC _ H2 (atT ts i) Q:=q2
    unfold atT at q2
    split at q2
    ·rename_i t' e
     obtain ⟨w,e1,e2⟩:=Jw r e
     exact .inr (.inl ⟨_,xs,i,w,rfl,rfl,SqT.of (I2.sB _ _ h),e1,po0 I2.sB q2 rfl e2⟩)
    ·exact q2.elim
   | @lst _ xs ts h r=>
    have q2:Po Y rC _ H2 (atT ts i) Q:=q2
    unfold atT at q2
    split at q2
    ·rename_i t' e
     obtain ⟨w,e1,e2⟩:=Jw r e
     exact .inl ⟨_,xs,i,w,rfl,rfl,SqL.of (I2.sB _ _ h),e1,po0 I2.sB q2 rfl e2⟩
    ·exact q2.elim
   | @fz _ _ xs ts h r=>
    have q2:Po Y rC _ H2 (atT ts i) Q:=q2
    unfold atT at q2
    split at q2
    ·rename_i t' e
     obtain ⟨w,e1,e2⟩:=Jw r e
     exact .inl ⟨_,xs,i,w,rfl,rfl, .inl (.inr ⟨_,I2.sB _ _ h⟩),e1,po0 I2.sB q2 rfl e2⟩
    ·exact q2.elim
   | str z=>
    have q2:Po Y rC _ H2 (if z.length<=bnd then match atI z.cps.toList i with | some c=> .ok (.str ⟨#[c]⟩) | none=> .bad else .bad) Q:=q2
    split at q2
    ·rename_i hb
     split at q2
     ·rename_i c e
      exact .inr (.inr ⟨z,i,c,rfl,rfl,zR hb,e,po0 I2.sB q2 rfl (.str _)⟩)
     ·exact q2.elim
    ·exact q2.elim
   | _=>exact q2.elim
  | _=>cases r1 <;> exact q2.elim
def US:List T->Option Bool
 | []=>some true
 | .bl k :: r=>match US r with | some j=>some (k && j) | none=>none
 | _ :: _=>none
def yN:T->R T
 | .lst ts=>match US ts with | some k=> .ok (.bl k) | none=> .bad
 | _=> .bad
theorem wL:∀ {H:Hp} {xs:List V} {ts:List T} {its:List Value} {k:Bool},zn H xs ts->zz xs its->US ts=some k->∃ tr:Nat->Bool,(∀ i v,its[i]? =some v->v=Value.bool (tr i))/\(List.range its.length).all tr=k
 | _,_,_,_,k, .nil, .nil,h=>by
  have h' :some true=some k:=h
  cases h'
  exact ⟨fun _=>true,fun i v e=>by simp at e,rfl⟩
 | H,_,_,_,k, .cons (v:=x) (t:=t) r rs, .cons (b:=u) rv vs,h=>by
  cases r with
  | bl b=>
   unfold US at h
   split at h
   ·rename_i j e
    cases h
    obtain ⟨tr,h1,h2⟩:=wL rs vs e
    obtain rfl:u=Value.bool b:=rv
    refine ⟨fun i=>match i with | 0=>b | i+1=>tr i,fun i v e=> ?_, ?_⟩
    ·cases i with
     | zero=>simp at e; exact e.symm
     | succ i=>exact h1 i v (by simpa using e)
    ·rw [List.length_cons,List.range_succ_eq_map,List.all_cons,List.all_map,← h2]
     rfl
   ·cases h
  | _=>cases h
theorem wM (hh:X.A.handled=none):Z2 X (.builtin "all") (fun vs H Q=>∃ l xs ts k,vs=[.ref l]/\H l=some (.lst xs)/\zn H xs ts/\US ts=some k/\Q (.bl k) H):=by
 intro pins s σ H vs us Q I rv h
 obtain ⟨l,xs,ts,k,rfl,hl,r,hk,q⟩:=h
 obtain ⟨u,rfl,ru⟩:=ZF rv
 obtain rfl:u=Value.ref l:=ru
 obtain ⟨its,rv,p,_⟩:=zq I (.inl hl) r
 obtain ⟨tr,h1,h2⟩:=wL r rv hk
 refine call_all_walk (wpAny_pyIter_list p ?_)
 have hlt:l < s.heap.objs.size:=I.hok.lt hl
 have old:∀ b o,s.heap.get? b=some o->(s.heap.push { cls:= .type "list_iterator",data:= .fields #[.ref l, .int 0 0] }).get? b=some o:=fun b o e=>Heap.get?_push_of_some _ e
 refine ⟨s.heap.objs.size,_,_,_,_,_,tr,rfl,Walks.list (A:=X.A.in1) hh s.heap.objs.size l (Nat.ne_of_lt hlt) its.toArray, ?_, ?_,fun h' tk hk' => ?_⟩
 ·refine ⟨?_,p.at fun o e=>old _ o e⟩
  exact ⟨_,Heap.get?_push_size _ rfl,rfl,rfl⟩
 ·intro i v s' Q' E' hi hq
  rw [h1 i v (by simpa using hi)]
  exact wpAny_truthy_bool hq
 ·rw [List.size_toArray,h2]
  refine ⟨.bl k,H,I.kept (t' :=tk) (fun b o e=>hk' b o ?_ (old b o e)),rfl,q⟩
  simp
  exact Nat.ne_of_lt (Heap.lt_size e)
theorem Q1 (hh:X.A.handled=none) (gl:Gl X "all") (mg:X.mg "all"=none) (ha:Zi X Y a fa) (hs:St1 X a:=by exact st1 rfl):Snd X Y (.Call (.Name "all" p) [a] [] pos) (ap1 yN fa):=
 Jv (wM hh) (fun v t B H Q r sB q=>by
  cases r with
  | @lst l xs ts h r=>
   have q:Po Y rC B H (match US ts with | some k=> .ok (.bl k) | none=> .bad) Q:=q
   split at q
   ·rename_i k e
    exact ⟨l,xs,ts,k,rfl,h,r,e,po0 sB q rfl (.bl k)⟩
   ·exact q.elim
  | _=>exact q.elim) gl mg PyProof.Rows.Boot.«all» ha hs
end
inductive RS where
 | nx (ρ:En) | rt (t:T) | bk (ρ:En) | ct (ρ:En) | ex (c:Nat) | bad | rf (ts:List T)
def R.s {α:Type} (r:R α) (k:α->RS):RS:=match r with
 | .ok a=>k a
 | .ex c=> .ex c
 | .bad=> .bad
def PoS (Y:Fx) (B:Hp) (r:RS) (D:Wp):Prop:=match r with
 | .nx ρ' =>∀ σ' H' B',zh B B' ->SI Y B' ρ' σ' H' ->D.nx σ' H'
 | .rt t=>∀ v H',zh Y.H0 H' ->Rep (zp Y.B0 Y.H0 H') v t->D.rt v H'
 | .bk ρ' =>∀ σ' H' B',zh B B' ->SI Y B' ρ' σ' H' ->D.bk σ' H'
 | .ct ρ' =>∀ σ' H' B',zh B B' ->SI Y B' ρ' σ' H' ->D.ct σ' H'
 | .ex c=>XP Y B c
 | .bad=>False
 | .rf ts=>∀ a xs H' B',zh Y.H0 H' ->Y.H0 a=none->H' a=some (.lst xs)->zn B' xs ts->B' a=none->zh B' (zp Y.B0 Y.H0 H')->D.rt (.ref a) H'
theorem PoS.up {Y:Fx} {B B' :Hp} {r:RS} {D:Wp} (s:zh B B') (h:PoS Y B r D):PoS Y B' r D:=by
 cases r with
 | nx ρ=>exact fun σ' H' B2 s2 I=>h σ' H' B2 (s.trans s2) I
 | bk ρ=>exact fun σ' H' B2 s2 I=>h σ' H' B2 (s.trans s2) I
 | ct ρ=>exact fun σ' H' B2 s2 I=>h σ' H' B2 (s.trans s2) I
 | rt t=>exact h
 | rf t=>exact h
 | ex c=>exact fun d H' s0 sB=>h d H' s0 (s.trans sB)
 | bad=>exact h
def tSS (Y:Fx) (f:En->RS) (ρ:En):TS:=fun D σ H=>∃ B,SI Y B ρ σ H/\PoS Y B (f ρ) D
structure jO (X:Cx) (Y:Fx) (e:Stmt) (f:En->RS):Prop where
 mk ::
 go:∀ ρ,PS X e (tSS Y f ρ)
instance {X:Cx} {Y:Fx} {e:Stmt} {f:En->RS}:CoeFun (jO X Y e f) fun _=>∀ ρ,PS X e (tSS Y f ρ):=⟨jO.go⟩
structure Jb (X:Cx) (Y:Fx) (e:List Stmt) (f:En->RS):Prop where
 mk ::
 go:∀ ρ,PSs X e (tSS Y f ρ)
instance {X:Cx} {Y:Fx} {e:List Stmt} {f:En->RS}:CoeFun (Jb X Y e f) fun _=>∀ ρ,PSs X e (tSS Y f ρ):=⟨Jb.go⟩
theorem j1 {α β:Type} {Y:Fx} {rel:Hp->Hp->β->α->Prop} {f:En->R α} {k:α->RS} {ρ:En} {B:Hp} {σ:Sg} {H:Hp} {D:Wp} {K:β->Hp->Prop}
  (I:SI Y B ρ σ H) (h:PoS Y B ((f ρ).s k) D)
  (n:∀ a b H1,f ρ= .ok a->zh H H1->rel (zp B H H1) H1 b a->SI Y (zp B H H1) ρ σ H1->PoS Y (zp B H H1) (k a) D->K b H1):tS Y rel f ρ σ H K:=by
 refine ⟨B,I, ?_⟩
 cases e:f ρ with
 | bad=>rw [e] at h; exact h
 | ex c=>rw [e] at h; exact h
 | ok a=>
  rw [e] at h
  exact fun b H1 s r=>n a b H1 e s r (I.grow s) (PoS.up (zp.ge I.sB s) h)
theorem zE {α:Type} {xs:List α} {i j:Nat} {x y:α} (h:(xs.set i x)[j]? =some y):(j=i/\y=x)\/(j ≠ i/\xs[j]? =some y):=by
 by_cases e:j=i
 ·subst e
  by_cases hl:j < xs.length
  ·rw [List.getElem?_set_self hl] at h; exact .inl ⟨rfl,(Option.some.inj h).symm⟩
  ·rw [List.getElem?_eq_none (by rw [List.length_set]; omega)] at h; cases h
 ·rw [List.getElem?_set_ne (Ne.symm e)] at h; exact .inr ⟨e,h⟩
theorem wN {α:Type} {xs:List α} {i:Nat} {x y:α} (h:(xs.set i x)[i]? =some y):i < xs.length:=by
 by_cases hl:i < xs.length
 ·exact hl
 ·rw [List.getElem?_eq_none (by rw [List.length_set]; omega)] at h; cases h
theorem SI.setV {Y:Fx} {B:Hp} {ρ:En} {σ:Sg} {H:Hp} (I:SI Y B ρ σ H) (i:Nat) {v:V} {t:T} (r:Rep B v t):SI Y B (ρ.set i (.vl t)) (σ.set i (some v)) H where
 s0:=I.s0
 sH:=I.sH
 sB:=I.sB
 old:=I.old
 len:=by rw [List.length_set,List.length_set]; exact I.len
 vl:=fun j u h=>by
  rcases zE h with ⟨rfl,e⟩ | ⟨hj,h'⟩
  ·cases e
   exact ⟨v,List.getElem?_set_self (by rw [← I.len]; exact wN h),r⟩
  ·obtain ⟨w,e,rr⟩:=I.vl j u h'
   exact ⟨w,by rw [List.getElem?_set_ne (Ne.symm hj)]; exact e,rr⟩
 ow:=fun j us h=>by
  rcases zE h with ⟨rfl,e⟩ | ⟨hj,h'⟩
  ·cases e
  ·obtain ⟨a,xs,e,b0,h0,hh,rr,d⟩:=I.ow j us h'
   refine ⟨a,xs,by rw [List.getElem?_set_ne (Ne.symm hj)]; exact e,b0,h0,hh,rr,fun k ws hk hw=> ?_⟩
   rcases zE hw with ⟨rfl,e'⟩ | ⟨hk',hw'⟩
   ·cases e'
   ·rw [List.getElem?_set_ne (Ne.symm hk')]; exact d k ws hk hw'
 xc:=fun j c h=>by
  rcases zE h with ⟨rfl,e⟩ | ⟨hj,h'⟩
  ·cases e
  ·obtain ⟨a,e,r⟩:=I.xc j c h'
   exact ⟨a,by rw [List.getElem?_set_ne (Ne.symm hj)]; exact e,r⟩
theorem SI.newO {Y:Fx} {B:Hp} {ρ:En} {σ:Sg} {H:Hp} (I:SI Y B ρ σ H) (i:Nat) {p:Addr} {xs:List V} {ts:List T} (hp:H p=none) (r:zn B xs ts):SI Y B (ρ.set i (.ow ts)) (σ.set i (some (.ref p))) (upd H p (.lst xs)) where
 s0:=I.s0
 sH:=I.sH.trans (zh.new hp _)
 sB:=I.sB.trans (zh.new hp _)
 old:=I.old
 len:=by rw [List.length_set,List.length_set]; exact I.len
 vl:=fun j u h=>by
  rcases zE h with ⟨rfl,e⟩ | ⟨hj,h'⟩
  ·cases e
  ·obtain ⟨w,e,rr⟩:=I.vl j u h'
   exact ⟨w,by rw [List.getElem?_set_ne (Ne.symm hj)]; exact e,rr⟩
 ow:=fun j us h=>by
  have op:∀ k ws a,ρ[k]? =some (Sl.ow ws)->σ[k]? =some (some (V.ref a))->a ≠ p:=fun k ws a h1 h2=>by
   obtain ⟨a',xs',e,_,_,hh,_⟩:=I.ow k ws h1
   rw [e] at h2; cases h2
   exact zk hh hp
  rcases zE h with ⟨rfl,e⟩ | ⟨hj,h'⟩
  ·cases e
   refine ⟨p,xs,List.getElem?_set_self (by rw [← I.len]; exact wN h),I.sB.free hp,I.sH.free hp,zg,r,fun k ws hk hw=> ?_⟩
   rcases zE hw with ⟨rfl,e'⟩ | ⟨hk',hw'⟩
   ·exact absurd rfl hk
   ·rw [List.getElem?_set_ne (Ne.symm hk')]
    exact fun z=>op k ws p hw' z rfl
  ·obtain ⟨a,xs',e,b0,h0,hh,rr,d⟩:=I.ow j us h'
   refine ⟨a,xs',by rw [List.getElem?_set_ne (Ne.symm hj)]; exact e,b0,h0,by rw [zf (op j us a h' e)]; exact hh,rr,fun k ws hk hw=> ?_⟩
   rcases zE hw with ⟨rfl,e'⟩ | ⟨hk',hw'⟩
   ·rw [List.getElem?_set_self (by rw [← I.len]; exact wN hw)]
    intro z
    exact op j us a h' e (by injection z with z; injection z with z; injection z with z; exact z.symm)
   ·rw [List.getElem?_set_ne (Ne.symm hk')]; exact d k ws hk hw'
 xc:=fun j c h=>by
  rcases zE h with ⟨rfl,e⟩ | ⟨hj,h'⟩
  ·cases e
  ·obtain ⟨a,e,r⟩:=I.xc j c h'
   exact ⟨a,by rw [List.getElem?_set_ne (Ne.symm hj)]; exact e,r⟩
theorem SI.chg {Y:Fx} {B:Hp} {ρ:En} {σ:Sg} {H:Hp} (I:SI Y B ρ σ H) (i:Nat) {p:Addr} {ts us:List T} {ys:List V} (hi:ρ[i]? =some (.ow ts)) (he:σ[i]? =some (some (.ref p))) (r:zn B ys us):SI Y B (ρ.set i (.ow us)) σ (upd H p (.lst ys)):=by
 obtain ⟨p',xs,e,b0,h0,hh,rr,d⟩:=I.ow i ts hi
 rw [he] at e
 cases e
 have nb:∀ b o,B b=some o->b ≠ p:=fun b o h z=>by subst z; rw [b0] at h; cases h
 have n0:∀ b o,Y.H0 b=some o->b ≠ p:=fun b o h z=>by subst z; rw [h0] at h; cases h
 refine ⟨I.s0,fun b o h=>by rw [zf (n0 b o h)]; exact I.sH b o h,fun b o h=>by rw [zf (nb b o h)]; exact I.sB b o h,I.old,by rw [List.length_set]; exact I.len,fun j u h=> ?_,fun j ws h=> ?_,fun j c h=> ?_⟩
 rotate_right
 ·rcases zE h with ⟨rfl,z⟩ | ⟨hj,h'⟩
  ·cases z
  ·exact I.xc j c h'
 ·rcases zE h with ⟨rfl,z⟩ | ⟨hj,h'⟩
  ·cases z
  ·exact I.vl j u h'
 ·rcases zE h with ⟨rfl,z⟩ | ⟨hj,h'⟩
  ·cases z
   refine ⟨p,ys,he,b0,h0,zg,r,fun k vs hk hw=> ?_⟩
   rcases zE hw with ⟨rfl,e'⟩ | ⟨hk',hw'⟩
   ·exact absurd rfl hk
   ·exact d k vs hk hw'
  ·obtain ⟨a,xs',e,c0,g0,gg,ss,d'⟩:=I.ow j ws h'
   have hne:a ≠ p:=fun z=>by subst z; exact d j ws hj h' e
   refine ⟨a,xs',e,c0,g0,by rw [zf hne]; exact gg,ss,fun k vs hk hw=> ?_⟩
   rcases zE hw with ⟨rfl,e'⟩ | ⟨hk',hw'⟩
   ·rw [he]; intro z; injection z with z; injection z with z; injection z with z; exact hne z.symm
   ·exact d' k vs hk hw'
def Vf:Sl->Sl
 | .ow ts=> .vl (.lst ts)
 | x=>x
def frz (ρ:En):En:=ρ.map Vf
theorem SI.up {Y:Fx} {B:Hp} {ρ:En} {σ:Sg} {H:Hp} (I:SI Y B ρ σ H):zh B (zp B Y.H0 H):=fun b o h=>by
 cases q:Y.H0 b with
 | none=>rw [zy q]; exact I.sB b o h
 | some u=>rw [zC q]; exact h
theorem SI.frz {Y:Fx} {B:Hp} {ρ:En} {σ:Sg} {H:Hp} (I:SI Y B ρ σ H):SI Y (zp B Y.H0 H) (PV.frz ρ) σ H:=by
 have up:zh B (zp B Y.H0 H):=fun b o h=>by
  cases q:Y.H0 b with
  | none=>rw [zy q]; exact I.sB b o h
  | some u=>rw [zC q]; exact h
 refine ⟨I.s0,I.sH,fun b o h=> ?_,fun b o h=>by rw [zC h]; exact I.old b o h,by unfold PV.frz; rw [List.length_map]; exact I.len,fun j t h=> ?_,fun j ts h=> ?_,fun j c h=> ?_⟩
 rotate_right
 ·unfold PV.frz at h
  rw [List.getElem?_map] at h
  cases e:ρ[j]? with
  | none=>rw [e] at h; cases h
  | some x=>
   rw [e] at h
   cases x with
   | xc d=>
    cases h
    obtain ⟨a,e1,r⟩:=I.xc j _ e
    exact ⟨a,e1,up a _ r⟩
   | un=>cases h
   | vl _=>cases h
   | ow _=>cases h
 ·cases q:Y.H0 b with
  | none=>rw [zy q] at h; exact h
  | some u=>rw [zC q] at h; exact I.sB b o h
 ·unfold PV.frz at h
  rw [List.getElem?_map] at h
  cases e:ρ[j]? with
  | none=>rw [e] at h; cases h
  | some x=>
   rw [e] at h
   cases x with
   | un=>cases h
   | vl u=>
    cases h
    obtain ⟨v,e1,r⟩:=I.vl j _ e
    exact ⟨v,e1,r.mono up⟩
   | ow us=>
    cases h
    obtain ⟨a,xs,e1,b0,h0,hh,rr,_⟩:=I.ow j us e
    exact ⟨.ref a,e1, .lst (by rw [zy h0]; exact hh) (rr.mono up)⟩
   | xc _=>cases h
 ·unfold PV.frz at h
  rw [List.getElem?_map] at h
  cases e:ρ[j]? with
  | none=>rw [e] at h; cases h
  | some x=>
   rw [e] at h
   cases x with
   | un=>cases h
   | vl u=>cases h
   | ow us=>cases h
   | xc _=>cases h
theorem yO {Y:Fx} {B H H' :Hp} (s0:zh Y.H0 H) (old:∀ b o,Y.H0 b=some o->B b=Y.B0 b) (s:zh H H') (sB:zh B H):zh (zp B H H') (zp Y.B0 Y.H0 H'):=fun b o h=>by
 cases q:H b with
 | none=>
  rw [zy q] at h
  rw [zy (s0.free q)]; exact h
 | some u=>
  rw [zC q] at h
  cases z:Y.H0 b with
  | none=>rw [zy z]; exact s b o (sB b o h)
  | some w=>rw [zC z,← old b w z]; exact h
section
variable {X:Cx} {Y:Fx} {a b c d:Expr} {fa fb fc fd:En->R T} {pos p:Pos} {st:Stmt} {sts sts' :List Stmt} {f g:En->RS}
def nxS:En->RS:=fun ρ=> .nx ρ
def zj (f g:En->RS):En->RS:=fun ρ=>match f ρ with
 | .nx ρ' =>g ρ'
 | r=>r
theorem Q2:Jb X Y [] nxS:= .mk fun ρ=>PSs.imp uD fun D σ H ⟨B,I,q⟩=>q σ H B (zh.refl B) I
theorem Q3 (h:jO X Y st f):Jb X Y [st] f:= .mk fun ρ=>ji (h ρ)
theorem yP (h1:jO X Y st f) (h2:Jb X Y sts g):Jb X Y (st :: sts) (zj f g):= .mk fun ρ=>by
 refine PSs.imp (jh (u:=fun D σ H=>∃ ρ',tSS Y g ρ' D σ H) (h1 ρ) ?_) ?_
 ·intro pins s σ H D I ⟨ρ',q⟩
  exact h2 ρ' pins s σ H D I q
 ·intro D σ H ⟨B,I,q⟩
  refine ⟨B,I, ?_⟩
  unfold zj at q
  cases e:f ρ with
  | nx ρ' =>
   rw [e] at q
   intro σ' H' B' s' I'
   exact ⟨ρ',B',I',PoS.up s' q⟩
  | rt t=>rw [e] at q; exact q
  | rf t=>rw [e] at q; exact q
  | bk ρ' =>rw [e] at q; exact q
  | ct ρ' =>rw [e] at q; exact q
  | ex c=>rw [e] at q; exact q
  | bad=>rw [e] at q; exact q
def Zj (i:Nat) (fa:En->R T):En->RS:=fun ρ=>(fa ρ).s fun t=> .nx (ρ.set i (.vl t))
theorem yQ {i:Nat} {x:Str} {p' :Pos} (hN:X.N.Nodup) (hi:X.N[i]? =some x) (hx:L2.Loc X.env.scope x) (ha:Snd X Y a fa) (hs:swapsWith a (some (.Name x p')) pos.line X.env=pure false:=by rfl)
  (hf:X.fn x=true\/X.env.scope.names.lookup x=some .local:=by first | exact .inl rfl | exact .inr rfl | assumption):jO X Y (.Assign [.Name x p'] a pos) (Zj i fa):= .mk fun ρ=>
 PS.imp (uc hN hi hx (ha ρ) hs hf) fun D σ H ⟨B,I,q⟩=>j1 I q fun t v H1 _ s1 r1 I1 q1=>q1 _ _ _ (zh.refl _) (I1.setV i r1)
def Jc (i:Nat) (ga:En->R (List T)):En->RS:=fun ρ=>(ga ρ).s fun ts=>if ts.length<=bnd then .nx (ρ.set i (.ow ts)) else .bad
theorem yR {i:Nat} {x:Str} {p' :Pos} {es:List Expr} {ga:En->R (List T)} (hN:X.N.Nodup) (hi:X.N[i]? =some x) (hx:L2.Loc X.env.scope x) (ha:jX X Y es ga) (hs:swapsWith (.List es p) (some (.Name x p')) pos.line X.env=pure false:=by rfl)
  (hf:X.fn x=true\/X.env.scope.names.lookup x=some .local:=by first | exact .inl rfl | exact .inr rfl | assumption):jO X Y (.Assign [.Name x p'] (.List es p) pos) (Jc i ga):= .mk fun ρ=>
 PS.imp (uc hN hi hx (ug (ha ρ)) hs hf) fun D σ H ⟨B,I,q⟩=>j1 I q fun ts vs H1 _ s1 r1 I1 q1=>by
  split at q1
  ·rename_i hb
   exact ⟨by rw [r1.length]; exact zR hb,fun p hp=>q1 _ _ _ (zh.refl _) (I1.newO i hp r1)⟩
  ·exact q1.elim
def zr (fa:En->R T):En->RS:=fun ρ=>(fa (frz ρ)).s fun t=> .rt t
theorem Q4 (ha:Snd X Y a fa):jO X Y (.Return (some a) pos) (zr fa):= .mk fun ρ=>
 PS.imp (we (ha (frz ρ))) fun D σ H ⟨B,I,q⟩=>by
  refine ⟨_,I.frz, ?_⟩
  unfold zr at q
  cases e:fa (frz ρ) with
  | bad=>rw [e] at q; exact q
  | ex c=>
   rw [e] at q
   exact fun d H' s0 sG=>q d H' s0 (I.up.trans sG)
  | ok t=>
   rw [e] at q
   intro v H' s r
   have J:=I.frz
   exact q v H' (I.sH.trans s) (r.mono (yO J.sH J.old s J.sB))
def ifS (g:En->R Bool) (f1 f2:En->RS):En->RS:=fun ρ=>(g ρ).s fun k=>if k=true then f1 ρ else f2 ρ
theorem Q5 {ga:En->R Bool} (hc:Jt X Y c ga) (h1:Jb X Y sts f) (h2:Jb X Y sts' g):jO X Y (.If c sts sts' pos) (ifS ga f g):= .mk fun ρ=>
 PS.imp (qj (hc ρ) (h1 ρ) (h2 ρ)) fun D σ H ⟨B,I,q⟩=>j1 I q fun t v H1 _ s1 r1 I1 q1=>by
  have r1' :v=t:=r1
  subst r1'
  cases v with
  | true=>exact ⟨_,I1,q1⟩
  | false=>exact ⟨_,I1,q1⟩
def ZI (fa:En->R T):En->RS:=fun ρ=>(fa ρ).s fun _=> .nx ρ
theorem yS (ha:Snd X Y a fa) (hs:swapsWith a none pos.line X.env=pure false:=by rfl):jO X Y (.Expr a pos) (ZI fa):= .mk fun ρ=>
 PS.imp (jZ (ha ρ) hs) fun D σ H ⟨B,I,q⟩=>j1 I q fun t v H1 _ s1 r1 I1 q1=>q1 _ _ _ (zh.refl _) I1
def Z4 (i:Nat) (fa:En->R T):En->RS:=fun ρ=>match ρ[i]? with
 | some (.ow ts)=>(fa ρ).s fun t=>if ts.length < bnd then .nx (ρ.set i (.ow (ts++[t]))) else .bad
 | _=> .bad
def YY (i:Nat) (fa:En->R T):En->RS:=fun ρ=>match ρ[i]? with
 | some (.ow ts)=>(fa ρ).s fun t=>match t with
  | .lst us=>if ts.length+us.length<=bnd then .nx (ρ.set i (.ow (ts++us))) else .bad
  | _=> .bad
 | _=> .bad
theorem yT {n:Nat} (h:n < bnd):n < sizeLine:=by rw [sizeLine_eq]; exact h
theorem Q6 {i:Nat} {x:Str} {px pa:Pos} (hv:PE X (.Name x px) (Wj i)) (ha:Snd X Y a fa) (hb:attributeBase (.Name x px) "append" X.env (eval (.Name x px) X.env)=eval (.Name x px) X.env:=by rfl) (hs:St1 X a:=by exact st1 rfl)
  (hz:(pa.endLine == p.line)=true:=by rfl) (hw:swapsWith (.Call (.Attribute (.Name x px) "append" pa) [a] [] p) none pos.line X.env=pure false:=by rfl):jO X Y (.Expr (.Call (.Attribute (.Name x px) "append" pa) [a] [] p) pos) (Z4 i fa):= .mk fun ρ=>by
 have e1:(((((backTo p (starEach [a] X.env)).all fun x=> !x.fst) && (backToKw p (keywordEach [] X.env)).all fun x=>x.fst.isSome) && decide (([a].length+([]:List Keyword).length+if ([]:List Keyword).isEmpty=true then 0 else 1) < 30))=true):=by rw [hs]; rfl
 refine PS.imp (jZ (Wx PySem.F.plainAttrs_list PySem.F.slot_list_append PySem.F.type_list_append jI hv (zi (ha ρ) zB hs) hb e1 hz hs rfl) hw) fun D σ H ⟨B,I,q⟩=> ?_
 unfold Z4 at q
 split at q
 ·rename_i ts e
  obtain ⟨l,xs,e1,b0,h0,hh,rr,d⟩:=I.ow i ts e
  refine ⟨.ref l,e1, .inl ⟨rfl,_,SqL.of hh⟩, ?_⟩
  refine j1 I q fun t v H1 _ s1 r1 I1 q1=> ?_
  split at q1
  ·rename_i hb
   refine ⟨l,xs,v,rfl,rfl,s1 _ _ hh,by rw [rr.length]; exact yT hb, ?_⟩
   exact q1 _ _ _ (zh.refl _) (I1.chg i e e1 ((rr.mono (zp.ge I.sB s1)).append (.cons r1 .nil)))
  ·exact q1.elim
 ·exact q.elim
theorem Q7 {i:Nat} {x:Str} {px pa:Pos} (hv:PE X (.Name x px) (Wj i)) (ha:Snd X Y a fa) (hb:attributeBase (.Name x px) "extend" X.env (eval (.Name x px) X.env)=eval (.Name x px) X.env:=by rfl) (hs:St1 X a:=by exact st1 rfl)
  (hz:(pa.endLine == p.line)=true:=by rfl) (hw:swapsWith (.Call (.Attribute (.Name x px) "extend" pa) [a] [] p) none pos.line X.env=pure false:=by rfl):jO X Y (.Expr (.Call (.Attribute (.Name x px) "extend" pa) [a] [] p) pos) (YY i fa):= .mk fun ρ=>by
 have e1:(((((backTo p (starEach [a] X.env)).all fun x=> !x.fst) && (backToKw p (keywordEach [] X.env)).all fun x=>x.fst.isSome) && decide (([a].length+([]:List Keyword).length+if ([]:List Keyword).isEmpty=true then 0 else 1) < 30))=true):=by rw [hs]; rfl
 refine PS.imp (jZ (Wx PySem.F.plainAttrs_list PySem.F.slot_list_extend PySem.F.type_list_extend wx hv (zi (ha ρ) zB hs) hb e1 hz hs rfl) hw) fun D σ H ⟨B,I,q⟩=> ?_
 unfold YY at q
 split at q
 ·rename_i ts e
  obtain ⟨l,xs,e1,b0,h0,hh,rr,d⟩:=I.ow i ts e
  refine ⟨.ref l,e1, .inl ⟨rfl,_,SqL.of hh⟩, ?_⟩
  refine j1 I q fun t v H1 _ s1 r1 I1 q1=> ?_
  cases r1 with
  | @lst b zs us hb r=>
   have q1:PoS Y _ (if ts.length+us.length<=bnd then .nx (ρ.set i (.ow (ts++us))) else .bad) D:=q1
   split at q1
   ·rename_i hl
    refine ⟨l,b,xs,zs,rfl,rfl,s1 _ _ hh,I1.sB _ _ hb,by rw [rr.length,r.length]; exact zR hl, ?_⟩
    exact q1 _ _ _ (zh.refl _) (I1.chg i e e1 ((rr.mono (zp.ge I.sB s1)).append r))
   ·exact q1.elim
  | _=>exact q1.elim
 ·exact q.elim
end
def spP (cl:Nat->Value) (n:Nat) (g:List T->R T):Sp:=fun vs H Q E=>∃ B ts,ts.length=n/\zh B H/\zn B vs ts/\Po ⟨B,H,E,cl⟩ rC B H (g ts) Q
theorem spP.len {cl:Nat->Value} {n:Nat} {g:List T->R T} (vs:List V) (H:Hp) (Q:VK) (E:XK) (h:spP cl n g vs H Q E):vs.length=n:=by
 obtain ⟨B,ts,hl,_,r,_⟩:=h
 rw [r.length,hl]
def za (n:Nat) (g:List T->R T) (ga:En->R (List T)):En->R T:=fun ρ=>(ga ρ).bind fun ts=>if ts.length=n then g ts else .bad
section
variable {X:Cx} {Y:Fx} {a b c d:Expr} {fa fb fc fd:En->R T} {pos p:Pos}
theorem um {CX:CXT} {k n:Nat} {f:Addr} {fd:FuncData} {ps:List Str} {g:List T->R T} {x:Str} {es:List Expr} {ga:En->R (List T)} (F:zA X.prog X.w X.K X.mg X.base CX k f fd ps (spP Y.cl n g)) (hr:Z1 k X.A) (gl:Gl X x) (mg:X.mg x=some (.ref f))
  (kp:PySem.W.keepIn X.K (.ref f)=true) (bd:L2.Binds X.K fd ps []) (hx:zJ CX X Y.E) (ha:jX X Y (a :: es) ga) (hd:(x == ("__debug__":Str))=false:=by decide)
  (hs:starEach (a :: es) X.env=(false,eval a X.env) :: starEach es X.env:=by exact zv rfl) (hz:((backTo pos (starEach es X.env)).any fun x=>x.fst)=false:=by exact zH rfl):Snd X Y (.Call (.Name x p) (a :: es) [] pos) (za n g ga):= .mk fun ρ=>
 PE.imp (uI F hr gl mg kp bd .nil hx (ha ρ) hd hs hz) fun σ H Q ⟨B,I,q⟩=>step I q fun ts vs H1 _ s1 r1 I1 q1=>by
  split at q1
  ·rename_i hn
   rw [List.append_nil]
   refine ⟨_,ts,hn,I1.sB,r1, ?_⟩
   revert q1
   cases g ts with
   | bad=>exact fun q1=>q1
   | ex c=>exact fun q1 d H' s sB=>q1 d H' (I1.sH.trans s) sB
   | ok t=>exact fun q1=>q1
  ·exact q1.elim
end
def zl:RS->R T
 | .rt t=> .ok t
 | .rf ts=> .ok (.lst ts)
 | .nx _=> .ok .non
 | .ex c=> .ex c
 | _=> .bad
def en0 (n:Nat) (ts:List T):En:=ts.map Sl.vl++List.replicate (n - ts.length) Sl.un
theorem zn.vl {H:Hp}:∀ {vs:List V} {ts:List T} {i:Nat} {t:T} {n m:Nat},zn H vs ts->(ts.map Sl.vl++List.replicate n Sl.un)[i]? =some (Sl.vl t)->∃ v:V,(vs.map some++List.replicate m none)[i]? =some (some v)/\Rep H v t
 | _,_,i,t,n,m, .nil,h=>by
  exfalso
  simp only [List.map_nil,List.nil_append] at h
  rw [List.getElem?_replicate] at h
  split at h
  ·cases h
  ·cases h
 | _,_,0,t,n,m, .cons r _,h=>by
  simp at h; subst h; exact ⟨_,rfl,r⟩
 | _,_,i+1,t,n,m, .cons _ q,h=>by
  obtain ⟨v,h1,h2⟩:=zn.vl (i:=i) (t:=t) (n:=n) (m:=m) q (by simpa using h)
  exact ⟨v,by simpa using h1,h2⟩
theorem uo {n:Nat}:∀ {ts:List T} {i:Nat} {us:List T},(ts.map Sl.vl++List.replicate n Sl.un)[i]? =some (Sl.ow us)->False
 | [],i,us,h=>by
  simp only [List.map_nil,List.nil_append] at h
  rw [List.getElem?_replicate] at h
  split at h
  ·cases h
  ·cases h
 | t :: ts,0,us,h=>by simp at h
 | t :: ts,i+1,us,h=>uo (ts:=ts) (i:=i) (us:=us) (n:=n) (by simpa using h)
theorem uq {n:Nat}:∀ {ts:List T} {i:Nat} {c:Nat},(ts.map Sl.vl++List.replicate n Sl.un)[i]? =some (Sl.xc c)->False
 | [],i,us,h=>by
  simp only [List.map_nil,List.nil_append] at h
  rw [List.getElem?_replicate] at h
  split at h
  ·cases h
  ·cases h
 | t :: ts,0,us,h=>by simp at h
 | t :: ts,i+1,us,h=>uq (ts:=ts) (i:=i) (c:=us) (n:=n) (by simpa using h)
theorem SI.start {Y:Fx} {N:List Str} {vs:List V} {ts:List T} (s:zh Y.B0 Y.H0) (r:zn Y.B0 vs ts):SI Y Y.B0 (en0 N.length ts) (L2.start N vs) Y.H0 where
 s0:=s
 sH:=zh.refl _
 sB:=s
 old:=fun _ _ _=>rfl
 len:=by unfold en0 L2.start; simp [r.length]
 vl:=fun i t h=>r.vl h
 ow:=fun i ts h=>(uo h).elim
 xc:=fun i c h=>(uq h).elim
section
variable {P:Program} {w:World} {K:PySem.W.Frag} {mg:Str->Option Value} {base:Heap}
theorem zI {cl:Nat->Value} {x qual:Str} {st:Stmt} {f:Addr} {fd:FuncData} {N ps:List Str} {k n:Nat} {fb:En->RS} {g:List T->R T} (F:Fun K x qual st f fd) (S:zc N ps (z9 st)) (hn:n=ps.length)
  (hb:∀ (cdv:Value) (A:Around) (outer:List Env) (s:Shared) (H:Hp) (E:XK) (Y:Fx),Y.cl=cl->Z1 k (A.deeper (envOfC qual (z9 st) s.heap.objs.size f cdv))->
   Jb (Zx CX0 P w K mg base N qual (z9 st) f cdv A outer s H E).nox Y (zo st) fb)
  (hg:∀ ts,ts.length=n->g ts=zl (fb (en0 N.length ts))):zA P w K mg base CX0 (k+1) f fd ps (spP cl n g):=by
 subst hn
 refine F.ok S spP.len fun cdv A outer s H vs Q E hr ⟨B,ts,hl,sB,r,q⟩=> ?_
 refine ⟨_,hb cdv A outer s H E ⟨B,H,E,cl⟩ rfl hr (en0 N.length ts),B,SI.start (Y:=⟨B,H,E,cl⟩) sB r, ?_⟩
 rw [hg ts hl] at q
 revert q
 cases fb (en0 N.length ts) with
 | rt t=>exact fun q v H' s r=>q v H' s r
 | rf t=>exact fun q a xs H' B' s0 n e r _ l=>q (.ref a) H' s0 (.lst (by rw [zy n]; exact e) (r.mono l))
 | nx ρ=>exact fun q σ' H' B' _ I=>q .non H' I.sH .non
 | ex c=>exact fun q=>q
 | bk ρ=>exact fun q=>q.elim
 | ct ρ=>exact fun q=>q.elim
 | bad=>exact fun q=>q
end
abbrev rI:Hp->Hp->It->List T->Prop:=fun B1 _ J ts=>∀ B2 H2,zh B1 B2->zh B2 H2->(∀ i,i < ts.length->J.go i H2)/\(∀ (i:Nat) t x H3,ts[i]? =some t->J.yld i H2 x H3->zh H2 H3/\Rep (zp B2 H2 H3) x t)/\(∀ i,ts.length<=i->J.stop i H2)
structure wb (X:Cx) (Y:Fx) (tg iter:Expr) (f:En->R (List T)):Prop where
 mk ::
 go:∀ ρ,PI X tg iter (tS Y rI f ρ)
instance {X:Cx} {Y:Fx} {tg iter:Expr} {f:En->R (List T)}:CoeFun (wb X Y tg iter f) fun _=>∀ ρ,PI X tg iter (tS Y rI f ρ):=⟨wb.go⟩
section
variable {X:Cx} {Y:Fx} {a b c d tg:Expr} {fa fb fc fd:En->R T} {pos p:Pos}
theorem PI.imp {e:Expr} {t t' :TI} (h:PI X tg e t) (i:∀ σ H Q,t' σ H Q->t σ H Q):PI X tg e t' :=fun pins s σ H Q I q=>h pins s σ H Q I (i σ H Q q)
theorem yU {K:PySem.W.Frag} {B1 H1:Hp} {a:Addr} {xs:List V} {ts:List T} (h:B1 a=some (.tup xs)) (r:zn B1 xs ts):rI B1 H1 (Itt K a) ts:=fun B2 H2 s1 s2=>by
 have h2:=s2 _ _ (s1 _ _ h)
 refine ⟨fun i hi=> ?_,fun i t x H3 e y=> ?_,fun i hi=>⟨xs,SqT.of h2,by rw [r.length]; exact hi⟩⟩
 ·obtain ⟨v,e,_⟩:=r.get (List.getElem?_eq_getElem hi)
  exact ⟨xs,v,SqT.of h2,e⟩
 ·obtain ⟨rfl,y⟩:=y
  obtain ⟨v,e1,r1⟩:=r.get e
  have:=y xs (SqT.of h2)
  rw [e1] at this; cases this
  refine ⟨zh.refl _, ?_⟩
  rw [zp.self B2 _ s2]
  exact r1.mono s1
theorem yV {K:PySem.W.Frag} {B1 H1:Hp} {a:Addr} {xs:List V} {ts:List T} (h:B1 a=some (.lst xs)) (r:zn B1 xs ts):rI B1 H1 (Itl K a) ts:=fun B2 H2 s1 s2=>by
 have h2:=s2 _ _ (s1 _ _ h)
 refine ⟨fun i hi=> ?_,fun i t x H3 e y=> ?_,fun i hi=>⟨xs,SqL.of h2,by rw [r.length]; exact hi⟩⟩
 ·obtain ⟨v,e,_⟩:=r.get (List.getElem?_eq_getElem hi)
  exact ⟨xs,v,SqL.of h2,e⟩
 ·obtain ⟨rfl,y⟩:=y
  obtain ⟨v,e1,r1⟩:=r.get e
  have:=y xs (SqL.of h2)
  rw [e1] at this; cases this
  refine ⟨zh.refl _, ?_⟩
  rw [zp.self B2 _ s2]
  exact r1.mono s1
def rng (lo:Int) (n:Nat):List T:=(List.range n).map fun (i:Nat)=>T.int (lo+(i:Int))
theorem ur {B1 H1:Hp} {lo:Int} {n:Nat}:rI B1 H1 (Itr lo n) (rng lo n):=fun B2 H2 s1 s2=>by
 have hl:(rng lo n).length=n:=by unfold rng; simp
 refine ⟨fun i hi=>by rw [hl] at hi; exact hi,fun i t x H3 e y=> ?_,fun i hi=>by rw [hl] at hi; exact hi⟩
 obtain ⟨rfl,rfl⟩:=y
 refine ⟨zh.refl _, ?_⟩
 unfold rng at e
 rw [List.getElem?_map] at e
 by_cases hi:i < n
 ·rw [List.getElem?_range hi] at e
  cases e
  exact .int _
 ·rw [List.getElem?_eq_none (by simp; omega)] at e; cases e
def WG (fa:En->R T):En->R (List T):=fun ρ=>(fa ρ).bind fun t=>match t with
 | .int j=>if -1000000 < j/\j < 1000000 then .ok (rng 0 j.toNat) else .bad
 | _=> .bad
def Ua (fa fb:En->R T):En->R (List T):=fun ρ=>(fa ρ).bind fun t=>(fb ρ).bind fun t' =>match t,t' with
 | .int i, .int j=>if -1000000 < i/\i < 1000000/\ -1000000 < j/\j < 1000000 then .ok (rng i (j - i).toNat) else .bad
 | _,_=> .bad
theorem yW (gl:Gl X "range") (mg:X.mg "range"=none) (ha:Snd X Y a fa) (hs:St1 X a:=by exact st1 rfl):wb X Y tg (.Call (.Name "range" p) [a] [] pos) (WG fa):= .mk fun ρ=>PI.imp (wl gl mg (zi (ha ρ) zB hs) hs) fun σ H R ⟨B,I,q⟩=>step I q fun t v H1 _ s1 r1 I1 q1=>by
 cases r1 with
 | int j=>
  have q1:Po Y rI _ H1 (if -1000000 < j/\j < 1000000 then .ok (rng 0 j.toNat) else .bad) R:=q1
  split at q1
  ·rename_i hj
   exact ⟨j,rfl,by omega,by omega,zZ I1 q1 ur⟩
  ·exact q1.elim
 | _=>exact q1.elim
theorem yX (gl:Gl X "range") (mg:X.mg "range"=none) (ha:Snd X Y a fa) (hb:Snd X Y b fb) (hs:starEach [a,b] X.env=[(false,eval a X.env),(false,eval b X.env)]:=by exact st2 rfl rfl) (hs2:St1 X b:=by exact st1 rfl):wb X Y tg (.Call (.Name "range" p) [a,b] [] pos) (Ua fa fb):= .mk fun ρ=>
 PI.imp (wm gl mg (zi (ha ρ) (zi (hb ρ) zB hs2) (by rw [hs,hs2])) hs hs2) fun σ H R ⟨B,I,q⟩=>step I q fun t v H1 _ s1 r1 I1 q1=>step I1 q1 fun t' v' H2 _ s2 r2 I2 q2=>by
  cases r1 with
  | int i=>
   cases r2 with
   | int j=>
    have q2:Po Y rI _ H2 (if -1000000 < i/\i < 1000000/\ -1000000 < j/\j < 1000000 then .ok (rng i (j - i).toNat) else .bad) R:=q2
    split at q2
    ·rename_i hj
     exact ⟨i,j,rfl,⟨by omega,by omega,by omega,by omega⟩,zZ I2 q2 ur⟩
    ·exact q2.elim
   | _=>exact q2.elim
  | _=>cases r2 <;> exact q2.elim
def yY (X:Cx) (Y:Fx) (tg:Expr) (g:T->En->R En):Prop:=∃ t:TG,PG X tg t/\∀ B ρ σ H v x Q,SI Y B ρ σ H->Rep B v x->(match g x ρ with | .ok ρ' =>∀ σ',SI Y B ρ' σ' H->Q σ' H | _=>False)->t v σ H Q
def jv (i:Nat):T->En->R En:=fun t ρ=> .ok (ρ.set i (.vl t))
theorem yZ {i:Nat} {x:Str} (hN:X.N.Nodup) (hi:X.N[i]? =some x) (hx:L2.Loc X.env.scope x) (hf:X.fn x=true\/X.env.scope.names.lookup x=some .local:=by first | exact .inl rfl | exact .inr rfl | assumption):yY X Y (.Name x pos) (jv i):=
 ⟨jx i,zG hN hi hx hf,fun B ρ σ H v x Q I r q=>q _ (I.setV i r)⟩
def ZJ (i j:Nat):T->En->R En:=fun t ρ=>match t with
 | .tup [x,y]=> .ok ((ρ.set i (.vl x)).set j (.vl y))
 | _=> .bad
theorem ut {i j:Nat} {x y:Str} {p' p2:Pos} {k:Nat} (hc:X.calm=true) (hN:X.N.Nodup) (hi:X.N[i]? =some x) (hj:X.N[j]? =some y) (hx:L2.Loc X.env.scope x) (hy:L2.Loc X.env.scope y)
  (hf:X.fn x=true\/X.env.scope.names.lookup x=some .local:=by first | exact .inl rfl | exact .inr rfl | assumption) (hf' :X.fn y=true\/X.env.scope.names.lookup y=some .local:=by first | exact .inl rfl | exact .inr rfl | assumption):
  yY X Y (.Tuple [.Name x pos, .Name y p'] k p2) (ZJ i j):=by
 refine ⟨qm X.K 2 (wg (jx i) (wg (jx j) qk)),ub hc (ZL (zG hN hi hx hf) (ZL (zG hN hj hy hf') wj)),fun B ρ σ H v t Q I r q=> ?_⟩
 cases r with
 | @tup l xs ts h r=>
  cases r with
  | nil=>exact q.elim
  | cons r1 rr=>
   cases rr with
   | nil=>exact q.elim
   | cons r2 rr=>
    cases rr with
    | cons _ _=>exact q.elim
    | nil=>
     exact ⟨l,_,rfl,SqT.of (I.sB _ _ h),rfl,_,_,rfl,_,_,rfl,rfl,q _ ((I.setV i r1).setV j r2)⟩
 | _=>exact q.elim
def Wm (g:T->En->R En) (fb:En->RS):List T->En->RS
 | [],ρ=> .nx ρ
 | t :: ts,ρ=>match g t ρ with
  | .ok ρ1=>match fb ρ1 with
   | .nx ρ2=>Wm g fb ts ρ2
   | .ct ρ2=>Wm g fb ts ρ2
   | .bk ρ2=> .nx ρ2
   | r=>r
  | .ex c=> .bad
  | .bad=> .bad
def Ub (fi:En->R (List T)) (g:T->En->R En) (fb:En->RS):En->RS:=fun ρ=>(fi ρ).s fun ts=>Wm g fb ts ρ
theorem Y0 {iter:Expr} {sts:List Stmt} {fi:En->R (List T)} {g:T->En->R En} {fb:En->RS} (hp:PassesOwn (model X.prog X.w) X.A X.env X.xe) (hc:X.calm=true) (hi:wb X Y tg iter fi) (hg:yY X Y tg g) (hb:Jb X Y sts fb)
  (hs:∀ x,foldedSetIterable iter X.env x=pure x:=by intro _; rfl):jO X Y (.For tg iter sts [] pos) (Ub fi g fb):= .mk fun ρ=>by
 obtain ⟨tG,hG,hG'⟩:=hg
 refine PS.imp (yi (tb:=fun D σ H=>∃ ρ',tSS Y fb ρ' D σ H) hp hc (hi ρ) hG (fun pins s σ H D I ⟨ρ',q⟩=>hb ρ' pins s σ H D I q) hs) fun D σ H ⟨B,I,q⟩=> ?_
 refine j1 I q fun ts J H1 _ s1 r1 I1 q1=> ?_
 refine ⟨fun i m σ' H' =>m=ts.length - i/\i<=ts.length/\∃ ρ' B',SI Y B' ρ' σ' H' /\zh (zp B H H1) B' /\PoS Y B' (Wm g fb (ts.drop i) ρ') D,⟨ts.length,by simp,Nat.zero_le _,ρ,_,I1,zh.refl _,q1⟩, ?_⟩
 rintro i m σ' H' ⟨rfl,hi,ρ',B',I',sB',q'⟩
 obtain ⟨hgo,hyld,hstop⟩:=r1 B' H' sB' I'.sB
 by_cases hlt:i < ts.length
 ·refine .inr ⟨hgo i hlt,fun σ2 H2=>∃ ρ2 B2,SI Y B2 ρ2 σ2 H2/\zh (zp B H H1) B2/\PoS Y B2 (Wm g fb (ts.drop (i+1)) ρ2) D,fun σ2 H2 ⟨ρ2,B2,I2,s2,q2⟩=>⟨ts.length - (i+1),by omega,rfl,hlt,ρ2,B2,I2,s2,q2⟩,fun x H2 y=> ?_⟩
  obtain ⟨s2,r2⟩:=hyld i _ x H2 (List.getElem?_eq_getElem hlt) y
  rw [List.drop_eq_getElem_cons hlt] at q'
  unfold Wm at q'
  refine hG' _ ρ' σ' H2 x _ _ (I'.grow s2) r2 ?_
  cases eg:g ts[i] ρ' with
  | bad=>rw [eg] at q'; exact q'
  | ex c=>rw [eg] at q'; exact q'
  | ok ρ1=>
   rw [eg] at q'
   intro σ1 J1
   refine ⟨ρ1,_,J1, ?_⟩
   have q2:=PoS.up (zp.ge I'.sB s2) q'
   dsimp only at q2
   have s3:zh (zp B H H1) (zp B' H' H2):=sB'.trans (zp.ge I'.sB s2)
   revert q2
   cases fb ρ1 with
   | nx ρ2=>exact fun q2 σ3 H3 B3 s4 I3=>⟨ρ2,B3,I3,s3.trans s4,PoS.up s4 q2⟩
   | ct ρ2=>exact fun q2 σ3 H3 B3 s4 I3=>⟨ρ2,B3,I3,s3.trans s4,PoS.up s4 q2⟩
   | bk ρ2=>exact fun q2=>q2
   | rt t=>exact fun q2=>q2
   | rf t=>exact fun q2=>q2
   | ex c=>exact fun q2=>q2
   | bad=>exact fun q2=>q2
 ·have e:i=ts.length:=by omega
  subst e
  rw [List.drop_length] at q'
  exact .inl ⟨hstop _ (Nat.le_refl _),q' σ' H' B' (zh.refl _) I'⟩
def Zt (g:En->R Bool) (fb:En->RS):Nat->En->RS
 | 0,_=> .bad
 | n+1,ρ=>(g ρ).s fun k=>if k=true then match fb ρ with
   | .nx ρ2=>Zt g fb n ρ2
   | .ct ρ2=>Zt g fb n ρ2
   | .bk ρ2=> .nx ρ2
   | r=>r
  else .nx ρ
theorem Uc {n:Nat} {sts:List Stmt} {ga:En->R Bool} {fb:En->RS} (hp:PassesOwn (model X.prog X.w) X.A X.env X.xe) (hc:Jt X Y c ga) (hb:Jb X Y sts fb):jO X Y (.While c sts [] pos) (Zt ga fb n):= .mk fun ρ=>by
 refine PS.imp (Wr (tc:=fun σ H Q=>∃ ρ',tS Y rE ga ρ' σ H Q) (tb:=fun D σ H=>∃ ρ',tSS Y fb ρ' D σ H) hp (fun pins s σ H D I ⟨ρ',q⟩=>hc ρ' pins s σ H D I q) (fun pins s σ H D I ⟨ρ',q⟩=>hb ρ' pins s σ H D I q)) fun D σ H ⟨B,I,q⟩=> ?_
 refine ⟨fun m σ' H' =>∃ ρ' B',SI Y B' ρ' σ' H' /\PoS Y B' (Zt ga fb m ρ') D,⟨n,ρ,B,I,q⟩, ?_⟩
 rintro m σ' H' ⟨ρ',B',I',q'⟩
 cases m with
 | zero=>exact q'.elim
 | succ m=>
  unfold Zt at q'
  refine ⟨ρ',j1 I' q' fun t v H1 _ s1 r1 I1 q1=> ?_⟩
  have r1' :v=t:=r1
  subst r1'
  cases v with
  | false=>exact q1 _ _ _ (zh.refl _) I1
  | true=>
   refine ⟨fun σ2 H2=>∃ ρ2 B2,SI Y B2 ρ2 σ2 H2/\PoS Y B2 (Zt ga fb m ρ2) D,fun σ2 H2 h=>⟨m,Nat.lt_succ_self m,h⟩,ρ',_,I1, ?_⟩
   have q1:PoS Y _ (match fb ρ' with
    | .nx ρ2=>Zt ga fb m ρ2
    | .ct ρ2=>Zt ga fb m ρ2
    | .bk ρ2=> .nx ρ2
    | r=>r) D:=q1
   revert q1
   cases fb ρ' with
   | nx ρ2=>exact fun q2 σ3 H3 B3 s4 I3=>⟨ρ2,B3,I3,PoS.up s4 q2⟩
   | ct ρ2=>exact fun q2 σ3 H3 B3 s4 I3=>⟨ρ2,B3,I3,PoS.up s4 q2⟩
   | bk ρ2=>exact fun q2=>q2
   | rt t=>exact fun q2=>q2
   | rf t=>exact fun q2=>q2
   | ex c=>exact fun q2=>q2
   | bad=>exact fun q2=>q2
end
theorem ZS {env:Env}:∀ (ns:List (Str×NameKind)) (acc:List (Str×Addr)),(∀ x∈ns,x.2=NameKind.free->∃ c,env.cells.lookup x.1=some c)->(∀ x c,acc.lookup x=some c->env.cells.lookup x=some c)->
  ∃ cl,(forIn ns acc (fun (x:Str×NameKind) (r:List (Str×Addr))=>if (x.2 == NameKind.free)=true then (do let c ← cellOf env x.1; pure (ForInStep.yield ((x.1,c) :: r))) else pure (ForInStep.yield r)):Sem _)=pure cl/\
   (∀ x c,cl.lookup x=some c->env.cells.lookup x=some c)/\(∀ x c,acc.lookup x=some c->∃ c',cl.lookup x=some c')/\(∀ x∈ns,x.2=NameKind.free->∃ c,cl.lookup x.1=some c)
 | [],acc,_,h=>⟨acc,rfl,h,fun x c e=>⟨c,e⟩,fun x hx=>by simp at hx⟩
 | (n,k) :: ns,acc,hf,h=>by
  by_cases hk:k=NameKind.free
  ·obtain ⟨c,hc⟩:=hf (n,k) List.mem_cons_self hk
   have h' :∀ x d,((n,c) :: acc).lookup x=some d->env.cells.lookup x=some d:=fun x d e=>by
    by_cases hx:x=n
    ·subst hx
     have e' :some c=some d:=by simpa [List.lookup_cons] using e
     cases e'; exact hc
    ·have e' :acc.lookup x=some d:=by
      rw [List.lookup_cons,(beq_eq_false_iff_ne.mpr hx)] at e; exact e
     exact h x d e'
   obtain ⟨cl,e,h1,h2,h3⟩:=ZS ns ((n,c) :: acc) (fun x hx=>hf x (List.mem_cons_of_mem _ hx)) h'
   refine ⟨cl, ?_,h1,fun x d ed=> ?_,fun x hx hxf=> ?_⟩
   ·rw [List.forIn_cons]
    subst hk
    have q:cellOf env n=pure c:=by unfold cellOf; rw [hc]
    simp only [beq_self_eq_true,if_true,q]
    exact e
   ·by_cases hx:x=n
    ·subst hx; exact h2 x c (by simp [List.lookup_cons])
    ·exact h2 x d (by rw [List.lookup_cons,(beq_eq_false_iff_ne.mpr hx)]; exact ed)
   ·rcases List.mem_cons.mp hx with rfl | hx
    ·exact h2 n c (by simp [List.lookup_cons])
    ·exact h3 x hx hxf
  ·obtain ⟨cl,e,h1,h2,h3⟩:=ZS ns acc (fun x hx=>hf x (List.mem_cons_of_mem _ hx)) h
   refine ⟨cl, ?_,h1,h2,fun x hx hxf=> ?_⟩
   ·rw [List.forIn_cons]
    have q:(k == NameKind.free)=false:=by simpa using hk
    simp only [q,Bool.false_eq_true,if_false]
    exact e
   ·rcases List.mem_cons.mp hx with rfl | hx
    ·exact absurd hxf hk
    ·exact h3 x hx hxf
theorem Jd {scope:Scope} {env:Env} (hf:∀ x∈scope.names,x.2=NameKind.free->∃ c,env.cells.lookup x.1=some c):
  ∃ cl,closureFor scope env=pure cl/\(∀ x c,cl.lookup x=some c->env.cells.lookup x=some c)/\(∀ x∈scope.names,x.2=NameKind.free->∃ c,cl.lookup x.1=some c):=by
 obtain ⟨cl,e,h1,_,h3⟩:=ZS scope.names [] hf (fun x c e=>by simp at e)
 refine ⟨cl, ?_,h1,h3⟩
 unfold closureFor
 show (do let cs ← _; pure cs)=_
 exact (by simpa using e)
def cxC (X:Cx) (scope:Scope) (N' :List Str) (cl:List (Str×Addr)) (C:Addr) (s3:Shared) (H3:Hp) (fp:List Addr) (pins:List (Addr×Obj)):Cx:=
 { X with N:=N',s₀:=s3,H₀:=H3,env:=compEnvC scope cl C X.env,outer:=X.stack,stack:=X.stack,ex:=fp,fn:=fun _=>false,pn:=X.pn++pins,xe:=fun _ _=>False }
structure CSc (X:Cx) (scope:Scope):Prop where
 kind:scope.kind= .function
 nocell:∀ x∈scope.names,x.2 ≠ .cell
 loc:∀ x∈scope.names,x.2= .local->scope.names.lookup x.1=some .local
 fre:∀ x∈scope.names,x.2= .free->X.env.kindOf x.1=some .cell\/X.env.kindOf x.1=some .free
theorem Zu {scope:Scope} {env:Env} {x:Str} {k:NameKind} (h:(relabel scope env).names.lookup x=some k) (hk:k= .cell\/k= .free) (hn:∀ x∈scope.names,x.2 ≠ NameKind.cell):∃ y∈scope.names,y.1=x/\y.2= .free:=by
 have go:∀ ns:List (Str×NameKind),(∀ x∈ns,x.2 ≠ NameKind.cell)->(ns.map fun (n,k)=>if (k == NameKind.free && env.scope.kind == .function && env.kindOf n == some .cell) then (n,NameKind.cell) else (n,k)).lookup x=some k->∃ y∈ns,y.1=x/\y.2= .free:=by
  intro ns
  induction ns with
  | nil=>intro _ h; simp at h
  | cons y ns ih=>
   intro hn h
   obtain ⟨n,k'⟩:=y
   by_cases hx:x=n
   ·subst hx
    refine ⟨(x,k'),List.mem_cons_self,rfl, ?_⟩
    rw [List.map_cons] at h
    by_cases hc:(k' == NameKind.free && env.scope.kind == .function && env.kindOf x == some .cell)=true
    ·rw [Bool.and_eq_true,Bool.and_eq_true] at hc
     exact eq_of_beq hc.1.1
    ·simp only [if_neg hc,List.lookup_cons,beq_self_eq_true] at h
     cases h
     rcases hk with rfl | rfl
     ·exact absurd rfl (hn _ List.mem_cons_self)
     ·rfl
   ·obtain ⟨z,hz,h1,h2⟩:=ih (fun z hz=>hn z (List.mem_cons_of_mem _ hz)) (by
     rw [List.map_cons] at h
     by_cases hc:(k' == NameKind.free && env.scope.kind == .function && env.kindOf n == some .cell)=true
     ·simp only [if_pos hc,List.lookup_cons,(beq_eq_false_iff_ne.mpr hx)] at h; exact h
     ·simp only [if_neg hc,List.lookup_cons,(beq_eq_false_iff_ne.mpr hx)] at h; exact h)
    exact ⟨z,List.mem_cons_of_mem _ hz,h1,h2⟩
 exact go scope.names hn h
section
variable {X:Cx} {pins:List (Addr×Obj)} {σ:Sg} {H:Hp} {s:Shared}
theorem wO {scope:Scope} {N' :List Str} {cl:List (Str×Addr)} {fp:List Addr} {h' :Heap} {tk:Nat} {σ' :Sg} (I:L2.Inv X pins σ H s) (S:CSc X scope) (hc:X.calm=true)
  (hcl:∀ x c,cl.lookup x=some c->X.env.cells.lookup x=some c) (hcf:∀ x∈scope.names,x.2=NameKind.free->∃ c,cl.lookup x.1=some c)
  (hfp:∀ b∈fp,jy X pins H b) (hfo:∀ b∈fp,∃ o,s.heap.get? b=some o)
  (hns:h'.Ns s.heap.objs.size (fun _=>none)) (hk:∀ b o,s.heap.get? b=some o->h'.get? b=some o)
  (hl:σ'.length=N'.length) (hσ:∀ (i:Nat) (x:Str) (v:V),N'[i]? =some x->σ'[i]? =some (some v)->∃ j:Nat,X.N[j]? =some x/\σ[j]? =some (some v)/\Vis X.env.scope x/\(scope.names.lookup x=some .free)/\(X.env.kindOf x=some .cell\/X.env.kindOf x=some .free)):
  L2.Inv (cxC X scope N' cl s.heap.objs.size s H fp pins) [] σ' H { s with heap:=h',toks:=tk }:=by
 have stk:=I.stkSub
 have hlt:∀ b∈fp,b < s.heap.objs.size:=fun b hb=>let ⟨o,e⟩:=hfo b hb; Heap.lt_size e
 have fresh:H s.heap.objs.size=none:=I.hok.fresh (Nat.le_refl _)
 refine ⟨⟨I.ok.mod,S.kind,I.ok.glob,I.ok.blt,Nat.le_refl _,fun x y c h1 h2=>I.ok.inj x y c (hcl _ _ h1) (hcl _ _ h2),fun x hx=> ?_,fun x c h _=>(Bool.false_ne_true h).elim,fun _=>I.ok.hd hc,I.ok.frames, .inl rfl,fun b hb=> ?_,I.bs,
   Nat.le_trans I.ok.bsz I.sz,fun b o e hb=> ?_,fun b hb hb' => ?_,I.stack,I.stkFree⟩,rfl,I.bare,Un.kept hk,⟨_,hns,fun i x v h1 h2 h3=> ?_⟩,fun x c e=> ?_,fresh,fun x c e=>I.freeC x c (hcl _ _ e),fun p hp=> ?_,I.hok.kept hk,hl⟩
 ·have hx' :(relabel scope X.env).names.lookup x=some .cell\/(relabel scope X.env).names.lookup x=some .free:=hx
  obtain ⟨y,hy,rfl,hyf⟩:∃ y∈scope.names,y.1=x/\y.2= .free:=by
   rcases hx' with h | h
   ·exact Zu h (.inl rfl) S.nocell
   ·exact Zu h (.inr rfl) S.nocell
  exact hcf y hy hyf
 ·refine ⟨Nat.ne_of_lt (hlt b hb),fun x c e=>(hfp b hb).2.2.2.2.1 x c (hcl _ _ e)⟩
 ·rcases (hfp b hb).2.2.2.1 with h | h
  ·exact I.ok.noex b o e h
  ·exact absurd (Nat.lt_of_lt_of_le (Heap.lt_size e) (Nat.le_trans I.ok.bsz h)) (Nat.lt_irrefl _)
 ·have q:=hfp b hb
  rcases List.mem_cons.mp (stk b hb') with z | z
  ·exact q.2.1 z
  ·exact q.2.2.1 z
 ·obtain ⟨j,e1,e2,e3,e4,e5⟩:=hσ i x v h1 h2
  obtain ⟨m,hn,hloc⟩:=I.loc
  obtain ⟨u,ru,lk⟩:=hloc j x v e1 e2 e3
  refine ⟨u,ru, .inr ⟨?_, ?_⟩⟩
  ·have h3:Vis (relabel scope X.env) x:=h3
   rcases h3 with h | h | h
   ·exfalso
    have:∀ ns:List (Str×NameKind),ns.lookup x=some .free->(ns.map fun (n,k)=>if (k == NameKind.free && X.env.scope.kind == .function && X.env.kindOf n == some .cell) then (n,NameKind.cell) else (n,k)).lookup x ≠ some .local:=by
     intro ns
     induction ns with
     | nil=>intro z; simp at z
     | cons y ns ih=>
      obtain ⟨n,k⟩:=y
      intro z w
      rw [List.map_cons] at w
      by_cases hx:x=n
      ·subst hx
       have hkf:some k=some NameKind.free:=by simpa [List.lookup_cons] using z
       by_cases hcn:(k == NameKind.free && X.env.scope.kind == .function && X.env.kindOf x == some .cell)=true
       ·simp only [if_pos hcn,List.lookup_cons,beq_self_eq_true] at w; cases w
       ·simp only [if_neg hcn,List.lookup_cons,beq_self_eq_true] at w
        rw [hkf] at w; cases w
      ·have z' :ns.lookup x=some .free:=by rw [List.lookup_cons,(beq_eq_false_iff_ne.mpr hx)] at z; exact z
       refine ih z' ?_
       by_cases hcn:(k == NameKind.free && X.env.scope.kind == .function && X.env.kindOf n == some .cell)=true
       ·simp only [if_pos hcn,List.lookup_cons,(beq_eq_false_iff_ne.mpr hx)] at w; exact w
       ·simp only [if_neg hcn,List.lookup_cons,(beq_eq_false_iff_ne.mpr hx)] at w; exact w
    exact this _ e4 h
   ·exact .inl h
   ·exact .inr h
  ·rcases lk with ⟨hk',_⟩ | ⟨_,c,hc',hcell⟩
   ·rcases e5 with z | z <;> (rw [z] at hk'; cases hk')
   ·obtain ⟨c',hc2⟩:=hcf (x, .free) (PySem.mem_of_lookup e4) rfl
    have:=hcl x c' hc2
    rw [hc'] at this; cases this
    obtain ⟨o,eo,ed⟩:=hcell
    exact ⟨c,hc2,o,hk _ _ eo,ed⟩
 ·obtain ⟨v,o,eo,ed⟩:=I.cell x c (hcl _ _ e)
  exact ⟨v,o,hk _ _ eo,ed⟩
 ·have hp' :p∈X.pn++pins:=by
   have:p∈(X.pn++pins)++[]:=hp
   rwa [List.append_nil] at this
  obtain ⟨e,n,ne,nf,dc⟩:=I.pin p hp'
  refine ⟨hk _ _ e,n,Nat.ne_of_lt (Heap.lt_size e),fun hb=> ?_,dc⟩
  rcases List.mem_cons.mp (stk _ hb) with z | z
  ·exact ne z
  ·exact nf z
end
def PIf (X:Cx) (ifs:List Expr) (t:TT):Prop:=
 ∀ (pins:List (Addr×Obj)) (s:Shared) (σ:Sg) (H:Hp) (Q:Bool->Hp->Prop),L2.Inv X pins σ H s->t σ H Q->
  wpAny (model X.prog X.w) X.A (forIn ifs true fun c r=>if r=true then do let ok ← isTrue c X.env (eval c X.env); pure (ForInStep.yield ok) else pure (ForInStep.yield r)) (TP X pins σ Q) X.xe s
theorem Ud {X:Cx}:PIf X [] (fun _ H Q=>Q true H):=fun _ _ σ H _ I h=>wpAny_tests_nil ⟨H,I,h⟩
abbrev XE (X:Cx) (xe:Value->Shared->Prop):Cx:={ X with xe:=xe }
theorem Jx {X:Cx} {pins:List (Addr×Obj)} {σ:Sg} {H:Hp} {s:Shared} {xe:Value->Shared->Prop} (I:L2.Inv X pins σ H s):L2.Inv (XE X xe) pins σ H s:=
 ⟨⟨I.ok.mod,I.ok.kind,I.ok.glob,I.ok.blt,I.ok.above,I.ok.inj,I.ok.has,I.ok.cab,I.ok.hd,I.ok.frames,I.ok.stk,I.ok.exf,I.ok.bs,I.ok.bsz,I.ok.noex,I.ok.exfs,I.ok.funs,I.ok.frf⟩,I.os,I.bare,I.base,I.loc,I.cell,I.free,I.freeC,I.pin,I.hok,I.len⟩
theorem wP {X:Cx} {pins:List (Addr×Obj)} {σ:Sg} {H:Hp} {s:Shared} {xe:Value->Shared->Prop} (I:L2.Inv (XE X xe) pins σ H s):L2.Inv X pins σ H s:=(Jx I:L2.Inv (XE (XE X xe) X.xe) pins σ H s)
theorem Q8 {X:Cx} {e:Expr} {t:TG} {xe:Value->Shared->Prop} (hx:X.xe=fun _ _=>False) (h:PG X e t):PG (XE X xe) e t:=fun pins s σ H v u Q I r q=>wpAny_mono (h pins s σ H v u Q (wP I) r q) (fun _ s' ⟨σ',H',I',q'⟩=>⟨σ',H',Jx I',q'⟩) fun e s' z=>by rw [hx] at z; exact z.elim
theorem Y1 {X:Cx} {e:List Expr} {t:TT} {xe:Value->Shared->Prop} (hx:X.xe=fun _ _=>False) (h:PIf X e t):PIf (XE X xe) e t:=fun pins s σ H Q I q=>wpAny_mono (h pins s σ H Q (wP I) q) (fun _ s' ⟨H',I',q'⟩=>⟨H',Jx I',q'⟩) fun e s' z=>by rw [hx] at z; exact z.elim
theorem Jy {α:Type} {M:Model} {A:Around} {m:Sem α} {Q:α->Shared->Prop} {E E' :Value->Shared->Prop} {s:Shared} (hE:∀ e s',E' e s' ->E e s') (h:wpAny M A m Q E' s):wpAny M A m Q E s:=wpAny_mono h (fun _ _ q=>q) hE
def WH (J:It) (D:Addr) (g:TG) (tt:TT) (te:TE) (fin:Sg->Hp->Prop) (W:Nat->Nat->List V->Sg->Hp->Prop):Prop:=
 ∀ i m ys σ H,W i m ys σ H->H D=some (.lst ys)/\((J.stop i H/\fin σ H)\/(J.go i H/\∀ x H2,J.yld i H x H2->g x σ H2 fun σ3 H3=>tt σ3 H3 fun k H4=>
  if k=true then te σ3 H4 fun v H5=>H5 D=some (.lst ys)/\ys.length < sizeLine/\∃ m',m' < m/\W (i+1) m' (ys++[v]) σ3 (upd H5 D (.lst (ys++[v]))) else ∃ m',m' < m/\W (i+1) m' ys σ3 H4))
theorem wQ {X:Cx} {R:Result->Shared->Prop} (hx:∀ e s',X.xe e s' ->notedBy (model X.prog X.w) X.A X.env (fun e s' =>R (.error e) s') e s') (hc:X.calm=true) {tg iter elt:Expr} {ifs:List Expr} {scope:Scope} {pos:Pos} {J:It} {fp:List Addr} {it:Addr} {tn:Nat->Heap->Prop} (TJ:Wk X.prog X.w X.K tg J fp it tn)
  {g:TG} {tt:TT} {te:TE} (hg:PG X tg g) (ht:PIf X ifs tt) (he:PE X elt te) {D:Addr} {fin:Sg->Hp->Prop} (W:Nat->Nat->List V->Sg->Hp->Prop) (turn:WH J D g tt te fin W)
  (hR:∀ s σ H,L2.Inv X [] σ H s->fin σ H->R (.ok .next) s) {m0:Nat} {σ0:Sg} {H0:Hp} {s0:Shared} (w0:W 0 m0 [] σ0 H0) (I0:L2.Inv X [] σ0 H0 s0) (t0:tn 0 s0.heap) (f0:∀ b∈fp,jy X [] H0 b):
  codeAny (model X.prog X.w) X.A (.compLoop (.ListComp elt [⟨tg,iter,ifs,0⟩] scope pos) 0 (.ref it) (.ref D) X.env) R s0:=by
 have stat:∀ {H' :Hp},(∀ b∈fp,H' b=none)->∀ b∈fp,jy X [] H' b:=fun hn b hb=>⟨hn b hb,(f0 b hb).2⟩
 refine codeAny_loop rfl (fun n s' =>∃ i ys σ' H',L2.Inv X [] σ' H' s' /\tn i s'.heap/\(∀ b∈fp,H' b=none)/\W i n ys σ' H') (fun n s3 h3=> ?_) m0 ⟨0,[],σ0,H0,I0,t0,fun b hb=>(f0 b hb).1,w0⟩
 obtain ⟨i,ys,σ3,H3,I3,st3,fr3,w3⟩:=h3
 show wpAny _ X.A ((compTurn (.ListComp elt [⟨tg,iter,ifs,0⟩] scope pos) 0 (.ref it) (.ref D) X.env).onRaise (fun x=>do noteFrame x X.env; theTreesLotGoes x)) _ _ s3
 refine wpAny_noted ?_
 rw [compTurn_list]
 obtain ⟨hD,h⟩:=turn i n ys σ3 H3 w3
 rcases h with ⟨stop,qn⟩ | ⟨go,next⟩
 ·refine wpAny_bind (wpAny_standAt (wpAny_bind (thn (TJ.done X rfl rfl rfl hc i [] s3 σ3 H3 _ I3 (stat fr3) st3 stop) fun r s4 ⟨hr,I4⟩=> ?_)))
  subst hr
  exact wpAny_pure (hR s4 σ3 H3 I4 qn)
 ·refine wpAny_bind (wpAny_standAt (wpAny_bind (thn (TJ.item X rfl rfl rfl hc i [] s3 σ3 H3 _ I3 (stat fr3) st3 go) fun r s4 ⟨u,hr,h4⟩=> ?_)))
  subst hr
  refine wpAny_bind (thn h4 fun _ s5 ⟨x,H5,I5,r5,y5,st5,fr5⟩=> ?_)
  have I5' :=I5.pinned (stat fr5) (TJ.obj _ _ st5)
  refine wpAny_bind (Jy hx (thn (hg _ s5 σ3 H5 x u _ I5' r5 (next x H5 y5)) fun _ s6 ⟨σ6,H6,I6,q6⟩=> ?_))
  have again:∀ {σ7:Sg} {H7:Hp} {s7:Shared} {ys' :List V},L2.Inv X ([]++jz fp s5.heap) σ7 H7 s7->(∃ m',m' < n/\W (i+1) m' ys' σ7 H7)->∃ m,m < n/\∃ i ys σ' H',L2.Inv X [] σ' H' s7/\tn i s7.heap/\(∀ b∈fp,H' b=none)/\W i m ys σ' H' :=fun {σ7 H7 s7 ys'} I7 ⟨m',hm,w7⟩=>by
   refine ⟨m',hm,i+1,ys',σ7,H7,I7.unpinned,TJ.keep _ _ _ st5 fun b hb o e=>(I7.pin (b,o) (List.mem_append_right _ (List.mem_append_right _ (Z9 hb e)))).1,fun b hb=> ?_,w7⟩
   obtain ⟨o,e,d⟩:=TJ.obj _ _ st5 b hb
   exact (I7.pin (b,o) (List.mem_append_right _ (List.mem_append_right _ (Z9 hb e)))).2.1
  refine wpAny_bind (Jy hx (thn (ht _ s6 σ6 H6 _ I6 q6) fun k s7 ⟨H7,I7,q7⟩=> ?_))
  cases k with
  | false=>exact wpAny_pure ⟨rfl,again I7 q7⟩
  | true=>
   refine wpAny_bind (wpAny_bind (Jy hx (thn (he _ s7 σ6 H7 _ I7 q7) fun v s8 ⟨y,H8,I8,r8,hD8,hlen,q8⟩=> ?_)))
   refine wpAny_bind (Jy hx (thn (jI _ s8 σ6 H8 (.ref D) [y] (.ref D) [v] (fun _ H9=>∃ m',m' < n/\W (i+1) m' (ys++[y]) σ6 H9) I8 rfl (.cons r8 .nil) ⟨D,ys,y,rfl,rfl,hD8,hlen,q8⟩) fun w s9 ⟨_,H9,I9,_,q9⟩=> ?_))
   exact wpAny_pure (wpAny_pure ⟨rfl,again I9 q9⟩)
def Jz (k:Nat) (js:List Nat) (σ:Sg):Sg:=List.replicate k none++js.map fun j=>(σ[j]?).getD none
section
variable {X:Cx}
abbrev UT (X:Cx) (scope:Scope) (N' :List Str) (P:Cx->Prop):Prop:=∀ cl C s3 H3 fp pins,P (cxC X scope N' cl C s3 H3 fp pins)
abbrev Q9 (X:Cx) (scope:Scope) (N' :List Str) (E:XK) (P:Cx->Prop):Prop:=∀ cl C s3 H3 fp pins xe,zJ (CX1 X.prog X.w) (XE (cxC X scope N' cl C s3 H3 fp pins) xe) E->P (XE (cxC X scope N' cl C s3 H3 fp pins) xe)
structure Y2 (X:Cx) (scope:Scope) (N' :List Str) (k:Nat) (js:List Nat):Prop where
 len:N'.length=k+js.length
 cap:∀ (i j:Nat),js[i]? =some j->∃ x,N'[k+i]? =some x/\X.N[j]? =some x/\Vis X.env.scope x/\scope.names.lookup x=some .free/\(X.env.kindOf x=some .cell\/X.env.kindOf x=some .free)
theorem JA {E:XK} (hp:yA X E) {tg iter elt:Expr} {ifs:List Expr} {scope:Scope} {pos pos' :Pos} {N' :List Str} {k:Nat} {js:List Nat} {wi:TI} {g:TG} {tt:TT} {te:TE} {use:Option (Value->Sem Unit)} (S:CSc X scope) (CP:Y2 X scope N' k js) (hc:X.calm=true)
  (hi:PI X tg iter wi) (hg:UT X scope N' fun XC=>PG XC tg g) (ht:UT X scope N' fun XC=>PIf XC ifs tt) (he:Q9 X scope N' E fun XC=>PE XC elt te) {pins:List (Addr×Obj)} {σ:Sg} {H:Hp} {s:Shared} {Q:Value->Shared->Prop} {F:Addr->Hp->Prop} (I:L2.Inv X pins σ H s)
  (h:wi σ H fun J H1=>∀ D,H1 D=none->∃ W,(∃ m,W 0 m [] (Jz k js σ) (upd H1 D (.lst [])))/\WH J D g tt te (fun _ H' =>F D H') W)
  (hQ:∀ D C H' s',L2.Inv X pins σ H' s' ->F D H' ->H' C=none->(X.s₀.heap.objs.size<=C)->C ≠ X.env.locals->(∀ x c,X.env.cells.lookup x=some c->c ≠ C)->(∀ p∈X.pn++pins,p.1 ≠ C)->(∃ m,s'.heap.Ns C m)->compPost (model X.prog X.w) X.A X.xe use Q (.ref D) C (.ok .next) s')
  (hs:∀ x,foldedSetIterable iter X.env x=pure x:=by intro _; rfl):
  wpAny (model X.prog X.w) X.A (comprehension (.ListComp elt [⟨tg,iter,ifs,0⟩] scope pos) scope X.env pos' (newList []) false (eval iter X.env) use) Q X.xe s:=by
 obtain ⟨cl,ecl,hcl,hcf⟩:=Jd (scope:=scope) (env:=X.env) fun x hx hf=>I.ok.has x.1 (S.fre x hx hf)
 refine wpAny_comprehension_free rfl hs ecl S.kind S.loc ?_
 refine thn (hi pins s σ H _ I h) fun v s1 h1=>thn h1 fun itv s2 h2=> ?_
 obtain ⟨it,fp,tn,J,H2,e,I2,TJ,st2,f2,q2⟩:=h2
 subst e
 refine wpAny_newObj_type ?_
 have hD:H2 s2.heap.objs.size=none:=I2.hok.fresh (Nat.le_refl _)
 have I3:L2.Inv X pins σ (upd H2 s2.heap.objs.size (.lst [])) { s2 with heap:=s2.heap.push { cls:= .type "list",data:= .seq ([]:List Value).toArray } }:=
  I2.laid (t' :=s2.toks) (fun b u e=>Heap.get?_push_of_some _ e) (Nat.le_refl _) ⟨Nat.zero_le _,[],_, .nil,Heap.get?_push_size _ rfl⟩
 obtain ⟨W,⟨m0,w0⟩,turn⟩:=q2 s2.heap.objs.size hD
 have f3:∀ b∈fp,jy X pins (upd H2 s2.heap.objs.size (.lst [])) b:=fun b hb=>by
  obtain ⟨o,eo,_⟩:=TJ.obj _ _ st2 b hb
  exact ⟨by rw [zf (Nat.ne_of_lt (Heap.lt_size eo))]; exact (f2 b hb).1,(f2 b hb).2⟩
 have o3:∀ b∈fp,∃ o,(s2.heap.push { cls:= .type "list",data:= .seq ([]:List Value).toArray }).get? b=some o:=fun b hb=>by
  obtain ⟨o,eo,_⟩:=TJ.obj _ _ st2 b hb
  exact ⟨o,Heap.get?_push_of_some _ eo⟩
 refine wpAny_newFunctionEnv S.nocell (by intro y hy; simp at hy) (fun h4 hns4 hsb4=> ?_) S.kind
 generalize hG:s2.heap.push { cls:= .type "list",data:= .seq ([]:List Value).toArray }=G3 at I3 o3 hns4 hsb4 ⊢
 dsimp only at hns4 hsb4 ⊢
 have s3e:∃ s3:Shared,s3={ s2 with heap:=G3 }:=⟨_,rfl⟩
 obtain ⟨s3,es3⟩:=s3e
 have hh3:s3.heap=s2.heap.push { cls:= .type "list",data:= .seq ([]:List Value).toArray }:=by rw [es3,hG]
 have hg3:G3=s3.heap:=by rw [es3]
 rw [← es3] at I3
 have ht3:s2.toks=s3.toks:=by rw [es3]
 rw [hg3] at hns4 hsb4 o3
 have k4:∀ b o,s3.heap.get? b=some o->h4.get? b=some o:=fun b o e=>hsb4.extBut b o (Nat.ne_of_lt (Heap.lt_size e)) (Heap.get?_push_of_some _ e)
 have IC:=wO (N' :=N') (cl:=cl) (fp:=fp) (σ' :=Jz k js σ) (tk:=s3.toks+([]:List (Str×Value)).length) I3 S hc hcl hcf f3 o3 hns4 k4 (by unfold Jz; simp [CP.len]) (fun i x v h1 h2=>by
  unfold Jz at h2
  by_cases hik:i < k
  ·rw [List.getElem?_append_left (by simpa using hik),List.getElem?_replicate,if_pos hik] at h2
   cases h2
  ·have hk' :k<=i:=by omega
   rw [List.getElem?_append_right (by simpa using hk'),List.length_replicate,List.getElem?_map] at h2
   cases ej:js[i - k]? with
   | none=>rw [ej] at h2; cases h2
   | some j=>
    rw [ej] at h2
    obtain ⟨y,e1,e2,e3,e4,e5⟩:=CP.cap (i - k) j ej
    have:k+(i - k)=i:=by omega
    rw [this,h1] at e1
    cases e1
    refine ⟨j,e2, ?_,e3,e4,e5⟩
    have h2' :some ((σ[j]?).getD none)=some (some v):=h2
    cases ez:σ[j]? with
    | none=>rw [ez] at h2'; cases h2'
    | some z=>rw [ez] at h2'; exact congrArg some (Option.some.inj h2'))
 have TC:Wk (cxC X scope N' cl s3.heap.objs.size s3 (upd H2 s2.heap.objs.size (.lst [])) fp pins).prog (cxC X scope N' cl s3.heap.objs.size s3 (upd H2 s2.heap.objs.size (.lst [])) fp pins).w (cxC X scope N' cl s3.heap.objs.size s3 (upd H2 s2.heap.objs.size (.lst [])) fp pins).K tg J fp it tn:=TJ
 have t4:tn 0 h4:=TJ.keep _ _ _ st2 fun b hb o e=>k4 b o (by rw [hh3]; exact Heap.get?_push_of_some _ e)
 have fC:∀ b∈fp,jy (cxC X scope N' cl s3.heap.objs.size s3 (upd H2 s2.heap.objs.size (.lst [])) fp pins) [] (upd H2 s2.heap.objs.size (.lst [])) b:=fun b hb=>by
  obtain ⟨q0,q1,q2,q3,q4,q5⟩:=f3 b hb
  obtain ⟨o,eo⟩:=o3 b hb
  refine ⟨q0,Nat.ne_of_lt (Heap.lt_size eo),fun hb' => ?_, .inl hb,fun x c e=>q4 x c (hcl _ _ e),fun p hp=> ?_⟩
  ·rcases List.mem_cons.mp (I3.stkSub b hb') with z | z
   ·exact q1 z
   ·exact q2 z
  ·exact q5 p (by
    have:p∈(X.pn++pins)++[]:=hp
    rwa [List.append_nil] at this)
 have fin:∀ (s5:Shared) (σ5:Sg) (H5:Hp),L2.Inv (cxC X scope N' cl s3.heap.objs.size s3 (upd H2 s2.heap.objs.size (.lst [])) fp pins) [] σ5 H5 s5->F s2.heap.objs.size H5->compPost (model X.prog X.w) X.A X.xe use Q (.ref s2.heap.objs.size) s3.heap.objs.size (.ok .next) s5:=fun s5 σ5 H5 I5 q5=>by
  have J5:L2.Inv X pins σ H5 s5:=I3.call' (ch:=fp) I5.os I5.base I5.hok I5.bare fun b hb=>by
   obtain ⟨q0,q1,q2,q3,q4,q5⟩:=f3 b hb
   exact ⟨q3,q1,q4,q5⟩
  refine hQ _ _ H5 s5 J5 q5 I5.free I3.sz (Nat.ne_of_gt I3.lt) (fun x c e z=> ?_) (fun p hp z=> ?_) (let ⟨m,hm,_⟩:=I5.loc; ⟨m,hm⟩)
  ·obtain ⟨v',o,eo,_⟩:=I3.cell x c e
   exact absurd (Heap.lt_size eo) (by rw [z]; exact Nat.lt_irrefl _)
  ·exact absurd (Heap.lt_size (I3.pin p hp).1) (by rw [z]; exact Nat.lt_irrefl _)
 have pass:zJ (CX1 X.prog X.w) (XE (cxC X scope N' cl s3.heap.objs.size s3 (upd H2 s2.heap.objs.size (.lst [])) fp pins) (notedBy (model X.prog X.w) X.A (compEnvC scope cl s3.heap.objs.size X.env) fun e s' =>compPost (model X.prog X.w) X.A X.xe use Q (.ref s2.heap.objs.size) s3.heap.objs.size (.error e) s')) E:=by
  intro pins1 σ1 H1 s1 e s' I1 c1
  have J1:L2.Inv X pins σ H1 s1:=I3.call' (ch:=fp) I1.os I1.base I1.hok I1.bare fun b hb=>by
   obtain ⟨q0,q1,q2,q3,q4,q5⟩:=f3 b hb
   exact ⟨q3,q1,q4,q5⟩
  obtain ⟨m1,hm1,_⟩:=I1.loc
  refine thn (hp pins σ H1 s1 e s' s3.heap.objs.size m1 _ (compEnvC scope cl s3.heap.objs.size X.env) J1 hm1 I1.free I3.sz (fun z=> ?_) rfl c1) fun _ s'' q=> ?_
  ·obtain ⟨_,o,eo,_⟩:=I3.stack.mem z
   exact absurd (Heap.lt_size eo) (Nat.lt_irrefl _)
  ·cases use <;> exact q
 have loop:=wQ (X:=XE (cxC X scope N' cl s3.heap.objs.size s3 (upd H2 s2.heap.objs.size (.lst [])) fp pins) (notedBy (model X.prog X.w) X.A (compEnvC scope cl s3.heap.objs.size X.env) fun e s' =>compPost (model X.prog X.w) X.A X.xe use Q (.ref s2.heap.objs.size) s3.heap.objs.size (.error e) s')) (iter:=iter) (scope:=scope) (pos:=pos) (R:=compPost (model X.prog X.w) X.A X.xe use Q (.ref s2.heap.objs.size) s3.heap.objs.size) (fun _ _ z=>z) hc TC (Q8 rfl (hg _ _ _ _ _ _)) (Y1 rfl (ht _ _ _ _ _ _)) (he _ _ _ _ _ _ _ pass) W turn (fun s5 σ5 H5 I5=>fin s5 σ5 H5 (wP I5)) w0 (Jx IC) t4 fC
 rw [es3] at loop
 exact codeAny_compStart_list loop (TJ.self _ _ _ _ _ t4 loop)
end
def Z6 (g:T->En->R En) (ft:En->R Bool) (fe:En->R T):List T->En->R (List T)
 | [],_=> .ok []
 | t :: ts,ρ=>(g t ρ).bind fun ρ1=>(ft ρ1).bind fun k=>if k=true then (fe ρ1).bind fun v=>(Z6 g ft fe ts ρ1).bind fun vs=> .ok (v :: vs) else Z6 g ft fe ts ρ1
def WI:Option Sl->Sl
 | some (.vl t)=> .vl t
 | _=> .un
def jl (k:Nat) (js:List Nat) (ρ:En):En:=List.replicate k .un++js.map fun j=>WI ρ[j]?
def quiet {α:Type}:R α->R α
 | .ok a=> .ok a
 | _=> .bad
def Je (g:T->En->R En) (ft:En->R Bool) (fe:En->R T) (k:Nat) (js:List Nat) (ρ:En) (ts:List T):R (List T):=if ts.length<=bnd then quiet (Z6 g ft fe ts (jl k js ρ)) else .bad
def Zz (fi:En->R (List T)) (g:T->En->R En) (ft:En->R Bool) (fe:En->R T) (k:Nat) (js:List Nat):En->R T:=fun ρ=>(fi ρ).bind fun ts=>(Je g ft fe k js ρ ts).bind fun vs=> .ok (.lst vs)
def GOk (tG:TG) (g:T->En->R En):Prop:=∀ Y B ρ σ H v x Q,SI Y B ρ σ H->Rep B v x->(match g x ρ with | .ok ρ' =>∀ σ',SI Y B ρ' σ' H->Q σ' H | _=>False)->tG v σ H Q
theorem zP (i:Nat):GOk (jx i) (jv i):=fun Y B ρ σ H v x Q I r q=>q _ (I.setV i r)
theorem WJ (K:PySem.W.Frag) (i j:Nat):GOk (qm K 2 (wg (jx i) (wg (jx j) qk))) (ZJ i j):=fun Y B ρ σ H v t Q I r q=>by
 cases r with
 | @tup l xs ts h r=>
  cases r with
  | nil=>exact q.elim
  | cons r1 rr=>
   cases rr with
   | nil=>exact q.elim
   | cons r2 rr=>
    cases rr with
    | cons _ _=>exact q.elim
    | nil=>exact ⟨l,_,rfl,SqT.of (I.sB _ _ h),rfl,_,_,rfl,_,_,rfl,rfl,q _ ((I.setV i r1).setV j r2)⟩
 | _=>exact q.elim
theorem SI.blockS {Y:Fx} {B:Hp} {ρ:En} {σ:Sg} {H H' :Hp} (I:SI Y B ρ σ H) (k:Nat) (js:List Nat) (E:XK) (s:zh H H'):SI ⟨B,H,E,Y.cl⟩ B (jl k js ρ) (Jz k js σ) H' where
 s0:=I.sB
 sH:=s
 sB:=I.sB.trans s
 old:=fun _ _ _=>rfl
 len:=by unfold jl Jz; simp
 vl:=fun i t h=>by
  unfold jl at h
  unfold Jz
  by_cases hik:i < k
  ·rw [List.getElem?_append_left (by simpa using hik),List.getElem?_replicate,if_pos hik] at h; cases h
  ·have hk' :k<=i:=by omega
   rw [List.getElem?_append_right (by simpa using hk'),List.length_replicate,List.getElem?_map] at h ⊢
   cases ej:js[i - k]? with
   | none=>rw [ej] at h; cases h
   | some j=>
    rw [ej] at h
    have h' :WI ρ[j]? = .vl t:=Option.some.inj h
    unfold WI at h'
    split at h'
    ·rename_i u e
     cases h'
     obtain ⟨v,e1,r⟩:=I.vl j _ e
     exact ⟨v,by show some ((σ[j]?).getD none)=_; rw [e1]; rfl,r⟩
    ·cases h'
 ow:=fun i ts h=>by
  exfalso
  unfold jl at h
  by_cases hik:i < k
  ·rw [List.getElem?_append_left (by simpa using hik),List.getElem?_replicate,if_pos hik] at h; cases h
  ·have hk' :k<=i:=by omega
   rw [List.getElem?_append_right (by simpa using hk'),List.length_replicate,List.getElem?_map] at h
   cases ej:js[i - k]? with
   | none=>rw [ej] at h; cases h
   | some j=>
    rw [ej] at h
    have h' :WI ρ[j]? = .ow ts:=Option.some.inj h
    unfold WI at h'
    split at h' <;> cases h'
 xc:=fun i c h=>by
  exfalso
  unfold jl at h
  by_cases hik:i < k
  ·rw [List.getElem?_append_left (by simpa using hik),List.getElem?_replicate,if_pos hik] at h; cases h
  ·have hk' :k<=i:=by omega
   rw [List.getElem?_append_right (by simpa using hk'),List.length_replicate,List.getElem?_map] at h
   cases ej:js[i - k]? with
   | none=>rw [ej] at h; cases h
   | some j=>
    rw [ej] at h
    have h' :WI ρ[j]? = .xc c:=Option.some.inj h
    unfold WI at h'
    split at h' <;> cases h'
theorem SI.block {Y:Fx} {B:Hp} {ρ:En} {σ:Sg} {H H3:Hp} {D:Addr} (I:SI Y B ρ σ H) (k:Nat) (js:List Nat) (E:XK) (hD:H D=none) (o:HO):SI ⟨B,H,E,Y.cl⟩ B (jl k js ρ) (Jz k js σ) (upd H D o):=I.blockS k js E (zh.new hD _)
theorem SI.acc {Y:Fx} {B:Hp} {ρ:En} {σ:Sg} {H:Hp} {D:Addr} (I:SI Y B ρ σ H) (hb:B D=none) (h0:Y.H0 D=none) (ho:∀ (i:Nat) (ts:List T),ρ[i]? =some (Sl.ow ts)->σ[i]? ≠ some (some (V.ref D))) (o:HO):SI Y B ρ σ (upd H D o) where
 s0:=I.s0
 sH:=fun b u h=>by
  rw [zf (fun z=>by subst z; rw [h0] at h; cases h)]; exact I.sH b u h
 sB:=fun b u h=>by
  rw [zf (fun z=>by subst z; rw [hb] at h; cases h)]; exact I.sB b u h
 old:=I.old
 len:=I.len
 vl:=I.vl
 ow:=fun i ts h=>by
  obtain ⟨a,xs,e,b0,h0',hh,r,d⟩:=I.ow i ts h
  refine ⟨a,xs,e,b0,h0', ?_,r,d⟩
  rw [zf (fun z=>ho i ts h (by rw [e,z]))]; exact hh
 xc:=I.xc
def Ue (ρ:En):Prop:=∀ (i:Nat) (ts:List T),ρ[i]? ≠ some (Sl.ow ts)
theorem WK (k:Nat) (js:List Nat) (ρ:En):Ue (jl k js ρ):=fun i ts h=>by
 unfold jl at h
 by_cases hik:i < k
 ·rw [List.getElem?_append_left (by simpa using hik),List.getElem?_replicate,if_pos hik] at h; cases h
 ·have hk' :k<=i:=by omega
  rw [List.getElem?_append_right (by simpa using hk'),List.length_replicate,List.getElem?_map] at h
  cases ej:js[i - k]? with
  | none=>rw [ej] at h; cases h
  | some j=>
   rw [ej] at h
   have h' :WI ρ[j]? = .ow ts:=Option.some.inj h
   unfold WI at h'
   split at h' <;> cases h'
theorem jm {ρ:En} {i:Nat} {t:T} (h:Ue ρ):Ue (ρ.set i (.vl t)):=fun j ts e=>by
 rcases zE e with ⟨_,z⟩ | ⟨_,z⟩
 ·cases z
 ·exact h j ts z
def GNo (g:T->En->R En):Prop:=(∀ t ρ ρ',Ue ρ->g t ρ= .ok ρ' ->Ue ρ')/\∀ t ρ c,g t ρ ≠ .ex c
theorem zQ (i:Nat):GNo (jv i):=⟨fun t ρ ρ' h e=>by
 cases e; exact jm h,fun t ρ c e=>by cases e⟩
theorem WL (i j:Nat):GNo (ZJ i j):=⟨fun t ρ ρ' h e=>(by
 unfold ZJ at e
 split at e
 ·cases e; exact jm (jm h)
 ·cases e),fun t ρ c e=>by unfold ZJ at e; split at e <;> cases e⟩
section
variable {X:Cx} {Y:Fx} {tg iter elt:Expr} {ifs:List Expr} {scope:Scope} {pos pos' :Pos} {N' :List Str} {k:Nat} {js:List Nat} {fi:En->R (List T)} {tG:TG} {g:T->En->R En} {ft:En->R Bool} {fe:En->R T}
structure JX (X:Cx) (Y:Fx) (ifs:List Expr) (f:En->R Bool):Prop where
 mk ::
 go:∀ ρ,PIf X ifs (tS Y rE f ρ)
instance {X:Cx} {Y:Fx} {ifs:List Expr} {f:En->R Bool}:CoeFun (JX X Y ifs f) fun _=>∀ ρ,PIf X ifs (tS Y rE f ρ):=⟨JX.go⟩
theorem PIf.imp {X:Cx} {e:List Expr} {t t' :TT} (h:PIf X e t) (i:∀ σ H Q,t' σ H Q->t σ H Q):PIf X e t' :=fun pins s σ H Q I q=>h pins s σ H Q I (i σ H Q q)
def wR:En->R Bool:=fun _=> .ok true
theorem Y3 {X:Cx}:JX X Y [] wR:= .mk fun ρ=>PIf.imp Ud fun σ H Q ⟨B,I,q⟩=>zZ I q rfl
def Vg (r:R (List T)) (P:List T->Prop) (Z:Nat->Prop):Prop:=match r with
 | .ok vs=>P vs
 | .ex c=>Z c
 | .bad=>False
theorem JY {B1 H1:Hp} {σ:Sg} {ρ:En} {J:It} {ts:List T} {r:R (List T)} {D:Addr} {E0:XK} (hG:GOk tG g) (hN:GNo g) (I:SI Y B1 ρ σ H1) (rI' :rI B1 H1 J ts) (hl:ts.length<=bnd) (ev:Z6 g ft fe ts (jl k js ρ)=r) (hD:H1 D=none) {F:Hp->Prop}
  (hF:Vg r (fun vs=>∀ H' xs B',zh H1 H' ->H' D=some (.lst xs)->zn B' xs vs->zh B' (zp B1 H1 H')->B' D=none->zh B1 B' ->F H') fun c=>∀ d H',zh H1 H' ->zh B1 H' ->E0 (Y.cl c) d H'):
  ∃ W,(∃ m,W 0 m [] (Jz k js σ) (upd H1 D (.lst [])))/\WH J D tG (fun σ H Q=>∃ Y' ρ',Y'.cl=Y.cl/\tS Y' rE ft ρ' σ H Q) (fun σ H Q=>∃ Y' ρ',Y'.cl=Y.cl/\Y'.E=E0/\tS Y' rC fe ρ' σ H Q) (fun _ H' =>F H') W:=by
 refine ⟨fun i m ys σ' H' =>m=ts.length - i/\i<=ts.length/\ys.length<=i/\H' D=some (.lst ys)/\∃ ρ' B' us,SI ⟨B1,H1,E0,Y.cl⟩ B' ρ' σ' H' /\Ue ρ' /\zh B1 B' /\B' D=none/\zn B' ys us/\((Z6 g ft fe (ts.drop i) ρ').bind fun ws=> .ok (us++ws))=r,
  ⟨ts.length,by simp,Nat.zero_le _,Nat.zero_le _,zg,_,B1,[],I.block (H3:=H1) k js _ hD _,WK k js ρ,zh.refl _,I.sB.free hD, .nil,by rw [List.drop_zero,ev]; cases r <;> rfl⟩, ?_⟩
 rintro i m ys σ' H' ⟨rfl,hi,hyl,hDl,ρ',B',us,I',no',s1',bD,r',ew⟩
 refine ⟨hDl, ?_⟩
 obtain ⟨hgo,hyld,hstop⟩:=rI' B' H' s1' I'.sB
 have tD:∀ H2,zh H' H2->zp B' H' H2 D=none:=fun H2 s=>by rw [zC hDl]; exact bD
 by_cases hlt:i < ts.length
 ·refine .inr ⟨hgo i hlt,fun x H2 y=> ?_⟩
  obtain ⟨s2,r2⟩:=hyld i _ x H2 (List.getElem?_eq_getElem hlt) y
  rw [List.drop_eq_getElem_cons hlt] at ew
  unfold Z6 at ew
  have I2:=I'.grow s2
  refine hG _ _ ρ' σ' H2 x _ _ I2 r2 ?_
  cases eg:g ts[i] ρ' with
  | bad=>rw [eg] at ew; subst ew; exact hF
  | ex c=>exact (hN.2 _ _ _ eg).elim
  | ok ρ1=>
   rw [eg] at ew
   have no1:Ue ρ1:=hN.1 _ _ _ no' eg
   intro σ1 J1
   refine ⟨⟨B1,H1,E0,Y.cl⟩,ρ1,rfl,_,J1, ?_⟩
   have ew1:((ft ρ1).bind (fun k=>if k=true then (fe ρ1).bind fun v=>(Z6 g ft fe (ts.drop (i+1)) ρ1).bind fun vs=> .ok (v :: vs) else Z6 g ft fe (ts.drop (i+1)) ρ1)).bind (fun ws=> .ok (us++ws))=r:=ew
   cases ef:ft ρ1 with
   | bad=>rw [ef] at ew1; subst ew1; exact hF
   | ex c=>
    rw [ef] at ew1; subst ew1
    exact fun d H' a b=>hF d H' a ((s1'.trans (zp.ge I'.sB s2)).trans b)
   | ok kk=>
    rw [ef] at ew1
    intro b H3 s3 eb
    have eb' :b=kk:=eb
    subst eb'
    have ew2:(if b=true then (fe ρ1).bind fun v=>(Z6 g ft fe (ts.drop (i+1)) ρ1).bind fun vs=> .ok (v :: vs) else Z6 g ft fe (ts.drop (i+1)) ρ1).bind (fun ws=> .ok (us++ws))=r:=ew1
    have J2:=J1.grow s3
    have hD3:H3 D=some (.lst ys):=s3 _ _ (s2 _ _ hDl)
    have bD3:zp (zp B' H' H2) H2 H3 D=none:=by rw [zC (s2 _ _ hDl)]; exact tD H2 s2
    have sB3:zh B' (zp (zp B' H' H2) H2 H3):=(zp.ge I'.sB s2).trans (zp.ge I2.sB s3)
    cases b with
    | false=>exact ⟨ts.length - (i+1),by omega,rfl,hlt,by omega,hD3,ρ1,_,us,J2,no1,s1'.trans sB3,bD3,r'.mono sB3,ew2⟩
    | true=>
     refine ⟨⟨B1,H1,E0,Y.cl⟩,ρ1,rfl,rfl,_,J2, ?_⟩
     have ew3:((fe ρ1).bind (fun v=>(Z6 g ft fe (ts.drop (i+1)) ρ1).bind fun vs=> .ok (v :: vs))).bind (fun ws=> .ok (us++ws))=r:=ew2
     cases ee:fe ρ1 with
     | bad=>rw [ee] at ew3; subst ew3; exact hF
     | ex c=>
      rw [ee] at ew3; subst ew3
      exact fun d H' a b=>hF d H' a ((s1'.trans sB3).trans b)
     | ok v=>
      rw [ee] at ew3
      have ew4:((Z6 g ft fe (ts.drop (i+1)) ρ1).bind (fun vs=> .ok (v :: vs))).bind (fun ws=> .ok (us++ws))=r:=ew3
      have ew5:(Z6 g ft fe (ts.drop (i+1)) ρ1).bind (fun ws=> .ok ((us++[v])++ws))=r:=by
       rw [← ew4]
       cases Z6 g ft fe (ts.drop (i+1)) ρ1 with
       | ok ws=>show R.ok _=R.ok _; rw [List.append_assoc]; rfl
       | _=>rfl
      intro w H4 s4 rw4
      have hD4:H4 D=some (.lst ys):=s4 _ _ hD3
      have J3:=J2.grow s4
      have bD4:zp (zp (zp B' H' H2) H2 H3) H3 H4 D=none:=by rw [zC hD3]; exact bD3
      have sB4:=sB3.trans (zp.ge J2.sB s4)
      refine ⟨hD4,Nat.lt_of_lt_of_le (Nat.lt_of_le_of_lt hyl hlt) (zR hl),ts.length - (i+1),by omega,rfl,hlt,by rw [List.length_append,List.length_singleton]; omega,zg,ρ1,_,us++[v], ?_,no1,s1'.trans sB4,bD4,(r'.mono sB4).append (.cons rw4 .nil),ew5⟩
      exact J3.acc bD4 hD (fun j ts' e=>(no1 j ts' e).elim) _
 ·have e:i=ts.length:=by omega
  subst e
  refine .inl ⟨hstop _ (Nat.le_refl _), ?_⟩
  rw [List.drop_length] at ew
  have ew' :R.ok (us++[])=r:=ew
  rw [List.append_nil] at ew'
  subst ew'
  refine hF H' ys B' I'.sH hDl r' (fun b o h=> ?_) bD s1'
  cases q:H1 b with
  | none=>rw [zy q]; exact I'.sB b o h
  | some u=>
   rw [zC q]
   have z:B' b=B1 b:=I'.old b u q
   rw [← z]; exact h
theorem jP {B1 H1:Hp} {σ:Sg} {ρ:En} {J:It} {ts vs:List T} {D:Addr} (hG:GOk tG g) (hN:GNo g) (I:SI Y B1 ρ σ H1) (rI' :rI B1 H1 J ts) (hl:ts.length<=bnd) (ev:Z6 g ft fe ts (jl k js ρ)= .ok vs) (hD:H1 D=none) {F:Hp->Prop}
  (hF:∀ H' xs B',zh H1 H' ->H' D=some (.lst xs)->zn B' xs vs->zh B' (zp B1 H1 H')->B' D=none->zh B1 B' ->F H'):
  ∃ W,(∃ m,W 0 m [] (Jz k js σ) (upd H1 D (.lst [])))/\WH J D tG (fun σ H Q=>∃ Y' ρ',Y'.cl=Y.cl/\tS Y' rE ft ρ' σ H Q) (fun σ H Q=>∃ Y' ρ',Y'.cl=Y.cl/\(Y'.E=fun _ _ _=>False)/\tS Y' rC fe ρ' σ H Q) (fun _ H' =>F H') W:=JY hG hN I rI' hl ev hD hF
structure wS (X:Cx) (Y:Fx) (tg iter elt:Expr) (ifs:List Expr) (scope:Scope) (N' :List Str) (k:Nat) (js:List Nat) (fi:En->R (List T)) (tG:TG) (g:T->En->R En) (ft:En->R Bool) (fe:En->R T):Prop where
 sc:CSc X scope
 cp:Y2 X scope N' k js
 cm:X.calm=true
 it:wb X Y tg iter fi
 gt:UT X scope N' fun XC=>PG XC tg tG
 gk:GOk tG g
 gn:GNo g
 tt:∀ Y',Y'.cl=Y.cl->UT X scope N' fun XC=>JX XC Y' ifs ft
 el:∀ Y',Y'.cl=Y.cl->Q9 X scope N' Y'.E fun XC=>Snd XC Y' elt fe
 hs:∀ x,foldedSetIterable iter X.env x=pure x
theorem ZE (C:wS X Y tg iter elt ifs scope N' k js fi tG g ft fe):Snd X Y (.ListComp elt [⟨tg,iter,ifs,0⟩] scope pos) (Zz fi g ft fe k js):= .mk fun ρ=>by
 intro pins s σ H Q I ⟨B,J,q⟩
 rw [eval_ListComp]
 refine JA (j8 rfl) (use:=none) (Q:=EP X pins σ Q) (F:=fun D H' =>Q (.ref D) H') (te:=fun σ H Q=>∃ Y' ρ',Y'.cl=Y.cl/\(Y'.E=fun _ _ _=>False)/\tS Y' rC fe ρ' σ H Q) (tt:=fun σ H Q=>∃ Y' ρ',Y'.cl=Y.cl/\tS Y' rE ft ρ' σ H Q) C.sc C.cp C.cm (C.it ρ) C.gt
  (fun cl Cx' s3 H3 fp pins pins' s σ H Q I ⟨Y',ρ',ey,q⟩=>C.tt Y' ey cl Cx' s3 H3 fp pins ρ' pins' s σ H Q I q) (fun cl Cx' s3 H3 fp pins xe hp pins' s σ H Q I ⟨Y',ρ',ey,eE,q⟩=>C.el Y' ey cl Cx' s3 H3 fp pins xe (eE ▸ hp) ρ' pins' s σ H Q I q) I ?_ ?_ C.hs
 ·refine step J q fun ts it' H1 _ s1 r1 J1 q1=> ?_
  intro D hD
  unfold Je at q1
  split at q1
  ·rename_i hl
   cases ev:Z6 g ft fe ts (jl k js ρ) with
   | bad=>rw [ev] at q1; exact q1.elim
   | ex c=>rw [ev] at q1; exact q1.elim
   | ok vs=>
    rw [ev] at q1
    refine jP C.gk C.gn J1 r1 hl ev hD fun H' xs B' s' e' r' l' b' sb' => ?_
    refine (show Po Y rC _ H1 (.ok (.lst vs)) Q from q1) (.ref D) H' s' ?_
    exact .lst (by rw [zy hD]; exact e') (r'.mono l')
  ·exact q1.elim
 ·intro D Cc H' s' I' q' hC h0 hL hcell hpin hns
  obtain ⟨m,hm⟩:=hns
  refine ⟨m,hm,fun h' hsb=>⟨.ref D,H', ?_,rfl,q'⟩⟩
  exact I'.turned (t' :=s'.toks) (fun b o hb e=>hsb.extBut b o hb e) hC (Ne.symm hL).symm (.inr h0) hcell hpin
end
section
variable {X:Cx} {Y:Fx} {tg iter elt:Expr} {ifs:List Expr} {scope:Scope} {pos pos' :Pos} {N' :List Str} {k:Nat} {js:List Nat} {fi:En->R (List T)} {tG:TG} {g:T->En->R En} {ft:En->R Bool} {fe:En->R T}
theorem uu {i:Nat} {x:Str} {pc p' :Pos} (C:wS X Y tg iter elt ifs scope N' k js fi tG g ft fe) (hN:X.N.Nodup) (hi:X.N[i]? =some x) (hx:L2.Loc X.env.scope x)
  (hsw:swapsWith (.ListComp elt [⟨tg,iter,ifs,0⟩] scope pc) (some (.Name x p')) pos.line X.env=pure true) (hf:X.fn x=true\/X.env.scope.names.lookup x=some .local:=by first | exact .inl rfl | exact .inr rfl | assumption):
  jO X Y (.Assign [.Name x p'] (.ListComp elt [⟨tg,iter,ifs,0⟩] scope pc) pos) (Zj i (Zz fi g ft fe k js)):= .mk fun ρ=>by
 intro pins s σ H D I ⟨B,J,q⟩
 rw [exec_Assign_Name_used _ _ _ _ hsw]
 refine wpAny_bind (wpAny_standAt (wpAny_bind ?_))
 show wpAny _ X.A (do let _ ← comprehension (.ListComp elt [⟨tg,iter,ifs,0⟩] scope pc) scope X.env _ (newList []) false (eval iter X.env) (some (assign (.Name x p') X.env))) _ _ s
 refine wpAny_bind (thn (JA (j8 rfl) (use:=some (assign (.Name x p') X.env)) (Q:=fun _ s' =>SP X pins D .next s') (F:=fun D' H' =>D.nx (σ.set i (some (.ref D'))) H') (te:=fun σ H Q=>∃ Y' ρ',Y'.cl=Y.cl/\(Y'.E=fun _ _ _=>False)/\tS Y' rC fe ρ' σ H Q) (tt:=fun σ H Q=>∃ Y' ρ',Y'.cl=Y.cl/\tS Y' rE ft ρ' σ H Q) C.sc C.cp C.cm (C.it ρ) C.gt
  (fun cl Cx' s3 H3 fp pins pins' s σ H Q I ⟨Y',ρ',ey,q⟩=>C.tt Y' ey cl Cx' s3 H3 fp pins ρ' pins' s σ H Q I q) (fun cl Cx' s3 H3 fp pins xe hp pins' s σ H Q I ⟨Y',ρ',ey,eE,q⟩=>C.el Y' ey cl Cx' s3 H3 fp pins xe (eE ▸ hp) ρ' pins' s σ H Q I q) I ?_ ?_ C.hs) fun _ s' hq=>wpAny_pure (wpAny_pure hq))
 ·have q' :PoS Y B (((fi ρ).s fun ts=>(Je g ft fe k js ρ ts).s fun vs=> .nx (ρ.set i (.vl (.lst vs))))) D:=by
   unfold Zj Zz at q
   revert q
   cases fi ρ with
   | bad=>exact fun q=>q
   | ex c=>exact fun q=>q
   | ok ts=>
    intro q
    have q2:PoS Y B (((Je g ft fe k js ρ ts).bind fun vs=>R.ok (T.lst vs)).s fun t=>RS.nx (List.set ρ i (Sl.vl t))) D:=q
    show PoS Y B ((Je g ft fe k js ρ ts).s fun vs=>RS.nx (List.set ρ i (Sl.vl (T.lst vs)))) D
    revert q2
    cases Je g ft fe k js ρ ts with
    | bad=>exact fun q=>q
    | ex c=>exact fun q=>q
    | ok vs=>exact fun q=>q
  refine j1 J q' fun ts it' H1 _ s1 r1 J1 q1=> ?_
  intro D' hD
  unfold Je at q1
  split at q1
  ·rename_i hl
   cases ev:Z6 g ft fe ts (jl k js ρ) with
   | bad=>rw [ev] at q1; exact q1.elim
   | ex c=>rw [ev] at q1; exact q1.elim
   | ok vs=>
    rw [ev] at q1
    refine jP C.gk C.gn J1 r1 hl ev hD fun H' xs B' s' e' r' l' b' sb' => ?_
    have rr:Rep (zp (zp B H H1) H1 H') (.ref D') (.lst vs):= .lst (by rw [zy hD]; exact e') (r'.mono l')
    exact q1 _ _ _ (zp.ge J1.sB s') ((J1.grow s').setV i rr)
  ·exact q1.elim
 ·intro D' Cc H' s' I' q' hC h0 hL hcell hpin hns
  obtain ⟨m,hm⟩:=hns
  show wpAny _ X.A (assign (.Name x p') X.env (.ref D')) _ _ s'
  refine wpAny_assign_Name (jw (v:= .ref D') I' hN hi hx rfl (fun s'' I'' ⟨a,hsb,ha⟩=> ?_) hf)
  have hne:Cc ≠ a:=by
   rcases ha with rfl | ha
   ·exact hL
   ·exact (hcell x a ha).symm
  refine ⟨m,hm.sameBut hsb hne,fun h' hsb' =>⟨_,H', ?_,q'⟩⟩
  exact I''.turned (t' :=s''.toks) (fun b o hb e=>hsb'.extBut b o hb e) hC hL (.inr h0) hcell hpin
end
def Itc (x:Str):It:=⟨fun i _=>i < x.cps.size,fun i H v H' =>H' =H/\∃ c,x.cps[i]? =some c/\v= .str ⟨#[c]⟩,fun i _=>x.cps.size<=i⟩
theorem j9 {P:Program} {w:World} {K:PySem.W.Frag} {tg:Expr} {x:Str} {t:Tok} {ty:String} (it:Addr) (hty:ty="str_ascii_iterator"\/ty="str_iterator"):Wk P w K tg (Itc x) [it] it (fun i h=>h.IsStrIter it ty x t i):=by
 have W:∀ A:Around,A.handled=none->Walks P w A it [it] [it] x.cps.size (SignAt x) (fun i h=>h.IsStrIter it ty x t i):=fun A hA=>by
  rcases hty with rfl | rfl
  ·exact Walks.strAscii hA it x t
  ·exact Walks.strWide hA it x t
 have hn:["enumerate","zip","dict_itemiterator","dict_reverseitemiterator","odict_iterator","itertools.zip_longest","itertools.pairwise"].contains ty=false:=by rcases hty with rfl | rfl <;> decide
 refine ⟨by simp,fun i h st b hb=> ?_,fun i h h' st k=> ?_, ?_, ?_,fun A i s Q E st h=> ?_⟩
 ·have e:b=it:=by simpa using hb
  subst e
  obtain ⟨o,e,c,d⟩:=st
  exact ⟨o,e,fun v z=>by rw [d] at z; cases z⟩
 ·obtain ⟨o,e,r⟩:=st
  exact ⟨o,k it (by simp) o e,r⟩
 ·intro X hP hw hK hc i pins s σ H E I hf st hg
  subst hP hw hK
  obtain ⟨f0,f1,f2,f3,f4,f5⟩:=hf it (by simp)
  refine (W X.A (I.ok.hd hc)).item i s _ _ hg st fun v h' tk hv st' kk=> ?_
  obtain ⟨c,u,hc',rfl⟩:=hv
  have I1:L2.Inv X pins σ H { s with heap:=h',toks:=tk }:=I.turned (fun b o hb e=>kk b o (by simpa using hb) e) f0 f1 f3 f4 f5
  obtain ⟨o,e,cl,d⟩:=id st'
  exact ⟨_,rfl,JL (s:={ s with heap:=h',toks:=tk }) e cl d hn ⟨.str ⟨#[c]⟩,H,I1,⟨u,rfl⟩,⟨rfl,c,hc',rfl⟩,st',fun b hb=>(hf b hb).1⟩⟩
 ·intro X hP hw hK hc i pins s σ H E I hf st hg
  subst hP hw hK
  obtain ⟨f0,f1,f2,f3,f4,f5⟩:=hf it (by simp)
  have hx:x.cps[i]? =none:=Array.getElem?_eq_none hg
  rcases hty with rfl | rfl
  ·exact wpAny_pyNext_ascii_end (I.ok.hd hc) st hx fun h' eb=>⟨rfl,I.turned (t' :=s.toks) (fun b o hb e=>eb b o hb e) f0 f1 f3 f4 f5⟩
  ·exact wpAny_pyNext_wide_end (I.ok.hd hc) st hx fun h' eb=>⟨rfl,I.turned (t' :=s.toks) (fun b o hb e=>eb b o hb e) f0 f1 f3 f4 f5⟩
 ·rcases hty with rfl | rfl
  ·exact wpAny_pyIter_striter_ascii st h
  ·exact wpAny_pyIter_striter_wide st h
def JZ (x:Str):List T:=x.cps.toList.map fun c=>T.str ⟨#[c]⟩
theorem WM {B1 H1:Hp} {x:Str}:rI B1 H1 (Itc x) (JZ x):=fun B2 H2 s1 s2=>by
 have hl:(JZ x).length=x.cps.size:=by unfold JZ; simp
 refine ⟨fun i hi=>by rw [hl] at hi; exact hi,fun i t v H3 e y=> ?_,fun i hi=>by rw [hl] at hi; exact hi⟩
 obtain ⟨rfl,c,hc,rfl⟩:=y
 refine ⟨zh.refl _, ?_⟩
 unfold JZ at e
 rw [List.getElem?_map] at e
 have hc' :x.cps.toList[i]? =some c:=by simpa using hc
 rw [hc'] at e
 cases e
 exact .str _
section
variable {X:Cx} {Y:Fx} {a b c d tg:Expr} {fa fb fc fd:En->R T} {pos p:Pos}
theorem Y4 {l:Expr} {tl:TE} (hl:PE X l tl):PI X tg l (fun σ H R=>tl σ H fun x H1=>(∃ a,x= .ref a/\(((∃ xs,SqL X.K H1 a xs)/\R (Itl X.K a) H1)\/((∃ xs,SqT X.K H1 a xs)/\R (Itt X.K a) H1)))\/(∃ z,x= .str z/\R (Itc z) H1)):=by
 intro pins s σ H R I h
 refine thn (hl pins s σ H _ I h) fun v s1 ⟨x,H1,I1,r1,q1⟩=> ?_
 have ok:∀ b∈[s1.heap.objs.size],jy X pins H1 b:=fun b hb=>by
  have e:b=s1.heap.objs.size:=by simpa using hb
  subst e
  exact I1.fpOk (Nat.le_refl _) (I1.hok.fresh (Nat.le_refl _))
 rcases q1 with ⟨a,e,q⟩ | ⟨z,e,q⟩
 ·subst e
  obtain rfl:v=Value.ref a:=r1
  rcases q with ⟨⟨xs,hq⟩,q⟩ | ⟨⟨xs,hq⟩,q⟩
  ·obtain ⟨its,rv,p,hz⟩:=I1.list hq
   exact wpAny_pyIter_list p.isList ⟨s1.heap.objs.size,[s1.heap.objs.size],_,_,H1,rfl,I1.kept (t' :=s1.toks) fun b o e=>Heap.get?_push_of_some _ e,wk a _,⟨_,Heap.get?_push_size _ rfl,rfl,rfl⟩,ok,q⟩
  ·obtain ⟨its,rv,p,hz⟩:=I1.tuple hq
   exact wpAny_pyIter_tuple (show s1.heap.IsTuple a its.toArray from p) ⟨s1.heap.objs.size,[s1.heap.objs.size],_,_,H1,rfl,I1.kept (t' :=s1.toks) fun b o e=>Heap.get?_push_of_some _ e,JM a _,⟨_,Heap.get?_push_size _ rfl,rfl,rfl⟩,ok,q⟩
 ·subst e
  obtain ⟨t,rfl⟩:=r1
  cases ha:z.cps.all (· < 128)
  ·exact wpAny_pyIter_wide ha ⟨s1.heap.objs.size,[s1.heap.objs.size],_,_,H1,rfl,I1.kept (t' :=s1.toks) fun b o e=>Heap.get?_push_of_some _ e,j9 _ (.inr rfl),⟨_,Heap.get?_push_size _ rfl,rfl,rfl⟩,ok,q⟩
  ·exact wpAny_pyIter_ascii ha ⟨s1.heap.objs.size,[s1.heap.objs.size],_,_,H1,rfl,I1.kept (t' :=s1.toks) fun b o e=>Heap.get?_push_of_some _ e,j9 _ (.inl rfl),⟨_,Heap.get?_push_size _ rfl,rfl,rfl⟩,ok,q⟩
def Y5:T->R (List T)
 | .lst xs=> .ok xs
 | .tup xs=> .ok xs
 | .str x=> .ok (JZ x)
 | _=> .bad
def Wn (fa:En->R T):En->R (List T):=fun ρ=>(fa ρ).bind Y5
theorem Qa (ha:Snd X Y a fa):wb X Y tg a (Wn fa):= .mk fun ρ=>PI.imp (Y4 (ha ρ)) fun σ H R ⟨B,I,q⟩=>step I q fun t v H1 _ s1 r1 I1 q1=>by
 cases r1 with
 | @tup l xs ts h r=>
  exact .inl ⟨l,rfl, .inr ⟨⟨xs,SqT.of (I1.sB _ _ h)⟩,zZ I1 (show Po Y rI _ H1 (.ok ts) R from q1) (yU h r)⟩⟩
 | @lst l xs ts h r=>
  exact .inl ⟨l,rfl, .inl ⟨⟨xs,SqL.of (I1.sB _ _ h)⟩,zZ I1 (show Po Y rI _ H1 (.ok ts) R from q1) (yV h r)⟩⟩
 | str z=>exact .inr ⟨z,rfl,zZ I1 (show Po Y rI _ H1 (.ok (JZ z)) R from q1) WM⟩
 | _=>exact q1.elim
end
theorem Inv.laidT {X:Cx} {pins:List (Addr×Obj)} {σ:Sg} {H:Hp} {s:Shared} {h' :Heap} {tk:Nat} {ch:List Addr} {a:Addr} {xs:List V} (I:L2.Inv X pins σ H s) (hf:∀ b∈ch,jy X pins H b) (k:∀ b o,b ∉ ch->s.heap.get? b=some o->h'.get? b=some o)
  (th:∀ b o,b∈ch->s.heap.get? b=some o->∃ o',h'.get? b=some o') (ha:s.heap.objs.size<=a) (new:zD X.prog X.w (upd H a (.tup xs)) h' a (.tup xs)):L2.Inv X pins σ (upd H a (.tup xs)) { s with heap:=h',toks:=tk }:=by
 have hn:H a=none:=I.hok.fresh ha
 have nch:∀ b u,H b=some u->b ∉ ch:=fun b u e hb=>by rw [(hf b hb).1] at e; cases e
 refine I.call' (s' :={ s with heap:=h',toks:=tk }) (ch:=ch) rfl ⟨fun b o e n _ hc=>k b o hc e,fun b o e n _ hc=>⟨o.slots,k b o hc e⟩,fun b o e n _=>by rw [zf (Nat.ne_of_lt (Nat.lt_of_lt_of_le (Heap.lt_size e) ha))]; exact n,fun b o e hc=>⟨o,k b o hc e⟩,
  fun b ys e=>by rw [zf (zk e hn)]; exact e,fun b o u e=>by rw [zf (zk e hn)]; exact e,fun b ps q e=>by rw [zf (zk e hn)]; exact e⟩ (fun b u e=> ?_) I.bare fun b hb=> ?_
 ·by_cases hb:b=a
  ·subst hb; rw [zg] at e; cases e; exact new
  ·rw [zf hb] at e
   refine (I.hok b u e).stay (fun c v hc q=> ?_) (fun c q=>by rw [zf (zk q hn)]; exact q) (fun c ys q=>by rw [zf (zk q hn)]; exact q) fun c o u q=>by rw [zf (zk q hn)]; exact q
   rcases hc with rfl | hc
   ·exact k c v (nch c u e) q
   ·exact k c v (nch c _ hc) q
 ·obtain ⟨f0,f1,f2,f3,f4,f5⟩:=hf b hb
  exact ⟨f3,f1,f4,f5⟩
section
variable {X:Cx} {Y:Fx} {a:Expr} {fa:En->R T} {pos p pt:Pos} {elts:List Expr} {kk:Nat}
def UU:List T->Option (List Str)
 | []=>some []
 | .str x :: r=>match UU r with | some ys=>some (x :: ys) | none=>none
 | _ :: _=>none
theorem JB {H:Hp}:∀ {xs:List V} {ts:List T} {its:List Value} {ys:List Str},zn H xs ts->zz xs its->UU ts=some ys->StrsAre its ys
 | _,_,_,ys, .nil, .nil,h=>by
  have h' :some []=some ys:=h
  cases h'; exact .nil
 | _,_,_,ys, .cons (t:=t) r rs, .cons (b:=u) rv vs,h=>by
  cases r with
  | str x=>
   unfold UU at h
   split at h
   ·rename_i zs e
    cases h
    obtain ⟨tk,rfl⟩:=rv
    exact .cons x tk (JB rs vs e)
   ·cases h
  | _=>cases h
end
def dd:List Str->List Str->List Str
 | acc,[]=>acc
 | acc,x :: r=>dd (if x∈acc then acc else acc++[x]) r
section
variable {prog:Program} {w:World} {A:Around} {R:Result->Shared->Prop} {I:Addr} {fp wr:List Addr} {n:Nat} {P:Nat->Value->Prop} {St:Nat->Heap->Prop}
theorem Zb {h h' :Heap} {S:Addr} {f g:Str->Bool} {m k:Nat} (x:h.SetOf (strKind prog w) S f m) (e:∀ o,h.get? S=some o->h'.get? S=some o) (ef:f=g) (em:m=k):h'.SetOf (strKind prog w) S g k:=by
 subst ef em
 obtain ⟨o,es,ep,t,ho,r⟩:=x
 exact ⟨o,es,ep,t,e o ho,r⟩
theorem WN (W:Walks prog w A.in1 I fp wr n P St) (S:Addr) (hSf:S ∉ fp) (val:Nat->Str) (hval:∀ i v,P i v->∃ t,v=Value.str (val i) t) (hb:n+1 < scanBound):
  ∀ (k i:Nat) (acc:List Str) (s:Shared),n - i=k->i<=n->acc.length<=i->St i s.heap->s.heap.SetOf (strKind prog w) S (fun x=>decide (x∈acc)) acc.length->
   (∀ h' tk,(∀ b o,b ∉ S :: wr->s.heap.get? b=some o->h'.get? b=some o)->h'.SetOf (strKind prog w) S (fun x=>decide (x∈dd acc ((List.range' i k).map val))) (dd acc ((List.range' i k).map val)).length->
    R (.ok (.ret .none)) { s with heap:=h',toks:=tk })->codeAny (model prog w) A (.builtin "set.update.loop" ⟨[.ref S, .ref I],[]⟩) R s:=by
 intro k
 induction k with
 | zero=>
  intro i acc s hk hi hal hst hS hR
  obtain rfl:i=n:=by omega
  refine codeAny_builtin F.entry_set_update_loop ?_
  rw [Around.under_plainId F.plain_set_update_loop _]
  refine wpAny_bind (m:=pyNext (.ref I)) (W.done s _ _ hst fun h' tk hk' =>wpAny_pure ?_)
  exact hR h' tk (fun b o hb e=>hk' b o (fun z=>hb (List.mem_cons_of_mem _ z)) e) (Zb hS (fun o e=>hk' S o (fun z=>hSf (W.sub _ z)) e) rfl rfl)
 | succ k ih=>
  intro i acc s hk hi hal hst hS hR
  refine codeAny_builtin F.entry_set_update_loop ?_
  rw [Around.under_plainId F.plain_set_update_loop _]
  refine wpAny_bind (m:=pyNext (.ref I)) (W.item i s _ _ (by omega) hst fun v h1 tk1 hP hst1 hk1=> ?_)
  obtain ⟨t,rfl⟩:=hval i v hP
  have hS1:=Zb hS (fun o e=>hk1 S o (fun z=>hSf (W.sub _ z)) e) rfl rfl
  refine wpAny_bind (m:=holding [Value.str (val i) t] (setAdd S (.str (val i) t))) (wpAny_holding ?_)
  unfold setAdd
  have isk:(strKind prog w).is (val i) (.str (val i) t)=true:=strKind_is _ _ _ _
  refine wpAny_holding (wpAny_bind ((strKind prog w).pyHash isk ?_))
  refine wpAny_setAddHashed_of (knd:=strKind prog w) (s:={ s with heap:=h1,toks:=tk1+1 }) isk rfl hS1 (by omega) fun h2 hsb hS2=> ?_
  have e2:(if decide (val i∈acc)=true then acc.length else acc.length+1)=(if val i∈acc then acc else acc++[val i]).length:=by
   by_cases hm:val i∈acc
   ·simp [hm]
   ·simp [hm]
  have e1:(fun x=>decide (x∈acc) || decide (x=val i))=(fun x=>decide (x∈(if val i∈acc then acc else acc++[val i]))):=by
   funext x
   by_cases hm:val i∈acc
   ·simp only [if_pos hm]
    by_cases hx:x=val i
    ·subst hx; simp [hm]
    ·simp [hx]
   ·simp [hm,Bool.decide_or]
  have hS3:=Zb (h' :=h2) hS2 (fun o e=>e) e1 e2
  refine wpAny_pure ⟨plainId_quiet F.plain_set_update_loop _,ih (i+1) _ _ (by omega) (by omega) ?_ (W.frame _ h1 _ hst1 fun b hb o e=> ?_) hS3 fun h3 tk3 hk3 hS4=> ?_⟩
  ·split
   ·omega
   ·rw [List.length_append,List.length_singleton]; omega
  ·exact (hsb.2 b (fun z:b=S=>hSf (z ▸ hb))).trans e
  ·rw [List.range'_succ,List.map_cons] at hR
   refine hR h3 tk3 (fun b o hb e=>hk3 b o hb ?_) hS4
   exact (hsb.2 b (fun z:b=S=>hb (z ▸ List.mem_cons_self))).trans (hk1 b o (fun z=>hb (List.mem_cons_of_mem _ z)) e)
end
section
variable {prog:Program} {w:World} {A:Around} {E:Value->Shared->Prop} {s:Shared}
set_option maxRecDepth 100000 in
set_option maxHeartbeats 3200000 in
theorem wU {l:Addr} {its:List Value} {ys:List Str} {Q:Value->Shared->Prop} (hh:A.handled=none) (hl:s.heap.IsList l its.toArray) (hi:StrsAre its ys) (hb:its.length+1 < scanBound)
  (h:∀ (h' :Heap) (tk:Nat),h'.SetOf (strKind prog w) s.heap.objs.size (fun x=>decide (x∈dd [] ys)) (dd [] ys).length->(∀ b o,b < s.heap.objs.size->s.heap.get? b=some o->h'.get? b=some o)->
   Q (.ref s.heap.objs.size) { s with heap:=h',toks:=tk }):wpAny (model prog w) A (call (.type "set") [.ref l]) Q E s:=by
 have getv:∀ {its:List Value} {ys:List Str},StrsAre its ys->its.length=ys.length/\∀ (i:Nat) (v:Value),its[i]? =some v->∃ t,v=Value.str (ys.getD i ⟨#[]⟩) t:=fun {its ys} hi=>by
  induction hi with
  | nil=>exact ⟨rfl,fun i v e=>by simp at e⟩
  | cons y t _ ih=>
   refine ⟨by simp [ih.1],fun i v e=> ?_⟩
   cases i with
   | zero=>exact ⟨t,by simpa using e.symm⟩
   | succ i=>exact ih.2 i v (by simpa using e)
 obtain ⟨hlen,hget⟩:=getv hi
 have hys:(List.range' 0 its.length).map (fun i=>ys.getD i ⟨#[]⟩)=ys:=by
  rw [hlen]
  refine List.ext_getElem? fun i=> ?_
  rw [List.getElem?_map]
  by_cases hi' :i < ys.length
  ·rw [List.getElem?_range' hi',List.getElem?_eq_getElem hi']
   simp [List.getElem?_eq_getElem hi']
  ·rw [List.getElem?_eq_none (by simp; omega),List.getElem?_eq_none (by omega)]
   rfl
 obtain ⟨c,tl,hmro⟩:=F.called_set.mro
 have hmade:=F.called_set.made
 have hsub:=F.called_set.sub
 have h1:=F.called_set.notType
 have h2:=F.called_set.canCreate
 have hct:=F.typeCall_set_1 (.ref l)
 refine wpAny_call (codeAny_of_tree (show wpAny _ _ (callAny (.type "set") _) _ _ _ from ?_))
 refine wpAny_pure ⟨Code.quiet_builtin _ (by decide+kernel),codeAny_builtin F.entry_type_call ?_⟩
 rw [Around.under_plain (weight_type_call_type "set" [.ref l] []) rfl]
 repeat any_goals (first | assumption | wp_step)
 refine codeAny_mono (code_set_new_1 (.ref l) (E:=E) (Q₁:=fun obj s₁=>∃ led:Bool,obj= .ref s.heap.objs.size/\s₁={ s with heap:=s.heap.push { cls:= .type "set",dict:=none,data:= .set #[] 0 (.fresh 0 0 led) } }) fun led=>⟨led,rfl,rfl⟩) fun r s₁ hr=> ?_
 cases r with
 | error e=>exact hr
 | ok fl=>
  cases fl with
  | ret obj=>
   obtain ⟨led,rfl,rfl⟩:=hr
   generalize hG:s.heap.push { cls:= .type "set",dict:=none,data:= .set #[] 0 (.fresh 0 0 led) }=G
   have hS:G.get? s.heap.objs.size=some { cls:= .type "set",dict:=none,data:= .set #[] 0 (.fresh 0 0 led) }:=by rw [← hG]; exact Heap.get?_push_size _ rfl
   have hGs:G.objs.size=s.heap.objs.size+1:=by rw [← hG,Heap.size_push]
   have hGk:∀ b o,s.heap.get? b=some o->G.get? b=some o:=fun b o e=>by rw [← hG]; exact Heap.get?_push_of_some _ e
   have hT:Shared.TypeIs { s with heap:=G } (.ref s.heap.objs.size) "set":=⟨_,hS,rfl⟩
   have hli:=F.called_set.init.lookup
   have hbi:=F.called_set.init.bind (.ref s.heap.objs.size)
   repeat any_goals (first | assumption | wp_step)
   refine codeAny_mono (codeAny_call_builtin (R:=wants (fun r s₂=>r= .none/\∃ h' tk,s₂={ s with heap:=h',toks:=tk }/\h'.SetOf (strKind prog w) s.heap.objs.size (fun x=>decide (x∈dd [] ys)) (dd [] ys).length/\
     (∀ b o,b < s.heap.objs.size->s.heap.get? b=some o->h'.get? b=some o)) E) F.called_set.init.plain F.entry_set_init (check_set_init_1 hT ?_)) fun r₂ s₂ hr₂=> ?_
   ·obtain ⟨⟨ocls,odict,odata,oslots⟩,hol,hcl,nl,hdl⟩:=hl
    simp only at hcl hdl
    subst hcl; subst hdl
    have hol' :=hGk _ _ hol
    have hsls:=F.sub_list_set
    have hslf:=F.sub_list_frozenset
    have hne:(Value.type "list" == Value.type "dict")=false:=by decide
    have hl1:G.IsList l its.toArray:=⟨_,hol',rfl,nl,rfl⟩
    have hlS:l < s.heap.objs.size:=Heap.lt_size hol
    unfold Builtin.«set.__init__» noKeywords Builtin.Frozenset.updateFrom
    generalize hPI:pyIter=PI
    wp_walk
    subst hPI
    refine wpAny_pyIter_list hl1 (wpAny_bind (wpAny_runValue ?_))
    have hSf:s.heap.objs.size ∉ [G.objs.size,l]:=by
     rw [hGs]
     intro z
     rcases List.mem_cons.mp z with z | z
     ·exact absurd z (Nat.ne_of_lt (Nat.lt_succ_self _))
     ·exact absurd (List.mem_singleton.mp z) (Nat.ne_of_gt hlS)
    refine WN (Walks.list (A:=A.in1.in1.in1) (by simp [hh]) G.objs.size l (by rw [hGs]; exact Nat.ne_of_lt (Nat.lt_succ_of_lt hlS)) its.toArray) s.heap.objs.size hSf (fun i=>ys.getD i ⟨#[]⟩) (fun i v e=>hget i v (by simpa using e)) (by simpa using hb) its.length 0 [] _ (by simp) (Nat.zero_le _) (Nat.le_refl _)
     ⟨⟨_,Heap.get?_push_size _ rfl,rfl,rfl⟩,hl1.push _⟩ ?_ ?_
    ·have hget' :(G.push { cls:= .type "list_iterator",data:= .fields #[.ref l, .int 0 0] }).get? s.heap.objs.size=some { cls:= .type "set",dict:=none,data:= .set #[] 0 (.fresh 0 0 led) }:=Heap.get?_push_of_some _ hS
     exact Zb ((PyProof.Rows.setObjOf_fresh (knd:=strKind prog w) led).setOf hget' (by unfold scanBound; omega)) (fun o e=>e) (by funext x; simp) rfl
    ·intro h' tk' hm hS'
     rw [hys] at hS'
     refine wpAny_pure (show wpAny _ _ (ret Value.none) _ _ _ from wpAny_pure ⟨rfl,h',tk',rfl,hS',fun b o hb e=> ?_⟩)
     refine hm b o (fun z=> ?_) (Heap.get?_push_of_some _ (hGk b o e))
     rcases List.mem_cons.mp z with z | z
     ·exact absurd z (Nat.ne_of_lt hb)
     ·have z' :b=G.objs.size:=List.mem_singleton.mp z
      rw [hGs] at z'
      exact absurd z' (Nat.ne_of_lt (Nat.lt_succ_of_lt hb))
   ·cases r₂ with
    | error e=>exact hr₂
    | ok fl₂=>
     cases fl₂ with
     | ret r=>
      obtain ⟨rfl,h',tk,rfl,hS',hk'⟩:=hr₂
      repeat any_goals (first | assumption | wp_step)
      exact h _ _ hS' hk'
     | _=>exact hr₂.elim
  | _=>exact hr.elim
end
section
variable {X:Cx} {Y:Fx} {a b:Expr} {fa fb:En->R T} {pos pos' p p' :Pos}
theorem wV (hh:X.A.handled=none):Z2 X (.type "set") (fun vs H Q=>∃ l xs ts ys,vs=[.ref l]/\H l=some (.lst xs)/\zn H xs ts/\UU ts=some ys/\ts.length+1 < 4096/\
  ∀ q,H q=none->Q (.ref q) (upd H q (.ext fun h=>h.SetOf (strKind X.prog X.w) q (fun x=>decide (x∈dd [] ys)) (dd [] ys).length))):=by
 intro pins s σ H vs us Q I rv h
 obtain ⟨l,xs,ts,ys,rfl,hl,r,ey,hb,q⟩:=h
 obtain ⟨u,rfl,ru⟩:=ZF rv
 obtain rfl:u=Value.ref l:=ru
 obtain ⟨its,rv,pl,hln,_⟩:=zq I (.inl hl) r
 refine wU hh pl (JB r rv ey) (by unfold scanBound; omega) fun h' tk hS hk=> ?_
 refine ⟨.ref s.heap.objs.size,_,I.laid (t' :=tk) (fun b u e=>hk b u (Heap.lt_size e) e) (Nat.le_refl _) ?_,rfl,q _ (I.hok.fresh (Nat.le_refl _))⟩
 obtain ⟨o,es,ep,t,ho,rr⟩:=id hS
 exact ⟨hS,⟨o,ho⟩,fun h1 h2 ⟨o1,es1,ep1,t1,ho1,rr1⟩ e=>⟨o1,es1,ep1,t1,e _ ho1,rr1⟩⟩
theorem wW:Z2 X (.builtin "len") (fun vs H Q=>∃ q φ f n,vs=[.ref q]/\H q=some (.ext φ)/\(∀ h:Heap,φ h->h.SetOf (strKind X.prog X.w) q f n)/\Q (.int n) H):=by
 intro pins s σ H vs us Q I rv h
 obtain ⟨l,φ,f,n,rfl,hl,hφ,q⟩:=h
 obtain ⟨u,rfl,ru⟩:=ZF rv
 obtain rfl:u=Value.ref l:=ru
 obtain ⟨h1,_,_⟩:=(show zD X.prog X.w H s.heap l (.ext φ) from I.hok l _ hl)
 obtain ⟨o,es,ep,t,ho,hex,hd,_,_,hb,hf,hn⟩:=hφ _ h1
 refine call_len_set ho hex hd hf ?_ ⟨.int es.size,H,I.tok _,⟨_,rfl⟩,by rw [hn]; exact q⟩
 have:es.size < 4096:=hb
 omega
def Y6:T->R T
 | .lst ts=>match UU ts with
  | some ys=>if ts.length+1 < 4096 then .ok (.int (dd [] ys).length) else .bad
  | none=> .bad
 | _=> .bad
theorem Y7 (hh:X.A.handled=none) (gl:Gl X "len") (mg:X.mg "len"=none) (gl' :Gl X "set") (mg' :X.mg "set"=none) (ha:Zi X Y a fa) (hs:St1 X a:=by exact st1 rfl) (hs' :St1 X (.Call (.Name "set" p') [a] [] pos'):=by exact st1 rfl):
  Snd X Y (.Call (.Name "len" p) [.Call (.Name "set" p') [a] [] pos'] [] pos) (ap1 Y6 fa):= .mk fun ρ=>
 PE.imp (Z3 wW gl mg PySem.boot_len (zi (ww (wV hh) gl' mg' PyProof.Rows.Boot.«set» (zi (ha ρ) zB hs) (by decide) (by decide) hs rfl) zB hs') (by decide) (by decide) hs' rfl) fun σ H Q ⟨B,I,q⟩=>
  step I q fun t v H1 _ s1 r1 I1 q1=>by
   cases r1 with
   | @lst l xs ts h r=>
    have q1:Po Y rC _ H1 (match UU ts with | some ys=>if ts.length+1 < 4096 then .ok (.int (dd [] ys).length) else .bad | none=> .bad) Q:=q1
    split at q1
    ·rename_i ys e
     split at q1
     ·rename_i hl
      refine ⟨l,xs,ts,ys,rfl,h,r,e,hl,fun z hz=>⟨z,_,_,_,rfl,zg,fun h hh=>hh, ?_⟩⟩
      exact q1 _ _ (zh.new hz _) (.int _)
     ·exact q1.elim
    ·exact q1.elim
   | _=>exact q1.elim
end
theorem Y8 {X:Cx} {E:XK}:zJ CX0 X E:=fun _ _ _ _ _ _ _ h=>h.elim
section
variable {X:Cx} {Y:Fx} {a b:Expr} {fa fb:En->R T} {pos pos' p p' :Pos}
theorem Uf {cl:Nat->Value} {k j n:Nat} {f:Addr} {fd:FuncData} {ps:List Str} {g:List T->R T} {x:Str} {es:List Expr} {ga:En->R (List T)} (hy:Y.cl=cl) (F:zA X.prog X.w X.K X.mg X.base CX0 j f fd ps (spP cl n g)) (hr:Z1 k X.A) (hj:j<=k) (gl:Gl X x)
  (mg:X.mg x=some (.ref f)) (kp:PySem.W.keepIn X.K (.ref f)=true) (bd:L2.Binds X.K fd ps []) (ha:jX X Y (a :: es) ga) (hd:(x == ("__debug__":Str))=false:=by decide)
  (hs:starEach (a :: es) X.env=(false,eval a X.env) :: starEach es X.env:=by exact zv rfl) (hz:((backTo pos (starEach es X.env)).any fun x=>x.fst)=false:=by exact zH rfl):Snd X Y (.Call (.Name x p) (a :: es) [] pos) (za n g ga):=by
 subst hy
 exact um F (hr.mono hj) gl mg kp bd Y8 ha hd hs hz
theorem jn {x:Str} {i:Int} {u:Value} (gl:Gl X x) (mg:X.mg x=some u) (hu:∃ t,u=Value.int i t) (hd:(x == ("__debug__":Str))=false:=by decide):Snd X Y (.Name x pos) (cE (.int i)):= .mk fun ρ=>
 PE.imp (wd (v:= .int i) gl mg hu hd) fun σ H Q ⟨B,I,q⟩=>zZ I q (.int i)
end
def YZ (scope sc0:Scope):Bool:=(scope.kind == .function) && scope.names.all (fun x=>x.2 != .cell) && scope.names.all (fun x=>x.2 != .local || scope.names.lookup x.1 == some .local) &&
 scope.names.all (fun x=>x.2 != .free || sc0.names.lookup x.1 == some .cell || sc0.names.lookup x.1 == some .free)
theorem uv {X:Cx} {scope:Scope} (sc0:Scope) (h0:X.env.scope=sc0) (h:YZ scope sc0=true):CSc X scope:=by
 unfold YZ at h
 simp only [Bool.and_eq_true,List.all_eq_true] at h
 obtain ⟨⟨⟨h1,h2⟩,h3⟩,h4⟩:=h
 refine ⟨eq_of_beq h1,fun x hx=>by simpa using h2 x hx,fun x hx hl=> ?_,fun x hx hf=> ?_⟩
 ·have:=h3 x hx
  rw [hl] at this
  simpa using this
 ·have:=h4 x hx
  rw [hf] at this
  show X.env.scope.names.lookup x.1=_\/X.env.scope.names.lookup x.1=_
  rw [h0]
  simpa using this
def qa (N N' :List Str) (scope sc0:Scope) (k:Nat) (js:List Nat):Bool:=(N'.length == k+js.length) && (List.range js.length).all fun i=>match js[i]? with
 | none=>true
 | some j=>match N'[k+i]?,N[j]? with
  | some x,some y=>(x == y) && (sc0.names.lookup x == some .cell || sc0.names.lookup x == some .free) && (scope.names.lookup x == some .free)
  | _,_=>false
theorem wX {X:Cx} {scope:Scope} {N' :List Str} {k:Nat} {js:List Nat} (N:List Str) (sc0:Scope) (hN:X.N=N) (h0:X.env.scope=sc0) (h:qa N N' scope sc0 k js=true):Y2 X scope N' k js:=by
 unfold qa at h
 simp only [Bool.and_eq_true,List.all_eq_true] at h
 obtain ⟨h1,h2⟩:=h
 refine ⟨eq_of_beq h1,fun i j e=> ?_⟩
 have hi:i < js.length:=(List.getElem?_eq_some_iff.mp e).1
 have q:=h2 i (List.mem_range.mpr hi)
 rw [e] at q
 dsimp only at q
 split at q
 ·rename_i x y e1 e2
  simp only [Bool.and_eq_true,Bool.or_eq_true,beq_iff_eq] at q
  obtain ⟨⟨rfl,q2⟩,q3⟩:=q
  refine ⟨x,e1,by rw [hN]; exact e2, ?_,q3, ?_⟩
  ·unfold Vis
   rw [h0]
   exact .inr q2
  ·show X.env.scope.names.lookup x=_\/X.env.scope.names.lookup x=_
   rw [h0]
   exact q2
 ·cases q
theorem Zc {X:Cx} {Y:Fx} {tg iter elt:Expr} {ifs:List Expr} {scope:Scope} {k:Nat} {js:List Nat} {fi:En->R (List T)} {tG:TG} {g:T->En->R En} {ft:En->R Bool} {fe:En->R T} (N' :List Str) (N:List Str) (sc0:Scope) (hN:X.N=N) (h0:X.env.scope=sc0)
  (h:(YZ scope sc0 && qa N N' scope sc0 k js)=true) (cm:X.calm=true) (it:wb X Y tg iter fi) (gt:UT X scope N' fun XC=>PG XC tg tG) (gk:GOk tG g) (gn:GNo g) (tt:∀ Y',Y'.cl=Y.cl->UT X scope N' fun XC=>JX XC Y' ifs ft)
  (el:∀ Y',Y'.cl=Y.cl->Q9 X scope N' Y'.E fun XC=>Snd XC Y' elt fe) (hs:∀ x,foldedSetIterable iter X.env x=pure x:=by intro _; rfl):wS X Y tg iter elt ifs scope N' k js fi tG g ft fe:=by
 rw [Bool.and_eq_true] at h
 exact ⟨uv sc0 h0 h.1,wX N sc0 hN h0 h.2,cm,it,gt,gk,gn,tt,el,hs⟩
end PV
namespace PV
open PySem PySem.Spec PyProof.Rows L2 PySem.W
section
variable {X:Cx} {Y:Fx} {a b:Expr} {fa fb:En->R T} {pos pos' p p' :Pos}
theorem Ug {cl:Nat->Value} {k j n:Nat} {f:Addr} {fd:FuncData} {ps:List Str} {g:List T->R T} {x:Str} {es:List Expr} {ga:En->R (List T)} (hy:Y.cl=cl) (hp:zJ (CX1 X.prog X.w) X Y.E) (F:zA X.prog X.w X.K X.mg X.base (CX1 X.prog X.w) j f fd ps (spP cl n g)) (hr:Z1 k X.A) (hj:j<=k) (gl:Gl X x)
  (mg:X.mg x=some (.ref f)) (kp:PySem.W.keepIn X.K (.ref f)=true) (bd:L2.Binds X.K fd ps []) (ha:jX X Y (a :: es) ga) (hd:(x == ("__debug__":Str))=false:=by decide)
  (hs:starEach (a :: es) X.env=(false,eval a X.env) :: starEach es X.env:=by exact zv rfl) (hz:((backTo pos (starEach es X.env)).any fun x=>x.fst)=false:=by exact zH rfl):Snd X Y (.Call (.Name x p) (a :: es) [] pos) (za n g ga):=by
 subst hy
 exact um F (hr.mono hj) gl mg kp bd hp ha hd hs hz
end
def ZT (c:Nat):En->RS:=fun _=> .ex c
section
variable {P:Program} {w:World} {K:PySem.W.Frag} {mg:Str->Option Value} {base:Heap} {N:List Str} {qual:Str} {scope:Scope} {f:Addr} {cd:Value} {A:Around} {outer:List Env} {s:Shared} {H:Hp} {E:XK} {Y:Fx}
theorem jo {x m:Str} {C:Addr} {bm bmN:List Value} {Bn Bb newId nid initId inN:String} {np cpos pos ap:Pos} {j c:Nat} (O:OwnCls x C bm newId mg base) (Fn:ExcBaseFacts Bn newId inN bmN) (hBn:bm.contains (.type Bn)=true) (FB:ExcBaseFacts Bb nid initId bm)
  (hY:Y.E=E) (hc:Y.cl c= .ref C) (hg:Gl (Zx (CX1 P w) P w K mg base N qual scope f cd A outer s H E) x) (hd:(x == ("__debug__":Str))=false:=by decide):
  jO (Zx (CX1 P w) P w K mg base N qual scope f cd A outer s H E) Y (.Raise (some (.Call (.Name x np) [.Constant (.str m) j ap] [] cpos)) none pos) (ZT c):= .mk fun ρ=>by
 subst hY
 refine PS.imp (wA O Fn hBn FB hg ((uj yC yD:jX (Zx (CX1 P w) P w K mg base N qual scope f cd A outer s H Y.E) Y [.Constant (.str m) j ap] _) ρ) (zv rfl) hd) fun D σ H1 ⟨B,I,q⟩=>⟨B,I,fun vs H2 s2 r2=> ?_⟩
 have q:XP Y B c:=q
 refine ⟨?_, ?_⟩
 ·rw [r2.length]; exact (by decide:1<=sizeLine)
 ·have:=q none H2 (I.sH.trans s2) (I.sB.trans s2)
  rw [hc] at this
  exact this
theorem Fun.okX {x qual:Str} {st:Stmt} {f:Addr} {fd:FuncData} {N ps:List Str} {k:Nat} {sp:Sp} (F:Fun K x qual st f fd) (S:zc N ps (z9 st)) (len:∀ vs H Q E,sp vs H Q E->vs.length=ps.length)
  (hbody:∀ (cdv:Value) (A:Around) (outer:List Env) (s:Shared) (H:Hp) (vs:List V) (Q:VK) (E:XK),Z1 k (A.deeper (envOfC qual (z9 st) s.heap.objs.size f cdv))->sp vs H Q E->
   ∃ t,PSs (Zx (CX1 P w) P w K mg base N qual (z9 st) f cdv A outer s H E) (zo st) t/\t { nx:=fun _ H' =>Q .non H',rt:=Q } (start N vs) H):zA P w K mg base (CX1 P w) (k+1) f fd ps sp:=by
 obtain ⟨oc,od,kV,doc,pm,an,cdv,ct,osl,rfl,lk,hcd⟩:=F.ex
 exact uK lk hcd S len fun A outer s H vs Q E hr hsp=>hbody cdv A outer s H vs Q E hr hsp
theorem Z0 {cl:Nat->Value} {x qual:Str} {st:Stmt} {f:Addr} {fd:FuncData} {N ps:List Str} {k n:Nat} {fb:En->RS} {g:List T->R T} (F:Fun K x qual st f fd) (S:zc N ps (z9 st)) (hn:n=ps.length)
  (hb:∀ (cdv:Value) (A:Around) (outer:List Env) (s:Shared) (H:Hp) (E:XK) (Y:Fx),Y.cl=cl->Y.E=E->Z1 k (A.deeper (envOfC qual (z9 st) s.heap.objs.size f cdv))->
   Jb (Zx (CX1 P w) P w K mg base N qual (z9 st) f cdv A outer s H E) Y (zo st) fb)
  (hg:∀ ts,ts.length=n->g ts=zl (fb (en0 N.length ts))):zA P w K mg base (CX1 P w) (k+1) f fd ps (spP cl n g):=by
 subst hn
 refine Fun.okX F S spP.len fun cdv A outer s H vs Q E hr ⟨B,ts,hl,sB,r,q⟩=> ?_
 refine ⟨_,hb cdv A outer s H E ⟨B,H,E,cl⟩ rfl rfl hr (en0 N.length ts),B,SI.start (Y:=⟨B,H,E,cl⟩) sB r, ?_⟩
 rw [hg ts hl] at q
 revert q
 cases fb (en0 N.length ts) with
 | rt t=>exact fun q v H' s r=>q v H' s r
 | rf t=>exact fun q a xs H' B' s0 n e r _ l=>q (.ref a) H' s0 (.lst (by rw [zy n]; exact e) (r.mono l))
 | nx ρ=>exact fun q σ' H' B' s' I' =>q _ H' I'.sH .non
 | bk ρ=>exact fun q=>q.elim
 | ct ρ=>exact fun q=>q.elim
 | ex c=>exact fun q=>q
 | bad=>exact fun q=>q
end
end PV
namespace PySem.W
open PySem PySem.Calls PyProof.Rows PySem.Spec Builtin Builtin.ObjectAttr Builtin.Getset_descriptor
section
variable {prog:Program} {w:World} {A:Around} {E:Value->Shared->Prop} {s:Shared} {K:Frag} {x C:Addr}
theorem jQ {tp:Value} {R:Result->Shared->Prop} (X:K.In s.heap) (L0:Looks (model prog w) s.heap (typeOf (.ref x)) (.ref C)) (hm:mroIn K C (.type "object")=some true)
  (h:R (.ok (.ret (.ref C))) s):codeAny (model prog w) A (.call (.builtin "getset_descriptor.__get__") ⟨[.builtin "object.__class__", .ref x,tp],[]⟩) R s:=by
 obtain ⟨hh,g,dr,t,os⟩:=s
 have L1:=looks_mroIn (M:=model prog w) X hm
 refine codeAny_call_builtin KF.slot_gs.plain KF.entry_gs (KF.slot_gs.check _ _ _ _ _ _ _ _ KF.type_class (KF.args_gs _ _ _) ?_)
 unfold Builtin.«getset_descriptor.__get__» descrGet
 rw [dga_obj]
 refine wpAny_bind (wpAny_pure ?_)
 unfold descrGetter descrCheckInstance descrNameAndClass isInstance
 simp only [KF.owner_class]
 repeat lk
 refine ⟨Code.quiet_builtin _ (by decide+kernel),codeAny_builtin KF.entry_class ?_⟩
 unfold Builtin.«object.__class__» shownTypeOf
 repeat lk
 exact h
theorem Uh {M:Model} {h:Heap} (X:K.In h) (ha:findIn K (.ref C) "__class__"=some (some (.builtin "object.__class__"))) (hn:specialIn K (.builtin "object.__class__") "__get__"=some (some (.builtin "getset_descriptor.__get__")))
  (htk:takesIn K (.builtin "object.__class__")=some true):Looks M h (find (.ref x) (.ref C) "__class__") (.bind (.builtin "getset_descriptor.__get__") (.builtin "object.__class__")):=by
 have L1:=looks_findIn (M:=M) X ha
 have L2:Looks M h (getOf (some (.builtin "object.__class__"))) (some (.builtin "getset_descriptor.__get__")):=looks_specialIn X hn
 have L3:=looks_takesIn (M:=M) X htk
 refine L1.andThen (L2.andThen ?_)
 exact (show Looks M h (dataDescriptor? (some (.builtin "object.__class__")) (some (.builtin "getset_descriptor.__get__"))) (some (.builtin "getset_descriptor.__get__", .builtin "object.__class__")) from L3.andThen .now).andThen (Looks.tag .now)
theorem WO {M:Model} {nameV:Value} {Q:Unit->Shared->Prop} (L0:Looks M s.heap (typeOf (.ref x)) (.ref C)) (L1:Looks M s.heap (isSubtype (.ref C) (.type "BaseException")) true) (hq:Q () s):wpAny M A (checkBuiltinCall "BaseException.__getattribute__" ⟨[.ref x,nameV],[]⟩) Q E s:=by
 have hk:builtinKind "BaseException.__getattribute__"=some .slot:=by decide+kernel
 have hsplit:splitId "BaseException.__getattribute__"=some ("BaseException","__getattribute__"):=by decide+kernel
 have ha:=PySem.F.args_bexc_ga (.ref x) nameV
 obtain ⟨hh,g,d,t,os⟩:=s
 simp only [checkBuiltinCall,hk,hsplit]
 refine wpAny_bind ?_
 unfold isInstance
 repeat (first | lk | wp_step)
 exact hq
end
end PySem.W
namespace PySem.W
open PySem PySem.Calls PyProof.Rows PySem.Spec Builtin Builtin.ObjectAttr Builtin.Getset_descriptor
section
variable {prog:Program} {w:World} {A:Around} {E:Value->Shared->Prop} {s:Shared} {K:Frag} {x C:Addr}
structure XCls (K:Frag) (C:Addr):Prop where
 ga:findIn K (.ref C) "__getattribute__"=some (some (.builtin "BaseException.__getattribute__"))
 gt:findIn K (.ref C) "__getattr__"=some none
 ca:findIn K (.ref C) "__class__"=some (some (.builtin "object.__class__"))
 sp:specialIn K (.builtin "object.__class__") "__get__"=some (some (.builtin "getset_descriptor.__get__"))
 tk:takesIn K (.builtin "object.__class__")=some true
 ob:mroIn K C (.type "object")=some true
 be:mroIn K C (.type "BaseException")=some true
 cl:(clsIn K C).isSome=true
theorem WP {tk:Tok} {Q:Fin->Shared->Prop} (X:K.In s.heap) (c:XCls K C) (L0:Looks (model prog w) s.heap (typeOf (.ref x)) (.ref C)) (hq:Q (.done (.ret (.ref C))) s):
  wpAny (model prog w) A (Builtin.«object.__getattribute__» ⟨[.ref x, .str "__class__" tk],[]⟩) Q E s:=by
 obtain ⟨hh,g,d,t,os⟩:=s
 have L1:=Uh (M:=model prog w) (x:=x) X c.ca c.sp c.tk
 refine wpAny_bind (wpAny_pure (wpAny_bind (wpAny_pure (wpAny_bind (L0.at (wpAny_bind (L1.at ?_)))))))
 show wpAny _ _ (bindTo _ _ _ _) _ _ _
 unfold bindTo
 refine wpAny_bind (wpAny_call (jQ X L0 c.ob ?_))
 exact wpAny_pure hq
end
end PySem.W
namespace PySem.W
open PySem PySem.Calls PyProof.Rows PySem.Spec Builtin Builtin.ObjectAttr Builtin.Getset_descriptor
section
variable {prog:Program} {w:World} {A:Around} {E:Value->Shared->Prop} {s:Shared} {K:Frag} {x C:Addr}
theorem WQ {Q:Option Value->Shared->Prop} (X:K.In s.heap) (c:XCls K C) (L0:Looks (model prog w) s.heap (typeOf (.ref x)) (.ref C)) (h:Q (some (.ref C)) { s with toks:=s.toks+1 }):wpAny (model prog w) A (getAttr? (.ref x) "__class__") Q E s:=by
 obtain ⟨hh,g,d,t,os⟩:=s
 have L1:=looks_findIn (M:=model prog w) X c.ga
 have L2:=looks_findIn (M:=model prog w) X c.gt
 have L3:=looks_mroIn (M:=model prog w) X c.be
 have fb:=PySem.F.attr_ValueError.ga.bind (.ref x)
 unfold getAttr? getAttrBy? getAttrBy
 refine wpAny_bind (wpAny_mkText (wpAny_bind (wpAny_attempt (wpAny_holding (wpAny_bind (L0.at (wpAny_bind (L1.at ?_))))))))
 dsimp only
 have hx2:(Value.builtin "BaseException.__getattribute__" == Value.builtin "object.__getattribute__")=false:=by decide+kernel
 rw [if_neg (by rw [hx2]; simp)]
 unfold getAttrByItsOwn hookBefore
 refine wpAny_bind ?_
 rw [if_pos (by rfl)]
 refine L2.at ?_
 refine wpAny_bind (wpAny_attempt (wpAny_holding ?_))
 unfold callGetattribute
 rw [if_neg (by simp)]
 unfold boundAndCalled
 rw [fb]
 refine wpAny_bind (wpAny_pure ?_)
 refine wpAny_call (codeAny_call_builtin PySem.F.attr_ValueError.ga.plain PySem.F.entry_bexc_ga (WO (s:=⟨hh,g,d,t+1,os⟩) L0 L3 (WP (s:=⟨hh,g,d,t+1,os⟩) X c L0 ?_)))
 exact handed_on rfl (wpAny_pure h)
theorem Ui (c:XCls K C):KitX K (.ref x) (.ref C) (fun h=>∃ o,h.get? x=some o/\o.cls= .ref C) where
 ty:=fun M h _ ⟨o,h1,h2⟩=>h2 ▸ (Looks.ld h1).andThen .now
 it:=fun _ _ X _=>by
  obtain ⟨cdD,hcD⟩:=Option.isSome_iff_exists.mp c.cl
  unfold clsIn at hcD
  split at hcD
  ·rename_i c' d' cd' sl' ho
   intro A' Q' E' s' k q
   unfold isType loadHead
   exact wpAny_bind (wpAny_loadPart (k _ _ (X _ _ ho)) (wpAny_pure q))
  ·cases hcD
 ne:=fun h tp dd its n sl X htp=>by
  obtain ⟨cdD,hcD⟩:=Option.isSome_iff_exists.mp c.cl
  refine Bool.eq_false_iff.mpr fun q=> ?_
  have e:C=tp:=Value.ref.inj (beq_iff_eq.mp q)
  subst e
  unfold clsIn at hcD
  split at hcD
  ·rename_i c' d' cd' sl' ho
   have z:=(X _ _ ho).symm.trans htp
   cases z
  ·cases hcD
 ca:=fun {prog w A E Q s} X ⟨o,h1,h2⟩ k=>WQ X c (h2 ▸ (Looks.ld h1).andThen .now) k
end
end PySem.W
namespace PV
open PySem PySem.Spec PyProof.Rows L2 PySem.W
section
variable {X:Cx} {Y:Fx} {a b:Expr} {fa fb:En->R T} {pos pos' p p' :Pos}
def ZK (i:Nat) (ok tab:Nat->Bool):En->R T:=fun ρ=>match ρ[i]? with
 | some (.xc c)=>if ok c=true then .ok (.bl (tab c)) else .bad
 | _=> .bad
theorem jR:Z2 X (.builtin "isinstance") (fun xs H Q=>∃ a C v b,xs=[.ref a,v]/\H a=some (.ext (Js (.ref C) a))/\XCls X.K C/\(∀ u,zF v u->kitOne X.K (.ref C) u=some b)/\Q (.bl b) H):=by
 intro pins s σ H xs us Q I rv h
 obtain ⟨a,C,v,b,rfl,e,c,hk,q⟩:=h
 obtain ⟨u,w,rfl,ru,rw'⟩:=wp rv
 obtain rfl:u=Value.ref a:=ru
 obtain ⟨hx,_,_⟩:=(show zD X.prog X.w H s.heap a (.ext (Js (.ref C) a)) from I.hok a _ e)
 exact kia_one (Ui c) I.kIn hx (hk w rw') (fun z=>nomatch z) fun tk=>⟨.bl _,H,I.tok tk,rfl,q⟩
structure XK1 (K:Frag) (cl:Nat->Value) (ok:Nat->Bool):Prop where
 at_:∀ c,ok c=true->∃ C,cl c= .ref C/\XCls K C
theorem Zk {i:Nat} {ok tab:Nat->Bool} {y cn:Str} {C:Addr} {yp cp:Pos} (hK:XK1 X.K Y.cl ok) (ht:∀ c,ok c=true->kitOne X.K (Y.cl c) (.ref C)=some (tab c)) (gl:Gl X "isinstance") (mg:X.mg "isinstance"=none) (hv:PE X (.Name y yp) (Wj i)) (gl' :Gl X cn) (mg' :X.mg cn=some (.ref C))
  (hd:(cn == ("__debug__":Str))=false:=by decide):Snd X Y (.Call (.Name "isinstance" p) [.Name y yp, .Name cn cp] [] pos) (ZK i ok tab):= .mk fun ρ=>
 PE.imp (Z3 jR gl mg PyProof.Rows.Boot.«isinstance» (zi hv (zi (wd (v:= .ref C) gl' mg' rfl hd) zB (st1 rfl)) (st2 rfl rfl)) (by decide) (by decide) (by rw [st2 rfl rfl,st1 rfl]) (zH rfl)) fun σ H Q ⟨B,I,q⟩=>by
  unfold ZK at q
  split at q
  ·rename_i c e
   split at q
   ·rename_i hc
    obtain ⟨a,e1,r⟩:=I.xc i c e
    obtain ⟨Cc,e2,xc⟩:=hK.at_ c hc
    have ht' :=ht c hc
    rw [e2] at r ht'
    exact ⟨_,e1,a,Cc,_,_,rfl,I.sB a _ r,xc,fun u ru=>by obtain rfl:u=Value.ref C:=ru; exact ht',zZ I q (.bl _)⟩
   ·exact q.elim
  ·exact q.elim
theorem Uj {i:Nat} {ok tab:Nat->Bool} {y:Str} {n:String} {yp cp:Pos} (hK:XK1 X.K Y.cl ok) (ht:∀ c,ok c=true->kitOne X.K (Y.cl c) (.type n)=some (tab c)) (gl:Gl X "isinstance") (mg:X.mg "isinstance"=none) (hv:PE X (.Name y yp) (Wj i)) (gl' :Gl X (Str.ofString n)) (mg' :X.mg (Str.ofString n)=none)
  (bt:bootBuiltins (Str.ofString n)=some (.type n)) (hn:Str.ofString n ≠ "__name__":=by decide) (hd:(Str.ofString n == ("__debug__":Str))=false:=by decide):Snd X Y (.Call (.Name "isinstance" p) [.Name y yp, .Name (Str.ofString n) cp] [] pos) (ZK i ok tab):= .mk fun ρ=>
 PE.imp (Z3 jR gl mg PyProof.Rows.Boot.«isinstance» (zi hv (zi (jg (v:= .ty n) gl' mg' bt rfl hn hd) zB (st1 rfl)) (st2 rfl rfl)) (by decide) (by decide) (by rw [st2 rfl rfl,st1 rfl]) (zH rfl)) fun σ H Q ⟨B,I,q⟩=>by
  unfold ZK at q
  split at q
  ·rename_i c e
   split at q
   ·rename_i hc
    obtain ⟨a,e1,r⟩:=I.xc i c e
    obtain ⟨Cc,e2,xc⟩:=hK.at_ c hc
    have ht' :=ht c hc
    rw [e2] at r ht'
    exact ⟨_,e1,a,Cc,_,_,rfl,I.sB a _ r,xc,fun u ru=>by obtain rfl:u=Value.type n:=ru; exact ht',zZ I q (.bl _)⟩
   ·exact q.elim
  ·exact q.elim
def spC (cl:Nat->Value) (gx:Nat->R T):Sp:=fun vs H Q E=>∃ B a c,vs=[V.ref a]/\zh B H/\B a=some (.ext (Js (cl c) a))/\Po ⟨B,H,E,cl⟩ rC B H (gx c) Q
end
section
variable {P:Program} {w:World} {K:PySem.W.Frag} {mg:Str->Option Value} {base:Heap}
def enC (n c:Nat):En:= .xc c :: List.replicate (n - 1) .un
theorem SI.startC {Y:Fx} {N:List Str} {a:Addr} {c:Nat} (s:zh Y.B0 Y.H0) (hN:1<=N.length) (r:Y.B0 a=some (.ext (Js (Y.cl c) a))):SI Y Y.B0 (enC N.length c) (L2.start N [V.ref a]) Y.H0 where
 s0:=s
 sH:=zh.refl _
 sB:=s
 old:=fun _ _ _=>rfl
 len:=by unfold enC L2.start; simp
 vl:=fun i t h=>by
  unfold enC at h
  cases i with
  | zero=>cases h
  | succ i=>rw [List.getElem?_cons_succ,List.getElem?_replicate] at h; split at h <;> cases h
 ow:=fun i t h=>by
  unfold enC at h
  cases i with
  | zero=>cases h
  | succ i=>rw [List.getElem?_cons_succ,List.getElem?_replicate] at h; split at h <;> cases h
 xc:=fun i d h=>by
  unfold enC at h
  cases i with
  | zero=>
   cases h
   exact ⟨a,by unfold L2.start; rfl,r⟩
  | succ i=>rw [List.getElem?_cons_succ,List.getElem?_replicate] at h; split at h <;> cases h
end
end PV
namespace PySem.ZG
open PySem PySem.Spec PySem.Builtin.SmallTypes
structure Jf (i:Addr) (fp:List Addr) (v:Nat->Option Value) (St:Nat->Heap->Prop):Prop where
 mem:i∈fp
 item:∀ {prog:Program} {w:World} {A:Around} {E:Value->Shared->Prop} {s:Shared} {Q:Value->Shared->Prop} {k:Nat} {x:Value},St k s.heap->v k=some x->(∀ h',St (k+1) h' ->Heap.SameBut i s.heap h' ->Q x { s with heap:=h' })->wpAny (model prog w) A (nextOf (.ref i)) Q E s
 stop:∀ {prog:Program} {w:World} {A:Around} {E:Value->Shared->Prop} {s:Shared} {Q:Value->Shared->Prop} {k:Nat},A.handled=none->St k s.heap->v k=none->(∀ h' e,Heap.ExtBut i s.heap h' ->(∃ o,h'.get? e=some o/\o.cls= .type "StopIteration")->E (.ref e) { s with heap:=h' })->wpAny (model prog w) A (nextOf (.ref i)) Q E s
 keep:∀ {k:Nat} {h h' :Heap},St k h->(∀ b∈fp,∀ o,h.get? b=some o->h'.get? b=some o)->St k h'
 there:∀ {k:Nat} {h:Heap},St k h->∀ b∈fp,∃ o,h.get? b=some o
theorem Jf.but {i:Addr} {fp:List Addr} {v:Nat->Option Value} {St:Nat->Heap->Prop} (N:Jf i fp v St) {k:Nat} {h h' :Heap} {b:Addr} (x:St k h) (e:Heap.ExtBut b h h') (n:b ∉ fp):St k h' :=
 N.keep x fun c hc o q=>e c o (fun z=>n (z ▸ hc)) q
theorem Uk {i l:Addr} (hil:l ≠ i) (xs:Array Value):Jf i [i,l] (fun k=>xs[k]?) (fun k h=>h.IsListIter i l k/\h.IsList l xs) where
 mem:= .head _
 item:=fun st hx h=>wpAny_nextOf_list_item st.1 st.2 hx fun h' a b=>h h' ⟨a,st.2.extBut b.extBut hil⟩ b
 stop:=fun hh st hx h=>wpAny_nextOf_list_end hh st.1 st.2 hx h
 keep:=fun st k=>⟨st.1.at fun o e=>k i (.head _) o e,st.2.at fun o e=>k l (.tail _ (.head _)) o e⟩
 there:=fun st b hb=>by
  obtain ⟨⟨o,e,_⟩,o2,e2,_⟩:=st
  rcases List.mem_cons.mp hb with z | hb
  ·exact ⟨o,z ▸ e⟩
  ·exact ⟨o2,(List.mem_singleton.mp hb) ▸ e2⟩
end PySem.ZG
namespace PySem.ZG
open PySem PySem.Spec PySem.Builtin.SmallTypes
section
variable {prog:Program} {w:World} {A:Around} {E:Value->Shared->Prop} {s:Shared} {it l:Addr} {k:Nat} {xs:Array Value} {Q:Value->Shared->Prop}
theorem JC (hit:s.heap.IsTupleIter it l k) (h:wpAny (model prog w) A.in1 (Builtin.«tuple_iterator.__next__» ⟨[.ref it],[]⟩) (fun fin s' =>∃ v,fin= .done (.ret v)/\Q v s') E s):wpAny (model prog w) A (nextOf (.ref it)) Q E s:=by
 unfold nextOf
 exact wpAny_bind (wpAny_callSpecial?_slot (name:=Str.ofString "__next__") hit.typeIs PySem.F.slot_tuple_iterator_next (wpAny_call_entry PySem.F.slot_tuple_iterator_next hit.typeIs PySem.F.entry_tuple_iterator_next
  (wpAny_mono h (fun fin s' ⟨v,e,q⟩=>⟨v,e,wpAny_pure q⟩) fun _ _ z=>z) (PySem.F.args_tuple_iterator_next_1 _)))
theorem WR (hit:s.heap.IsTupleIter it l k) (ht:s.heap.IsTuple l xs) {x:Value} (hx:xs[k]? =some x) (h:∀ h',h'.IsTupleIter it l (k+1)->Heap.SameBut it s.heap h' ->Q x { s with heap:=h' }):wpAny (model prog w) A (nextOf (.ref it)) Q E s:=by
 refine JC hit ?_
 obtain ⟨o,ho,hc,hd⟩:=id hit
 obtain ⟨ol,hol,_,nl,hdl⟩:=ht
 refine wpAny_bind (m:=field (.ref it) 0) (wpAny_field ho hd (x:= .ref l) rfl ?_)
 rw [if_neg (show ¬((Value.ref l == Value.none)=true) by exact Bool.false_ne_true)]
 refine wpAny_bind (m:=field (.ref it) 1) (wpAny_field ho hd (x:= .int k 0) rfl (wpAny_bind (m:=seqItems? (.ref l)) (wpAny_seqItems hol hdl ?_)))
 simp only [Int.toNat_natCast,hx]
 have g:=Heap.get?_update_self (Obj.mapFields (·.setIfInBounds 1 (rawInt (k+1:Nat)))) ho (Obj.isFreed_of_fields (Obj.data_mapFields hd _))
 refine wpAny_bind (wpAny_setField ho hd (by simp) (wpAny_pure ⟨x,rfl,h _ ⟨_,g,(Obj.cls_mapFields ..).trans hc, ?_⟩ (Heap.SameBut.update ..)⟩))
 rw [Obj.data_mapFields hd]; simp [rawInt]
theorem WS (hh:A.handled=none) (hit:s.heap.IsTupleIter it l k) (ht:s.heap.IsTuple l xs) (hx:xs[k]? =none)
  (h:∀ h' e,Heap.ExtBut it s.heap h' ->(∃ o,h'.get? e=some o/\o.cls= .type "StopIteration")->E (.ref e) { s with heap:=h' }):wpAny (model prog w) A (nextOf (.ref it)) Q E s:=by
 refine JC hit ?_
 obtain ⟨o,ho,hc,hd⟩:=id hit
 obtain ⟨ol,hol,_,nl,hdl⟩:=ht
 refine wpAny_bind (m:=field (.ref it) 0) (wpAny_field ho hd (x:= .ref l) rfl ?_)
 rw [if_neg (show ¬((Value.ref l == Value.none)=true) by exact Bool.false_ne_true)]
 refine wpAny_bind (m:=field (.ref it) 1) (wpAny_field ho hd (x:= .int k 0) rfl (wpAny_bind (m:=seqItems? (.ref l)) (wpAny_seqItems hol hdl ?_)))
 simp only [Int.toNat_natCast,hx]
 refine wpAny_bind (wpAny_rule (wpAny_bind (wpAny_setField ho hd (by simp) (wpAny_bind (m:=newExc (.type "StopIteration") []) ?_))))
 simp only [newExc,newTuple]
 refine wpAny_bind (wpAny_newObj_type (wpAny_bind (m:=firstArgMember _ _) (wpAny_of_eq (a:=Value.none) (by first | rfl | (simp only [firstArgMember]; rfl)) (wpAny_newObj_type ?_ (by size_fits)))) (by size_fits))
 simp only [raiseNew]
 refine wpAny_bind (wpAny_handled ?_)
 rw [show A.in1.handled=none from hh]
 exact wpAny_bind (wpAny_pure (wpAny_throw (h _ _ (((Heap.SameBut.update ..).extBut.push _).push _) ⟨_,Heap.get?_push_size _ rfl,rfl⟩)))
end
theorem Y9 {i l:Addr} (hil:l ≠ i) (xs:Array Value):Jf i [i,l] (fun k=>xs[k]?) (fun k h=>h.IsTupleIter i l k/\h.IsTuple l xs) where
 mem:= .head _
 item:=fun st hx h=>WR st.1 st.2 hx fun h' a b=>h h' ⟨a,st.2.extBut b.extBut hil⟩ b
 stop:=fun hh st hx h=>WS hh st.1 st.2 hx h
 keep:=fun st k=>by
  obtain ⟨⟨o,e,r⟩,o2,e2,r2⟩:=st
  exact ⟨⟨o,k i (.head _) o e,r⟩,o2,k l (.tail _ (.head _)) o2 e2,r2⟩
 there:=fun st b hb=>by
  obtain ⟨⟨o,e,_⟩,o2,e2,_⟩:=st
  rcases List.mem_cons.mp hb with z | hb
  ·exact ⟨o,z ▸ e⟩
  ·exact ⟨o2,(List.mem_singleton.mp hb) ▸ e2⟩
end PySem.ZG
namespace PySem.ZG
open PySem PySem.Spec PySem.Builtin.SmallTypes
structure Ap (z TI TO i1 i2:Addr) (fp1 fp2:List Addr):Prop where
 Iz:TI ≠ z
 Oz:TO ≠ z
 IO:TI ≠ TO
 I1:TI ≠ i1
 I2:TI ≠ i2
 z1:z ∉ fp1
 z2:z ∉ fp2
 O1:TO ∉ fp1
 O2:TO ∉ fp2
 a:i1 ∉ fp2
 b:i2 ∉ fp1
section
variable {prog:Program} {w:World} {A:Around} {E:Value->Shared->Prop} {s:Shared} {z TI TO i1 i2:Addr} {fp1 fp2:List Addr} {v1 v2:Nat->Option Value} {S1 S2:Nat->Heap->Prop} {k:Nat} {x y a b:Value}
theorem Ap.ne1 (D:Ap z TI TO i1 i2 fp1 fp2) (N1:Jf i1 fp1 v1 S1):i1 ≠ z/\i1 ≠ TO:=⟨fun e=>D.z1 (e ▸ N1.mem),fun e=>D.O1 (e ▸ N1.mem)⟩
theorem Ap.ne2 (D:Ap z TI TO i1 i2 fp1 fp2) (N2:Jf i2 fp2 v2 S2):i2 ≠ z/\i2 ≠ TO:=⟨fun e=>D.z2 (e ▸ N2.mem),fun e=>D.O2 (e ▸ N2.mem)⟩
theorem Ul {Q:Value->Shared->Prop} (N1:Jf i1 fp1 v1 S1) (N2:Jf i2 fp2 v2 S2) (D:Ap z TI TO i1 i2 fp1 fp2) (hz:IsZip s.heap z TI TO .none) (hTI:IsPair s.heap TI (.ref i1) (.ref i2)) (hTO:IsPair s.heap TO a b) (p1:S1 k s.heap) (p2:S2 k s.heap) (hx:v1 k=some x) (hy:v2 k=some y)
  (hQ:∀ h',IsZip h' z TI TO (rawInt s.heap.objs.size)->IsPair h' TO x y->S1 (k+1) h' ->S2 (k+1) h' ->IsPair h' s.heap.objs.size x y->
   (∀ c o,c ≠ z->c ≠ TO->c ≠ i1->c ≠ i2->s.heap.get? c=some o->h'.get? c=some o)->Q (.ref s.heap.objs.size) { s with heap:=h' }):
  wpAny (model prog w) A (Builtin.«zip.__next__» ⟨[.ref z],[]⟩) (fun fin s' =>∃ v,fin= .done (.ret v)/\Q v s') E s:=by
 refine wpAny_bind (m:=field (.ref z) 2) (wpAny_field hz rfl (x:= .bool false) rfl (wpAny_bind (m:=field (.ref z) 3) (wpAny_field hz rfl (x:= .ref TI) rfl (wpAny_bind (wpAny_seqItems hTI rfl ?_)))))
 refine wpAny_bind (m:=ownedTupleIsFree (.ref z)) ?_
 unfold ownedTupleIsFree
 refine wpAny_bind (wpAny_field hz rfl (x:= .none) rfl (wpAny_pure ?_))
 simp only [if_true]
 refine wpAny_bind (wpAny_rule (wpAny_bind (wpAny_field hz rfl (x:= .ref TO) rfl (wpAny_bind (wpAny_setField_rec hz (by simp) fun g1 z1 e1=> ?_)))))
 replace z1:IsZip g1 z TI TO .ellipsis:=z1
 refine wpAny_bind ?_
 simp only [List.zipIdx_cons,List.zipIdx_nil,List.forIn_cons,List.forIn_nil]
 refine wpAny_bind (wpAny_bind (wpAny_onRaise (wpAny_bind (m:=nextOf (.ref i1)) (N1.item (N1.but p1 e1.extBut D.z1) hx fun g2 q1 e2=>wpAny_pure ?_))))
 have t2:IsPair g2 TO a b:=e2.extBut _ _ (D.ne1 N1).2.symm (e1.extBut _ _ D.Oz hTO)
 refine wpAny_bind (wpAny_seqItems t2 rfl (wpAny_bind (wpAny_updateSeq_pair t2 fun g3 t3 e3=> ?_)))
 replace t3:IsPair g3 TO x b:=t3
 refine wpAny_bind (wpAny_letGo (wpAny_pure ?_))
 refine wpAny_bind (wpAny_bind (wpAny_onRaise (wpAny_bind (m:=nextOf (.ref i2)) (N2.item (N2.but (N2.but (N2.but p2 e1.extBut D.z2) e2.extBut D.a) e3.extBut D.O2) hy fun g4 q2 e4=>wpAny_pure ?_))))
 have t4:IsPair g4 TO x b:=e4.extBut _ _ (D.ne2 N2).2.symm t3
 refine wpAny_bind (wpAny_seqItems t4 rfl (wpAny_bind (wpAny_updateSeq_pair t4 fun g5 t5 e5=> ?_)))
 replace t5:IsPair g5 TO x y:=t5
 refine wpAny_bind (wpAny_letGo (wpAny_pure (wpAny_pure ?_)))
 refine wpAny_bind (wpAny_seqItems t5 rfl (wpAny_bind (wpAny_newTuple ?_)))
 have sz:g5.objs.size=s.heap.objs.size:=by rw [e5.1,e4.1,e3.1,e2.1,e1.1]
 have z5:IsZip g5 z TI TO .ellipsis:=e5.extBut _ _ D.Oz.symm (e4.extBut _ _ (D.ne2 N2).1.symm (e3.extBut _ _ D.Oz.symm (e2.extBut _ _ (D.ne1 N1).1.symm z1)))
 have k5:∀ c o,c ≠ z->c ≠ TO->c ≠ i1->c ≠ i2->s.heap.get? c=some o->g5.get? c=some o:=fun c o c1 c2 c3 c4 e=>
  e5.extBut _ _ c2 (e4.extBut _ _ c4 (e3.extBut _ _ c2 (e2.extBut _ _ c3 (e1.extBut _ _ c1 e))))
 have r1:S1 (k+1) g5:=N1.but (N1.but (N1.but q1 e3.extBut D.O1) e4.extBut D.b) e5.extBut D.O1
 have r2:S2 (k+1) g5:=N2.but q2 e5.extBut D.O2
 refine wpAny_bind (m:=ownedTupleHandOut (.ref z) (.ref g5.objs.size)) ?_
 unfold ownedTupleHandOut
 have z6:IsZip (g5.push { cls:= .type "tuple",data:= .seq #[x,y] }) z TI TO .ellipsis:=Heap.get?_push_of_some _ z5
 refine wpAny_bind (wpAny_setField_rec z6 (by simp) fun g7 z7 e7=> ?_)
 replace z7:IsZip g7 z TI TO (rawInt g5.objs.size):=z7
 refine wpAny_setField_rec z7 (by simp) fun g8 z8 e8=> ?_
 replace z8:IsZip g8 z TI TO (rawInt g5.objs.size):=z8
 have up:∀ c o,c ≠ z->g5.get? c=some o->g8.get? c=some o:=fun c o c1 e=>e8.extBut _ _ c1 (e7.extBut _ _ c1 (Heap.get?_push_of_some _ e))
 have hn:g5.objs.size ≠ z:=Nat.ne_of_gt (Heap.lt_size z5)
 have t8:IsPair g8 g5.objs.size x y:=e8.extBut _ _ hn (e7.extBut _ _ hn (Heap.get?_push_size _ rfl))
 rw [sz] at z8 t8
 refine wpAny_pure ⟨_,rfl, ?_⟩
 show Q (.ref g5.objs.size) _
 rw [sz]
 exact hQ g8 z8 (up _ _ D.Oz t5) (N1.keep r1 fun c hc o e=>up c o (fun q=>D.z1 (q ▸ hc)) e) (N2.keep r2 fun c hc o e=>up c o (fun q=>D.z2 (q ▸ hc)) e) t8 fun c o c1 c2 c3 c4 e=>up c o c1 (k5 c o c1 c2 c3 c4 e)
theorem Um {Q:Fin->Shared->Prop} (hh:A.handled=none) (N1:Jf i1 fp1 v1 S1) (N2:Jf i2 fp2 v2 S2) (D:Ap z TI TO i1 i2 fp1 fp2) (hz:IsZip s.heap z TI TO .none) (hTI:IsPair s.heap TI (.ref i1) (.ref i2)) (hTO:IsPair s.heap TO a b) (p1:S1 k s.heap) (p2:S2 k s.heap) (hend:v1 k=none\/v2 k=none)
  (hE:∀ h' e,(∀ c o,c ≠ z->c ≠ TO->c ≠ i1->c ≠ i2->s.heap.get? c=some o->h'.get? c=some o)->(∃ o,h'.get? e=some o/\o.cls= .type "StopIteration")->E (.ref e) { s with heap:=h' }):
  wpAny (model prog w) A (Builtin.«zip.__next__» ⟨[.ref z],[]⟩) Q E s:=by
 refine wpAny_bind (m:=field (.ref z) 2) (wpAny_field hz rfl (x:= .bool false) rfl (wpAny_bind (m:=field (.ref z) 3) (wpAny_field hz rfl (x:= .ref TI) rfl (wpAny_bind (wpAny_seqItems hTI rfl ?_)))))
 refine wpAny_bind (m:=ownedTupleIsFree (.ref z)) ?_
 unfold ownedTupleIsFree
 refine wpAny_bind (wpAny_field hz rfl (x:= .none) rfl (wpAny_pure ?_))
 simp only [if_true]
 refine wpAny_bind (wpAny_rule (wpAny_bind (wpAny_field hz rfl (x:= .ref TO) rfl (wpAny_bind (wpAny_setField_rec hz (by simp) fun g1 z1 e1=> ?_)))))
 replace z1:IsZip g1 z TI TO .ellipsis:=z1
 refine wpAny_bind ?_
 simp only [List.zipIdx_cons,List.zipIdx_nil,List.forIn_cons,List.forIn_nil]
 have off:∀ {g:Heap} {e:Addr} {oe:Obj},IsZip g z TI TO .ellipsis->g.get? e=some oe->oe.cls= .type "StopIteration"->e ≠ z:=fun hg he hc q=>by
  subst q; rw [hg] at he; cases he; simp at hc
 cases hx:v1 k with
 | none=>
  refine wpAny_bind (wpAny_bind (wpAny_onRaise (wpAny_bind (m:=nextOf (.ref i1)) (N1.stop hh (N1.but p1 e1.extBut D.z1) hx fun g2 e e2 he=> ?_))))
  obtain ⟨oe,ho,hc⟩:=he
  have z2:IsZip g2 z TI TO .ellipsis:=e2 _ _ (D.ne1 N1).1.symm z1
  exact wpAny_setField_rec z2 (by simp) fun g3 _ e3=>hE g3 e (fun c o c1 _ c3 _ q=>e3.extBut _ _ c1 (e2 _ _ c3 (e1.extBut _ _ c1 q))) ⟨oe,e3.extBut _ _ (off z2 ho hc) ho,hc⟩
 | some x=>
  have hy:v2 k=none:=by
   rcases hend with q | q
   ·rw [hx] at q; cases q
   ·exact q
  refine wpAny_bind (wpAny_bind (wpAny_onRaise (wpAny_bind (m:=nextOf (.ref i1)) (N1.item (N1.but p1 e1.extBut D.z1) hx fun g2 q1 e2=>wpAny_pure ?_))))
  have t2:IsPair g2 TO a b:=e2.extBut _ _ (D.ne1 N1).2.symm (e1.extBut _ _ D.Oz hTO)
  refine wpAny_bind (wpAny_seqItems t2 rfl (wpAny_bind (wpAny_updateSeq_pair t2 fun g3 t3 e3=>wpAny_bind (wpAny_letGo (wpAny_pure ?_)))))
  refine wpAny_bind (wpAny_bind (wpAny_onRaise (wpAny_bind (m:=nextOf (.ref i2)) (N2.stop hh (N2.but (N2.but (N2.but p2 e1.extBut D.z2) e2.extBut D.a) e3.extBut D.O2) hy fun g4 e e4 he=> ?_))))
  obtain ⟨oe,ho,hc⟩:=he
  have z4:IsZip g4 z TI TO .ellipsis:=e4 _ _ (D.ne2 N2).1.symm (e3.extBut _ _ D.Oz.symm (e2.extBut _ _ (D.ne1 N1).1.symm z1))
  exact wpAny_setField_rec z4 (by simp) fun g5 _ e5=>hE g5 e (fun c o c1 c2 c3 c4 q=>e5.extBut _ _ c1 (e4 _ _ c4 (e3.extBut _ _ c2 (e2.extBut _ _ c3 (e1.extBut _ _ c1 q))))) ⟨oe,e5.extBut _ _ (off z4 ho hc) ho,hc⟩
theorem Uo {Q:Option Value->Shared->Prop} (N1:Jf i1 fp1 v1 S1) (N2:Jf i2 fp2 v2 S2) (D:Ap z TI TO i1 i2 fp1 fp2) (hz:IsZip s.heap z TI TO .none) (hTI:IsPair s.heap TI (.ref i1) (.ref i2)) (hTO:IsPair s.heap TO a b) (p1:S1 k s.heap) (p2:S2 k s.heap) (hx:v1 k=some x) (hy:v2 k=some y)
  (hQ:∀ h',IsZip h' z TI TO (rawInt s.heap.objs.size)->IsPair h' TO x y->S1 (k+1) h' ->S2 (k+1) h' ->IsPair h' s.heap.objs.size x y->
   (∀ c o,c ≠ z->c ≠ TO->c ≠ i1->c ≠ i2->s.heap.get? c=some o->h'.get? c=some o)->Q (some (.ref s.heap.objs.size)) { s with heap:=h' }):wpAny (model prog w) A (pyNext (.ref z)) Q E s:=by
 have ty:s.TypeIs (.ref z) "zip":=⟨_,hz,rfl⟩
 unfold pyNext
 exact wpAny_bind (wpAny_attempt (wpAny_callSpecial?_slot (name:=Str.ofString "__next__") ty PySem.F.slot_zip_next (wpAny_call_entry PySem.F.slot_zip_next ty PySem.F.entry_zip_next
  (Ul N1 N2 D hz hTI hTO p1 p2 hx hy fun h' a1 a2 a3 a4 a5 a6=>wpAny_pure (hQ h' a1 a2 a3 a4 a5 a6)) (PySem.F.args_zip_next_1 _))))
theorem Up {Q:Option Value->Shared->Prop} (hh:A.handled=none) (N1:Jf i1 fp1 v1 S1) (N2:Jf i2 fp2 v2 S2) (D:Ap z TI TO i1 i2 fp1 fp2) (hz:IsZip s.heap z TI TO .none) (hTI:IsPair s.heap TI (.ref i1) (.ref i2)) (hTO:IsPair s.heap TO a b) (p1:S1 k s.heap) (p2:S2 k s.heap) (hend:v1 k=none\/v2 k=none)
  (hQ:∀ h',(∀ c o,c ≠ z->c ≠ TO->c ≠ i1->c ≠ i2->s.heap.get? c=some o->h'.get? c=some o)->Q none { s with heap:=h' }):wpAny (model prog w) A (pyNext (.ref z)) Q E s:=by
 have ty:s.TypeIs (.ref z) "zip":=⟨_,hz,rfl⟩
 unfold pyNext
 refine wpAny_bind (wpAny_attempt (wpAny_callSpecial?_slot (name:=Str.ofString "__next__") ty PySem.F.slot_zip_next (wpAny_call_entry PySem.F.slot_zip_next ty PySem.F.entry_zip_next
  (Um hh N1 N2 D hz hTI hTO p1 p2 hend fun h' e kp he=> ?_) (PySem.F.args_zip_next_1 _))))
 obtain ⟨o,ho,hc⟩:=he
 exact wpAny_bind (wpAny_isInstance (T:="StopIteration") (b:=true) ⟨o,ho,hc⟩ isSubtype_stop (wpAny_pure (hQ _ kp)))
end
end PySem.ZG
namespace PySem.ZG
open PySem PySem.Spec PySem.Builtin.SmallTypes
structure Uq (l:Addr) (o:Obj) (P:Heap->Prop):Prop where
 go:∀ {prog:Program} {w:World} {A:Around} {E:Value->Shared->Prop} {s:Shared} {Q:Value->Shared->Prop},P s.heap->Q (.ref s.heap.objs.size) { s with heap:=s.heap.push o }->wpAny (model prog w) A (pyIter (.ref l)) Q E s
 push:∀ {h:Heap} (o' :Obj),P h->P (h.push o')
 fresh:o.isFreed=false
abbrev oL (l:Addr):Obj:={ cls:= .type "list_iterator",data:= .fields #[.ref l, .int 0 0] }
abbrev oT (l:Addr):Obj:={ cls:= .type "tuple_iterator",data:= .fields #[.ref l, .int 0 0] }
theorem Ur (l:Addr) (xs:Array Value):Uq l (oL l) (fun h=>h.IsList l xs):=⟨fun p q=>wpAny_pyIter_list p q,fun o p=>Heap.IsList.push p o,rfl⟩
theorem Ya (l:Addr) (xs:Array Value):Uq l (oT l) (fun h=>h.IsTuple l xs):=⟨fun p q=>wpAny_pyIter_tuple p q,fun o p=>Heap.IsTuple.push p o,rfl⟩
abbrev zh2 (h:Heap) (o1 o2:Obj):Heap:=(h.push o1).push o2
abbrev zh3 (h:Heap) (o1 o2:Obj):Heap:=(zh2 h o1 o2).push { cls:= .type "tuple",data:= .seq #[.ref h.objs.size, .ref (h.push o1).objs.size] }
abbrev zh4 (h:Heap) (o1 o2:Obj):Heap:=(zh3 h o1 o2).push { cls:= .type "tuple",data:= .seq #[.none, .none] }
abbrev zh5 (h:Heap) (o1 o2:Obj):Heap:=(zh4 h o1 o2).push { cls:= .type "zip",data:= .fields #[.none, .bool false, .bool false, .ref (zh2 h o1 o2).objs.size, .ref (zh3 h o1 o2).objs.size] }
theorem Yb {l1 l2:Addr} {o1 o2:Obj} {P1 P2:Heap->Prop} (J1:Uq l1 o1 P1) (J2:Uq l2 o2 P2):
  Meets (Builtin.«zip.__new__» ⟨[.type "zip", .ref l1, .ref l2],[]⟩) (fun _ R s=>P1 s.heap/\P2 s.heap/\R (.ok (.ret (.ref (zh4 s.heap o1 o2).objs.size))) { s with heap:=zh5 s.heap o1 o2 }):=
 .of_wp fun prog w A R s h=>by
  obtain ⟨hp,g,d,tk,os⟩:=s
  obtain ⟨q1,q2,h⟩:=h
  have hsub:=sub_zip
  have c1:P1 (Shared.heap ⟨hp,g,d,tk,os⟩):=q1
  have c2:P2 (Shared.heap ⟨hp.push o1,g,d,tk,os⟩):=J2.push o1 q2
  wp_walk using J1.go c1,J2.go c2
  exact ⟨_,rfl,h⟩
end PySem.ZG
namespace PySem.ZG
open PySem PySem.Spec PySem.Builtin.SmallTypes
theorem Us {prog:Program} {w:World} {A:Around} {E:Value->Shared->Prop} {s:Shared} {l1 l2:Addr} {o1 o2:Obj} {P1 P2:Heap->Prop} {Q:Value->Shared->Prop} (J1:Uq l1 o1 P1) (J2:Uq l2 o2 P2) (q1:P1 s.heap) (q2:P2 s.heap)
  (h:∀ h' n,n=s.heap.objs.size->IsZip h' (n+4) (n+2) (n+3) .none->IsPair h' (n+2) (.ref n) (.ref (n+1))->IsPair h' (n+3) .none .none->h'.get? n=some o1->h'.get? (n+1)=some o2->
   (∀ c o,s.heap.get? c=some o->h'.get? c=some o)->Q (.ref (n+4)) { s with heap:=h' }):wpAny (model prog w) A (call (.type "zip") [.ref l1, .ref l2]) Q E s:=by
 refine callType_new PySem.F.called_zip (by decide) (PySem.F.typeCall_zip_2 _ _) (PySem.F.newCall_zip_2 _ _) (fun obj=>PySem.F.args_object_init_3 obj _ _) PySem.F.entry_zip_new (Yb J1 J2) ⟨q1,q2, ?_⟩
 have n1:(s.heap.push o1).objs.size=s.heap.objs.size+1:=Heap.size_push ..
 have n2:(zh2 s.heap o1 o2).objs.size=s.heap.objs.size+2:=by rw [Heap.size_push,n1]
 have n3:(zh3 s.heap o1 o2).objs.size=s.heap.objs.size+3:=by rw [Heap.size_push,n2]
 have n4:(zh4 s.heap o1 o2).objs.size=s.heap.objs.size+4:=by rw [Heap.size_push,n3]
 have up:∀ {h:Heap} {c:Addr} {o:Obj} (o' :Obj),h.get? c=some o->(h.push o').get? c=some o:=fun o' e=>Heap.get?_push_of_some o' e
 have e5:(zh5 s.heap o1 o2).get? (zh4 s.heap o1 o2).objs.size=some _:=Heap.get?_push_size _ rfl
 have e4:(zh5 s.heap o1 o2).get? (zh3 s.heap o1 o2).objs.size=some _:=up _ (Heap.get?_push_size _ rfl)
 have e3:(zh5 s.heap o1 o2).get? (zh2 s.heap o1 o2).objs.size=some _:=up _ (up _ (Heap.get?_push_size _ rfl))
 have e2:(zh5 s.heap o1 o2).get? (s.heap.push o1).objs.size=some _:=up _ (up _ (up _ (Heap.get?_push_size _ J2.fresh)))
 have e1:(zh5 s.heap o1 o2).get? s.heap.objs.size=some _:=up _ (up _ (up _ (up _ (Heap.get?_push_size _ J1.fresh))))
 show _/\_
 rw [n2,n3,n4] at e5
 rw [n1,n2] at e3
 rw [n3] at e4
 rw [n1] at e2
 rw [n4]
 exact ⟨⟨_,e5,rfl⟩,h _ _ rfl e5 e3 e4 e1 e2 fun c o q=>up _ (up _ (up _ (up _ (up _ q))))⟩
end PySem.ZG
namespace PV
open PySem PySem.Spec PyProof.Rows L2 PySem.ZG
inductive SK where
 | l | t
def SK.it:SK->Heap->Addr->Addr->Nat->Prop
 | .l=>fun h i l k=>h.IsListIter i l k
 | .t=>fun h i l k=>h.IsTupleIter i l k
def SK.has:SK->Heap->Addr->Array Value->Prop
 | .l=>fun h l xs=>h.IsList l xs
 | .t=>fun h l xs=>h.IsTuple l xs
def SK.sq (K:PySem.W.Frag):SK->Hp->Addr->List V->Prop
 | .l=>fun H a xs=>SqL K H a xs
 | .t=>fun H a xs=>SqT K H a xs
def SK.tr:SK->List V->HO
 | .l=> .lst
 | .t=> .tup
def SK.ob:SK->Addr->Obj
 | .l=>oL
 | .t=>oT
theorem SK.nx (k:SK) {i l:Addr} (h:l ≠ i) (xs:Array Value):Jf i [i,l] (fun n=>xs[n]?) (fun n hp=>k.it hp i l n/\k.has hp l xs):=by
 cases k with
 | l=>exact Uk h xs
 | t=>exact Y9 h xs
theorem SK.of (k:SK) (l:Addr) (xs:Array Value):Uq l (k.ob l) (fun h=>k.has h l xs):=by
 cases k with
 | l=>exact Ur l xs
 | t=>exact Ya l xs
theorem SK.start (k:SK) {h:Heap} {i l:Addr} (e:h.get? i=some (k.ob l)):k.it h i l 0:=by
 cases k with
 | l=>exact ⟨_,e,rfl,rfl⟩
 | t=>exact ⟨_,e,rfl,rfl⟩
theorem SK.obj {k:SK} {h:Heap} {i l:Addr} {n:Nat} (x:k.it h i l n):∃ o,h.get? i=some o/\∀ v,o.data ≠ .cell v:=by
 cases k with
 | l=>obtain ⟨o,e,_,d⟩:=x; exact ⟨o,e,fun v z=>by rw [d] at z; cases z⟩
 | t=>obtain ⟨o,e,_,d⟩:=x; exact ⟨o,e,fun v z=>by rw [d] at z; cases z⟩
theorem SK.at_ {k:SK} {h h' :Heap} {i l:Addr} {n:Nat} (x:k.it h i l n) (q:∀ o,h.get? i=some o->h'.get? i=some o):k.it h' i l n:=by
 cases k with
 | l=>obtain ⟨o,e,r⟩:=x; exact ⟨o,q o e,r⟩
 | t=>obtain ⟨o,e,r⟩:=x; exact ⟨o,q o e,r⟩
theorem SK.sqOf {K:PySem.W.Frag} (k:SK) {H:Hp} {a:Addr} {xs:List V} (e:H a=some (k.tr xs)):k.sq K H a xs:=by
 cases k with
 | l=>exact SqL.of e
 | t=>exact SqT.of e
theorem Inv.seq {X:Cx} {pins:List (Addr×Obj)} {σ:Sg} {H:Hp} {s:Shared} (I:L2.Inv X pins σ H s) (k:SK) {a:Addr} {xs:List V} (h:k.sq X.K H a xs):∃ its:List Value,zz xs its/\k.has s.heap a its.toArray/\∃ o,s.heap.get? a=some o:=by
 cases k with
 | l=>
  obtain ⟨its,r,p,_⟩:=I.list h
  obtain ⟨o,_,e,_⟩:=id p
  exact ⟨its,r,p.isList,o,e⟩
 | t=>
  obtain ⟨its,r,p,_⟩:=I.tuple h
  obtain ⟨o,e,_⟩:=id p
  exact ⟨its,r,p,o,e⟩
def Itz (K:PySem.W.Frag) (k1 k2:SK) (l1 l2:Addr):It:=
 ⟨fun i H=>∃ xs ys x y,k1.sq K H l1 xs/\k2.sq K H l2 ys/\xs[i]? =some x/\ys[i]? =some y,fun i H v H' =>∃ p x y,H p=none/\v= .ref p/\(∀ xs,k1.sq K H l1 xs->xs[i]? =some x)/\(∀ ys,k2.sq K H l2 ys->ys[i]? =some y)/\H' =upd H p (.tup [x,y]),
  fun i H=>∃ xs ys,k1.sq K H l1 xs/\k2.sq K H l2 ys/\(xs.length<=i\/ys.length<=i)⟩
theorem Inv.seq_inj {X:Cx} {pins:List (Addr×Obj)} {σ:Sg} {H:Hp} {s:Shared} (I:L2.Inv X pins σ H s) (k:SK) {a:Addr} {xs ys:List V} (h:k.sq X.K H a xs) (h' :k.sq X.K H a ys):xs=ys:=by
 cases k with
 | l=>exact I.list_inj h h'
 | t=>exact I.tuple_inj h h'
theorem nN {a b:Nat} (h:a ≠ b): @Ne Addr a b:=h
theorem nM {a b c:Nat} (h:a ≠ b) (h' :a ≠ c):¬ @Membership.mem Addr (List Addr) _ [b,c] a:=fun q=>by
 rcases List.mem_cons.mp q with z | z
 ·exact h z
 ·exact h' (List.mem_singleton.mp z)
theorem WT {P:Program} {w:World} {K:PySem.W.Frag} {elts:List Expr} {kk:Nat} {pt:Pos} (k1 k2:SK) {n l1 l2:Nat} (h1:l1 < n) (h2:l2 < n):
  Wk P w K (.Tuple elts kk pt) (Itz K k1 k2 l1 l2) [n+4,n+2,n+3,n,n+1] (n+4)
   (fun i h=>IsZip h (n+4) (n+2) (n+3) .none/\IsPair h (n+2) (.ref n) (.ref (n+1))/\(∃ a b,IsPair h (n+3) a b)/\k1.it h n l1 i/\k2.it h (n+1) l2 i):=by
 have D:Ap (n+4) (n+2) (n+3) n (n+1) [n,l1] [n+1,l2]:=by
  refine ⟨nN (by omega),nN (by omega),nN (by omega),nN (by omega),nN (by omega),nM (by omega) (by omega),nM (by omega) (by omega),nM (by omega) (by omega),nM (by omega) (by omega),nM (by omega) (by omega),nM (by omega) (by omega)⟩
 refine ⟨by simp,fun i h st b hb=> ?_,fun i h h' st k=> ?_, ?_, ?_, ?_⟩
 ·obtain ⟨hz,hI,⟨a,c,hO⟩,p1,p2⟩:=st
  simp only [List.mem_cons,List.not_mem_nil,or_false] at hb
  rcases hb with rfl | rfl | rfl | rfl | rfl
  ·exact ⟨_,hz,fun v z=>nomatch z⟩
  ·exact ⟨_,hI,fun v z=>nomatch z⟩
  ·exact ⟨_,hO,fun v z=>nomatch z⟩
  ·exact SK.obj p1
  ·exact SK.obj p2
 ·obtain ⟨hz,hI,⟨a,c,hO⟩,p1,p2⟩:=st
  exact ⟨k _ (by simp) _ hz,k _ (by simp) _ hI,⟨a,c,k _ (by simp) _ hO⟩,SK.at_ p1 fun o e=>k n (by simp) o e,SK.at_ p2 fun o e=>k (n+1) (by simp) o e⟩
 ·intro X hP hw hK hc i pins s σ H E I hf st hg
  subst hP hw hK
  obtain ⟨xs,ys,x,y,s1,s2,hx,hy⟩:=hg
  obtain ⟨hz,hI,⟨a,c,hO⟩,p1,p2⟩:=st
  obtain ⟨its1,r1,b1,_⟩:=Inv.seq I k1 s1
  obtain ⟨its2,r2,b2,_⟩:=Inv.seq I k2 s2
  obtain ⟨u,hu,ru⟩:=r1.get hx
  obtain ⟨v,hv,rv⟩:=r2.get hy
  refine Uo (k1.nx (Nat.ne_of_lt h1) its1.toArray) (k2.nx (i:=n+1) (nN (by omega)) its2.toArray) D hz hI hO ⟨p1,b1⟩ ⟨p2,b2⟩ (x:=u) (y:=v) (by simpa using hu) (by simpa using hv) fun g a1 a2 a3 a4 a5 kp=>⟨_,rfl, ?_⟩
  refine wpAny_letOwnedTupleGo_zip a1 fun g2 z2 e2=> ?_
  have hlt:n+4 < s.heap.objs.size:=Heap.lt_size hz
  have ne:∀ b:Nat,b<=n+4->s.heap.objs.size ≠ b:=fun b hb=>by
   have hlt:n+4 < s.heap.objs.size:=hlt
   omega
  have kp2:∀ b o,b ∉ [n+4,n+2,n+3,n,n+1]->s.heap.get? b=some o->g2.get? b=some o:=fun b o hb e=>by
   simp only [List.mem_cons,List.not_mem_nil,or_false,not_or] at hb
   exact e2.extBut _ _ hb.1 (kp b o hb.1 hb.2.2.1 hb.2.2.2.1 hb.2.2.2.2 e)
  have g2P:IsPair g2 s.heap.objs.size u v:=e2.extBut _ _ (ne _ (Nat.le_refl _)) a5
  have g2I:IsPair g2 (n+2) (.ref n) (.ref (n+1)):=e2.extBut _ _ D.Iz (kp _ _ D.Iz D.IO D.I1 D.I2 hI)
  have g2O:IsPair g2 (n+3) u v:=e2.extBut _ _ D.Oz a2
  have q1:k1.it g2 n l1 (i+1):=SK.at_ a3.1 fun o e=>e2.extBut _ _ (nN (by omega)) e
  have q2:k2.it g2 (n+1) l2 (i+1):=SK.at_ a4.1 fun o e=>e2.extBut _ _ (nN (by omega)) e
  have hfr:H s.heap.objs.size=none:=I.hok.fresh (Nat.le_refl _)
  refine ⟨.ref s.heap.objs.size,upd H s.heap.objs.size (.tup [x,y]),Inv.laidT (s:=s) (h' :=g2) (ch:=[n+4,n+2,n+3,n,n+1]) (tk:=s.toks) I hf kp2 (fun b o hb _=> ?_) (Nat.le_refl _)
   ⟨by rw [sizeLine_eq]; show 2<=16777216; decide,[u,v], .cons ru (.cons rv .nil),⟨_,g2P,rfl,_,rfl⟩, .inr ⟨_,g2P,rfl⟩⟩,rfl,⟨_,x,y,hfr,rfl,fun zs hq=>by rw [← Inv.seq_inj I k1 s1 hq]; exact hx,fun zs hq=>by rw [← Inv.seq_inj I k2 s2 hq]; exact hy,rfl⟩,⟨z2,g2I,⟨u,v,g2O⟩,q1,q2⟩,fun b hb=> ?_⟩
  ·simp only [List.mem_cons,List.not_mem_nil,or_false] at hb
   rcases hb with rfl | rfl | rfl | rfl | rfl
   ·exact ⟨_,z2⟩
   ·exact ⟨_,g2I⟩
   ·exact ⟨_,g2O⟩
   ·obtain ⟨o',e',_⟩:=SK.obj q1; exact ⟨o',e'⟩
   ·obtain ⟨o',e',_⟩:=SK.obj q2; exact ⟨o',e'⟩
  ·have hb2:(b:Nat)<=n+4:=by
    have hb:b=n+4\/b=n+2\/b=n+3\/b=n\/b=n+1:=by simpa using hb
    rcases hb with rfl | rfl | rfl | rfl | rfl
    ·exact Nat.le_refl _
    ·exact Nat.add_le_add_left (by decide) n
    ·exact Nat.add_le_add_left (by decide) n
    ·exact Nat.le_add_right _ _
    ·exact Nat.add_le_add_left (by decide) n
   rw [zf fun z=>ne b hb2 z.symm]
   exact (hf b hb).1
 ·intro X hP hw hK hc i pins s σ H E I hf st hg
  subst hP hw hK
  obtain ⟨xs,ys,s1,s2,hend⟩:=hg
  obtain ⟨hz,hI,⟨a,c,hO⟩,p1,p2⟩:=st
  obtain ⟨its1,r1,b1,_⟩:=Inv.seq I k1 s1
  obtain ⟨its2,r2,b2,_⟩:=Inv.seq I k2 s2
  have l1' :=r1.length
  have l2' :=r2.length
  refine Up (I.ok.hd hc) (k1.nx (Nat.ne_of_lt h1) its1.toArray) (k2.nx (i:=n+1) (nN (by omega)) its2.toArray) D hz hI hO ⟨p1,b1⟩ ⟨p2,b2⟩ (k:=i) ?_ fun g kp=>⟨rfl, ?_⟩
  ·rcases hend with q | q
   ·exact .inl (Array.getElem?_eq_none (by rw [List.size_toArray,← l1']; exact q))
   ·exact .inr (Array.getElem?_eq_none (by rw [List.size_toArray,← l2']; exact q))
  ·have kp2:∀ b o,b ∉ [n+4,n+3,n,n+1]->s.heap.get? b=some o->g.get? b=some o:=fun b o hb e=>by
    simp only [List.mem_cons,List.not_mem_nil,or_false,not_or] at hb
    exact kp b o hb.1 hb.2.1 hb.2.2.1 hb.2.2.2 e
   have nch:∀ b u,H b=some u->b ∉ [n+4,n+3,n,n+1]:=fun b u e hb=>by
    have hb' :b∈[n+4,n+2,n+3,n,n+1]:=by
     simp only [List.mem_cons,List.not_mem_nil,or_false] at hb ⊢
     rcases hb with q | q | q | q
     ·exact .inl q
     ·exact .inr (.inr (.inl q))
     ·exact .inr (.inr (.inr (.inl q)))
     ·exact .inr (.inr (.inr (.inr q)))
    rw [(hf b hb').1] at e; cases e
   refine I.call' (s' :={ s with heap:=g }) (ch:=[n+4,n+3,n,n+1]) rfl ⟨fun b o e _ _ hc=>kp2 b o hc e,fun b o e _ _ hc=>⟨o.slots,kp2 b o hc e⟩,fun b o e q _=>q,fun b o e hc=>⟨o,kp2 b o hc e⟩,fun b ys e=>e,fun b o u e=>e,fun _ _ _ e=>e⟩ (fun b u e=> ?_) I.bare fun b hb=> ?_
   ·refine (I.hok b u e).stay (fun c v hc q=>kp2 c v ?_ q) (fun _ q=>q) fun _ _ q=>q
    rcases hc with rfl | hc
    ·exact nch c u e
    ·exact nch c _ hc
   ·have hb' :b∈[n+4,n+2,n+3,n,n+1]:=by
     simp only [List.mem_cons,List.not_mem_nil,or_false] at hb ⊢
     rcases hb with q | q | q | q
     ·exact .inl q
     ·exact .inr (.inr (.inl q))
     ·exact .inr (.inr (.inr (.inl q)))
     ·exact .inr (.inr (.inr (.inr q)))
    obtain ⟨f0,f1,f2,f3,f4,f5⟩:=hf b hb'
    exact ⟨f3,f1,f4,f5⟩
 ·intro A i s Q E st h
  exact wpAny_pyIter_zip st.1 h
def Ut (xs ys:List T):List T:=(xs.zip ys).map fun p=>T.tup [p.1,p.2]
theorem WU {xs ys:List T} {i:Nat} {t:T} (h:(Ut xs ys)[i]? =some t):∃ x y,xs[i]? =some x/\ys[i]? =some y/\t= .tup [x,y]:=by
 unfold Ut at h
 rw [List.getElem?_map] at h
 cases e:(xs.zip ys)[i]? with
 | none=>rw [e] at h; cases h
 | some p=>
  rw [e] at h
  cases h
  have:=List.getElem?_zip_eq_some.mp e
  exact ⟨p.1,p.2,this.1,this.2,rfl⟩
theorem Jg (xs ys:List T):(Ut xs ys).length=min xs.length ys.length:=by unfold Ut; simp
theorem Yc {K:PySem.W.Frag} {B1 H1:Hp} {k1 k2:SK} {a b:Addr} {xs ys:List V} {ts us:List T} (ha:B1 a=some (k1.tr xs)) (hb:B1 b=some (k2.tr ys)) (ra:zn B1 xs ts) (rb:zn B1 ys us):rI B1 H1 (Itz K k1 k2 a b) (Ut ts us):=fun B2 H2 s1 s2=>by
 have a2:=k1.sqOf (K:=K) (s2 _ _ (s1 _ _ ha))
 have b2:=k2.sqOf (K:=K) (s2 _ _ (s1 _ _ hb))
 rw [Jg]
 refine ⟨fun i hi=> ?_,fun i t x H3 e y=> ?_,fun i hi=>⟨xs,ys,a2,b2, ?_⟩⟩
 ·obtain ⟨v,e1,_⟩:=ra.get (List.getElem?_eq_getElem (show i < ts.length by omega))
  obtain ⟨u,e2,_⟩:=rb.get (List.getElem?_eq_getElem (show i < us.length by omega))
  exact ⟨xs,ys,v,u,a2,b2,e1,e2⟩
 ·obtain ⟨p,v,u,hp,rfl,y1,y2,rfl⟩:=y
  obtain ⟨t1,t2,et,eu,rfl⟩:=WU e
  obtain ⟨v',e1,r1⟩:=ra.get et
  obtain ⟨u',e2,r2⟩:=rb.get eu
  have q1:=y1 xs a2
  have q2:=y2 ys b2
  rw [e1] at q1; cases q1
  rw [e2] at q2; cases q2
  have up:=zp.ge s2 (zh.new hp (.tup [v,u]))
  exact ⟨zh.new hp _, .tup (ZR hp _) (.cons ((r1.mono s1).mono up) (.cons ((r2.mono s1).mono up) .nil))⟩
 ·rw [ra.length,rb.length]; omega
section
variable {X:Cx} {Y:Fx} {a b:Expr} {fa fb:En->R T} {pos p pt:Pos} {elts:List Expr} {kk:Nat}
theorem Yd {ta:TA} (hg:Gl X "zip") (hm:X.mg "zip"=none) (ha:PA X [a,b] ta) (hs:starEach [a,b] X.env=[(false,eval a X.env),(false,eval b X.env)]) (hs2:starEach [b] X.env=[(false,eval b X.env)]):
  PI X (.Tuple elts kk pt) (.Call (.Name "zip" p) [a,b] [] pos) (fun σ H R=>ta σ H fun vs H1=>∃ k1 k2 l1 l2 xs ys,vs=[.ref l1, .ref l2]/\H1 l1=some (SK.tr k1 xs)/\H1 l2=some (SK.tr k2 ys)/\R (Itz X.K k1 k2 l1 l2) H1):=by
 intro pins s σ H R I h
 refine Call_ (Zo I hg hm PyProof.Rows.Boot.«zip» (PyProof.Rows.callWith_type1 (thn (ha pos pins s σ H _ I h) fun us s1 ⟨vs,H1,I1,r1,q1⟩=> ?_) (by rw [hs,hs2]) (by rw [hs2]; rfl)))
 obtain ⟨k1,k2,l1,l2,xs,ys,e,h1,h2,q⟩:=q1
 subst e
 obtain ⟨u,v,rfl,ru,rv⟩:=wp r1
 obtain rfl:u=Value.ref l1:=ru
 obtain rfl:v=Value.ref l2:=rv
 obtain ⟨its1,_,b1,o1,e1⟩:=Inv.seq I1 k1 (k1.sqOf h1)
 obtain ⟨its2,_,b2,o2,e2⟩:=Inv.seq I1 k2 (k2.sqOf h2)
 refine Us (k1.of l1 its1.toArray) (k2.of l2 its2.toArray) b1 b2 fun g n hn z1 z2 z3 z4 z5 kp=>wpAny_pyIter_zip z1 ?_
 subst hn
 have f:∀ b∈[s1.heap.objs.size+4,s1.heap.objs.size+2,s1.heap.objs.size+3,s1.heap.objs.size,s1.heap.objs.size+1],jy X pins H1 b:=fun b hb=>by
  have hb' :s1.heap.objs.size<=b:=by
   simp only [List.mem_cons,List.not_mem_nil,or_false] at hb
   rcases hb with rfl | rfl | rfl | rfl | rfl
   ·exact Nat.le_add_right _ _
   ·exact Nat.le_add_right _ _
   ·exact Nat.le_add_right _ _
   ·exact Nat.le_refl _
   ·exact Nat.le_add_right _ _
  exact I1.fpOk hb' (I1.hok.fresh hb')
 exact ⟨s1.heap.objs.size+4,_,_,_,H1,rfl,I1.kept (t' :=s1.toks) kp,WT k1 k2 (Heap.lt_size e1) (Heap.lt_size e2),⟨z1,z2,⟨_,_,z3⟩,SK.start k1 z4,SK.start k2 z5⟩,f,q⟩
def Jh:T->R (List T)
 | .lst xs=> .ok xs
 | .tup xs=> .ok xs
 | _=> .bad
def Qb (fa fb:En->R T):En->R (List T):=fun ρ=>(fa ρ).bind fun t=>(fb ρ).bind fun u=>(Jh t).bind fun xs=>(Jh u).bind fun ys=> .ok (Ut xs ys)
theorem wY {B:Hp} {v:V} {t:T} {xs:List T} (r:Rep B v t) (e:Jh t= .ok xs):∃ (k:SK) (a:Addr) (vs:List V),v= .ref a/\B a=some (k.tr vs)/\zn B vs xs:=by
 cases r with
 | lst h r=>cases e; exact ⟨.l,_,_,rfl,h,r⟩
 | tup h r=>cases e; exact ⟨.t,_,_,rfl,h,r⟩
 | _=>cases e
theorem JD (t:T) (c:Nat):Jh t ≠ .ex c:=by cases t <;> exact fun z=>nomatch z
theorem Qc (hg:Gl X "zip") (hm:X.mg "zip"=none) (ha:Snd X Y a fa) (hb:Snd X Y b fb) (hs:starEach [a,b] X.env=[(false,eval a X.env),(false,eval b X.env)]:=by exact st2 rfl rfl) (hs2:starEach [b] X.env=[(false,eval b X.env)]:=by exact st1 rfl):
  wb X Y (.Tuple elts kk pt) (.Call (.Name "zip" p) [a,b] [] pos) (Qb fa fb):= .mk fun ρ=>
 PI.imp (Yd hg hm (zi (ha ρ) (zi (hb ρ) zB hs2) (by rw [hs,hs2])) hs hs2) fun σ H R ⟨B,I,q⟩=>step I q fun t v H1 _ s1 r1 I1 q1=>step I1 q1 fun u v' H2 _ s2 r2 I2 q2=>by
  cases e1:Jh t with
  | bad=>rw [e1] at q2; exact q2.elim
  | ex c=>exact absurd e1 (JD _ _)
  | ok xs=>
   rw [e1] at q2
   cases e2:Jh u with
   | bad=>rw [e2] at q2; exact q2.elim
   | ex c=>exact absurd e2 (JD _ _)
   | ok ys=>
    rw [e2] at q2
    obtain ⟨k1,a1,vs1,rfl,h1,w1⟩:=wY (r1.mono (zp.ge I1.sB s2)) e1
    obtain ⟨k2,a2,vs2,rfl,h2,w2⟩:=wY r2 e2
    exact ⟨k1,k2,a1,a2,vs1,vs2,rfl,I2.sB _ _ h1,I2.sB _ _ h2,zZ I2 (show Po Y rI _ H2 (.ok (Ut xs ys)) R from q2) (Yc h1 h2 w1 w2)⟩
end
end PV
namespace PV
open PySem PySem.Spec PyProof.Rows L2
section
variable {X:Cx} {Y:Fx} {a b:Expr} {fa fb:En->R T} {pos p p' pos' :Pos}
end
def eqs (y:T):List T->Option (List Bool)
 | []=>some []
 | t :: ts=>match eqF 30 t y with
  | none=>none
  | some b=>match eqs y ts with
   | none=>none
   | some bs=>some (b :: bs)
def Qd (y:T) (ts:List T):R T:=match eqs y ts with
 | some bs=> .ok (.int (bs.count true))
 | none=> .bad
def Ye (y:T) (ts:List T):R T:=match eqs y ts with
 | some bs=>if true∈bs then .ok (.int (bs.idxOf true)) else .bad
 | none=> .bad
def UV (g:T->List T->R T) (fa fb:En->R T):En->R T:=fun ρ=>(fa ρ).bind fun t=>match t with
 | .lst ts=>(fb ρ).bind fun u=>g u ts
 | _=> .bad
theorem wZ {H:Hp} {y:T} {e:Value->Bool} (he:∀ (v:V) (t:T) (u:Value) (b:Bool),zF v u->Rep H v t->eqF 30 t y=some b->e u=b):∀ {xs:List V} {ts:List T} {its:List Value} {bs:List Bool},
  zz xs its->zn H xs ts->eqs y ts=some bs->its.map e=bs/\∀ u∈its,∃ v t k,zF v u/\Rep H v t/\eqF 30 t y=some k
 | _,_,_,_, .nil, .nil,h=>by
  cases h
  exact ⟨rfl,fun u hu=>by simp at hu⟩
 | _,_,_,_, .cons rv vs, .cons r rs,h=>by
  rename_i v u vals us t ts
  unfold eqs at h
  cases q:eqF 30 t y with
  | none=>rw [q] at h; cases h
  | some k=>
   rw [q] at h
   cases q' :eqs y ts with
   | none=>rw [q'] at h; cases h
   | some k' =>
    rw [q'] at h
    cases h
    obtain ⟨h1,h2⟩:=wZ he vs rs q'
    refine ⟨by rw [List.map_cons,h1,he v t u k rv r q],fun w hw=> ?_⟩
    rcases List.mem_cons.mp hw with z | hw
    ·exact ⟨v,t,k,z ▸ rv,r,q⟩
    ·exact h2 w hw
section
variable {X:Cx} {Y:Fx} {a b:Expr} {fa fb:En->R T} {pos p p' pos' :Pos}
theorem W0 {e:Value->Bool}:∀ its:List Value,List.countP e its=(its.map e).count true
 | []=>rfl
 | u :: us=>by
  rw [List.countP_cons,List.map_cons,List.count_cons,W0 us]
  cases e u <;> rfl
theorem WV (hu:X.A.units+64 < cLine):MtR X "list.count" (fun x xs H Q=>∃ l ys ts v t bs,x= .ref l/\xs=[v]/\H l=some (.lst ys)/\zn H ys ts/\Rep H v t/\eqs t ts=some bs/\Q (.int (bs.count true)) H):=by
 intro pins s σ H x xs v0 us Q I rx rv h
 obtain ⟨l,ys,ts,v,t,bs,rfl,rfl,hl,r,rt,e,q⟩:=h
 obtain rfl:v0=Value.ref l:=rx
 obtain ⟨u,rfl,ru⟩:=ZF rv
 obtain ⟨hz,its,n,ri,eo⟩:=(show zD X.prog X.w H s.heap l (.lst ys) from I.hok l _ hl)
 obtain ⟨f,hf⟩:=Ja (H:=H) fun z=>eqF 30 z t
 obtain ⟨h2,h3⟩:=wZ hf ri r e
 refine call_meets PySem.F.slot_list_count ⟨_,eo,rfl⟩ PySem.F.entry_list_count (PySem.F.args_list_count_2 _ _) (SeqAt.list_countAt l its.toArray n none #[] u f) ⟨eo,fun w hw=> ?_, ?_⟩
 ·obtain ⟨v',t',k,rv',rr,ee⟩:=h3 w (by simpa using hw)
  rw [hf v' t' w k rv' rr ee]
  exact (wE I 30 X.A.in1 (by rw [Zq]; omega) t' t k v' v w u ee rr rt rv' ru).1
 ·rw [show its.toArray.toList=its from rfl,W0,h2]
  exact ⟨.int _,H,I.tok _,⟨_,rfl⟩,q⟩
theorem WW (hu:X.A.units+64 < cLine):MtR X "list.index" (fun x xs H Q=>∃ l ys ts v t bs,x= .ref l/\xs=[v]/\H l=some (.lst ys)/\zn H ys ts/\Rep H v t/\eqs t ts=some bs/\true∈bs/\Q (.int (bs.idxOf true)) H):=by
 intro pins s σ H x xs v0 us Q I rx rv h
 obtain ⟨l,ys,ts,v,t,bs,rfl,rfl,hl,r,rt,e,hm,q⟩:=h
 obtain rfl:v0=Value.ref l:=rx
 obtain ⟨u,rfl,ru⟩:=ZF rv
 obtain ⟨hz,its,n,ri,eo⟩:=(show zD X.prog X.w H s.heap l (.lst ys) from I.hok l _ hl)
 obtain ⟨f,hf⟩:=Ja (H:=H) fun z=>eqF 30 z t
 obtain ⟨h2,h3⟩:=wZ hf ri r e
 have hj:bs.idxOf true < bs.length:=List.idxOf_lt_length_iff.mpr hm
 have hlen:bs.length=its.length:=by rw [← h2,List.length_map]
 have hri:=ri.length
 rw [sizeLine_eq] at hz
 have hat:∀ m (hm:m < its.length),f its[m]=bs[m]'(by rw [hlen]; exact hm):=fun m hm=>by
  have:(its.map f)[m]'(by rw [List.length_map]; exact hm)=bs[m]'(by rw [hlen]; exact hm):=by simp only [h2]
  rw [← this,List.getElem_map]
 refine call_meets PySem.F.slot_list_index ⟨_,eo,rfl⟩ PySem.F.entry_list_index (PySem.F.args_list_index_2 _ _) (SeqAt.list_indexAt l its.toArray n none #[] u f (bs.idxOf true) (by rw [List.size_toArray,← hlen]; exact hj) (by omega) ?_ ?_) ⟨eo,fun w hw=> ?_, ?_⟩
 ·rw [List.getElem_toArray,hat]
  exact List.getElem_idxOf hj
 ·intro m hm hlt
  rw [List.getElem_toArray,hat m (by simpa using hm)]
  have:=List.not_of_lt_findIdx (p:=(· == true)) (xs:=bs) (i:=m) hlt
  simpa using this
 ·obtain ⟨v',t',k,rv',rr,ee⟩:=h3 w (by simpa using hw)
  rw [hf v' t' w k rv' rr ee]
  exact (wE I 30 X.A.in1 (by rw [Zq]; omega) t' t k v' v w u ee rr rt rv' ru).1
 ·exact ⟨.int _,H,I.tok _,⟨_,rfl⟩,q⟩
theorem Uu {pa:Pos} (hu:X.A.units+64 < cLine) (ha:Zi X Y a fa) (hb:Zi X Y b fb) (hb1:attributeBase a "count" X.env (eval a X.env)=eval a X.env:=by rfl) (hs:St1 X b:=by exact st1 rfl) (hz:(pa.endLine == p.line)=true:=by rfl):
  Snd X Y (.Call (.Attribute a "count" pa) [b] [] p) (UV Qd fa fb):= .mk fun ρ=>by
 have e1:(((((backTo p (starEach [b] X.env)).all fun x=> !x.fst) && (backToKw p (keywordEach [] X.env)).all fun x=>x.fst.isSome) && decide (([b].length+([]:List Keyword).length+if ([]:List Keyword).isEmpty=true then 0 else 1) < 30))=true):=by rw [hs]; rfl
 refine PE.imp (Wx PySem.F.plainAttrs_list PySem.F.slot_list_count PySem.F.type_list_count (WV hu) (ha ρ) (zi (hb ρ) zB hs) hb1 e1 hz hs rfl) fun σ H Q ⟨B,I,q⟩=>step I q fun t v H1 _ s1 r1 I1 q1=> ?_
 cases t with
 | lst ts=>
  cases r1 with
  | @lst l xs _ h r=>
   refine ⟨.inl ⟨rfl,_,SqL.of h⟩,step I1 q1 fun u v' H2 _ s2 r2 I2 q2=> ?_⟩
   unfold Qd at q2
   split at q2
   ·rename_i bs e
    exact ⟨l,xs,ts,v',u,bs,rfl,rfl,s2 _ _ h,r.mono s2,r2,e,zZ I2 q2 (.int _)⟩
   ·exact q2.elim
 | _=>exact q1.elim
theorem Uv {pa:Pos} (hu:X.A.units+64 < cLine) (ha:Zi X Y a fa) (hb:Zi X Y b fb) (hb1:attributeBase a "index" X.env (eval a X.env)=eval a X.env:=by rfl) (hs:St1 X b:=by exact st1 rfl) (hz:(pa.endLine == p.line)=true:=by rfl):
  Snd X Y (.Call (.Attribute a "index" pa) [b] [] p) (UV Ye fa fb):= .mk fun ρ=>by
 have e1:(((((backTo p (starEach [b] X.env)).all fun x=> !x.fst) && (backToKw p (keywordEach [] X.env)).all fun x=>x.fst.isSome) && decide (([b].length+([]:List Keyword).length+if ([]:List Keyword).isEmpty=true then 0 else 1) < 30))=true):=by rw [hs]; rfl
 refine PE.imp (Wx PySem.F.plainAttrs_list PySem.F.slot_list_index PySem.F.type_list_index (WW hu) (ha ρ) (zi (hb ρ) zB hs) hb1 e1 hz hs rfl) fun σ H Q ⟨B,I,q⟩=>step I q fun t v H1 _ s1 r1 I1 q1=> ?_
 cases t with
 | lst ts=>
  cases r1 with
  | @lst l xs _ h r=>
   refine ⟨.inl ⟨rfl,_,SqL.of h⟩,step I1 q1 fun u v' H2 _ s2 r2 I2 q2=> ?_⟩
   unfold Ye at q2
   split at q2
   ·rename_i bs e
    split at q2
    ·rename_i hm
     exact ⟨l,xs,ts,v',u,bs,rfl,rfl,s2 _ _ h,r.mono s2,r2,e,hm,zZ I2 q2 (.int _)⟩
    ·exact q2.elim
   ·exact q2.elim
 | _=>exact q1.elim
end
def Z7:List T->Option (List Int)
 | []=>some []
 | .int i :: r=>match Z7 r with | some l=>some (i :: l) | none=>none
 | _ :: _=>none
def QP:T->R T
 | .lst ts=>match Z7 ts with | some l=> .ok (.int l.sum) | none=> .bad
 | _=> .bad
theorem jp:∀ {H:Hp} {xs:List V} {ts:List T} {its:List Value} {is:List Int},zn H xs ts->zz xs its->Z7 ts=some is->∃ ps:List (Int×Tok),its=ps.map (fun p=>Value.int p.1 p.2)/\ps.map (·.1)=is
 | _,_,_,_,is, .nil, .nil,h=>by
  have h' :some []=some is:=h
  cases h'
  exact ⟨[],rfl,rfl⟩
 | H,_,_,_,is, .cons (v:=x) (t:=t) r rs, .cons (b:=u) rv vs,h=>by
  cases r with
  | int i=>
   unfold Z7 at h
   split at h
   ·rename_i l e
    cases h
    obtain ⟨ps,h1,h2⟩:=jp rs vs e
    obtain ⟨tk,rfl⟩:=rv
    exact ⟨(i,tk) :: ps,by rw [h1]; rfl,by rw [List.map_cons,h2]⟩
   ·cases h
  | _=>cases h
section
variable {X:Cx} {Y:Fx} {a b:Expr} {fa fb:En->R T} {pos p p' pos' :Pos}
theorem W1 (hh:X.A.handled=none):Z2 X (.builtin "sum") (fun vs H Q=>∃ l xs ts is,vs=[.ref l]/\H l=some (.lst xs)/\zn H xs ts/\Z7 ts=some is/\Q (.int is.sum) H):=by
 intro pins s σ H vs us Q I rv h
 obtain ⟨l,xs,ts,is,rfl,hl,r,hk,q⟩:=h
 obtain ⟨u,rfl,ru⟩:=ZF rv
 obtain rfl:u=Value.ref l:=ru
 obtain ⟨its,rv,p,_⟩:=zq I (.inl hl) r
 obtain ⟨ps,h1,h2⟩:=jp r rv hk
 have e:its.toArray=intItems ps.toArray:=by rw [h1]; simp [intItems]
 rw [e] at p
 refine sum_intListG hh p fun h' tk t' kp=> ?_
 have e2:preSum (numAt ps.toArray) ps.toArray.size=is.sum:=by
  rw [preSum_eq,List.take_of_length_le (by simp),← h2]
 rw [e2]
 exact ⟨.int is.sum,H,I.kept (t' :=tk) kp,⟨t',rfl⟩,q⟩
theorem Qe (hh:X.A.handled=none) (gl:Gl X "sum") (mg:X.mg "sum"=none) (ha:Zi X Y a fa) (hs:St1 X a:=by exact st1 rfl):Snd X Y (.Call (.Name "sum" p) [a] [] pos) (ap1 QP fa):=
 Jv (W1 hh) (fun v t B H Q r sB q=>by
  cases r with
  | @lst l xs ts h r=>
   have q:Po Y rC B H (match Z7 ts with | some k=> .ok (.int k.sum) | none=> .bad) Q:=q
   split at q
   ·rename_i k e
    exact ⟨l,xs,ts,k,rfl,h,r,e,po0 sB q rfl (.int _)⟩
   ·exact q.elim
  | _=>exact q.elim) gl mg boot_sum ha hs
end
section
variable {X:Cx} {Y:Fx} {a b:Expr} {fa fb:En->R T} {pos p p' pos' :Pos}
end
section
variable {X:Cx} {Y:Fx} {tg iter elt:Expr} {ifs:List Expr} {scope:Scope} {pos pos' :Pos} {N' :List Str} {k:Nat} {js:List Nat} {fi:En->R (List T)} {tG:TG} {g:T->En->R En} {ft:En->R Bool} {fe:En->R T}
end
section
variable {P:Program} {w:World} {K:PySem.W.Frag} {mg:Str->Option Value} {base:Heap}
end
end PV
namespace PySem.RV
open PySem PySem.Spec PyProof.Rows PySem.Builtin.SmallTypes
theorem JE:Manifest.owners.lookup (String.ofList "desrever".toList.reverse)=some Manifest.sig_reversed:=by kernel_rfl
theorem Z8:Slot "reversed" "__next__" "reversed.__next__":=
 .of (owner:="reversed") (n:="__next__") (by rw [typeLookup_type,builtinLookup_eq_fast]; kernel_rfl) (by decide+kernel) (by decide+kernel) (by decide+kernel)
  (by first | exact .inl (by decide+kernel) | exact .inr (by decide+kernel)) (by rw [isSubtype_type]; kernel_rfl)
theorem ja:entryFor table "reversed.__next__"=some Builtin.«reversed.__next__»:=entryFor_of_tree (by kernel_rfl)
theorem jS (a:Value):argsOk "reversed.__next__" ⟨[a],[]⟩:=by
 unfold argsOk; rw [signature?_of (id:="reversed.__next__") (n:="__txen__".toList) (o:="desrever".toList) (by kernel_rfl) JE]; kernel_rfl
theorem jT:Slot "reversed" "__iter__" "reversed.__iter__":=
 .of (owner:="reversed") (n:="__iter__") (by rw [typeLookup_type,builtinLookup_eq_fast]; kernel_rfl) (by decide+kernel) (by decide+kernel) (by decide+kernel)
  (by first | exact .inl (by decide+kernel) | exact .inr (by decide+kernel)) (by rw [isSubtype_type]; kernel_rfl)
theorem W2 (a:Value):argsOk "reversed.__iter__" ⟨[a],[]⟩:=by
 unfold argsOk; rw [signature?_of (id:="reversed.__iter__") (n:="__reti__".toList) (o:="desrever".toList) (by kernel_rfl) JE]; kernel_rfl
theorem w4:entryFor table "reversed.__iter__"=some Builtin.«dict_keyiterator.__iter__»:=
 entryFor_alias (id' :="dict_keyiterator.__iter__") (by kernel_rfl) (by first | rfl | decide+kernel | (unfold String.splitOn; simp+decide [String.splitOnAux])) (by decide+kernel) (by kernel_rfl)
theorem Yf:typeLookup (.type "tuple") "__reversed__"=pure none:=by rw [typeLookup_type,builtinLookup_eq_fast]; kernel_rfl
theorem Yg:isSubtype (.type "tuple") (.type "dict")=pure false:=by rw [isSubtype_type]; kernel_rfl
abbrev IsRv (h:Heap) (it:Addr) (v:Value) (i:Int):Prop:=h.get? it=some { cls:= .type "reversed",data:= .fields #[v,rawInt i] }
section
variable {prog:Program} {w:World} {A:Around} {E:Value->Shared->Prop} {s:Shared} {it l:Addr} {xs:Array Value}
theorem Ji {v:Value} {i:Int} (x:IsRv s.heap it v i):s.TypeIs (.ref it) "reversed":=⟨_,x,rfl⟩
theorem next_item {i:Nat} {x:Value} {Q:Option Value->Shared->Prop} (hit:IsRv s.heap it (.ref l) (i:Int)) (ht:IsTup s.heap l xs) (hf:(xs.size:Int) < 2 ^ 63) (hx:xs[i]? =some x)
  (hQ:∀ h' tk,IsRv h' it (.ref l) ((i:Int) - 1)->Heap.SameBut it s.heap h' ->Q (some x) { s with heap:=h',toks:=tk }):wpAny (model prog w) A (pyNext (.ref it)) Q E s:=by
 unfold pyNext
 refine wpAny_bind (wpAny_attempt (wpAny_callSpecial?_slot (name:=Str.ofString "__next__") (Ji hit) Z8 (wpAny_call_entry Z8 (Ji hit) ja ?_ (jS _))))
 unfold Builtin.«reversed.__next__»
 refine wpAny_bind (wpAny_of_eq (a:=(Value.ref it,[])) rfl ?_)
 dsimp only
 refine wpAny_bind (wpAny_field hit rfl (x:= .ref l) rfl ?_)
 refine wpAny_bind (wpAny_field hit rfl (x:=rawInt (i:Int)) rfl ?_)
 show wpAny _ _ (if (i:Int) < 0 then _ else _) _ _ s
 rw [if_neg (by omega)]
 have hi:i < xs.size:=(Array.getElem?_eq_some_iff.mp hx).1
 have hT:=ht.typeIs (s:=s)
 refine wpAny_bind (wpAny_specialOf hT slot_tuple_getitem.lookup ?_)
 show wpAny _ _ (if (some _:Option Value).isNone=true then _ else _) _ _ s
 rw [if_neg (by simp)]
 refine wpAny_bind (wpAny_mkInt ?_)
 refine wpAny_bind (wpAny_attempt (getItem_tuple (s:={ s with toks:=s.toks+1 }) ht (by omega) (by omega) (seqIndex_of (by omega) (by omega)) (by simpa using hx) ?_))
 dsimp only
 refine wpAny_bind (wpAny_field (s:={ s with toks:=s.toks+1 }) hit rfl (x:=rawInt (i:Int)) rfl ?_)
 show wpAny _ _ (setField (.ref it) 1 (rawInt ((i:Int) - 1)) >>= _) _ _ _
 refine wpAny_bind (wpAny_setField_rec (s:={ s with toks:=s.toks+1 }) hit (by simp) fun g1 z1 e1=> ?_)
 exact wpAny_pure ⟨x,rfl,wpAny_pure (hQ g1 _ z1 e1)⟩
theorem next_end {Q:Option Value->Shared->Prop} (hh:A.handled=none) (hit:IsRv s.heap it (.ref l) (-1))
  (hQ:∀ h',Heap.ExtBut it s.heap h' ->Q none { s with heap:=h' }):wpAny (model prog w) A (pyNext (.ref it)) Q E s:=by
 unfold pyNext
 refine wpAny_bind (wpAny_attempt (wpAny_callSpecial?_slot (name:=Str.ofString "__next__") (Ji hit) Z8 (wpAny_call_entry Z8 (Ji hit) ja ?_ (jS _))))
 unfold Builtin.«reversed.__next__»
 refine wpAny_bind (wpAny_of_eq (a:=(Value.ref it,[])) rfl ?_)
 dsimp only
 refine wpAny_bind (wpAny_field hit rfl (x:= .ref l) rfl ?_)
 refine wpAny_bind (wpAny_field hit rfl (x:=rawInt (-1)) rfl ?_)
 show wpAny _ _ (if (-1:Int) < 0 then _ else _) _ _ s
 rw [if_pos (by decide)]
 refine wpAny_bind (wpAny_rule ?_)
 refine wpAny_bind (show wpAny _ _ (do setField (.ref it) 1 (rawInt (-1)); setField (.ref it) 0 .none) _ _ _ from ?_)
 refine wpAny_bind (wpAny_setField_rec hit (by simp) fun g1 z1 e1=> ?_)
 refine wpAny_setField_rec (s:={ s with heap:=g1 }) z1 (by simp) fun g2 z2 e2=> ?_
 refine wpAny_bind (show wpAny _ _ (newExc (.type "StopIteration") [] >>= fun e=>raiseNew e) _ _ _ from ?_)
 refine wpAny_bind ?_
 simp only [newExc,newTuple]
 refine wpAny_bind (wpAny_newObj_type (wpAny_bind (m:=firstArgMember _ _) (wpAny_of_eq (a:=Value.none) (by first | rfl | (simp only [firstArgMember]; rfl)) (wpAny_newObj_type ?_ (by size_fits)))) (by size_fits))
 simp only [raiseNew]
 refine wpAny_bind (wpAny_handled ?_)
 rw [show A.in1.handled=none from hh]
 refine wpAny_bind (wpAny_pure (wpAny_throw ?_))
 refine wpAny_bind (wpAny_isInstance (T:="StopIteration") (b:=true) ⟨_,Heap.get?_push_size _ rfl,rfl⟩ isSubtype_stop ?_)
 exact wpAny_pure (hQ _ (((e1.extBut.trans e2.extBut).push _).push _))
theorem iter_rv {v:Value} {i:Int} {Q:Value->Shared->Prop} (hit:IsRv s.heap it v i) (h:Q (.ref it) s):wpAny (model prog w) A (pyIter (.ref it)) Q E s:=by
 refine wpAny_pyIter_slot (Ji hit) jT (wpAny_call_entry jT (Ji hit) w4 ?_ (W2 _))
 show wpAny _ _ (ret (.ref it)) _ _ s
 exact wpAny_pure ⟨_,rfl,"reversed",_,Ji hit,Z8.lookup,h⟩
theorem uw:mroOf (.type "reversed")=pure [.type "reversed", .type "object"]:=by rw [mroOf_type]; kernel_rfl
theorem Yh:typeLookup (.type "reversed") "__new__"=pure (some (.builtin "reversed.__new__")):=by rw [typeLookup_type,builtinLookup_eq_fast]; kernel_rfl
theorem Uw:Bind.madeBy (.type "reversed")=pure (some "reversed.__new__"):=madeBy_type uw Yh (by decide+kernel)
theorem Yi:isSubtype (.type "reversed") (.type "reversed")=pure true:=by rw [isSubtype_type]; kernel_rfl
theorem Yj (a:Value):newClass "reversed" ⟨[.type "reversed",a],[]⟩=pure (.type "reversed",[a]):=by
 unfold newClass
 simp only [isType,Yi,pure_bind,Bool.not_true,Bool.false_eq_true,if_false]
theorem W3:entryFor table "reversed.__new__"=some Builtin.«reversed.__new__»:=entryFor_of_tree (by kernel_rfl)
theorem WX {Q:Fin->Shared->Prop} (ht:IsTup s.heap l xs) (hf:(xs.size:Int) < 2 ^ 63)
  (h:∀ tk,Q (.done (.ret (.ref s.heap.objs.size))) { s with heap:=s.heap.push { cls:= .type "reversed",data:= .fields #[.ref l,rawInt ((xs.size:Int) - 1)] },toks:=tk }):
  wpAny (model prog w) A (Builtin.«reversed.__new__» ⟨[.type "reversed", .ref l],[]⟩) Q E s:=by
 have hT:=ht.typeIs (s:=s)
 unfold Builtin.«reversed.__new__»
 refine wpAny_bind (wpAny_of_eq (Yj _) ?_)
 try dsimp only
 refine wpAny_bind (wpAny_of_eq (a:=()) (by first | rfl | kernel_rfl) ?_)
 refine wpAny_bind (wpAny_of_eq (a:=()) (by first | rfl | kernel_rfl) ?_)
 try dsimp only
 refine wpAny_bind (wpAny_specialOf hT Yf ?_)
 try dsimp only
 refine wpAny_bind (m:=(do
   if ← isInstance (.ref l) (.type "dict") then return false
   match ← specialOf (.ref l) "__getitem__" with
   | none=>return false
   | some (.builtin id)=>
    if ["tuple.__getitem__","str.__getitem__","bytes.__getitem__","bytearray.__getitem__","memoryview.__getitem__","numpy.ndarray.__getitem__","sqlite3.Row.__getitem__"].contains id then return true
    if id == "sqlite3.Blob.__getitem__" then return false
    unsupported "reversed.__new__:is-it-a-sequence"
   | some _=>return true)) ?_
 refine wpAny_bind (wpAny_isInstance hT Yg ?_); rw [if_neg (by simp)]
 refine wpAny_bind (wpAny_specialOf hT slot_tuple_getitem.lookup ?_)
 dsimp only
 rw [if_pos (by decide)]
 refine wpAny_pure ?_
 rw [if_neg (by simp)]
 refine wpAny_bind (len_tuple ht hf ?_)
 refine wpAny_bind (wpAny_of_eq (a:=some (xs.size:Int)) rfl ?_)
 dsimp only
 refine wpAny_bind (show wpAny _ _ (newObj (.type "reversed") (.fields #[.ref l,rawInt ((xs.size:Int) - 1)])) _ _ _ from ?_)
 exact wpAny_newObj_type (wpAny_pure (h _)) (by size_fits)
theorem W4:Slot "reversed" "__init__" "object.__init__":=
 .of (owner:="object") (n:="__init__") (by rw [typeLookup_type,builtinLookup_eq_fast]; kernel_rfl) (by decide+kernel) (by decide+kernel) (by decide+kernel)
  (by first | exact .inl (by decide+kernel) | exact .inr (by decide+kernel)) (by rw [isSubtype_type]; kernel_rfl)
theorem W5:TypeCalled "reversed" "reversed.__new__" "object.__init__":=
 ⟨by decide+kernel,by decide+kernel,⟨_,_,uw⟩,Uw,by decide+kernel,by rw [isSubtype_type]; kernel_rfl,W4⟩
theorem WY (a:Value):checkTypeCall "reversed" ⟨[a],[]⟩=pure ():=by kernel_rfl
theorem WZ (a:Value):checkBuiltinCall "reversed.__new__" ⟨[.type "reversed",a],[]⟩=pure ():=by kernel_rfl
theorem call_rvT {Q:Value->Shared->Prop} (ht:IsTup s.heap l xs) (hf:(xs.size:Int) < 2 ^ 63)
  (h:∀ tk,Q (.ref s.heap.objs.size) { s with heap:=s.heap.push { cls:= .type "reversed",data:= .fields #[.ref l,rawInt ((xs.size:Int) - 1)] },toks:=tk }):wpAny (model prog w) A (call (.type "reversed") [.ref l]) Q E s:=by
 refine callType_new (S:=fun _ R s=>(∃ xs,IsTup s.heap l xs/\(xs.size:Int) < 2 ^ 63/\∀ tk,R (.ok (.ret (.ref s.heap.objs.size))) { s with heap:=s.heap.push { cls:= .type "reversed",data:= .fields #[.ref l,rawInt ((xs.size:Int) - 1)] },toks:=tk })) W5 (by decide) (WY _) (WZ _) (fun obj=>PySem.F.args_object_init_2 obj _) W3 (.of_wp fun prog w A R s h=> ?_) ⟨xs,ht,hf,fun tk=> ?_⟩
 ·obtain ⟨xs,h1,h2,h3⟩:=h
  exact WX h1 h2 fun tk=>⟨_,rfl,h3 tk⟩
 ·exact ⟨⟨_,Heap.get?_push_size _ rfl,rfl⟩,h tk⟩
end
end PySem.RV
namespace PySem.RV
open PySem PySem.Spec PyProof.Rows
theorem u0:typeLookup (.type "list_reverseiterator") "__len__"=pure none:=by rw [typeLookup_type,builtinLookup_eq_fast]; kernel_rfl
theorem Ux:typeLookup (.type "list_reverseiterator") "__length_hint__"=pure (some (.builtin "list_reverseiterator.__length_hint__")):=by rw [typeLookup_type,builtinLookup_eq_fast]; kernel_rfl
section
variable {prog:Program} {w:World} {A:Around} {E:Value->Shared->Prop} {s:Shared} {I:Addr} {fp wr:List Addr} {G:Array GenState->Array GenState->Prop} {n:Nat} {P:Nat->Value->Prop} {St:Nat->Shared->Prop}
theorem w5 {Q:List Value->Shared->Prop} (W:WalksS prog w A.in1 I fp wr G n P St) (hT:∀ i s,St i s->s.TypeIs (.ref I) "list_reverseiterator") (hst:St 0 s) (hfp:∀ b∈fp,b < s.heap.objs.size) (hI:I∈fp)
  (hQ:∀ s' acc,Moved wr G s s' ->ItemsOf P acc n->Q acc.toList s') (hn:n<=sizeLine):wpAny (model prog w) A (collect (.ref I)) Q E s:=by
 have nf:s.heap.objs.size ∉ fp:=fun z=>Nat.lt_irrefl _ (hfp _ z)
 have nI:s.heap.objs.size ≠ I:=fun z=>nf (z ▸ hI)
 unfold collect
 refine wpAny_bind (wpAny_runValue (codeAny_builtin F.entry_proto_collect ?_))
 rw [Around.under_plainId F.plain_proto_collect _]
 refine (show wpAny _ A.in1 (newList [] >>= fun l=>again (.builtin "list.__iadd__" ⟨[l, .ref I],[]⟩)) _ _ s from ?_)
 refine wpAny_bind (wpAny_newObj_type (wpAny_pure ⟨plainId_quiet F.plain_list_iadd _,codeAny_builtin F.entry_list_iadd ?_⟩))
 rw [Around.under_plainId F.plain_list_iadd _]
 have g0:=W.frame 0 s (s.heap.push { cls:= .type "list",data:= .seq ([]:List Value).toArray }) s.toks hst (Nat.le_refl _) fun b _ o e=>Heap.get?_push_of_some _ e
 have g1:(s.heap.push { cls:= .type "list",data:= .seq ([]:List Value).toArray }).get? s.heap.objs.size=some { cls:= .type "list",data:= .seq ([]:List Value).toArray }:=Heap.get?_push_size _ rfl
 have g2:Builtin.List.listSameRef (.ref s.heap.objs.size) (.ref I)=false:=by simp [Builtin.List.listSameRef,nI]
 refine (show wpAny _ A.in1 (Builtin.List.listExtendWith (.ref s.heap.objs.size) (.ref I) (.ref s.heap.objs.size)) _ _ _ from ?_)
 unfold Builtin.List.listExtendWith
 refine wpAny_bind (wpAny_typeOf (hT 0 _ g0) ?_)
 rw [if_neg (by rw [g2]; decide)]
 refine wpAny_bind (W.self 0 _ _ _ g0 (wpAny_bind (wpAny_holding ?_)))
 unfold Builtin.List.listLengthHint
 refine wpAny_bind (wpAny_specialOf (hT 0 _ g0) u0 ?_)
 refine (show wpAny _ A.in1 (specialOf (Value.ref I) (Str.ofString "__length_hint__") >>= _) _ _ _ from ?_)
 refine wpAny_bind (wpAny_specialOf (hT 0 _ g0) Ux ?_)
 generalize hid:("list_reverseiterator.__length_hint__":String)=id0
 wp_delta
 rw [show splitId id0=some ("list_reverseiterator","__length_hint__") from by subst hid; decide+kernel]
 subst hid
 refine wpAny_bind (wpAny_isInstance (b:=true) (hT 0 _ g0) (by rw [isSubtype_type]; kernel_rfl) ?_)
 refine wpAny_pure ?_
 rw [if_neg (by decide)]
 refine wpAny_pure ⟨plainId_quiet F.plain_extend_loop _,codeAny_extend_loopS W hn _ nf _ n 0 _ _ _ rfl (Nat.zero_le _) g0 g1 (ItemsOf.nil P) fun s' acc' c' hm hS' hacc=> ?_⟩
 refine (show wpAny _ A (load s.heap.objs.size >>= _) _ _ s' from ?_)
 exact wpAny_bind (wpAny_load hS' (wpAny_pure (hQ s' acc' (Moved.drop_new (o:={ cls:= .type "list",data:= .seq ([]:List Value).toArray }) (tk:=s.toks) hm (Nat.le_refl _)) hacc)))
theorem Yk {Q₁:Value->Shared->Prop} (W:WalksS prog w A.in1.in1 I fp wr G n P St) (hT:∀ i s,St i s->s.TypeIs (.ref I) "list_reverseiterator") (hst:St 0 s) (hfp:∀ b∈fp,b < s.heap.objs.size) (hI:I∈fp)
  (h:∀ s' acc,Moved wr G s s' ->ItemsOf P acc n->Q₁ (.ref s'.heap.objs.size) { s' with heap:=s'.heap.push { cls:= .type "tuple",data:= .seq acc } }) (hsz:n<=sizeLine):
  codeAny (model prog w) A (.call (.builtin "tuple.__new__") ⟨[.type "tuple", .ref I],[]⟩) (wants Q₁ E) s:=by
 refine codeAny_of_tree ?_
 refine (show wpAny _ A.in1 (do checkBuiltinCall "tuple.__new__" ⟨[.type "tuple", .ref I],[]⟩; again (.builtin "tuple.__new__" ⟨[.type "tuple", .ref I],[]⟩)) _ _ s from ?_)
 refine wpAny_bind (wpAny_of_eq (F.newCall_tuple_1 _) (wpAny_pure ⟨plainId_quiet F.plain_tuple_new _,codeAny_builtin F.entry_tuple_new ?_⟩))
 rw [Around.under_plainId F.plain_tuple_new _]
 have hsub:=sub_tuple_self
 have hinit:=init_tuple_lookup
 have hmh:=madeHere_tuple
 have ty:=hT 0 s hst
 wp_walk using wpAny_typeOf ty,w5 (hn:=hsz) W hT hst hfp hI
 intro s' acc hm hacc
 have e:acc.toList.toArray=acc:=by simp
 refine (show wpAny _ _ (Builtin.Tuple.tupleExact acc.toList.toArray >>= fun v=>ret v) _ _ _ from ?_)
 unfold Builtin.Tuple.tupleExact
 refine wpAny_bind (wpAny_newObj_type (wpAny_pure ?_) (by rw [e]; show acc.size<=sizeLine; rw [hacc.1]; exact hsz))
 rw [e]
 exact h s' acc hm hacc
theorem tuple_lr {Q:Value->Shared->Prop} (W:WalksS prog w A.in1.in1.in1 I fp wr G n P St) (hT:∀ i s,St i s->s.TypeIs (.ref I) "list_reverseiterator") (hst:St 0 s) (hfp:∀ b∈fp,b < s.heap.objs.size) (hI:I∈fp)
  (hQ:∀ s' acc,Moved wr G s s' ->ItemsOf P acc n->Q (.ref s'.heap.objs.size) { s' with heap:=s'.heap.push { cls:= .type "tuple",data:= .seq acc } }) (hsz:n<=sizeLine):
  wpAny (model prog w) A (call (.type "tuple") [.ref I]) Q E s:=
 callType_codes (Q₁:=fun obj s₁=>s₁.TypeIs obj "tuple"/\Q obj s₁) F.called_tuple (F.typeCall_tuple_1 _) F.entry_object_init
  (Yk (hsz:=hsz) W hT hst hfp hI fun s' acc hm hacc=>⟨⟨_,Heap.get?_push_size _ rfl,rfl⟩,hQ s' acc hm hacc⟩) fun obj s₁ h₁=>
   ⟨h₁.1,F.args_object_init_2 obj _,object_init_meets F.called_tuple.init.lookup F.called_tuple.made (by decide) prog w A.in1 _ s₁ ⟨h₁.1,rfl,h₁.2⟩⟩
end
end PySem.RV
namespace PV
open PySem PySem.Spec PyProof.Rows L2
def Qf (K:PySem.W.Frag) (a:Addr) (n:Nat):It:=
 ⟨fun i H=>∃ xs x,SqT K H a xs/\xs.length=n/\xs.reverse[i]? =some x,fun i H x H' =>H' =H/\∀ xs,SqT K H a xs->xs.reverse[i]? =some x,fun i H=>∃ xs,SqT K H a xs/\xs.length=n/\n<=i⟩
def Qg (K:PySem.W.Frag) (a:Addr) (n:Nat):It:=
 ⟨fun i H=>∃ xs x,SqL K H a xs/\xs.length=n/\xs.reverse[i]? =some x,fun i H x H' =>H' =H/\∀ xs,SqL K H a xs->xs.reverse[i]? =some x,fun i H=>∃ xs,SqL K H a xs/\xs.length=n/\n<=i⟩
theorem ux {α:Type} {xs:List α} {i:Nat} {x:α} (h:xs.reverse[i]? =some x):i < xs.length/\xs[xs.length - 1 - i]? =some x:=by
 have hi:=(List.getElem?_eq_some_iff.mp h).1
 rw [List.length_reverse] at hi
 rw [List.getElem?_reverse hi] at h
 exact ⟨hi,h⟩
theorem u1 {P:Program} {w:World} {K:PySem.W.Frag} {tg:Expr} (a it:Addr) (n:Nat):Wk P w K tg (Qf K a n) [it] it (fun i h=>i<=n/\RV.IsRv h it (.ref a) ((n:Int) - 1 - (i:Int))) where
 mem:=by simp
 obj:=fun i h st b hb=>by
  have e:b=it:=by simpa using hb
  subst e
  exact ⟨_,st.2,fun v z=>nomatch z⟩
 keep:=fun i h h' st k=>⟨st.1,k it (by simp) _ st.2⟩
 item:=by
  intro X hP hw hK hc i pins s σ H E I hf st hg
  subst hP hw hK
  obtain ⟨xs,x,hq,hn,hx⟩:=hg
  obtain ⟨its,rv,p,hz⟩:=I.tuple hq
  obtain ⟨hi,hx'⟩:=ux hx
  obtain ⟨u,hu,ru⟩:=rv.get hx'
  obtain ⟨f0,f1,f2,f3,f4,f5⟩:=hf it (by simp)
  have hl:=rv.length
  have e:(n:Int) - 1 - (i:Int)=((xs.length - 1 - i:Nat):Int):=by omega
  have hit:=st.2
  rw [e] at hit
  have hb:(its.toArray.size:Int) < 2 ^ 63:=by
   rw [sizeLine_eq] at hz
   simp; omega
  refine RV.next_item hit p hb (x:=u) (by simpa using hu) fun h' tk st' sb=> ?_
  have I1:Inv X pins σ H { s with heap:=h',toks:=tk }:=I.turned (t' :=tk) (fun b o hb e=>(sb.2 b hb).trans e) f0 f1 f3 f4 f5
  have e2:((xs.length - 1 - i:Nat):Int) - 1=(n:Int) - 1 - ((i+1:Nat):Int):=by omega
  rw [e2] at st'
  exact ⟨u,rfl,JL (s:={ s with heap:=h',toks:=tk }) st' rfl rfl (by decide) ⟨x,H,I1,ru,⟨rfl,fun ys hy=>by rw [I.tuple_inj hy hq]; exact hx⟩,⟨by omega,st'⟩,fun b hb=>(hf b hb).1⟩⟩
 done:=by
  intro X hP hw hK hc i pins s σ H E I hf st hg
  subst hP hw hK
  obtain ⟨xs,hq,hn,hx⟩:=hg
  obtain ⟨f0,f1,f2,f3,f4,f5⟩:=hf it (by simp)
  have hit:=st.2
  have h1:=st.1
  rw [show (n:Int) - 1 - (i:Int)= -1 by omega] at hit
  exact RV.next_end (I.ok.hd hc) hit fun h' eb=>⟨rfl,I.turned (t' :=s.toks) (fun b o hb e=>eb b o hb e) f0 f1 f3 f4 f5⟩
 self:=fun _ _ _ _ _ st h=>RV.iter_rv st.2 h
theorem u4 {P:Program} {w:World} {K:PySem.W.Frag} {tg:Expr} (a it:Addr) (n:Nat):Wk P w K tg (Qg K a n) [it] it (fun i h=>i<=n/\h.IsRevIter it a ((n:Int) - 1 - (i:Int))) where
 mem:=by simp
 obj:=fun i h st b hb=>by
  have e:b=it:=by simpa using hb
  subst e
  obtain ⟨o,e,c,d⟩:=st.2
  exact ⟨o,e,fun v z=>by rw [d] at z; cases z⟩
 keep:=fun i h h' st k=>⟨st.1,st.2.at fun o e=>k it (by simp) o e⟩
 item:=by
  intro X hP hw hK hc i pins s σ H E I hf st hg
  subst hP hw hK
  obtain ⟨xs,x,hq,hn,hx⟩:=hg
  obtain ⟨its,rv,p,hz⟩:=I.list hq
  obtain ⟨hi,hx'⟩:=ux hx
  obtain ⟨u,hu,ru⟩:=rv.get hx'
  obtain ⟨f0,f1,f2,f3,f4,f5⟩:=hf it (by simp)
  have e:(n:Int) - 1 - (i:Int)=((xs.length - 1 - i:Nat):Int):=by omega
  have hit:=st.2
  rw [e] at hit
  refine wpAny_pyNext_rev_item hit p.isList (x:=u) (by simpa using hu) fun h' st' sb=> ?_
  have I1:Inv X pins σ H { s with heap:=h' }:=I.turned (t' :=s.toks) (fun b o hb e=>(sb.2 b hb).trans e) f0 f1 f3 f4 f5
  have e2:((xs.length - 1 - i:Nat):Int) - 1=(n:Int) - 1 - ((i+1:Nat):Int):=by omega
  rw [e2] at st'
  obtain ⟨o,e,c,d⟩:=id st'
  exact ⟨u,rfl,JL (s:={ s with heap:=h' }) e c d (by decide) ⟨x,H,I1,ru,⟨rfl,fun ys hy=>by rw [I.list_inj hy hq]; exact hx⟩,⟨by omega,st'⟩,fun b hb=>(hf b hb).1⟩⟩
 done:=by
  intro X hP hw hK hc i pins s σ H E I hf st hg
  subst hP hw hK
  obtain ⟨xs,hq,hn,hx⟩:=hg
  obtain ⟨f0,f1,f2,f3,f4,f5⟩:=hf it (by simp)
  have hit:=st.2
  have h1:=st.1
  rw [show (n:Int) - 1 - (i:Int)= -1 by omega] at hit
  exact wpAny_pyNext_rev_end (I.ok.hd hc) hit fun h' eb=>⟨rfl,I.turned (t' :=s.toks) (fun b o hb e=>eb b o hb e) f0 f1 f3 f4 f5⟩
 self:=fun _ _ _ _ _ st h=>wpAny_pyIter_revIter st.2 h
theorem zn.rev {H:Hp}:∀ {vs:List V} {ts:List T},zn H vs ts->zn H vs.reverse ts.reverse
 | _,_, .nil=> .nil
 | _,_, .cons r t=>by rw [List.reverse_cons,List.reverse_cons]; exact (zn.rev t).append (.cons r .nil)
theorem Yl {K:PySem.W.Frag} {B1 H1:Hp} {a:Addr} {xs:List V} {ts:List T} (h:B1 a=some (.tup xs)) (r:zn B1 xs ts):rI B1 H1 (Qf K a xs.length) ts.reverse:=fun B2 H2 s1 s2=>by
 have h2:=s2 _ _ (s1 _ _ h)
 have hr:=r.rev
 refine ⟨fun i hi=> ?_,fun i t x H3 e y=> ?_,fun i hi=>⟨xs,SqT.of h2,rfl,by rw [List.length_reverse] at hi; rw [r.length]; exact hi⟩⟩
 ·obtain ⟨v,e,_⟩:=hr.get (List.getElem?_eq_getElem hi)
  exact ⟨xs,v,SqT.of h2,rfl,e⟩
 ·obtain ⟨rfl,y⟩:=y
  obtain ⟨v,e1,r1⟩:=hr.get e
  have:=y xs (SqT.of h2)
  rw [e1] at this; cases this
  refine ⟨zh.refl _, ?_⟩
  rw [zp.self B2 _ s2]
  exact r1.mono s1
theorem Ym {K:PySem.W.Frag} {B1 H1:Hp} {a:Addr} {xs:List V} {ts:List T} (h:B1 a=some (.lst xs)) (r:zn B1 xs ts):rI B1 H1 (Qg K a xs.length) ts.reverse:=fun B2 H2 s1 s2=>by
 have h2:=s2 _ _ (s1 _ _ h)
 have hr:=r.rev
 refine ⟨fun i hi=> ?_,fun i t x H3 e y=> ?_,fun i hi=>⟨xs,SqL.of h2,rfl,by rw [List.length_reverse] at hi; rw [r.length]; exact hi⟩⟩
 ·obtain ⟨v,e,_⟩:=hr.get (List.getElem?_eq_getElem hi)
  exact ⟨xs,v,SqL.of h2,rfl,e⟩
 ·obtain ⟨rfl,y⟩:=y
  obtain ⟨v,e1,r1⟩:=hr.get e
  have:=y xs (SqL.of h2)
  rw [e1] at this; cases this
  refine ⟨zh.refl _, ?_⟩
  rw [zp.self B2 _ s2]
  exact r1.mono s1
def QQ (fa:En->R T):En->R (List T):=fun ρ=>(fa ρ).bind fun t=>(Jh t).bind fun xs=> .ok xs.reverse
def Yn:T->R T
 | .lst xs=>if xs.length<=bnd then .ok (.tup xs.reverse) else .bad
 | _=> .bad
section
variable {X:Cx} {Y:Fx} {a b tg:Expr} {fa fb:En->R T} {pos p p' pos' :Pos}
theorem Yo {ta:TA} (hg:Gl X "reversed") (hm:X.mg "reversed"=none) (ha:PA X [a] ta) (hs:St1 X a:=by exact st1 rfl):
  PI X tg (.Call (.Name "reversed" p) [a] [] pos) (fun σ H R=>ta σ H fun vs H1=>∃ l xs,vs=[.ref l]/\((H1 l=some (.lst xs)/\R (Qg X.K l xs.length) H1)\/(H1 l=some (.tup xs)/\R (Qf X.K l xs.length) H1))):=by
 intro pins s σ H R I h
 refine Call_ (Zo I hg hm boot_reversed (PyProof.Rows.callWith_type1 (thn (ha pos pins s σ H _ I h) fun us s1 ⟨vs,H1,I1,r1,q1⟩=> ?_) hs rfl))
 obtain ⟨l,xs,e,q⟩:=q1
 subst e
 obtain ⟨u,rfl,ru⟩:=ZF r1
 obtain rfl:u=Value.ref l:=ru
 have ok:∀ b∈[s1.heap.objs.size],jy X pins H1 b:=fun b hb=>by
  have e:b=s1.heap.objs.size:=by simpa using hb
  subst e
  exact I1.fpOk (Nat.le_refl _) (I1.hok.fresh (Nat.le_refl _))
 rcases q with ⟨hl,q⟩ | ⟨hl,q⟩
 ·obtain ⟨its,rv,p,hz⟩:=I1.list (SqL.of hl)
  have e:((its.toArray.size:Nat):Int) - 1=(xs.length:Int) - 1 - ((0:Nat):Int):=by have:=rv.length; simp; omega
  refine call_reversed_list p.isList ?_
  rw [e]
  have st:(s1.heap.push (revObj l ((xs.length:Int) - 1 - ((0:Nat):Int)))).IsRevIter s1.heap.objs.size l ((xs.length:Int) - 1 - ((0:Nat):Int)):=⟨_,Heap.get?_push_size _ rfl,rfl,rfl⟩
  refine wpAny_pyIter_revIter (s:={ s1 with heap:=s1.heap.push (revObj l ((xs.length:Int) - 1 - ((0:Nat):Int))) }) st ?_
  exact ⟨s1.heap.objs.size,[s1.heap.objs.size],_,_,H1,rfl,I1.kept (t' :=s1.toks) (fun b o e=>Heap.get?_push_of_some _ e),u4 l _ xs.length,⟨Nat.zero_le _,st⟩,ok,q⟩
 ·obtain ⟨its,rv,p,hz⟩:=I1.tuple (SqT.of hl)
  have hlen:=rv.length
  have e:((its.toArray.size:Nat):Int) - 1=(xs.length:Int) - 1 - ((0:Nat):Int):=by simp; omega
  refine RV.call_rvT p (by rw [sizeLine_eq] at hz; simp; omega) fun tk=> ?_
  rw [e]
  refine RV.iter_rv (s:={ s1 with heap:=_,toks:=tk }) (Heap.get?_push_size _ rfl) ?_
  exact ⟨s1.heap.objs.size,[s1.heap.objs.size],_,_,H1,rfl,I1.kept (t' :=tk) (fun b o e=>Heap.get?_push_of_some _ e),u1 l _ xs.length,⟨Nat.zero_le _,Heap.get?_push_size _ rfl⟩,ok,q⟩
theorem Qh (hg:Gl X "reversed") (hm:X.mg "reversed"=none) (ha:Snd X Y a fa) (hs:St1 X a:=by exact st1 rfl):wb X Y tg (.Call (.Name "reversed" p) [a] [] pos) (QQ fa):= .mk fun ρ=>
 PI.imp (Yo hg hm (zi (ha ρ) zB hs) hs) fun σ H R ⟨B,I,q⟩=>step I q fun t v H1 _ s1 r1 I1 q1=>by
  cases r1 with
  | @tup l xs ts h r=>exact ⟨l,xs,rfl, .inr ⟨I1.sB _ _ h,zZ I1 (show Po Y rI _ H1 (.ok ts.reverse) R from q1) (Yl h r)⟩⟩
  | @lst l xs ts h r=>exact ⟨l,xs,rfl, .inl ⟨I1.sB _ _ h,zZ I1 (show Po Y rI _ H1 (.ok ts.reverse) R from q1) (Ym h r)⟩⟩
  | _=>exact q1.elim
theorem JF:∀ {xs ys:List V} {us ws:List Value},zz xs us->zz ys ws->zz (xs++ys) (us++ws)
 | _,_,_,_, .nil,q=>q
 | _,_,_,_, .cons r t,q=> .cons r (JF t q)
theorem JG:∀ {xs:List V} {us:List Value},zz xs us->zz xs.reverse us.reverse
 | _,_, .nil=> .nil
 | _,_, .cons r t=>by rw [List.reverse_cons,List.reverse_cons]; exact JF (JG t) (.cons r .nil)
theorem Uy {its:List Value} {acc:Array Value} (h:ItemsOf (fun i v=>its.toArray[its.toArray.size - 1 - i]? =some v) acc its.toArray.size):acc.toList=its.reverse:=by
 have h1:acc.size=its.length:=by
  have:=h.1
  simpa using this
 have h2:=h.2
 refine List.ext_getElem? fun i=> ?_
 by_cases hi:i < its.length
 ·have hlt:i < acc.toList.length:=by simp; omega
  have e:=List.getElem?_eq_getElem hlt
  have:=h2 i _ (by rw [← Array.getElem?_toList]; exact e)
  rw [List.getElem?_reverse hi,e,← this]
  simp
 ·rw [List.getElem?_eq_none (by simp; omega),List.getElem?_eq_none (by simp; omega)]
theorem Yp (hh:X.A.handled=none) (gl:Gl X "tuple") (mg:X.mg "tuple"=none) (gl' :Gl X "reversed") (mg' :X.mg "reversed"=none) (ha:Snd X Y a fa) (hs:St1 X a:=by exact st1 rfl) (hs' :St1 X (.Call (.Name "reversed" p') [a] [] pos'):=by exact st1 rfl):
  Snd X Y (.Call (.Name "tuple" p) [.Call (.Name "reversed" p') [a] [] pos'] [] pos) (ap1 Yn fa):= .mk fun ρ=>by
 intro pins s σ H Q I ⟨B,J,q⟩
 have hq:tS Y rC fa ρ σ H (fun v H1=>∃ l xs,v= .ref l/\H1 l=some (.lst xs)/\xs.length<=sizeLine/\∀ t,H1 t=none->Q (.ref t) (upd H1 t (.tup xs.reverse))):=by
  refine step J q fun t v H1 _ s1 r1 I1 q1=> ?_
  cases r1 with
  | @lst l xs ts h r=>
   have q1:Po Y rC _ H1 (if ts.length<=bnd then .ok (.tup ts.reverse) else .bad) Q:=q1
   split at q1
   ·rename_i hb
    exact ⟨l,xs,rfl,I1.sB _ _ h,by rw [r.length]; exact zR hb,fun t ht=>qI I1.sB q1 rfl r.rev ht⟩
   ·exact q1.elim
  | _=>exact q1.elim
 refine wpAny_Call_Name_kw (Zo I gl mg PyProof.Rows.Boot.«tuple» (PyProof.Rows.callWith_type1 (e:= .Call (.Name "reversed" p') [a] [] pos') (rest:=[]) ?_ hs' rfl))
 rw [hs']
 show wpAny _ _ (spliced [(false,eval (.Call (.Name "reversed" p') [a] [] pos') X.env)]) _ _ s
 refine Calls.spliced_cons (wpAny_Call_Name_kw (Zo I gl' mg' boot_reversed (PyProof.Rows.callWith_type1 (e:=a) (rest:=[]) ?_ hs rfl)))
 refine thn ((zi (ha ρ) zB hs) pos' pins s σ H (fun vs H1=>∃ l xs,vs=[.ref l]/\H1 l=some (.lst xs)/\xs.length<=sizeLine/\∀ t,H1 t=none->Q (.ref t) (upd H1 t (.tup xs.reverse))) I ?_) fun us s1 ⟨vs,H1,I1,r1,l,xs,e,hl,hz,q1⟩=> ?_
 ·obtain ⟨B',J',q'⟩:=hq
  refine ⟨B',J', ?_⟩
  revert q'
  cases fa ρ with
  | bad=>exact fun q' =>q'
  | ex c=>exact fun q' =>q'
  | ok t=>
   intro q' v H1 s1 r1
   obtain ⟨l,xs,rfl,h⟩:=q' v H1 s1 r1
   exact ⟨l,xs,rfl,h⟩
 subst e
 obtain ⟨u,rfl,ru⟩:=ZF r1
 obtain rfl:u=Value.ref l:=ru
 obtain ⟨its,rv,pl,_⟩:=I1.list (SqL.of hl)
 have hlt:l < s1.heap.objs.size:=I1.hok.lt hl
 refine call_reversed_list pl.isList (Calls.spliced_nil ?_)
 have e0:((its.toArray.size:Nat):Int) - 1 - ((0:Nat):Int)=((its.toArray.size:Nat):Int) - 1:=by omega
 refine RV.tuple_lr (s:={ s1 with heap:=s1.heap.push (revObj l ((its.toArray.size:Int) - 1)) }) (Walks.listRev (A:=X.A.in1.in1.in1) hh s1.heap.objs.size l (Nat.ne_of_lt hlt) its.toArray).toS (fun i s st=>st.2.1.typeIs) ⟨Nat.zero_le _,⟨_,Heap.get?_push_size _ rfl,rfl,by rw [e0]; rfl⟩,pl.isList.push _⟩ (fun b hb=> ?_) (by simp) (fun s' acc hm hacc=> ?_) (by rw [List.size_toArray,← rv.length]; exact hz)
 ·have hb:b=s1.heap.objs.size\/b=l:=by simpa using hb
  rcases hb with rfl | rfl
  ·rw [Heap.size_push]; exact Nat.lt_succ_self _
  ·rw [Heap.size_push]; exact Nat.lt_succ_of_lt hlt
 obtain ⟨h',g',d',tk',os'⟩:=s'
 have e1:g' =s1.gens:=hm.gens
 have e2:d' =s1.drawn:=hm.drawn
 have e3:os' =s1.os:=hm.os
 subst e1 e2 e3
 have kp:∀ b o,s1.heap.get? b=some o->h'.get? b=some o:=fun b o e=>hm.heap b o (fun z=>by
  have z:b=s1.heap.objs.size:=by simpa using z
  have:=Heap.lt_size e
  rw [z] at this
  exact Nat.lt_irrefl _ this) (Heap.get?_push_of_some _ e)
 have I2:Inv X pins σ H1 { s1 with heap:=h',toks:=tk' }:=I1.kept (t' :=tk') kp
 have ea:acc=its.reverse.toArray:=by rw [← Uy hacc]
 rw [ea]
 refine ⟨.ref h'.objs.size,upd H1 h'.objs.size (.tup xs.reverse),I2.laid (t' :=tk') (fun b u e=>Heap.get?_push_of_some _ e) (Nat.le_refl _) ⟨by rw [List.length_reverse]; exact hz,its.reverse,JG rv,⟨_,Heap.get?_push_size _ rfl,rfl,_,rfl⟩, .inr ⟨_,Heap.get?_push_size _ rfl,rfl⟩⟩,rfl,q1 _ (I2.hok.fresh (Nat.le_refl _))⟩
end
section
variable {X:Cx} {Y:Fx} {a b:Expr} {fa fb:En->R T} {pos p p' pos' pt:Pos} {elts:List Expr} {kk:Nat}
end
section
variable {X:Cx} {Y:Fx} {a b:Expr} {fa fb:En->R T} {pos p p' pos' pt:Pos} {elts:List Expr} {kk:Nat}
end
end PV
namespace PySem.RV
open PySem PySem.Spec PyProof.Rows PySem.Builtin.SmallTypes
end PySem.RV
namespace PV
open PySem PySem.Spec PyProof.Rows L2
section
variable {X:Cx} {Y:Fx} {a:Expr} {fa:En->R T} {pos p pt:Pos} {elts:List Expr} {kk:Nat}
end
end PV
namespace PySem.RW37
open PySem PySem.Spec PyProof.Rows L2
section
variable {X:Cx} {pos:Pos}
end
end PySem.RW37
namespace PV
open PySem PySem.Spec PyProof.Rows L2 PySem.RW37
section
variable {X:Cx} {Y:Fx} {pos:Pos} {a b c:Expr}
theorem w8 {pins:List (Addr×Obj)} {σ:L2.St} {H:Hp} {s:Shared} {A:Around} {E:Value->Shared->Prop} {Q:Value->Shared->Prop} {b:Bool} {v:V} {u:Value} {t:T} {tp:Addr} {xs:List V} {its:List Value} (I:Inv X pins σ H s) (rx:zF v u) (r:Rep H v t) (hp:H tp=some (.tup xs)) (hv:zz xs its)
  (hu:∀ its',zz xs its' ->its' =its) (e:PySem.W.kitAny X.K (.type (tyN t)) its=some b) (h:∀ tk,Q (.bool b) { s with toks:=tk }):
  wpAny (model X.prog X.w) A (call (.builtin "isinstance") [u, .ref tp]) Q E s:=by
 obtain ⟨_,its',hv',⟨o,ho,hc,n,hd⟩,_⟩:=(show zD X.prog X.w H s.heap tp (.tup xs) from I.hok tp _ hp)
 obtain rfl:=hu _ hv'
 obtain ⟨c,dd,da,sl⟩:=o
 dsimp only at hc hd
 subst hc hd
 cases r with
 | non=>cases (show u=Value.none from rx); exact PySem.W.kia_tup PySem.W.kitx_none I.kIn True.intro ho e (fun z=>nomatch z) h
 | bl y=>cases (show u=Value.bool y from rx); exact PySem.W.kia_tup PySem.W.kitx_bool I.kIn True.intro ho e (fun z=>nomatch z) h
 | int i=>obtain ⟨t,q⟩:=(show ∃ t,u=Value.int i t from rx); cases q; exact PySem.W.kia_tup PySem.W.kitx_int I.kIn True.intro ho e (fun z=>nomatch z) h
 | str y=>obtain ⟨t,q⟩:=(show ∃ t,u=Value.str y t from rx); cases q; exact PySem.W.kia_tup PySem.W.kitx_str I.kIn True.intro ho e (fun z=>nomatch z) h
 | @tup a xs _ ea=>
  cases (show u=Value.ref a from rx)
  obtain ⟨_,_,_,p,_⟩:=(show zD X.prog X.w H s.heap a (.tup xs) from I.hok a _ ea)
  obtain ⟨o,h1,h2,_⟩:=p
  exact PySem.W.kia_tup PySem.W.kitx_tuple I.kIn ⟨o,h1,h2⟩ ho e (fun z=>nomatch z) h
 | @lst a xs _ ea=>
  cases (show u=Value.ref a from rx)
  obtain ⟨_,_,n,_,h1⟩:=(show zD X.prog X.w H s.heap a (.lst xs) from I.hok a _ ea)
  exact PySem.W.kia_tup PySem.W.kitx_list I.kIn ⟨_,h1,rfl⟩ ho e (fun z=>nomatch z) h
 | @fz a ob xs _ ea=>
  cases (show u=Value.ref a from rx)
  obtain ⟨_,_,_,n,_,h1⟩:=(show zD X.prog X.w H s.heap a (.frz ob (.lst xs)) from I.hok a _ ea)
  exact PySem.W.kia_tup PySem.W.kitx_list I.kIn ⟨_,h1,rfl⟩ ho e (fun z=>nomatch z) h
theorem u5 {n m:String}:∀ its',zz [.ty n, .ty m] its' ->its' =[.type n, .type m]:=fun its' h=>by
 cases h with
 | cons p q=>
  cases q with
  | cons p' q' =>
   cases q'
   rw [show _=Value.type n from p,show _=Value.type m from p']
theorem W6:Z2 X (.builtin "isinstance") (fun xs H Q=>∃ v tp n m t b,xs=[v, .ref tp]/\H tp=some (.tup [.ty n, .ty m])/\Rep H v t/\PySem.W.kitAny X.K (.type (tyN t)) [.type n, .type m]=some b/\Q (.bl b) H):=by
 intro pins s σ H xs us Q I rv h
 obtain ⟨v,tp,n,m,t,b,rfl,hp,r,hk,q⟩:=h
 obtain ⟨u,w,rfl,ru,rw'⟩:=wp rv
 obtain rfl:w=Value.ref tp:=rw'
 exact w8 I ru r hp (.cons rfl (.cons rfl .nil)) u5 hk fun tk=>⟨.bl _,H,I.tok tk,rfl,q⟩
def Yq (n m:String) (t:T):R T:= .ok (.bl (isT n t || isT m t))
theorem Uz {K:PySem.W.Frag} {t:T} {n m:String} (h1:PySem.W.kitOne K (.type (tyN t)) (.type n)=some (isT n t)) (h2:PySem.W.kitOne K (.type (tyN t)) (.type m)=some (isT m t)):
  PySem.W.kitAny K (.type (tyN t)) [.type n, .type m]=some (isT n t || isT m t):=by
 unfold PySem.W.kitAny
 rw [h1]
 cases isT n t with
 | true=>rfl
 | false=>
  show PySem.W.kitAny K (.type (tyN t)) [.type m]=_
  unfold PySem.W.kitAny
  rw [h2]
  cases isT m t <;> rfl
theorem Yr {fa:En->R T} {p p1 p2 pt:Pos} {n m:String} {kt:Nat} (hk:∀ t,PySem.W.kitOne X.K (.type (tyN t)) (.type n)=some (isT n t)) (hk' :∀ t,PySem.W.kitOne X.K (.type (tyN t)) (.type m)=some (isT m t))
  (gl:Gl X "isinstance") (mg:X.mg "isinstance"=none) (gl1:Gl X (Str.ofString n)) (mg1:X.mg (Str.ofString n)=none) (bt1:bootBuiltins (Str.ofString n)=some (.type n)) (gl2:Gl X (Str.ofString m)) (mg2:X.mg (Str.ofString m)=none) (bt2:bootBuiltins (Str.ofString m)=some (.type m)) (ha:Snd X Y a fa)
  (hs:starEach [a, .Tuple [.Name (Str.ofString n) p1, .Name (Str.ofString m) p2] kt pt] X.env=[(false,eval a X.env),(false,eval (.Tuple [.Name (Str.ofString n) p1, .Name (Str.ofString m) p2] kt pt) X.env)]:=by exact st2 rfl rfl)
  (hs2:starEach [.Tuple [.Name (Str.ofString n) p1, .Name (Str.ofString m) p2] kt pt] X.env=[(false,eval (.Tuple [.Name (Str.ofString n) p1, .Name (Str.ofString m) p2] kt pt) X.env)]:=by exact st1 rfl)
  (hs3:starEach [.Name (Str.ofString n) p1, .Name (Str.ofString m) p2] X.env=[(false,eval (.Name (Str.ofString n) p1) X.env),(false,eval (.Name (Str.ofString m) p2) X.env)]:=by exact st2 rfl rfl)
  (hs4:starEach [.Name (Str.ofString m) p2] X.env=[(false,eval (.Name (Str.ofString m) p2) X.env)]:=by exact st1 rfl)
  (hn1:Str.ofString n ≠ "__name__":=by decide) (hd1:(Str.ofString n == ("__debug__":Str))=false:=by decide) (hn2:Str.ofString m ≠ "__name__":=by decide) (hd2:(Str.ofString m == ("__debug__":Str))=false:=by decide)
  (hz:((backTo pos (starEach [.Tuple [.Name (Str.ofString n) p1, .Name (Str.ofString m) p2] kt pt] X.env)).any fun x=>x.fst)=false:=by exact zH rfl):
  Snd X Y (.Call (.Name "isinstance" p) [a, .Tuple [.Name (Str.ofString n) p1, .Name (Str.ofString m) p2] kt pt] [] pos) (ap1 (Yq n m) fa):= .mk fun ρ=>
 PE.imp (Z3 W6 gl mg PyProof.Rows.Boot.«isinstance» (zi (ha ρ) (zi (uf (zi (jg (v:= .ty n) gl1 mg1 bt1 rfl hn1 hd1) (zi (jg (v:= .ty m) gl2 mg2 bt2 rfl hn2 hd2) zB hs4) (by rw [hs3,hs4]))) zB hs2) (by rw [hs,hs2])) (by decide) (by decide) (by rw [hs,hs2]) hz) fun σ H Q ⟨B,I,q⟩=>
  step I q fun t v H1 _ s1 r1 I1 q1=>⟨zR (by show 2<=bnd; decide),fun p hp=>⟨v,p,n,m,t,_,rfl,zg,(r1.mono I1.sB).mono (zh.new hp _),Uz (hk t) (hk' t),q1 _ _ (zh.new hp _) (.bl _)⟩⟩
def UA (fa:En->R T) (g:T->En->R En):En->RS:=fun ρ=>(fa ρ).s fun t=>match g t ρ with
 | .ok ρ' => .nx ρ'
 | _=> .bad
theorem Ys {tg:Expr} {fa:En->R T} {g:T->En->R En} (ha:Snd X Y a fa) (hg:yY X Y tg g) (hs:swapsWithSole [tg] a pos.line X.env=pure false:=by rfl) (hw:swappedStores [tg] a X.env=pure none:=by rfl)
  (h1:(assignEach [tg] X.env).map (·.2)=[assign tg X.env]:=by rfl):jO X Y (.Assign [tg] a pos) (UA fa g):= .mk fun ρ=>by
 obtain ⟨tt,hp,hr⟩:=hg
 refine PS.imp (yg (ha ρ) hp hs hw h1) fun D σ H ⟨B,I,q⟩=>j1 I q fun t v H1 _ s1 r1 I1 q1=>hr _ _ _ _ _ _ _ I1 r1 ?_
 cases h:g t ρ with
 | ok ρ' =>
  rw [h] at q1
  exact fun σ' I' =>q1 _ _ _ (zh.refl _) I'
 | ex c=>rw [h] at q1; exact q1.elim
 | bad=>rw [h] at q1; exact q1.elim
end
end PV
namespace PV
open PySem PySem.Spec PyProof.Rows L2
def Yt (t t' :T):R T:=match t,t' with
 | .int i, .int j=> .ok (.int (if j > i then j else i))
 | _,_=> .bad
def Zv (f:Int->Int->Bool):Int->List Int->Int
 | i,[]=>i
 | i,j :: r=>Zv f (if f j i then j else i) r
def maxLT:T->R T
 | .lst ts=>match Z7 ts with | some (i :: l)=> .ok (.int (Zv (fun a b=>decide (b < a)) i l)) | _=> .bad
 | _=> .bad
def Yu:T->R T
 | .lst ts=>match Z7 ts with | some (i :: l)=> .ok (.int (Zv (fun a b=>decide (a < b)) i l)) | _=> .bad
 | _=> .bad
theorem jq:∀ (l:List Int) (i:Int),Zv (fun a b=>decide (b < a)) i l∈i :: l/\∀ x∈i :: l,x<=Zv (fun a b=>decide (b < a)) i l
 | [],i=>⟨List.mem_cons_self,fun x h=>by simp at h; subst h; exact Int.le_refl _⟩
 | j :: r,i=>by
  unfold Zv
  by_cases hj:i < j
  ·simp only [hj,decide_true,if_true]
   obtain ⟨h1,h2⟩:=jq r j
   refine ⟨List.mem_cons_of_mem _ h1,fun x hx=> ?_⟩
   rcases List.mem_cons.mp hx with rfl | hx
   ·exact Int.le_trans (Int.le_of_lt hj) (h2 j List.mem_cons_self)
   ·exact h2 x hx
  ·simp only [hj,decide_false,Bool.false_eq_true,if_false]
   obtain ⟨h1,h2⟩:=jq r i
   refine ⟨?_,fun x hx=> ?_⟩
   ·rcases List.mem_cons.mp h1 with h | h
    ·rw [h]; exact List.mem_cons_self
    ·exact List.mem_cons_of_mem _ (List.mem_cons_of_mem _ h)
   ·rcases List.mem_cons.mp hx with rfl | hx
    ·exact h2 x List.mem_cons_self
    ·rcases List.mem_cons.mp hx with rfl | hx
     ·exact Int.le_trans (Int.not_lt.mp hj) (h2 i List.mem_cons_self)
     ·exact h2 x (List.mem_cons_of_mem _ hx)
theorem jr:∀ (l:List Int) (i:Int),Zv (fun a b=>decide (a < b)) i l∈i :: l/\∀ x∈i :: l,Zv (fun a b=>decide (a < b)) i l<=x
 | [],i=>⟨List.mem_cons_self,fun x h=>by simp at h; subst h; exact Int.le_refl _⟩
 | j :: r,i=>by
  unfold Zv
  by_cases hj:j < i
  ·simp only [hj,decide_true,if_true]
   obtain ⟨h1,h2⟩:=jr r j
   refine ⟨List.mem_cons_of_mem _ h1,fun x hx=> ?_⟩
   rcases List.mem_cons.mp hx with rfl | hx
   ·exact Int.le_trans (h2 j List.mem_cons_self) (Int.le_of_lt hj)
   ·exact h2 x hx
  ·simp only [hj,decide_false,Bool.false_eq_true,if_false]
   obtain ⟨h1,h2⟩:=jr r i
   refine ⟨?_,fun x hx=> ?_⟩
   ·rcases List.mem_cons.mp h1 with h | h
    ·rw [h]; exact List.mem_cons_self
    ·exact List.mem_cons_of_mem _ (List.mem_cons_of_mem _ h)
   ·rcases List.mem_cons.mp hx with rfl | hx
    ·exact h2 x List.mem_cons_self
    ·rcases List.mem_cons.mp hx with rfl | hx
     ·exact Int.le_trans (h2 i List.mem_cons_self) (Int.not_lt.mp hj)
     ·exact h2 x (List.mem_cons_of_mem _ hx)
theorem Zw (ps:List (Int×Tok)) (i:Nat) (h:i < ps.length):numAt ps.toArray i=(ps.map (·.1))[i]'(by simpa using h):=by
 unfold numAt
 simp [h]
section
variable {X:Cx} {Y:Fx} {a b:Expr} {fa fb:En->R T} {pos p p' pos' pt:Pos} {elts:List Expr} {kk:Nat}
theorem Yv (hc:X.calm=true) (gl:Gl X "max") (mg:X.mg "max"=none) (ha:Snd X Y a fa) (hb:Snd X Y b fb)
  (hs:starEach [a,b] X.env=[(false,eval a X.env),(false,eval b X.env)]:=by exact st2 rfl rfl) (hs2:starEach [b] X.env=[(false,eval b X.env)]:=by exact st1 rfl):
  Snd X Y (.Call (.Name "max" p) [a,b] [] pos) (zd Yt fa fb):= .mk fun ρ=>
 PE.imp (Z3 (wq hc) gl mg PyProof.Rows.Boot.«max» (zi (ha ρ) (zi (hb ρ) zB hs2) (by rw [hs,hs2])) (by decide) (by decide) (by rw [hs,hs2]) (by rw [hs2]; rfl)) fun σ H Q ⟨B,I,q⟩=>
  step I q fun t v H1 _ s1 r1 I1 q1=>step I1 q1 fun t' v' H2 _ s2 r2 I2 q2=>by
   cases r1 with
   | int i=>
    cases r2 with
    | int j=>exact ⟨i,j,rfl,po0 I2.sB q2 rfl (.int _)⟩
    | _=>exact q2.elim
   | _=>cases r2 <;> exact q2.elim
theorem Yw (hh:X.A.handled=none):Z2 X (.builtin "max") (fun vs H Q=>∃ l xs ts i is,vs=[.ref l]/\H l=some (.lst xs)/\zn H xs ts/\Z7 ts=some (i :: is)/\Q (.int (Zv (fun a b=>decide (b < a)) i is)) H):=by
 intro pins s σ H vs us Q I rv h
 obtain ⟨l,xs,ts,i,is,rfl,hl,r,hk,q⟩:=h
 obtain ⟨u,rfl,ru⟩:=ZF rv
 obtain rfl:u=Value.ref l:=ru
 obtain ⟨its,rv,p,_⟩:=zq I (.inl hl) r
 obtain ⟨ps,h1,h2⟩:=jp r rv hk
 have e:its.toArray=intItems ps.toArray:=by rw [h1]; simp [intItems]
 rw [e] at p
 have hlen:ps.length=is.length+1:=by have:=congrArg List.length h2; simpa using this
 refine max_intList hh p (by simp [hlen]) fun v h' tk hv kp=> ?_
 obtain ⟨t,rfl⟩:=intItems_at hv
 obtain ⟨b1,b2⟩:=argBest_gt (numAt ps.toArray) (ps.toArray.size - 1)
 have hsz:ps.toArray.size=ps.length:=by simp
 rw [hsz] at b1 b2 ⊢
 obtain ⟨m1,m2⟩:=jq is i
 have e2:numAt ps.toArray (argBest (fun i j=>decide (numAt ps.toArray i > numAt ps.toArray j)) (ps.length - 1))=Zv (fun a b=>decide (b < a)) i is:=by
  refine Int.le_antisymm (m2 _ ?_) ?_
  ·rw [Zw ps _ (by omega),← h2]
   exact List.getElem_mem _
  ·rw [← h2] at m1
   obtain ⟨j,hj,ej⟩:=List.mem_iff_getElem.mp m1
   rw [← ej]
   have hj' :j < ps.length:=by simpa using hj
   rw [← Zw ps j hj']
   exact b2 j (by omega)
 rw [e2]
 exact ⟨.int _,H,I.kept (t' :=tk) kp,⟨t,rfl⟩,q⟩
theorem W7 (hh:X.A.handled=none):Z2 X (.builtin "min") (fun vs H Q=>∃ l xs ts i is,vs=[.ref l]/\H l=some (.lst xs)/\zn H xs ts/\Z7 ts=some (i :: is)/\Q (.int (Zv (fun a b=>decide (a < b)) i is)) H):=by
 intro pins s σ H vs us Q I rv h
 obtain ⟨l,xs,ts,i,is,rfl,hl,r,hk,q⟩:=h
 obtain ⟨u,rfl,ru⟩:=ZF rv
 obtain rfl:u=Value.ref l:=ru
 obtain ⟨its,rv,p,_⟩:=zq I (.inl hl) r
 obtain ⟨ps,h1,h2⟩:=jp r rv hk
 have e:its.toArray=intItems ps.toArray:=by rw [h1]; simp [intItems]
 rw [e] at p
 have hlen:ps.length=is.length+1:=by have:=congrArg List.length h2; simpa using this
 refine min_intList hh p (by simp [hlen]) fun v h' tk hv kp=> ?_
 obtain ⟨t,rfl⟩:=intItems_at hv
 obtain ⟨b1,b2⟩:=argBest_lt (numAt ps.toArray) (ps.toArray.size - 1)
 have hsz:ps.toArray.size=ps.length:=by simp
 rw [hsz] at b1 b2 ⊢
 obtain ⟨m1,m2⟩:=jr is i
 have e2:numAt ps.toArray (argBest (fun i j=>decide (numAt ps.toArray i < numAt ps.toArray j)) (ps.length - 1))=Zv (fun a b=>decide (a < b)) i is:=by
  refine Int.le_antisymm ?_ (m2 _ ?_)
  ·rw [← h2] at m1
   obtain ⟨j,hj,ej⟩:=List.mem_iff_getElem.mp m1
   rw [← ej]
   have hj' :j < ps.length:=by simpa using hj
   rw [← Zw ps j hj']
   exact b2 j (by omega)
  ·rw [Zw ps _ (by omega),← h2]
   exact List.getElem_mem _
 rw [e2]
 exact ⟨.int _,H,I.kept (t' :=tk) kp,⟨t,rfl⟩,q⟩
theorem Yx (hh:X.A.handled=none) (gl:Gl X "min") (mg:X.mg "min"=none) (ha:Zi X Y a fa) (hs:St1 X a:=by exact st1 rfl):Snd X Y (.Call (.Name "min" p) [a] [] pos) (ap1 Yu fa):=
 Jv (W7 hh) (fun v t B H Q r sB q=>by
  cases r with
  | @lst l xs ts h r=>
   have q:Po Y rC B H (match Z7 ts with | some (i :: l)=> .ok (.int (Zv (fun a b=>decide (a < b)) i l)) | _=> .bad) Q:=q
   split at q
   ·rename_i i k e
    exact ⟨l,xs,ts,i,k,rfl,h,r,e,po0 sB q rfl (.int _)⟩
   ·exact q.elim
  | _=>exact q.elim) gl mg PyProof.Rows.Boot.«min» ha hs
end
section
variable {X:Cx} {Y:Fx} {tg iter elt:Expr} {ifs:List Expr} {scope:Scope} {pos pos' :Pos} {N' :List Str} {k:Nat} {js:List Nat} {fi:En->R (List T)} {tG:TG} {g:T->En->R En} {ft:En->R Bool} {fe:En->R T}
end
section
variable {prog:Program} {w:World} {A:Around} {R:Result->Shared->Prop} {I:Addr} {fp wr:List Addr} {n:Nat} {P:Nat->Value->Prop} {St:Nat->Heap->Prop}
end
section
variable {prog:Program} {w:World} {A:Around} {E:Value->Shared->Prop} {s:Shared} {l:Addr} {xs:Array (Int×Tok)}
end
section
variable {X:Cx} {Y:Fx} {a b:Expr} {fa fb:En->R T} {pos p p' pos' pt kp:Pos} {elts:List Expr} {kk:Nat}
end
section
variable {prog:Program} {w:World} {K:Type} [DecidableEq K] {knd:KeyKind prog w K} {A:Around} {E:Value->Shared->Prop} {s:Shared}
end
section
variable {prog:Program} {w:World} {A:Around} {E:Value->Shared->Prop} {s:Shared} {I S:Addr} {i ep j:Nat} {o:Obj} {es:Array (Int×Value)} {t:SetTable}
end
section
variable {prog:Program} {w:World} {A:Around} {E:Value->Shared->Prop} {s:Shared} {I S P:Addr} {i ep j:Nat} {es:Array (Int×Value)} {t:SetTable}
end
section
variable {prog:Program} {w:World} {A:Around} {E:Value->Shared->Prop} {s:Shared} {S:Addr} {ep:Nat} {es:Array (Int×Value)} {t:SetTable}
end
section
variable {prog:Program} {w:World} {A:Around} {E:Value->Shared->Prop} {s:Shared} {S:Addr}
end
section
variable {prog:Program} {w:World} {A:Around} {R:Result->Shared->Prop} {I:Addr} {fp wr:List Addr} {n:Nat} {P:Nat->Value->Prop} {St:Nat->Heap->Prop}
end
section
variable {prog:Program} {w:World} {A:Around} {E:Value->Shared->Prop} {s:Shared}
end
section
variable {prog:Program} {w:World} {A:Around} {E:Value->Shared->Prop} {s:Shared} {S:Addr}
end
section
variable {X:Cx} {Y:Fx} {a b:Expr} {fa fb:En->R T} {pos pos' p p' :Pos}
end
section
variable {X:Cx} {Y:Fx} {a b:Expr} {fa fb:En->R T} {pos:Pos}
end
section
variable {X:Cx} {Y:Fx} {a b:Expr} {fa fb:En->R T} {pos:Pos}
end
section
variable {prog:Program} {w:World} {A:Around} {E:Value->Shared->Prop} {s:Shared}
end
section
variable {prog:Program} {w:World} {A:Around} {E:Value->Shared->Prop} {s:Shared}
end
section
variable {prog:Program} {w:World} {A:Around} {R:Result->Shared->Prop} {I:Addr} {fp wr:List Addr} {n:Nat} {P:Nat->Value->Prop} {St:Nat->Heap->Prop}
end
section
variable {prog:Program} {w:World} {A:Around} {E:Value->Shared->Prop} {s:Shared}
end
section
variable {X:Cx} {Y:Fx} {a b:Expr} {fa fb:En->R T} {pos pos' p p' :Pos}
end
section
variable {X:Cx} {Y:Fx} {a:Expr} {fa:En->R T} {pos pos' p p' :Pos}
end
section
variable {X:Cx} {Y:Fx} {a b:Expr} {fa fb:En->R T} {pos:Pos}
end
section
variable {X:Cx} {Y:Fx} {a:Expr} {fa:En->R T} {pos p2 p3 p4:Pos} {kc:Nat}
end
end PV
namespace PySem.RV
open PySem PySem.Spec PyProof.Rows PySem.Builtin.SmallTypes
section
variable {prog:Program} {w:World} {A:Around} {E:Value->Shared->Prop} {s:Shared} {I l:Addr} {xs:Array Value}
end
end PySem.RV
namespace PV
open PySem PySem.Spec PyProof.Rows L2
section
variable {X:Cx} {Y:Fx} {a:Expr} {fa:En->R T} {pos p p' pos' :Pos}
end
section
variable {X:Cx} {Y:Fx} {a b c:Expr} {fa fb fc:En->R T} {pos p:Pos}
section
variable {pa:Pos}
end
end
section
variable {X:Cx} {Y:Fx} {a b c:Expr} {fa fb fc:En->R T} {pos p p1 p2 p3:Pos} {kc:Nat}
end
section
variable {X:Cx} {Y:Fx} {a:Expr} {fa:En->R T} {pos p pt:Pos} {elts:List Expr} {kk:Nat}
end
end PV
namespace PV
open PySem PySem.W PyProof.Rows
section
variable {α β:Type}
end
section
variable {O:KeyOrd} {n:Nat} {key:Nat->O.α}
variable (hk:∀ i j,i < n->j < n->key i=key j->i=j)
include hk
omit hk in
omit hk in
omit hk in
omit hk in
end
end PV
namespace PV
open PySem PySem.Spec PyProof.Rows L2
section
variable {P:Program} {w:World} {H:Hp} {h:Heap}
end
section
variable {X:Cx} {Y:Fx} {a:Expr} {fa:En->R T} {p pos:Pos}
end
section
open PySem.W PySem.Calls
variable {O:KeyOrd} {n:Nat} {key:Nat->O.α}
end
section
variable {prog:Program} {w:World} {A:Around} {E:Value->Shared->Prop} {s:Shared}
open PySem.W PySem.Calls
end
section
variable {X:Cx} {Y:Fx} {a:Expr} {fa:En->R T} {p pos:Pos}
end
end PV
namespace PV
open PySem PySem.Spec PyProof.Rows L2
section
variable {X:Cx} {Y:Fx} {a b:Expr} {fa:En->R T} {pos p p1 p2 p3 lp sp' :Pos}
end
section
variable {prog:Program} {w:World} {A:Around} {E:Value->Shared->Prop} {s:Shared}
open HT in
open HT in
end
section
variable {X:Cx} {Y:Fx} {a:Expr} {fa:En->R T} {pos p2 p3 p4:Pos} {kc:Nat}
end
end PV
namespace PV
open PySem PySem.Spec PyProof.Rows L2
end PV
namespace L2
open PySem PySem.Spec PyProof.Rows PySem.W
structure Lm (X:Cx) (c P:Addr) (q:Str):Prop where
 code:X.env.code= .ref c
 hd:codeHdIn X.K c P=true
 bt:X.base.BuiltinsAt X.mg P
 ql:X.env.qual++"<lambda>"=q
def j2 (H:Hp) (q:Str) (c:Addr):Prop:=∃ oc vs t,H c=some (.frz oc (.own c))/\oc.data= .fields vs/\vs[1]? =some (.str q t)
theorem j2.mono {H H' :Hp} {q:Str} {c:Addr} (s:zh H H') (h:j2 H q c):j2 H' q c:=let ⟨oc,vs,t,e,r⟩:=h; ⟨oc,vs,t,s _ _ e,r⟩
theorem j2.rec {P:Program} {w:World} {H:Hp} {q:Str} {c:Addr} {h:Heap} (x:j2 H q c) (ok:HOk P w H h):h.CodeRec (.ref c) q:=by
 obtain ⟨oc,vs,t,e,d,v⟩:=x
 exact ⟨c,oc,vs,t,rfl,(ok c _ e).1,d,v⟩
theorem jb {p p' :Pos} {c cv:Value}:∀ (l:List Value),TriplesOk l->codeAmong p (l++[rawInt p'.line,rawInt p'.col,c])=some cv->codeAmong p l=some cv\/cv=c
 | [],_,h=>by
  right
  simp only [List.nil_append,rawInt,codeAmong] at h
  split at h
  ·exact (Option.some.inj h).symm
  ·cases h
 | .int a t :: .int b u :: x :: r,ok,h=>by
  simp only [List.cons_append,codeAmong] at h ⊢
  split at h
  ·rename_i z; rw [if_pos z]; exact .inl h
  ·rename_i z
   rw [if_neg z]
   exact jb r (by simpa only [TriplesOk] using ok) h
abbrev w9 (q:Str) (params:Arguments) (body:Expr) (scope:Scope) (clos:List (Str×Addr)) (pm ctv:Value) (c:Addr):Obj:=kla_obj "<lambda>" q params body scope clos pm c ctv
theorem Yy {X:Cx} {c P:Addr} {q:Str} {params:Arguments} {body:Expr} {scope:Scope} {pos:Pos} {clos:List (Str×Addr)} (L:Lm X c P q) (hdef:defaultsOf params X.env=([],[])) (hcl:closureFor scope X.env=pure clos):
  PE X (.Lambda params body scope pos) (fun σ H Q=>H P=some (.tbl #[] q)/\∀ f c' pm ctv H',zh H H' ->H' f=some (.frz (w9 q params body scope clos pm ctv c') (.own f))->j2 H' q c' ->Q (.ref f) H'):=by
 intro pins s σ H Q I ⟨hP,h⟩
 obtain ⟨more,eP,tr,al⟩:=I.hok P _ hP
 have C:CodeHd s.heap c P:=codeHd_of_K I.kIn L.hd
 have hg:s.heap.Ns mainGlobals X.mg:=I.ok.mod.glob.keeps I.bk
 have hB:s.heap.BuiltinsAt X.mg P:=by
  obtain ⟨bm,o,b1,b2,b3,b4,b5,b6⟩:=L.bt
  exact ⟨bm,o,b1,b2,b3,b4,I.bk _ _ b5,b6⟩
 have hgP:mainGlobals ≠ P:=fun z=>by
  obtain ⟨o,es,ep,e,hd,_⟩:=hg
  rw [z,eP] at e; cases e; cases hd
 have fobj:∀ {H2:Hp} {f:Addr} {o:Obj} {h2:Heap},h2.get? f=some o->zD X.prog X.w H2 h2 f (.frz o (.own f)):=fun e=>⟨e,_,e⟩
 refine kla_eval hdef ?_
 rw [L.ql]
 cases hf:codeAmong pos (#[]++more).toList with
 | some cv=>
  obtain ⟨c',oc,vs,t,rfl,e2,e3,e4⟩:=al pos cv hf
  refine kla_makeFunctionHit hcl I.ok.glob hg L.code C eP tr hf hB fun ctv h' tk hk hsz=> ?_
  have hfr:H h'.objs.size=none:=I.hok.fresh hsz
  have e5:(h'.push (w9 q params body scope clos ((X.mg "__name__").getD .none) ctv c')).get? h'.objs.size=some (w9 q params body scope clos ((X.mg "__name__").getD .none) ctv c'):=Heap.get?_push_size _ rfl
  refine ⟨.ref h'.objs.size,_,I.laid (a:=h'.objs.size) (o:= .frz (w9 q params body scope clos ((X.mg "__name__").getD .none) ctv c') (.own h'.objs.size)) (fun b u e=>Heap.get?_push_of_some _ (hk b u e)) hsz (fobj e5),rfl, ?_⟩
  exact h _ c' _ ctv _ (PV.zh.new hfr _) zg (j2.mono (PV.zh.new hfr _) ⟨oc,vs,t,e2,e3,e4⟩)
 | none=>
  refine kla_makeFunction hcl I.ok.glob hg L.code C eP tr hf hgP hB fun c' ctv h' tk hx hge hlt hrec htb=> ?_
  obtain ⟨c₂,oc,vs,t,e2,hoc,hd,hv⟩:=hrec
  cases e2
  have hc0:H c' =none:=I.hok.fresh hge
  have hPlt:P < s.heap.objs.size:=Heap.lt_size eP
  have hcP:c' ≠ P:=fun z=>by rw [z] at hge; exact absurd hPlt (Nat.not_lt.mpr hge)
  have neP:∀ b,H b=none->b ≠ P:=fun b n z=>by rw [z,hP] at n; cases n
  have neC:∀ b o,s.heap.get? b=some o->b ≠ c' :=fun b o e=>Nat.ne_of_lt (Nat.lt_of_lt_of_le (Heap.lt_size e) hge)
  have sm:zh H (upd H c' (.frz oc (.own c'))):=PV.zh.new hc0 _
  have hl:(#[]++more++ #[rawInt pos.line,rawInt pos.col,Value.ref c']).toList=(#[]++more).toList++[rawInt pos.line,rawInt pos.col,Value.ref c']:=by simp
  have hok:HOk X.prog X.w (upd H c' (.frz oc (.own c'))) h' :=fun b u e=>by
   by_cases hb:b=c'
   ·subst hb
    rw [zg] at e; cases e
    exact fobj hoc
   ·rw [zf hb] at e
    by_cases hbP:b=P
    ·subst hbP
     rw [hP] at e; cases e
     refine ⟨more++ #[rawInt pos.line,rawInt pos.col,Value.ref c'],by rw [← Array.append_assoc]; exact htb,by rw [← Array.append_assoc,hl]; exact TriplesOk_snoc _ _ _ _ tr,fun p cv z=> ?_⟩
     rw [← Array.append_assoc,hl] at z
     rcases jb _ tr z with z | rfl
     ·obtain ⟨c2,oc2,vs2,t2,a1,a2,a3⟩:=al p cv z
      exact ⟨c2,oc2,vs2,t2,a1,sm _ _ a2,a3⟩
     ·exact ⟨c',oc,vs,t,rfl,zg,hd,hv⟩
    ·refine (I.hok b u e).stay (fun a v ha q' =>hx a v (fun z=> ?_) q') (fun _ q' =>sm _ _ q') (fun _ _ q' =>sm _ _ q') fun _ _ _ q' =>sm _ _ q'
     subst z
     rcases ha with z | z
     ·exact hbP z.symm
     ·rw [hP] at z; cases z
  have I1:Inv X pins σ (upd H c' (.frz oc (.own c'))) { s with heap:=h',toks:=s.toks }:=by
   refine I.step (g' :=s.gens) (d' :=s.drawn) (t' :=s.toks) (ch:=[]) (fun _ z=>nomatch z) (fun b o _ _ _ e n=>hx b o (neP b n) e) (fun b o _ _ _ e n=>⟨o.slots,hx b o (neP b n) e⟩) (fun b o _ e n=>by rw [zf (neC b o e)]; exact n) (fun b o _ e=> ?_) (fun _ _ e=>sm _ _ e) (fun _ _ _ e=>sm _ _ e) (fun _ _ _ e=>sm _ _ e) (fun m hm=>hm.extBut hx (neP _ I.free)) hok I.bare
   by_cases hb:b=P
   ·exact ⟨_,hb ▸ htb⟩
   ·exact ⟨o,hx b o hb e⟩
  have hfr:upd H c' (.frz oc (.own c')) h'.objs.size=none:=by rw [zf (Nat.ne_of_gt hlt)]; exact I1.hok.fresh (Nat.le_refl _) |> fun z=>by rw [zf (Nat.ne_of_gt hlt)] at z; exact z
  have e5:(h'.push (w9 q params body scope clos ((X.mg "__name__").getD .none) ctv c')).get? h'.objs.size=some (w9 q params body scope clos ((X.mg "__name__").getD .none) ctv c'):=Heap.get?_push_size _ rfl
  refine ⟨.ref h'.objs.size,_,I1.laid (a:=h'.objs.size) (o:= .frz (w9 q params body scope clos ((X.mg "__name__").getD .none) ctv c') (.own h'.objs.size)) (fun b u e=>Heap.get?_push_of_some _ e) (Nat.le_refl _) (fobj e5),rfl, ?_⟩
  have s2:zh (upd H c' (.frz oc (.own c'))) (upd (upd H c' (.frz oc (.own c'))) h'.objs.size (.frz (w9 q params body scope clos ((X.mg "__name__").getD .none) ctv c') (.own h'.objs.size))):=PV.zh.new hfr _
  exact h _ c' _ ctv _ (sm.trans s2) zg (j2.mono s2 ⟨oc,vs,t,zg,hd,hv⟩)
end L2
namespace L2
open PySem PySem.Spec PyProof.Rows PySem.W
def uy (s:Shared) (H:Hp) (fr:List Addr):Heap:=hideAll s.heap (trk s.heap H++fr)
theorem JH {s:Shared} {H:Hp} {fr:List Addr} {b:Addr} {o:Obj} (e:s.heap.get? b=some o) (n:H b=none) (hb:b ∉ fr):(uy s H fr).get? b=some o:=
 hideAll_get _ e fun hm=>by
  rcases List.mem_append.mp hm with z | z
  ·have q:(H b).isSome=true:=(List.mem_filter.mp z).2
   rw [n] at q; cases q
  ·exact hb z
theorem UB {s:Shared} {H:Hp} {fr:List Addr} {b:Addr} {o:Obj} (e:(uy s H fr).get? b=some o):s.heap.get? b=some o/\H b=none:=by
 have e' :s.heap.get? b=some o:=of_hideAll _ e
 refine ⟨e', ?_⟩
 cases q:H b with
 | none=>rfl
 | some x=>
  have hm:b∈trk s.heap H++fr:=List.mem_append_left _ (List.mem_filter.mpr ⟨List.mem_range.mpr (Heap.lt_size e'),by simp [q]⟩)
  have z:(uy s H fr).get? b=none:=hideAll_none _ hm
  rw [z] at e; cases e
theorem Mod.keeps {K:Frag} {mg:Str->Option Value} {b b' :Heap} (m:Mod K mg b) (k:∀ a o,b.get? a=some o->b'.get? a=some o):Mod K mg b' :=
 ⟨m.kin.keeps k,m.glob.keeps k,let ⟨mb,h1,h2⟩:=m.blt; ⟨mb,h1.keeps k,h2⟩,m.nolimit.keeps k⟩
section
variable {X:Cx} {pins:List (Addr×Obj)} {σ:St} {H:Hp} {s:Shared}
theorem Inv.big_of (I:Inv X pins σ H s):∀ b o,X.base.get? b=some o->(uy s H (frs X.stack)).get? b=some o:=fun b o e=>by
 refine JH (I.bs b o e).1 (I.bs b o e).2 fun hb=> ?_
 have:=(I.stack.mem hb).1
 rw [e] at this; cases this
theorem Inv.big (I:Inv X pins σ H s):Jo X.prog X.w X.K X.mg (uy s H (frs X.stack)) X.A X.stack s H:=
 ⟨I.ok.frames,I.ok.mod.keeps I.big_of,fun b o e=>UB e,Nat.le_of_eq (hideAll_size _ _),funFrames_hide I.stack fun env he a ha=>List.mem_append_right _ (List.mem_filterMap.mpr ⟨env,he,ha⟩),I.stkFree,I.hok,I.bare⟩
theorem UC {CX:CXT} {k:Nat} {f:Addr} {fd:FuncData} {ps:List Str} {sp:Sp} {E:XK} {Q:VK} {us:List Value} {vs:List V} (I:Inv X pins σ H s) (F:zA X.prog X.w X.K X.mg (uy s H (frs X.stack)) CX k f fd ps sp) (hr:Z1 k X.A) (hb:Binds X.K fd ps []) (hx:zJ CX X E)
  (r:zz vs us) (h:sp vs H Q E):wpAny (model X.prog X.w) X.A (call (.ref f) us) (EP X pins σ Q) X.xe s:=by
 have hl:us.length=ps.length:=by rw [← r.length]; exact F.len _ _ _ _ h
 have hb' :=hb s us I.kIn (by rw [List.append_nil]; exact hl)
 rw [List.append_nil] at hb'
 refine wpAny_call (codeAny_mono (F.run X.A X.stack s H ⟨us,[]⟩ us vs Q E hr I.big hb' r h) fun r s' hq=> ?_)
 cases r with
 | error e=>exact hx pins σ H s e s' I hq
 | ok fl=>
  cases fl with
  | ret u=>exact I.after hq
  | next=>exact False.elim hq
  | brk=>exact False.elim hq
  | cont=>exact False.elim hq
end
def cxL (P:Program) (w:World) (K:Frag) (mg:Str->Option Value) (base:Heap) (N:List Str) (q:Str) (scope:Scope) (f:Addr) (cd:Value) (clos:List (Str×Addr)) (A:Around) (outer:List Env) (s:Shared) (H:Hp) (E:XK):Cx where
 prog:=P
 w:=w
 K:=K
 mg:=mg
 base:=base
 A:=A.deeper (envX q scope s.heap.objs.size f cd clos)
 N:=N
 s₀:=s
 H₀:=H
 env:=envX q scope s.heap.objs.size f cd clos
 outer:=outer
 stack:=envX q scope s.heap.objs.size f cd clos :: outer
 ex:=[]
 calm:=true
 fn:=fun _=>false
 pn:=[]
 xe:=fun e s' =>wpAny (model P w) (A.deeper (envX q scope s.heap.objs.size f cd clos)) (leaving (envX q scope s.heap.objs.size f cd clos) e) (fun _ s'' =>CX1 P w outer H s E e s'') (fun e' s'' =>CX1 P w outer H s E e' s'') s'
section
variable {P:Program} {w:World} {K:Frag} {mg:Str->Option Value} {base:Heap} {N:List Str} {q:Str} {scope:Scope} {f:Addr} {cd:Value} {clos:List (Str×Addr)} {A:Around} {outer:List Env} {s:Shared} {H:Hp} {E:XK}
theorem jU:zJ (CX1 P w) (cxL P w K mg base N q scope f cd clos A outer s H E) E:=by
 intro pins σ H1 s1 e s' I ⟨ea,cls,a0,B,H',he,L,hE⟩
 subst he
 exact wpAny_leaves_onW (base:=B) I.ok.frames rfl L.fly fun h' fl sl=>⟨ea,cls,a0,B,H',rfl,L.out I rfl rfl rfl fl sl,hE⟩
structure LSc (scope:Scope):Prop where
 kind:scope.kind= .function
 co:scope.isCoroutine=false
 gen:scope.isGenerator=false
 nocell:∀ x∈scope.names,x.2 ≠ .cell
structure W8 (base:Heap) (H:Hp) (scope:Scope) (clos:List (Str×Addr)) (N:List Str) (σ:St):Prop where
 inj:∀ x y c,clos.lookup x=some c->clos.lookup y=some c->x=y
 has:∀ x∈scope.names,x.2= .free->∃ c,clos.lookup x.1=some c
 cell:∀ x c,clos.lookup x=some c->(∃ v,base.IsCell c v)/\H c=none
 loc:∀ (i:Nat) (x:Str) (v:V),N[i]? =some x->σ[i]? =some (some v)->∃ u c,zF v u/\clos.lookup x=some c/\base.IsCell c (some u)/\scope.names.lookup x=some .free
 len:σ.length=N.length
theorem jc {h h' :Heap} {c:Addr} {v:Option Value} (k:∀ a o,h.get? a=some o->h'.get? a=some o) (x:h.IsCell c v):h'.IsCell c v:=let ⟨o,e,d⟩:=x; ⟨o,k _ _ e,d⟩
theorem UD {σ:St} {h1:Heap} {tk:Nat} (S:LSc scope) (hd:A.handled=none) (e0:Jo P w K mg base A outer s H) (C:W8 base H scope clos N σ) (ns:h1.Ns s.heap.objs.size (fun _=>none)) (hk:∀ b o,s.heap.get? b=some o->h1.get? b=some o):
  Inv (cxL P w K mg base N q scope f cd clos A outer s H E) [] σ H { s with heap:=h1,toks:=tk }:=by
 have bk:∀ b o,base.get? b=some o->h1.get? b=some o:=fun b o e=>hk b o (e0.bs b o e).1
 have noA:∀ b:Addr,b ∉ (cxL P w K mg base N q scope f cd clos A outer s H E).ex:=fun b z=>absurd (show b∈([]:List Addr) from z) (by simp)
 refine ⟨⟨e0.mod,S.kind,rfl,rfl,Nat.le_refl _,C.inj,fun y hy=> ?_,fun y c h _=>(Bool.false_ne_true h).elim,fun _=>hd,Around.frames_deeper e0.frames, .inr ⟨rfl,rfl⟩,fun b z=>absurd z (noA b),e0.bs,e0.bsz,fun b _ _=>noA b,fun b z=>absurd z (noA b),e0.funs,e0.frf⟩,
  rfl,e0.bare,Un.kept hk,⟨_,ns,fun i y v h1 h2 h3=> ?_⟩,fun y c h=> ?_,e0.hok.fresh (Nat.le_refl _),fun y c h=>(C.cell y c h).2,fun p hp=>absurd (show p∈([]:List (Addr×Obj)) from hp) (by simp),e0.hok.kept hk,C.len⟩
 ·have hy:scope.names.lookup y=some .cell\/scope.names.lookup y=some .free:=hy
  rcases hy with hy | hy
  ·exact absurd rfl (S.nocell _ (PySem.mem_of_lookup hy))
  ·exact C.has _ (PySem.mem_of_lookup hy) rfl
 ·obtain ⟨u,c,r,e,ic,k⟩:=C.loc i y v h1 h2
  exact ⟨u,r, .inr ⟨.inr k,c,e,jc bk ic⟩⟩
 ·obtain ⟨v,ic⟩:=(C.cell y c h).1
  exact ⟨v,jc bk ic⟩
theorem UE {k:Nat} {params:Arguments} {body:Expr} {pm ctv:Value} {c' :Addr} {σ:St} {Q:VK} {te:TE} (S:LSc scope) (hr:Z1 (k+1) A) (e0:Jo P w K mg base A outer s H) (C:W8 base H scope clos N σ)
  (hf:H f=some (.frz (w9 q params body scope clos pm ctv c') (.own f))) (hc:j2 H q c') (hp:bindArgs (kla_fn "<lambda>" q params body scope clos pm (.ref c') ctv) ⟨[],[]⟩=pure [])
  (hb:PE (cxL P w K mg base N q scope f (.ref c') clos A outer s H E) body te) (ht:te σ H Q):
  codeAny (model P w) A (.call (.ref f) ⟨[],[]⟩) (CR (CX1 P w) outer P w H s Q E) s:=by
 have lim:s.heap.NoLimit:=e0.mod.nolimit.keeps fun b o e=>(e0.bs b o e).1
 refine kla_callFunE hr.depth (e0.hok f _ hf).1 rfl S.co S.gen rfl (hc.rec e0.hok) ?_
 rw [hp]
 refine wpAny_pure (wpAny_newFunctionEnv S.nocell (fun y hy=>by simp at hy) (fun h1 hns hsb=> ?_) S.kind)
 have hk:∀ b o,s.heap.get? b=some o->h1.get? b=some o:=fun b o e=>hsb.extBut b o (Nat.ne_of_lt (Heap.lt_size e)) (Heap.get?_push_of_some _ e)
 refine ⟨lim.keeps hk, ?_⟩
 show codeAny _ _ (.expr body (envX q scope s.heap.objs.size f (.ref c') clos)) _ _
 have I:=UD (q:=q) (f:=f) (cd:= .ref c') (E:=E) (tk:=s.toks+([]:List (Str×Value)).length) S hr.hd e0 C hns hk
 exact kla_codeExpr (wpAny_mono (hb [] _ σ H Q I ht) (fun v s' ⟨x,H',J,r,q⟩=>⟨x,H',J.os,J.bare,J.base,J.hok,r,q⟩) fun _ _ z=>z)
end
end L2
namespace L2
open PySem PySem.Spec PyProof.Rows PySem.W
structure Z5 (k:Nat) (A:Around):Prop where
 dp:A.depth+3*k+5 < recursionLimit
 un:A.units+16*k+200 < cLine
 gd:A.guards=some []
theorem Z1.m {k:Nat} {A:Around} (r:Z1 k A):Z5 k A:=⟨r.dp,r.un,r.gd⟩
theorem Z5.mono {j k:Nat} {A:Around} (r:Z5 k A) (h:j<=k):Z5 j A:=⟨by have:=r.dp; omega,by have:=r.un; omega,r.gd⟩
theorem Z5.deeper {k:Nat} {A:Around} (r:Z5 (k+1) A) (env:Env):Z5 k (A.deeper env):=
 ⟨by have:=r.dp; show A.depth+1+3*k+5 < _; omega,by have:=r.un; show A.units+3+16*k+200 < _; omega,r.gd⟩
theorem Z5.mark {k:Nat} {A:Around} (r:Z5 k A) (e:Value):Z5 k (A.mark (some e)):=⟨r.dp,r.un,r.gd⟩
theorem Z5.depth {k:Nat} {A:Around} (r:Z5 k A):A.depth < recursionLimit:=by have:=r.dp; omega
theorem Z5.units {k:Nat} {A:Around} (r:Z5 k A):A.units+64 < cLine:=by have:=r.un; omega
structure FnM (P:Program) (w:World) (K:Frag) (mg:Str->Option Value) (base:Heap) (k:Nat) (f:Addr) (fd:FuncData) (ps:List Str) (sp:Sp):Prop where
 len:∀ vs H Q E,sp vs H Q E->vs.length=ps.length
 run:∀ (A:Around) (outer:List Env) (s:Shared) (H:Hp) (args:Args) (us:List Value) (vs:List V) (Q:VK),Z5 k A->Jo P w K mg base A outer s H->BindsTo s fd args (ps.zip us)->zz vs us->sp vs H Q (fun _ _ _=>False)->
  codeAny (model P w) A (.call (.ref f) args) (fun r s' =>∃ u,r= .ok (.ret u)/\CE outer P w H s Q u s') s
abbrev cxM (P:Program) (w:World) (K:Frag) (mg:Str->Option Value) (base:Heap) (N:List Str) (qual:Str) (scope:Scope) (f:Addr) (cd:Value) (A:Around) (outer:List Env) (s:Shared) (H:Hp):Cx:=
 { (Zx CX0 P w K mg base N qual scope f cd A outer s H (fun _ _ _=>False)).nox with calm:=false }
section
variable {P:Program} {w:World} {K:Frag} {mg:Str->Option Value} {base:Heap}
theorem Yz {k:Nat} {x qual:Str} {st:Stmt} {f:Addr} {fd:FuncData} {N ps:List Str} {sp:Sp} (F:Fun K x qual st f fd) (S:zc N ps (z9 st)) (len:∀ vs H Q E,sp vs H Q E->vs.length=ps.length)
  (hbody:∀ (cdv:Value) (A:Around) (outer:List Env) (s:Shared) (H:Hp) (vs:List V) (Q:VK),Z5 k (A.deeper (envOfC qual (z9 st) s.heap.objs.size f cdv))->sp vs H Q (fun _ _ _=>False)->
   ∃ t,PSs (cxM P w K mg base N qual (z9 st) f cdv A outer s H) (zo st) t/\t { nx:=fun _ H' =>Q .non H',rt:=Q } (start N vs) H):FnM P w K mg base (k+1) f fd ps sp:=by
 obtain ⟨oc,od,kV,doc,pm,an,cdv,ct,osl,rfl,lk,hcd⟩:=F.ex
 refine ⟨len,fun A outer s H args us vs Q hr e0 hb r hsp=> ?_⟩
 have hl:=len _ _ _ _ hsp
 have KX:K.In s.heap:=e0.mod.kin.keeps fun b o e=>(e0.bs b o e).1
 have lim:s.heap.NoLimit:=e0.mod.nolimit.keeps fun b o e=>(e0.bs b o e).1
 have hkind:∀ y∈ps.zip us,(z9 st).names.lookup y.1=some .local\/((z9 st).names.lookup y.1=some .cell/\((cellsFrom (s.heap.objs.size+1) (z9 st).names []).lookup y.1).isSome=true):=fun ⟨n,v⟩ hy=>by
  rcases S.par n (List.of_mem_zip hy).1 with q | q
  ·exact .inl q
  ·exact .inr ⟨q,cellsFrom_some _ _ _ (.inl q)⟩
 refine codeAny_call_function hr.depth (KX _ _ lk) rfl S.co S.gen rfl (codeRec_of KX hcd) (hb _ _ _ _ ?_)
 refine wpAny_newFunctionEnv_cells S.kind hkind fun env he s1 x=> ?_
 subst he
 refine ⟨lim.keeps x.toInCall.keep,codeAny_func ?_⟩
 obtain ⟨t,ht,hq⟩:=hbody cdv A outer s H vs Q (hr.deeper _) hsp
 have e1:Jo P w K mg base { A with handled:=none } outer s H:=⟨e0.frames,e0.mod,e0.bs,e0.bsz,e0.funs,e0.frf,e0.hok,e0.bare⟩
 have J:Inv (Zx CX0 P w K mg base N qual (z9 st) f cdv { A with handled:=none } outer s H (fun _ _ _=>False)) [] (start N vs) H s1:=jF S rfl e1 hl r x
 have I:Inv (cxM P w K mg base N qual (z9 st) f cdv A outer s H) [] (start N vs) H s1:=
  ⟨⟨J.ok.mod,J.ok.kind,J.ok.glob,J.ok.blt,J.ok.above,J.ok.inj,J.ok.has,J.ok.cab,fun z=>(by cases z),Around.frames_deeper e0.frames,J.ok.stk,J.ok.exf,J.ok.bs,J.ok.bsz,J.ok.noex,J.ok.exfs,J.ok.funs,J.ok.frf⟩,J.os,J.bare,J.base,J.loc,J.cell,J.free,J.freeC,J.pin,J.hok,J.len⟩
 refine wpAny_mono (ht [] s1 (start N vs) H _ I hq) (fun fl s' hs=> ?_) fun e s' hs=>hs.elim
 have fin:∀ {σ' :St} {H' :Hp} {v:V} {u:Value},Inv (cxM P w K mg base N qual (z9 st) f cdv A outer s H) [] σ' H' s' ->zF v u->Q v H' ->∃ u',(Except.ok (Flow.ret u):Result)= .ok (.ret u')/\CE outer P w H s Q u' s' :=
  fun {σ' H' v u} J rv q=>⟨u,rfl,v,H',J.os,J.bare,J.base,J.hok,rv,q⟩
 cases fl with
 | ret u=>
  obtain ⟨v,σ',H',J,rv,q⟩:=hs
  exact fin J rv q
 | next=>
  obtain ⟨σ',H',J,q⟩:=hs
  exact fin (v:=V.non) (u:=Value.none) J rfl q
 | brk=>obtain ⟨_,_,_,q⟩:=hs; exact False.elim q
 | cont=>obtain ⟨_,_,_,q⟩:=hs; exact False.elim q
theorem u7 {X:Cx} {k:Nat} {f:Addr} {fd:FuncData} {ps:List Str} {sp:Sp} {x:Str} {p pos:Pos} {e:Expr} {t:TA} (F:FnM X.prog X.w X.K X.mg X.base k f fd ps sp) (hr:Z5 k X.A) (hg:Gl X x) (hm:X.mg x=some (.ref f)) (hk:keepIn X.K (.ref f)=true) (hb:Binds X.K fd ps [])
  (ha:PA X [e] t) (hdb:(x == ("__debug__":Str))=false:=by decide) (he:starEach [e] X.env=[(false,eval e X.env)]:=by rfl):
  PE X (.Call (.Name x p) [e] [] pos) (fun σ H Q=>t σ H fun vs H1=>sp vs H1 Q fun _ _ _=>False):=by
 intro pins s σ H Q I h
 refine wpAny_Call_Name_kw (Zh I hg hm ?_ hdb)
 refine callWith_K (h₀:=X.base) I.ok.mod.kin hk (thn (ha pos pins s σ H _ I h) fun us s1 ⟨vs,H1,I1,r,q⟩=>⟨I1.kIn, ?_⟩) he rfl
 have hl:us.length=ps.length:=by rw [← r.length]; exact F.len _ _ _ _ q
 have hb' :=hb s1 us I1.kIn (by rw [List.append_nil]; exact hl)
 rw [List.append_nil] at hb'
 refine wpAny_call (codeAny_mono (F.run X.A X.stack s1 H1 ⟨us,[]⟩ us vs Q hr I1.env0 hb' r q) fun r s' ⟨u,e1,hq⟩=> ?_)
 subst e1
 exact I1.after hq
end
def YA (X:Cx) (E:XK) (i:Nat) (f:Addr) (o:Obj):TE:=fun σ H Q=>σ[i]? =some (some (.ref f))/\H f=some (.frz o (.own f))/\
 ∀ s,Jo X.prog X.w X.K X.mg X.base X.A X.stack s H->codeAny (model X.prog X.w) X.A (.call (.ref f) ⟨[],[]⟩) (CR (CX1 X.prog X.w) X.stack X.prog X.w H s Q E) s
theorem UF {X:Cx} {E:XK} {i:Nat} {x:Str} {p pos:Pos} {f c' :Addr} {q:Str} {params:Arguments} {body:Expr} {scope:Scope} {clos:List (Str×Addr)} {pm ctv:Value} (hv:PE X (.Name x p) (Wj i)) (hx:zJ (CX1 X.prog X.w) X E):
  PE X (.Call (.Name x p) [] [] pos) (YA X E i f (w9 q params body scope clos pm ctv c')):=by
 intro pins s σ H Q I ⟨hσ,hf,run⟩
 refine wpAny_Call_Name_kw (thn (hv pins s σ H (fun v H' =>v= .ref f/\H' =H) I ⟨_,hσ,rfl,rfl⟩) fun u s1 ⟨v,H1,I1,r,e1,e2⟩=> ?_)
 subst e1 e2
 obtain rfl:u=Value.ref f:=r
 refine callWith_F0 ⟨_,_,_,_,(I1.hok f _ hf).1⟩ ?_
 refine wpAny_call (codeAny_mono (run s1 I1.env0) fun r s' hq=> ?_)
 cases r with
 | error e=>exact hx pins σ H1 s1 e s' I1 hq
 | ok fl=>
  cases fl with
  | ret u=>exact I1.after hq
  | next=>exact False.elim hq
  | brk=>exact False.elim hq
  | cont=>exact False.elim hq
theorem UG {X:Cx} {tb:XK->TS} {th:TE} {body:List Stmt} {c n:Str} {C:Addr} {cp hp rp pos:Pos} {i:Nat} {e2:Expr}
  (hX:X.stack=X.env :: X.outer) (hf:X.env.frame=some X.env.locals) (hN:X.N.Nodup) (hi:X.N[i]? =some n) (hl:X.env.scope.names.lookup n=some .local) (hg:Gl X c) (hm:X.mg c=some (.ref C))
  (hb:∀ (E' :XK) (pn:List (Addr×Obj)) (xe:Value->Shared->Prop),zJ (CX1 X.prog X.w) (X.try' pn xe) E' ->PSs (X.try' pn xe) body (tb E'))
  (he:∀ ea,PE (X.mark' (.ref ea)) e2 th) (hdc:(c == ("__debug__":Str))=false:=by decide):
  PS X (.Try body [.ExceptHandler (some (.Name c cp)) (some n) [.Return (some e2) rp] hp] [] [] pos)
   (fun D σ H=>∃ E' :XK,(∀ (cls:Value) (d:Option Addr) (H' :Hp) (ea:Addr) (σ' :St),E' cls d H' ->exmOne X.K cls (.ref C)=some true/\(H' ea=none->σ'.length=σ.length->σ.length=X.N.length->th (σ'.set i (some (.ref ea))) (upd H' ea (.ext (Js cls ea))) D.rt))/\tb E' D σ H):=by
 intro pins s σ H D I ⟨E',hE,hw⟩
 have pass:zJ (CX1 X.prog X.w) (X.try' (X.pn++pins) fun e s1=>wpAny (model X.prog X.w) X.A (noteFrame e X.env) (fun _ s2=>wpAny (model X.prog X.w) X.A (setFlight e none) (fun _ s3=>wpAny (model X.prog X.w) X.A (handleBy e X.env [.ExceptHandler (some (.Name c cp)) (some n) [.Return (some e2) rp] hp]) (SP X pins D) X.xe s3) X.xe s2) X.xe s1) E' :=by
  intro pins' σ' H1 s1 e s' I1 ⟨ea,cls,a0,B,H',he',L,hw'⟩
  subst he'
  have I0:Inv X pins σ' H1 s1:=I1.untry
  have L:J8 X.prog X.w X.stack H1 s1 s' ea cls a0 B H' :=L
  have fr:X.A.frames=some (X.env :: X.outer):=by rw [← hX]; exact I0.ok.frames
  show wpAny (model X.prog X.w) X.A (noteFrame (.ref ea) X.env) _ _ s'
  refine wpAny_looks_onW (base:=B) fr hf (hX ▸ L.fly) fun h1 held sl1=> ?_
  refine wpAny_landsW held fun h2 fl2 sl2=> ?_
  rw [← hX] at fl2
  have sl12:s'.heap.UpToSlots h2:=sl1.trans sl2
  have I2:=I0.caught L fl2 sl12
  obtain ⟨hm1,hD⟩:=hE cls none H' ea σ' hw'
  refine JU hm1 ?_
  refine Zh (X:=X.mark' (.ref ea)) (I2.mark' (.ref ea)) hg hm ⟨rfl,I2.kIn,fl2.there, ?_⟩ hdc
  refine lands_againW fl2 fun h3 fl3 sl3=> ?_
  have I3:=I0.caughtX L fl3 (sl12.trans sl3)
  have hlen:σ'.length=X.N.length:=I0.len
  refine jf (X:=X.mark' (.ref ea)) (I3.mark' _) hN hi (.inl hl) (v:= .ref ea) rfl (fun s4 I4=> ?_) (.inr hl)
  have hs1:=ji (we (X:=X.mark' (.ref ea)) (pos:=rp) (he ea))
  have hr:=hs1 pins s4 _ _ { nx:=fun _ _=>False,rt:=D.rt } I4 (hD L.fresh (hlen.trans I.len.symm) I.len)
  refine wpAny_mono hr (fun f s5 h5=> ?_) fun _ _ z=>z
  cases f with
  | next=>obtain ⟨_,_,_,z⟩:=h5; exact z.elim
  | brk=>obtain ⟨_,_,_,z⟩:=h5; exact z.elim
  | cont=>obtain ⟨_,_,_,z⟩:=h5; exact z.elim
  | ret u=>
   obtain ⟨v,σ5,H5,I5,r5,q5⟩:=h5
   refine uQ (X:=X) (I5.unmark I.ok.hd) hN hi hl fun s6 I6=> ?_
   exact ⟨v,_,_,I6,r5,q5⟩
 have hr:=hb E' (X.pn++pins) _ pass [] s σ H D (I.try' _) hw
 refine wpAny_Try_except (wpAny_mono hr (fun f s1 h1=> ?_) fun _ _ z=>z)
 have h1:=h1.untry
 cases f with
 | next=>exact wpAny_execs_nil h1
 | brk=>exact h1
 | cont=>exact h1
 | ret u=>exact h1
end L2
namespace PV
open PySem PySem.Spec PyProof.Rows L2 PySem.W
def nx1 (r:R T):R T:=match r with
 | .ok t=> .ok t
 | _=> .bad
def zx (ok:Nat->Bool) (gx:Nat->R T) (r:R T):R T:=match r with
 | .ok t=> .ok t
 | .ex c=>if ok c=true then nx1 (gx c) else .bad
 | .bad=> .bad
def zm (js:List Nat) (ok:Nat->Bool) (gx:Nat->R T) (fe:En->R T):En->R T:=fun ρ=>zx ok gx (fe (jl 0 js ρ))
def spT (P:Program) (w:World) (K:Frag) (mg:Str->Option Value) (base:Heap) (cl:Nat->Value) (ok:Nat->Bool) (gx:Nat->R T) (k:Nat) (f:Addr) (o:Obj) (B:Hp) (r:R T):Sp:=fun vs H Q E=>vs=[V.ref f]/\H f=some (.frz o (.own f))/\zh B H/\Po ⟨B,H,E,cl⟩ rC B H (zx ok gx r) Q/\
 ∀ (A:Around) (outer:List Env) (s:Shared) (E' :XK) (Q' :VK),Z1 (k+1) A->Jo P w K mg base A outer s H->Po ⟨B,H,E',cl⟩ rC B H r Q' ->codeAny (model P w) A (.call (.ref f) ⟨[],[]⟩) (CR (CX1 P w) outer P w H s Q' E') s
def W9 (P:Program) (w:World) (K:Frag) (mg:Str->Option Value) (cl:Nat->Value) (ok:Nat->Bool) (gx:Nat->R T) (k:Nat) (ft:Addr) (fdt:FuncData) (d:Str):Prop:=
 ∀ (base:Heap) (f c' :Addr) (q:Str) (params:Arguments) (body:Expr) (scope:Scope) (clos:List (Str×Addr)) (pm ctv:Value) (B:Hp) (r:R T),K.In base->zA P w K mg base CX0 (k+2) ft fdt [d] (spT P w K mg base cl ok gx k f (w9 q params body scope clos pm ctv c') B r)
section
variable {P:Program} {w:World} {K:Frag} {mg:Str->Option Value}
theorem UH {cl:Nat->Value} {ok:Nat->Bool} {gx:Nat->R T} {k j i:Nat} {x qual d n cn lc y:Str} {st:Stmt} {ft C fl:Addr} {fdt fdl:FuncData} {N:List Str} {dp cp rp np hp lp ep lcp rp2 tp:Pos} (F:Fun K x qual st ft fdt) (S:zc N [d] (z9 st))
  (hst:zo st=[.Try [.Return (some (.Call (.Name d dp) [] [] cp)) rp] [.ExceptHandler (some (.Name cn np)) (some n) [.Return (some (.Call (.Name lc lp) [.Name n ep] [] lcp)) rp2] hp] [] [] tp])
  (h0:N[0]? =some d) (hd:(z9 st).names.lookup d=some .local) (hi:N[i]? =some n) (hl:(z9 st).names.lookup n=some .local) (hi0:i ≠ 0)
  (hgc:(z9 st).names.lookup cn=some .globalImplicit) (hmc:mg cn=some (.ref C)) (hok:∀ c,ok c=true->exmOne K (cl c) (.ref C)=some true)
  (hgl:(z9 st).names.lookup lc=some .globalImplicit) (hml:mg lc=some (.ref fl)) (kp:keepIn K (.ref fl)=true) (bd:L2.Binds K fdl [y] []) (FL:∀ base,K.In base->FnM P w K mg base j fl fdl [y] (spC cl gx)) (hj:j<=k+1)
  (h1:(d == ("__debug__":Str))=false:=by decide) (h2:(d == ("__classdict__":Str))=false:=by decide) (h3:(n == ("__debug__":Str))=false:=by decide) (h4:(n == ("__classdict__":Str))=false:=by decide) (h5:(lc == ("__debug__":Str))=false:=by decide) (h6:(cn == ("__debug__":Str))=false:=by decide):
  W9 P w K mg cl ok gx k ft fdt d:=by
 intro base f c' q params body scope clos pm ctv B r KB
 refine F.ok S (fun vs H Q E ⟨e,_⟩=>by rw [e]; rfl) fun cdv A outer s H vs Q E hr ⟨e,hf,sB,po,run⟩=> ?_
 subst e
 rw [hst]
 have he:∀ ea,PE ((Zx CX0 P w K mg base N qual (z9 st) ft cdv A outer s H E).nox.mark' (.ref ea)) (.Call (.Name lc lp) [.Name n ep] [] lcp) (fun σ H Q=>∃ v,σ[i]? =some (some v)/\spC cl gx [v] H Q fun _ _ _=>False):=fun ea=>
  PE.imp (u7 (FL base KB) ((hr.m.mono hj).mark _) hgl hml kp bd (zi (j5 hi (.inl hl) h3 h4) zB (st1 rfl)) h5 (st1 rfl)) fun σ H Q ⟨v,e,z⟩=>⟨v,e,z⟩
 refine ⟨_,ji (UG (X:=(Zx CX0 P w K mg base N qual (z9 st) ft cdv A outer s H E).nox) (tb:=fun E' =>QF (YA (Zx CX0 P w K mg base N qual (z9 st) ft cdv A outer s H E) E' 0 f (w9 q params body scope clos pm ctv c'))) (i:=i) (C:=C) rfl rfl S.nd hi hl hgc hmc (fun E' pn xe hp=>ji (we (UF (f:=f) (c' :=c') (q:=q) (params:=params) (body:=body) (scope:=scope) (clos:=clos) (pm:=pm) (ctv:=ctv) (j5 h0 (.inl hd) h1 h2) hp))) he h6), ?_⟩
 refine ⟨fun cls _ H' =>∃ c,cls=cl c/\ok c=true/\zh H H' /\zh B H' /\Po ⟨B,H,E,cl⟩ rC B H (nx1 (gx c)) Q,fun cls d H' ea σ' ⟨c,e1,e2,s1,s2,q1⟩=> ?_,by unfold L2.start; rfl,hf,fun s2 e0=>run _ _ s2 _ _ hr e0 ?_⟩
 ·subst e1
  refine ⟨hok c e2,fun hea hl' hX' =>⟨.ref ea,List.getElem?_set_self (by rw [hl',hX']; exact (List.getElem?_eq_some_iff.mp hi).1),upd B ea (.ext (Js (cl c) ea)),ea,c,rfl, ?_,zg, ?_⟩⟩
  ·intro b o hb
   by_cases z:b=ea
   ·subst z; rw [zg] at hb ⊢; exact hb
   ·rw [zf z] at hb ⊢; exact s2 b o hb
  ·have s3:zh H (upd H' ea (.ext (Js (cl c) ea))):=s1.trans (zh.new hea _)
   have hHe:H ea=none:=s1.free hea
   revert q1
   cases gx c with
   | bad=>exact fun z=>z
   | ex c2=>exact fun z=>z.elim
   | ok t=>
    intro z b H3 s4 rb
    refine z b H3 (s3.trans s4) (rb.mono fun a o ha=> ?_)
    cases hH:upd H' ea (.ext (Js (cl c) ea)) a with
    | none=>
     rw [zy hH] at ha
     cases hHa:H a with
     | none=>rw [zy hHa]; exact ha
     | some u=>have:=s3 a u hHa; rw [hH] at this; cases this
    | some u=>
     rw [zC hH] at ha
     by_cases ze:a=ea
     ·subst ze
      rw [zy hHe]
      rw [zg] at ha hH
      rw [← ha,s4 _ _ zg]
     ·rw [zf ze] at ha
      rw [zC (sB a o ha)]; exact ha
 ·revert po
  unfold zx
  cases r with
  | ok t=>exact fun po=>po
  | bad=>exact fun po=>po
  | ex c=>
   intro po
   dsimp only at po
   split at po
   ·rename_i hc
    exact fun d H' a b=>⟨c,rfl,hc,a,b,po⟩
   ·exact po.elim
end
section
variable {X:Cx} {Y:Fx}
theorem YB {pins:List (Addr×Obj)} {σ:Sg} {H:Hp} {s:Shared} {scope:Scope} {clos:List (Str×Addr)} {N' :List Str} {js:List Nat} (I:L2.Inv X pins σ H s) (hfn:∀ x,X.fn x=true) (hcl:∀ x c,clos.lookup x=some c->X.env.cells.lookup x=some c)
  (hcf:∀ x∈scope.names,x.2=NameKind.free->∃ c,clos.lookup x.1=some c) (CP:Y2 X scope N' 0 js):W8 (uy s H (frs X.stack)) H scope clos N' (Jz 0 js σ):=by
 have up:∀ x c,X.env.cells.lookup x=some c->∀ v,s.heap.IsCell c v->(uy s H (frs X.stack)).IsCell c v:=fun x c e v ⟨o,ho,hd⟩=>⟨o,JH ho (I.freeC x c e) fun hb=>by
  rcases List.mem_cons.mp (I.stkSub c hb) with z | z
  ·exact I.cne x c e z
  ·obtain ⟨_,o2,e2,_⟩:=I.ok.funs.mem z
   exact absurd (Heap.lt_size e2) (Nat.not_lt.mpr (I.ok.cab x c (hfn x) e)),hd⟩
 refine ⟨fun x y c h1 h2=>I.ok.inj x y c (hcl _ _ h1) (hcl _ _ h2),hcf,fun x c e=>⟨?_,I.freeC x c (hcl x c e)⟩,fun i x v h1 h2=> ?_,by unfold Jz; simp [CP.len]⟩
 ·obtain ⟨v,ic⟩:=I.cell x c (hcl x c e)
  exact ⟨v,up x c (hcl x c e) v ic⟩
 ·unfold Jz at h2
  rw [List.replicate_zero,List.nil_append,List.getElem?_map] at h2
  cases ej:js[i]? with
  | none=>rw [ej] at h2; cases h2
  | some j=>
   rw [ej] at h2
   have h2' :(σ[j]?).getD none=some v:=Option.some.inj h2
   have hσ:σ[j]? =some (some v):=by
    cases ez:σ[j]? with
    | none=>rw [ez] at h2'; cases h2'
    | some z=>rw [ez] at h2'; exact congrArg some h2'
   obtain ⟨y,e1,e2,e3,e4,e5⟩:=CP.cap i j ej
   rw [Nat.zero_add,h1] at e1
   cases e1
   obtain ⟨m,hn,hlo⟩:=I.loc
   obtain ⟨u,ru,lk⟩:=hlo j x v e2 hσ e3
   obtain ⟨c,ec⟩:=hcf (x, .free) (PySem.mem_of_lookup e4) rfl
   rcases lk with ⟨k,_⟩ | ⟨_,c2,e6,ic⟩
   ·rcases e5 with z | z <;> (rw [k] at z; cases z)
   ·have:=hcl x c ec
    rw [e6] at this; cases this
    exact ⟨u,c,ru,ec,up x c e6 _ ic,e4⟩
theorem zN {cl:Nat->Value} {ok:Nat->Bool} {gx:Nat->R T} {kE k:Nat} {x d q:Str} {c P ft:Addr} {fdt:FuncData} {params:Arguments} {body:Expr} {scope:Scope} {lp p pos:Pos} {js:List Nat} {fe:En->R T} (hy:Y.cl=cl) (L:Lm X c P q) (hT:Y.H0 P=some (.tbl #[] q)) (hfn:∀ x,X.fn x=true)
  (O:W9 X.prog X.w X.K X.mg cl ok gx kE ft fdt d) (hr:Z1 k X.A) (hj:kE+2<=k) (gl:Gl X x) (mg:X.mg x=some (.ref ft)) (kp:keepIn X.K (.ref ft)=true) (bd:L2.Binds X.K fdt [d] [])
  (N' N:List Str) (sc0:Scope) (hN:X.N=N) (h0:X.env.scope=sc0) (hck:(YZ scope sc0 && qa N N' scope sc0 0 js)=true) (hco:scope.isCoroutine=false) (hge:scope.isGenerator=false)
  (hb:∀ (base:Heap) (A:Around) (outer:List Env) (s:Shared) (H:Hp) (E:XK) (f c' :Addr) (clos:List (Str×Addr)) (Y' :Fx),X.K.In base->Y'.cl=cl->Y'.E=E->Z1 kE (A.deeper (envX q scope s.heap.objs.size f (.ref c') clos))->Snd (cxL X.prog X.w X.K X.mg base N' q scope f (.ref c') clos A outer s H E) Y' body fe)
  (hp:∀ (clos:List (Str×Addr)) (pm cd ctv:Value),bindArgs (kla_fn "<lambda>" q params body scope clos pm cd ctv) ⟨[],[]⟩=pure []:=by intros; rfl) (hdef:defaultsOf params X.env=([],[]):=by rfl) (hd:(x == ("__debug__":Str))=false:=by decide):
  Snd X Y (.Call (.Name x p) [.Lambda params body scope lp] [] pos) (zm js ok gx fe):= .mk fun ρ=>by
 intro pins s σ H Q I ⟨B,J,po⟩
 subst hy
 rw [Bool.and_eq_true] at hck
 have CS:=uv (X:=X) sc0 h0 hck.1
 have CP:Y2 X scope N' 0 js:=wX N sc0 hN h0 hck.2
 have S:LSc scope:=⟨CS.kind,hco,hge,CS.nocell⟩
 obtain ⟨clos,ecl,hcl,hcf⟩:=Jd (scope:=scope) (env:=X.env) fun x hx hf=>I.ok.has x.1 (CS.fre x hx hf)
 refine wpAny_Call_Name_kw (Zh I gl mg ?_ hd)
 have hP:H P=some (.tbl #[] q):=J.sH _ _ hT
 have hpa:=zi (Yy (params:=params) (body:=body) (pos:=lp) L hdef ecl) zB (st1 rfl) pos pins s σ H (fun vs H1=>∃ f c' pm ctv,vs=[V.ref f]/\zh H H1/\H1 f=some (.frz (w9 q params body scope clos pm ctv c') (.own f))/\j2 H1 q c') I ⟨hP,fun f c' pm ctv H' s1 hf hc=>⟨f,c',pm,ctv,rfl,s1,hf,hc⟩⟩
 refine callWith_K (h₀:=X.base) I.ok.mod.kin kp (thn hpa fun us s1 ⟨vs,H1,I1,r,f,c',pm,ctv,e,sm,hf,hc⟩=>⟨I1.kIn, ?_⟩) (st1 rfl) rfl
 subst e
 have J1:=J.grow sm
 refine UC (E:=Y.E) I1 (O _ f c' q params body scope clos pm ctv (zp B H H1) (fe (jl 0 js ρ)) I1.big.mod.kin) (hr.mono hj) bd Y8 r ⟨rfl,hf,J1.sB, ?_,fun A outer s2 E' Q' hrm e0 q' => ?_⟩
 ·have po:Po Y rC B H (zx ok gx (fe (jl 0 js ρ))) Q:=po
  revert po
  cases zx ok gx (fe (jl 0 js ρ)) with
  | bad=>exact fun z=>z
  | ex c2=>exact fun z d H' a b=>z d H' ((J.sH.trans sm).trans a) ((zp.ge J.sB sm).trans b)
  | ok t=>exact fun z b H2 s2 rb=>z b H2 (sm.trans s2) (by rw [← zp.trans sm s2]; exact rb)
 ·refine UE (N:=N') (σ:=Jz 0 js σ) (te:=tS ⟨zp B H H1,H1,E',Y.cl⟩ rC fe (jl 0 js ρ)) S hrm e0 (YB I1 hfn hcl hcf CP) hf hc (hp clos pm _ ctv) ?_ ⟨_,J1.blockS 0 js E' (zh.refl _),q'⟩
  exact (hb _ A outer s2 H1 E' f c' clos ⟨zp B H H1,H1,E',Y.cl⟩ e0.mod.kin rfl rfl (hrm.deeper _)) (jl 0 js ρ)
end
section
variable {P:Program} {w:World} {K:PySem.W.Frag} {mg:Str->Option Value} {base:Heap}
theorem UI {cl:Nat->Value} {x qual q:Str} {st:Stmt} {f:Addr} {fd:FuncData} {N:List Str} {k:Nat} {fb:En->RS} {gx:Nat->R T} (F:Fun K x qual st f fd) (S:zc N [q] (z9 st)) (hN:1<=N.length)
  (hb:∀ (cdv:Value) (A:Around) (outer:List Env) (s:Shared) (H:Hp) (Y:Fx),Y.cl=cl->Z5 k (A.deeper (envOfC qual (z9 st) s.heap.objs.size f cdv))->
   Jb (cxM P w K mg base N qual (z9 st) f cdv A outer s H) Y (zo st) fb)
  (hg:∀ c,gx c=zl (fb (enC N.length c))):FnM P w K mg base (k+1) f fd [q] (spC cl gx):=by
 refine Yz F S (fun vs H Q E ⟨_,_,_,e,_⟩=>by rw [e]; rfl) fun cdv A outer s H vs Q hr ⟨B,a,c,e,sB,r,q⟩=> ?_
 subst e
 refine ⟨_,hb cdv A outer s H ⟨B,H,fun _ _ _=>False,cl⟩ rfl hr (enC N.length c),B,SI.startC (Y:=⟨B,H,fun _ _ _=>False,cl⟩) sB hN r, ?_⟩
 rw [hg c] at q
 revert q
 cases fb (enC N.length c) with
 | rt t=>exact fun q v H' s r=>q v H' s r
 | rf t=>exact fun q a xs H' B' s0 n e r _ l=>q (.ref a) H' s0 (.lst (by rw [zy n]; exact e) (r.mono l))
 | nx ρ=>exact fun q σ' H' B' _ I=>q .non H' I.sH .non
 | ex c=>exact fun q=>q
 | bk ρ=>exact fun q=>q.elim
 | ct ρ=>exact fun q=>q.elim
 | bad=>exact fun q=>q
def UW (cl:Nat->Value) (n:Nat) (g:List T->R T) (Pt:Addr) (q:Str):Sp:=fun vs H Q E=>H Pt=some (.tbl #[] q)/\spP cl n g vs H Q E
theorem YC {cl:Nat->Value} {x qual q:Str} {st:Stmt} {f c Pt:Addr} {fd:FuncData} {N ps:List Str} {k n:Nat} {fb:En->RS} {g:List T->R T} (F:Fun K x qual st f fd) (hc:fd.code= .ref c) (S:zc N ps (z9 st)) (hn:n=ps.length)
  (hb:∀ (A:Around) (outer:List Env) (s:Shared) (H:Hp) (E:XK) (Y:Fx),Y.cl=cl->Y.E=E->Y.H0 Pt=some (.tbl #[] q)->Z1 k (A.deeper (envOfC qual (z9 st) s.heap.objs.size f (.ref c)))->
   Jb (Zx (CX1 P w) P w K mg base N qual (z9 st) f (.ref c) A outer s H E) Y (zo st) fb)
  (hg:∀ ts,ts.length=n->g ts=zl (fb (en0 N.length ts))):zA P w K mg base (CX1 P w) (k+1) f fd ps (UW cl n g Pt q):=by
 subst hn
 obtain ⟨oc,od,kV,doc,pm,an,cdv,ct,osl,rfl,lk,hcd⟩:=F.ex
 obtain rfl:cdv= .ref c:=hc
 refine uK lk hcd S (fun vs H Q E z=>spP.len vs H Q E z.2) fun A outer s H vs Q E hr ⟨hT,B,ts,hl,sB,r,q⟩=> ?_
 refine ⟨_,hb A outer s H E ⟨B,H,E,cl⟩ rfl rfl hT hr (en0 N.length ts),B,SI.start (Y:=⟨B,H,E,cl⟩) sB r, ?_⟩
 rw [hg ts hl] at q
 revert q
 cases fb (en0 N.length ts) with
 | rt t=>exact fun q v H' s r=>q v H' s r
 | rf t=>exact fun q a xs H' B' s0 n e r _ l=>q (.ref a) H' s0 (.lst (by rw [zy n]; exact e) (r.mono l))
 | nx ρ=>exact fun q σ' H' B' _ I=>q .non H' I.sH .non
 | ex c=>exact fun q=>q
 | bk ρ=>exact fun q=>q.elim
 | ct ρ=>exact fun q=>q.elim
 | bad=>exact fun q=>q
end
end PV
namespace L2
open PySem PySem.Spec PyProof.Rows PySem.W
theorem Wa {P:Program} {w:World} {K:Frag} {mg mb:Str->Option Value} {CX:CXT} {k:Nat} {fa a c Pt:Addr} {fd:FuncData} {x q:Str} {sp:Sp} {s₁:Shared} {vs:List Value} {ns:List Int}
  (KX:K.In s₁.heap) (hns:s₁.heap.Ns mainGlobals mg) (hb:s₁.heap.Ns builtinsNs mb) (hbb:∀ x:Str,x ≠ "__name__"->mb x=bootBuiltins x) (hlim:s₁.heap.NoLimit) (hg:s₁.gens= #[])
  (ha:s₁.heap.get? a=some { cls:= .type "list",data:= .seq vs.toArray }) (hi:IntsAre vs ns) (hl:ns.length<=sizeLine) (hr:Z1 k callerA)
  (hbt:s₁.heap.BuiltinsAt mg Pt) (hPt:s₁.heap.get? Pt=some (tabObj #[])) (hKP:K.lookup Pt=none) (hC:codeHdIn K c Pt=true) (hKa:K.lookup a=none)
  (F:∀ base:Heap,K.In base->base.BuiltinsAt mg Pt->zA P w K mg base CX k fa fd [x] sp) (hbind:∀ (s:Shared) (u:Value),BindsTo s fd ⟨[u],[]⟩ [(x,u)])
  (hsp:∀ (H:Hp) (o:Obj),H a=some (.frz o (.lst (ns.map V.int)))->H Pt=some (.tbl #[] q)->sp [.ref a] H (fun v _=>v= .bl true) fun _ _ _=>False)
  (hCX:∀ H e s',CX [] H s₁ (fun _ _ _=>False) e s' ->False):
  codeAny (model P w) callerA (.call (.ref fa) ⟨[.ref a],[]⟩) (fun r s' =>r= .ok (.ret (.bool true))/\OldK s₁.heap s'.heap/\s'.os=s₁.os/\AllBare s'.gens) s₁:=by
 have rv:=jJ hi
 have hne:Pt ≠ a:=fun z=>by rw [z,ha] at hPt; cases hPt
 obtain ⟨H,hH⟩:∃ H:Hp,H=upd (upd (fun _=>none) Pt (.tbl #[] q)) a (.frz { cls:= .type "list",data:= .seq vs.toArray } (.lst (ns.map V.int))):=⟨_,rfl⟩
 have h1:H a=some (.frz { cls:= .type "list",data:= .seq vs.toArray } (.lst (ns.map V.int))):=by rw [hH,zg]
 have h2:H Pt=some (.tbl #[] q):=by rw [hH,zf hne,zg]
 have h3:∀ b,b ≠ a->b ≠ Pt->H b=none:=fun b n1 n2=>by rw [hH,zf n1,zf n2]
 have hok:HOk P w H s₁.heap:=fun b o e=>by
  by_cases b1:b=a
  ·subst b1; rw [h1] at e; cases e
   exact ⟨ha,by rw [List.length_map]; exact hl,vs,_,rv,ha⟩
  ·by_cases b2:b=Pt
   ·subst b2; rw [h2] at e; cases e
    exact ⟨#[],hPt,trivial,fun p cv z=>by cases z⟩
   ·rw [h3 b b1 b2] at e; cases e
 have free:∀ {b:Addr} {o:Obj},s₁.heap.get? b=some o->o.cls ≠ .type "list"->o.cls ≠ .none->H b=none:=fun {b o} e n1 n2=>h3 b (fun z=>by rw [z,ha] at e; cases e; exact n1 rfl) fun z=>by rw [z,hPt] at e; cases e; exact n2 rfl
 have noD:∀ {b:Addr} {o:Obj} {es:Array DictEntry} {ep:Nat},s₁.heap.get? b=some o->o.data= .dict es ep->H b=none:=fun {b o es ep} e d=>h3 b (fun z=>by rw [z,ha] at e; cases e; cases d) fun z=>by rw [z,hPt] at e; cases e; cases d
 have nsK:∀ {b:Addr} {m:Str->Option Value},s₁.heap.Ns b m->(Wo s₁.heap H).Ns b m:=fun {b m} ⟨o,es,ep,e,d,r⟩=>⟨o,es,ep,jd e (noD e d),d,r⟩
 have hKb:K.In (Wo s₁.heap H):=fun b o e=>jd (KX b o e) (h3 b (fun z=>by rw [z,hKa] at e; cases e) fun z=>by rw [z,hKP] at e; cases e)
 have hM:Mod K mg (Wo s₁.heap H):=⟨hKb,nsK hns,⟨mb,nsK hb,hbb⟩,let ⟨mc,h1,h2⟩:=hlim; ⟨mc,nsK h1,h2⟩⟩
 have hBT:(Wo s₁.heap H).BuiltinsAt mg Pt:=by
  obtain ⟨bm,o,b1,b2,b3,b4,b5,b6,b7,b8⟩:=hbt
  exact ⟨bm,o,b1,b2,b3,b4,jd b5 (h3 bm (fun z=>by rw [z,ha] at b5; cases b5; cases b8) b4),b6,b7,b8⟩
 have e0:Jo P w K mg (Wo s₁.heap H) callerA [] s₁ H:=⟨rfl,hM,fun b o e=>uC e,Nat.le_of_eq (wc _ _),trivial,fun b hb=>absurd (show b∈([]:List Addr) from hb) (by simp),hok, .of_eq hg⟩
 refine codeAny_mono ((F _ hKb hBT).run callerA [] s₁ H ⟨[.ref a],[]⟩ [.ref a] [.ref a] _ _ hr e0 (hbind s₁ (.ref a)) (.cons rfl .nil) (hsp H _ h1 h2)) fun r s' h=> ?_
 cases r with
 | error e=>exact (hCX H e s' h).elim
 | ok fl=>
  cases fl with
  | next=>exact False.elim h
  | brk=>exact False.elim h
  | cont=>exact False.elim h
  | ret u=>
   obtain ⟨v,H',os,bare,un,hok',r',qv⟩:=h
   have q' :v= .bl true:=qv
   subst q'
   obtain rfl:u=Value.bool true:=r'
   refine ⟨rfl,⟨fun b o e=> ?_,fun b o e=>un.there b o e (by simp)⟩,os,bare⟩
   by_cases b1:b=a
   ·subst b1
    have z2:=un.frzs b _ _ h1
    obtain ⟨e2,_⟩:=hok' b _ z2
    rw [ha] at e; cases e
    exact .inl e2
   ·by_cases b2:b=Pt
    ·subst b2
     obtain ⟨more,e2,_⟩:=hok' b _ (un.tbls b _ _ h2)
     rw [hPt] at e; cases e
     exact .inr (.inl ⟨((codeHd_of_K KX hC).tab hPt).isCodeTable,rfl, #[],more,rfl,e2⟩)
    ·exact .inl (un.keep b o e (h3 b b1 b2) (by intro z; exact absurd (show b∈([]:List Addr) from z) (by simp)) (by simp))
theorem walk_ofT {l:OpenLaw} {n k:Nat} {q:Program} {loose:List Str} {XP:(Str->Option Value)->Heap->Prop} {YP:World->Heap->Prop} {d:DefRec} {K:Params->Frag} {ts:List Addr} {CX:World->CXT} {sp:World->Addr->Sp} {x nm:Str}
  (hn:l.most=some n) (hn2:n<=sizeLine) (hdf:d.params.defaults=[]) (hr:Z1 k callerA)
  (hY:∀ (w:World) (h:Heap),YP w h->(K w.params).In h/\∀ P∈ts,h.get? P=some (tabObj #[])) (hKa:∀ (w:World) (a:Addr) (o:Obj),(K w.params).lookup a=some o->o.cls ≠ .type "list")
  (F:∀ (w:World) (mg:Str->Option Value) (fa:Addr) (h:Heap),(K w.params).In h->h.Ns mainGlobals mg->mg d.name=some (.ref fa)->(∀ P∈ts,h.get? P=some (tabObj #[]))->
   ∃ (fd:FuncData) (c Pt:Addr),(∀ (s:Shared) (u:Value),BindsTo s fd ⟨[u],[]⟩ [(x,u)])/\h.get? Pt=some (tabObj #[])/\(K w.params).lookup Pt=none/\codeHdIn (K w.params) c Pt=true/\
    ∀ base:Heap,(K w.params).In base->base.BuiltinsAt mg Pt->zA l.prog w (K w.params) mg base (CX w) k fa fd [x] (sp w Pt))
  (hsp:∀ (w:World) (H:Hp) (a Pt:Addr) (o:Obj) (ns:List Int),ns.length<=n->H a=some (.frz o (.lst (ns.map V.int)))->H Pt=some (.tbl #[] nm)->sp w Pt [.ref a] H (fun v _=>v= .bl true) fun _ _ _=>False)
  (hCX:∀ (w:World) (H:Hp) (s:Shared) (e:Value) (s' :Shared),CX w [] H s (fun _ _ _=>False) e s' ->False):
  WalkO q loose XP YP l.row.toRowW d [] (fun f vs=>PySem.call f vs):=by
 refine Att.attach_call hn hdf fun w s₀ s₁ mg mb fa o pm cd doc a vs ns G Y ho hd hcd hmg hobj hints hlen hg=> ?_
 obtain ⟨KX,hT⟩:=hY w _ Y
 obtain ⟨fd,c,Pt,hb,hPt,hKP,hC,hF⟩:=F w mg fa _ KX G.T.g hmg hT
 obtain ⟨bm,ob,b1,b2,b3,b4,b5,b6⟩:=G.T.bmain
 have hbP:bm ≠ Pt:=fun z=>by rw [z,hPt] at b3; cases b3; cases b4
 have hbG:bm ≠ mainGlobals:=fun z=>by
  obtain ⟨o,es,ep,e,hd,_⟩:=G.T.g
  rw [z,e] at b3; cases b3; rw [hd] at b6; cases b6
 refine Wa (q:=nm) KX G.T.g G.T.b G.T.builtins G.T.nolimit hg hobj hints (Nat.le_trans hlen hn2) hr ⟨bm,ob,b1,b2,hbG,hbP,b3,b4,b5,b6⟩ hPt hKP hC ?_ hF hb (fun H o h1 h2=>hsp w H a Pt o ns hlen h1 h2) fun H e s' =>hCX w H s₁ e s'
 cases hk:(K w.params).lookup a with
 | none=>rfl
 | some o2=>
  have e:=KX a o2 hk
  rw [hobj] at e; cases e
  exact (hKa w a _ hk rfl).elim
end L2
namespace PV
open PySem PySem.Spec PyProof.Rows L2
section
variable {prog:Program} {w:World} {A:Around} {R:Result->Shared->Prop} {I:Addr} {fp wr:List Addr} {n:Nat} {P:Nat->Value->Prop} {St:Nat->Heap->Prop}
end
section
variable {prog:Program} {w:World} {A:Around} {E:Value->Shared->Prop} {s:Shared} {l:Addr} {xs:Array (Int×Tok)}
end
section
variable {X:Cx} {Y:Fx} {a b:Expr} {fa fb:En->R T} {pos p p' pos' pt kp:Pos} {elts:List Expr} {kk:Nat}
end
end PV
namespace PV
open PySem PySem.Spec PyProof.Rows L2 PySem.W
section
variable {X:Cx} {Y:Fx} {a b:Expr} {fa fb:En->R T} {pos p p' :Pos}
def ixO (i:Nat) (fb:En->R T):En->R T:=fun ρ=>match ρ[i]? with
 | some (.ow ts)=>(fb ρ).bind fun t=>match t with
  | .int j=>atT ts j
  | _=> .bad
 | _=> .bad
theorem Qi {i:Nat} {x:Str} (hv:PE X (.Name x p) (Wj i)) (hb:Snd X Y b fb) (hs:J6 b:=by exact fun _ _=>rfl):Snd X Y (.Subscript (.Name x p) b pos) (ixO i fb):= .mk fun ρ=>
 PE.imp (yu uh hv (hb ρ) hs) fun σ H Q ⟨B,I,q⟩=>by
  unfold ixO at q
  split at q
  ·rename_i ts e
   obtain ⟨a,xs,e1,_⟩:=I.ow i ts e
   refine ⟨.ref a,e1,step I q fun t' v' H2 _ s2 r2 I2 q2=> ?_⟩
   obtain ⟨a2,xs2,e2,_,_,hh,rr,_⟩:=I2.ow i ts e
   rw [e1] at e2; cases e2
   cases r2 with
   | int j=>
    have q2:Po Y rC _ H2 (atT ts j) Q:=q2
    unfold atT at q2
    split at q2
    ·rename_i t e3
     obtain ⟨w,e4,e5⟩:=Jw rr e3
     exact .inl ⟨_,xs2,j,w,rfl,rfl,SqL.of hh,e4,po0 I2.sB q2 rfl e5⟩
    ·exact q2.elim
   | _=>exact q2.elim
  ·exact q.elim
def exE (f:En->R T):En->R T:=fun ρ=>match f ρ with
 | .ex c=> .ex c
 | _=> .bad
end
end PV
namespace PV
open PySem PySem.Spec PyProof.Rows L2
def QR (fi:En->R (List T)):En->R T:=fun ρ=>(fi ρ).bind fun ts=>match ts with
 | []=> .ok (.lst [])
 | _=> .bad
structure CSn (X:Cx) (scope:Scope):Prop where
 kind:scope.kind= .function
 loc:∀ x∈scope.names,x.2= .local->scope.names.lookup x.1=some .local
 fre:∀ x∈scope.names,x.2= .free->X.env.kindOf x.1=some .cell\/X.env.kindOf x.1=some .free
def QS (scope sc0:Scope):Bool:=(scope.kind == .function) && scope.names.all (fun x=>x.2 != .local || scope.names.lookup x.1 == some .local) &&
 scope.names.all (fun x=>x.2 != .free || sc0.names.lookup x.1 == some .cell || sc0.names.lookup x.1 == some .free)
theorem YD {X:Cx} {scope:Scope} (sc0:Scope) (h0:X.env.scope=sc0) (h:QS scope sc0=true):CSn X scope:=by
 unfold QS at h
 simp only [Bool.and_eq_true,List.all_eq_true] at h
 obtain ⟨⟨h1,h3⟩,h4⟩:=h
 refine ⟨eq_of_beq h1,fun x hx hl=> ?_,fun x hx hf=> ?_⟩
 ·have:=h3 x hx
  rw [hl] at this
  simpa using this
 ·have:=h4 x hx
  rw [hf] at this
  show X.env.scope.names.lookup x.1=_\/X.env.scope.names.lookup x.1=_
  rw [h0]
  simpa using this
theorem UJ {M:Model} {A:Around} {E:Value->Shared->Prop} {s:Shared} {scope:Scope} {globals:Addr} {closure:List (Str×Addr)} {qual:Str} {outer:Env} {Q:Env->Shared->Prop}
  (hQ:∀ env h',env.locals=s.heap.objs.size->h'.Ns s.heap.objs.size (fun _=>none)->(∀ b o,s.heap.get? b=some o->h'.get? b=some o)->Q env { s with heap:=h' }):
  wpAny M A (newFunctionEnv scope globals closure [] qual none .none (some outer)) Q E s:=by
 simp only [newFunctionEnv,Option.isSome_some,if_true]
 refine wpAny_bind (wpAny_alloc ?_)
 refine wpAny_bind (wpAny_layCells _ (fun name kind cells=>by cases hkc:kind == NameKind.cell <;> simp [hkc]) _ _ _ _ ?_)
 rw [List.forIn_nil]
 refine wpAny_bind (wpAny_pure (wpAny_pure ?_))
 exact hQ _ _ rfl ((Heap.Ns.new s.heap (.type "dict")).keeps (pushCells_keeps _ _)) fun b o e=>pushCells_keeps _ _ b o (Heap.get?_push_of_some _ e)
section
variable {X:Cx} {Y:Fx} {tg iter elt:Expr} {ifs:List Expr} {scope:Scope} {pos:Pos} {fi:En->R (List T)}
theorem UK (S:CSn X scope) (hc:X.calm=true) (hi:wb X Y tg iter fi) (hs:∀ x,foldedSetIterable iter X.env x=pure x:=by intro _; rfl):Snd X Y (.ListComp elt [⟨tg,iter,ifs,0⟩] scope pos) (QR fi):= .mk fun ρ=>by
 intro pins s σ H Q I ⟨B,J,q⟩
 rw [eval_ListComp]
 obtain ⟨cl,ecl,hcl,hcf⟩:=Jd (scope:=scope) (env:=X.env) fun x hx hf=>I.ok.has x.1 (S.fre x hx hf)
 refine wpAny_comprehension_free rfl hs ecl S.kind S.loc ?_
 refine thn (hi ρ pins s σ H (fun J H1=>∀ D,H1 D=none->J.stop 0 (upd H1 D (.lst []))/\Q (.ref D) (upd H1 D (.lst []))) I (step J q fun ts it' H1 _ s1 r1 J1 q1=> ?_)) fun v s1 h1=>thn h1 fun itv s2 h2=> ?_
 ·intro D hD
  cases ts with
  | cons _ _=>exact q1.elim
  | nil=>
   obtain ⟨_,_,hstop⟩:=r1 _ (upd H1 D (.lst [])) (zh.refl _) (J1.sB.trans (zh.new hD _))
   refine ⟨hstop 0 (Nat.le_refl _), ?_⟩
   refine (show Po Y rC _ H1 (.ok (.lst [])) Q from q1) (.ref D) _ (zh.new hD _) ?_
   exact .lst (by rw [zy hD]; exact zg) .nil
 ·obtain ⟨it,fp,tn,J',H2,e,I2,TJ,st2,f2,q2⟩:=h2
  subst e
  refine wpAny_newObj_type ?_
  have hD:H2 s2.heap.objs.size=none:=I2.hok.fresh (Nat.le_refl _)
  obtain ⟨stop,qq⟩:=q2 _ hD
  have I3:L2.Inv X pins σ (upd H2 s2.heap.objs.size (.lst [])) { s2 with heap:=s2.heap.push { cls:= .type "list",data:= .seq ([]:List Value).toArray } }:=
   I2.laid (t' :=s2.toks) (fun b u e=>Heap.get?_push_of_some _ e) (Nat.le_refl _) ⟨Nat.zero_le _,[],_, .nil,Heap.get?_push_size _ rfl⟩
  have f3:∀ b∈fp,jy X pins (upd H2 s2.heap.objs.size (.lst [])) b:=fun b hb=>by
   obtain ⟨o,eo,_⟩:=TJ.obj _ _ st2 b hb
   exact ⟨by rw [zf (Nat.ne_of_lt (Heap.lt_size eo))]; exact (f2 b hb).1,(f2 b hb).2⟩
  have o3:∀ b∈fp,∃ o,(s2.heap.push { cls:= .type "list",data:= .seq ([]:List Value).toArray }).get? b=some o:=fun b hb=>by
   obtain ⟨o,eo,_⟩:=TJ.obj _ _ st2 b hb
   exact ⟨o,Heap.get?_push_of_some _ eo⟩
  have t3:tn 0 (s2.heap.push { cls:= .type "list",data:= .seq ([]:List Value).toArray }):=TJ.keep _ _ _ st2 fun b hb o e=>Heap.get?_push_of_some _ e
  generalize hD' :s2.heap.objs.size=D at*
  generalize hH:upd H2 D (.lst [])=H3 at*
  generalize hG:({ s2 with heap:=s2.heap.push { cls:= .type "list",data:= .seq ([]:List Value).toArray } }:Shared)=s3 at*
  have hg3:s2.heap.push { cls:= .type "list",data:= .seq ([]:List Value).toArray }=s3.heap:=by rw [← hG]
  rw [hg3] at o3 t3
  refine UJ fun env h4 el hns k4=> ?_
  have I4:L2.Inv X pins σ H3 { s3 with heap:=h4 }:=I3.kept (t' :=s3.toks) k4
  have fresh:H3 s3.heap.objs.size=none:=I3.hok.fresh (Nat.le_refl _)
  have ho:∃ o,h4.get? s3.heap.objs.size=some o/\∀ v,o.data ≠ .cell v:=by
   obtain ⟨o,es,ep,ho,r,_⟩:=id hns
   refine ⟨o,ho,fun v z=> ?_⟩
   rw [z] at r; cases r
  obtain ⟨o,eo,dc⟩:=ho
  have nf:s3.heap.objs.size ∉ X.fs:=fun z=>by
   obtain ⟨_,o,eo,_⟩:=I3.ok.funs.mem z
   exact absurd (Nat.lt_of_lt_of_le (Heap.lt_size eo) I3.sz) (Nat.lt_irrefl _)
  have I4' :L2.Inv X (pins++[(s3.heap.objs.size,o)]) σ H3 { s3 with heap:=h4 }:=I4.pins_of fun p hp=>by
   rcases List.mem_append.mp hp with z | z
   ·exact I4.pin p (List.mem_append_right _ z)
   ·have e:p=(s3.heap.objs.size,o):=by simpa using z
    subst e
    exact ⟨eo,fresh,Nat.ne_of_gt I3.lt,nf,dc⟩
  have f4:∀ b∈fp,jy X (pins++[(s3.heap.objs.size,o)]) H3 b:=fun b hb=>by
   obtain ⟨q0,q1,q2,q3,q4,q5⟩:=f3 b hb
   obtain ⟨o',eo'⟩:=o3 b hb
   refine ⟨q0,q1,q2,q3,q4,fun p hp=> ?_⟩
   rw [← List.append_assoc] at hp
   rcases List.mem_append.mp hp with z | z
   ·exact q5 p z
   ·have e:p=(s3.heap.objs.size,o):=by simpa using z
    subst e
    exact Nat.ne_of_gt (Heap.lt_size eo')
  have t4:tn 0 h4:=TJ.keep _ _ _ t3 fun b hb o e=>k4 b o e
  have loop:codeAny (model X.prog X.w) X.A (.compLoop (.ListComp elt [⟨tg,iter,ifs,0⟩] scope pos) 0 (.ref it) (.ref D) { env with scope:=relabel scope X.env }) (compPost (model X.prog X.w) X.A X.xe none (EP X pins σ Q) (.ref D) env.locals) { s3 with heap:=h4 }:=by
   refine codeAny_loop rfl (fun _ s' =>s' ={ s3 with heap:=h4 }) (fun n s4 h4' => ?_) 0 rfl
   subst h4'
   show wpAny _ X.A ((compTurn (.ListComp elt [⟨tg,iter,ifs,0⟩] scope pos) 0 (.ref it) (.ref D) _).onRaise (fun x=>do noteFrame x _; theTreesLotGoes x)) _ _ _
   refine wpAny_noted ?_
   rw [compTurn_list]
   refine wpAny_bind (wpAny_standAt (wpAny_bind (thn (TJ.done X rfl rfl rfl hc 0 _ _ σ H3 _ I4' f4 t4 stop) fun r s5 ⟨hr,I5⟩=> ?_)))
   subst hr
   refine wpAny_pure ?_
   rw [el]
   have e5:s5.heap.get? s3.heap.objs.size=some o:=(I5.pin (s3.heap.objs.size,o) (by simp)).1
   have n5:s5.heap.Ns s3.heap.objs.size (fun _=>none):=by
    obtain ⟨o',es,ep,ho,r⟩:=id hns
    rw [ho] at eo; cases eo
    exact ⟨_,es,ep,e5,r⟩
   refine ⟨_,n5,fun h' hsb=>⟨.ref D,H3, ?_,rfl,qq⟩⟩
   exact I5.unpinned.turned (t' :=s5.toks) (fun b o hb e=>hsb.extBut b o hb e) fresh (Nat.ne_of_gt I3.lt) (.inr I3.sz) (fun x c e z=>by
    obtain ⟨v',o,eo,_⟩:=I3.cell x c e
    exact absurd (Heap.lt_size eo) (by rw [z]; exact Nat.lt_irrefl _)) (fun p hp z=>absurd (Heap.lt_size (I3.pin p hp).1) (by rw [z]; exact Nat.lt_irrefl _))
  exact codeAny_compStart_list loop (TJ.self _ _ _ _ _ t4 loop)
end
end PV
namespace PV
open PySem PySem.Spec PyProof.Rows L2 PySem.W
def exR (r:R T):R T:=match r with
 | .ex c=> .ex c
 | _=> .bad
def spI (cl:Nat->Value) (C:Addr) (n:Nat) (g:List T->R T):Sp:=fun vs H Q E=>∃ (H1:Hp) (x dx:Addr) (vs' :List V) (ts:List T) (B:Hp),vs= .ref x :: vs' /\ts.length=n/\H=upd (upd H1 dx (.own x)) x (.ins C dx [])/\H1 x=none/\H1 dx=none/\dx ≠ x/\zh B H1/\zn B vs' ts/\
 match g ts with
 | .ex c=>∀ d H',zh H1 H' ->zh B H' ->E (cl c) d H'
 | _=>False
section
variable {X:Cx} {Y:Fx} {a:Expr} {pos p:Pos}
theorem YE {cl:Nat->Value} {k j n:Nat} {C f:Addr} {fd:FuncData} {ps:List Str} {g:List T->R T} {x:Str} {es:List Expr} {ga:En->R (List T)} (hy:Y.cl=cl) (hp:zJ (CX1 X.prog X.w) X Y.E) (F:zA X.prog X.w X.K X.mg X.base (CX1 X.prog X.w) j f fd ps (spI cl C n g)) (hr:Z1 k X.A) (hj:j+1<=k) (gl:Gl X x)
  (mg:X.mg x=some (.ref C)) (M:L2.Mk X.K C f) (bd:L2.Binds X.K fd ps []) (ha:jX X Y (a :: es) ga) (hd:(x == ("__debug__":Str))=false:=by decide)
  (hs:starEach (a :: es) X.env=(false,eval a X.env) :: starEach es X.env:=by exact zv rfl) (hz:((backTo pos (starEach es X.env)).any fun x=>x.fst)=false:=by exact zH rfl):Snd X Y (.Call (.Name x p) (a :: es) [] pos) (exE (za n g ga)):= .mk fun ρ=>by
 subst hy
 refine PE.imp (uJ M F (hr.mono hj) gl mg bd .nil hp (ha ρ) hd hs hz) fun σ H Q ⟨B,I,q⟩=> ?_
 have e:exE (za n g ga) ρ=(ga ρ).bind fun ts=>if ts.length=n then exR (g ts) else .bad:=by
  unfold exE za
  cases ga ρ with
  | bad=>rfl
  | ex c=>rfl
  | ok ts=>
   show (match (if ts.length=n then g ts else .bad:R T) with | .ex c=>R.ex c | _=>R.bad)=(if ts.length=n then exR (g ts) else .bad)
   by_cases hn:ts.length=n
   ·rw [if_pos hn,if_pos hn]; cases g ts <;> rfl
   ·rw [if_neg hn,if_neg hn]
 rw [e] at q
 refine step I q fun ts vs H1 _ s1 r1 I1 q1=> ?_
 intro x dx h1 h2 h3
 split at q1
 ·rename_i hn
  rw [List.append_nil]
  refine ⟨H1,x,dx,vs,ts,_,rfl,hn,rfl,h1,h2,h3,I1.sB,r1, ?_⟩
  revert q1
  cases g ts with
  | bad=>exact fun q1=>q1
  | ok t=>exact fun q1=>q1.elim
  | ex c=>exact fun q1 d H' s sB=>q1 d H' (I1.sH.trans s) sB
 ·exact q1.elim
end
section
variable {P:Program} {w:World} {K:PySem.W.Frag} {mg:Str->Option Value} {base:Heap}
theorem UL {cl:Nat->Value} {x qual:Str} {st:Stmt} {f C:Addr} {fd:FuncData} {k:Nat} {fv:En->R T} {a1 a2 s1 k1:Str} {p1 p2 p3 p4 p5 p6 p7:Pos} {val:Expr} {rest:List Stmt} (F:Fun K x qual st f fd) (S:zc [s1,k1] [s1,k1] (z9 st)) (hC:L2.Cls K C) (hn:L2.NoAttr K C a1)
  (hb:zo st= .Assign [.Attribute (.Name s1 p1) a1 p2] (.Name k1 p3) p4 :: .Assign [.Attribute (.Name s1 p5) a2 p6] val p7 :: rest)
  (hv:∀ (cdv:Value) (A:Around) (outer:List Env) (s:Shared) (H:Hp) (E:XK) (Y:Fx),Y.cl=cl->Y.E=E->Z1 k (A.deeper (envOfC qual (z9 st) s.heap.objs.size f cdv))->
   Snd (Zx (CX1 P w) P w K mg base [s1,k1] qual (z9 st) f cdv A outer s H E) Y val fv)
  (h1:Vis (z9 st) s1) (h2:Vis (z9 st) k1) (hd1:(s1 == ("__debug__":Str))=false) (hd2:(k1 == ("__debug__":Str))=false) (hc1:(s1 == ("__classdict__":Str))=false) (hc2:(k1 == ("__classdict__":Str))=false) (hsw:∀ env,swapsWith val (some (.Attribute (.Name s1 p5) a2 p6)) p7.line env=pure false):
  zA P w K mg base (CX1 P w) (k+1) f fd [s1,k1] (spI cl C 1 fun ts=>exR (fv (.un :: ts.map Sl.vl))):=by
 refine Fun.okX F S (fun vs H Q E ⟨H1,x,dx,vs',ts,B,e,hl,_,_,_,_,_,r,_⟩=>by rw [e,List.length_cons,r.length,hl]; rfl) fun cdv A outer s H vs Q E hr ⟨H1,x,dx,vs',ts,B,e,hl,eH,n1,n2,n3,sB,r,q⟩=> ?_
 match ts,hl with
 | [t],_=>
 cases r with
 | @cons v _ _ _ r1 rr=>
 cases rr
 subst e
 rw [hb]
 refine ⟨_,jh (ue (j5 (i:=0) rfl h1 hd1 hc1) (j5 (i:=1) rfl h2 hd2 hc2) rfl) (jh (ue (j5 (i:=0) rfl h1 hd1 hc1) (hv cdv A outer s H E ⟨B,H1,E,cl⟩ rfl rfl hr [.un, .vl t]) (hsw _)) wf), ?_⟩
 have hx:H x=some (.ins C dx []):=by rw [eH]; exact zg
 have sH:zh H1 (upd H x (.ins C dx (jA a1 v []))):=fun b u hb' =>by
  have nx:b ≠ x:=fun z=>by rw [z,n1] at hb'; cases hb'
  have nd:b ≠ dx:=fun z=>by rw [z,n2] at hb'; cases hb'
  rw [zf nx,eH,zf nx,zf nd]; exact hb'
 refine ⟨v,rfl, .ref x,rfl,x,C,dx,[],rfl,hx,hC,hn,by decide, ?_⟩
 refine ⟨B,⟨sB,sH,sB.trans sH,fun _ _ _=>rfl,rfl,fun i u hi=> ?_,fun i u hi=> ?_,fun i u hi=> ?_⟩, ?_⟩
 ·match i,hi with
  | 1,hi=>cases hi; exact ⟨v,rfl,r1⟩
 ·match i,hi with
  | 1,hi=>cases hi
 ·match i,hi with
  | 1,hi=>cases hi
 ·have q:(match exR (fv [.un, .vl t]) with | .ex c=>∀ d H',zh H1 H' ->zh B H' ->E (cl c) d H' | _=>False):=q
  revert q
  cases fv [.un, .vl t] with
  | ok u=>exact fun q=>q.elim
  | bad=>exact fun q=>q.elim
  | ex c=>exact fun q=>q
end
end PV
namespace G
open PySem PySem.Spec PyProof.Rows L2 PV
def okX (c:Nat):Bool:=[0,1,2,3,4,5,6].contains c
def ZA (c:Nat):Bool:=c == 0
def Zl (c:Nat):Bool:=c == 1
def ZB (c:Nat):Bool:=c == 2
def Zm (c:Nat):Bool:=c == 3
def ZU (c:Nat):Bool:=c == 4
def ZC (c:Nat):Bool:=c == 5
def ZD (c:Nat):Bool:=c == 6
def zW (_:Nat):Bool:=true
def b_2:En->RS:=
  zj (Zj 1 (zS (z0 (ZK 0 okX ZU) (z0 (ZK 0 okX ZD) (z0 (ZK 0 okX ZA) (z0 (ZK 0 okX ZB) (zb)))))))
  (zj (Zj 1 (zd zY (vE 1) (zS (z0 (ZK 0 okX ZC) (z0 (ZK 0 okX Zl) (z0 (ZK 0 okX Zm) (zb)))))))
  (zj (ifS (orT (zM neC (UV Qd (vB 1) (cE (.bl true))) (cE (.int 1))) (JW (wK (ZK 0 okX zW)))) (zr (cE (.str "wrong"))) (nxS))
  (zr (zd ixT (zS (z0 (cE (.str "ended")) (z0 (cE (.str "no back")) (z0 (cE (.str "no kind")) (z0 (cE (.str "no rule")) (z0 (cE (.str "no text")) (z0 (cE (.str "no worth")) (z0 (cE (.str "too many")) (zb))))))))) (UV Ye (vB 1) (cE (.bl true)))))))
def f_2:Nat->R T:=fun c=>zl (b_2  (enC 2 c))
def b_b:En->RS:=
  zr (Zn (ap1 (U7 "int") (vB 0)) (QO (ap1 (U7 "bool") (vB 0))))
def f_b:List T->R T:=fun ts=>zl (b_b  (en0 1 ts))
def QT (c_b:List T->R T):En->RS:=
  zr (Zn (za 1 c_b (z0 (vE 0) (zb))) (chE leC leC (U0 (cE (.int 50))) (vB 0) (cE (.int 50))))
def QU:List T->R T:=fun ts=>zl (QT (f_b) (en0 1 ts))
def b_n:En->RS:=
  zj (ifS (orT (JW (wK (ap1 (U7 "str") (vB 0)))) (JW (chT leC leC (cE (.int 1)) (ap1 Zy (vB 0)) (cE (.int 3))))) (zr (cE (.bl false))) (nxS))
  (zr (ap1 yN (Zz (Wn (vE 0)) (jv 0) (wR) (chE leC leC (cE (.str "a")) (vB 0) (cE (.str "z"))) 1 [])))
def f_n:List T->R T:=fun ts=>zl (b_n  (en0 1 ts))
def b_h (c_n:List T->R T) (c_h:List T->R T) (c_10:List T->R T):En->RS:=
  zj (ifS (orT (zM eqC (vB 1) (cE (.int 0))) (orT (JW (wK (ap1 (U7 "tuple") (vB 0)))) (zM eqC (ap1 Zy (vB 0)) (cE (.int 0))))) (zr (cE (.bl false))) (nxS))
  (zj (ifS (orT (zM eqC (zd ixT (vE 0) (cE (.int 0))) (cE (.str "sum"))) (zM eqC (zd ixT (vE 0) (cE (.int 0))) (cE (.str "size")))) (zr (Zn (j0 eqC (ap1 Zy (vB 0)) (cE (.int 3))) (Zn (za 1 c_10 (z0 (zd ixT (vE 0) (cE (.int 1))) (zb))) (za 1 c_10 (z0 (zd ixT (vE 0) (cE (.int 2))) (zb)))))) (nxS))
  (zj (ifS (zM eqC (zd ixT (vE 0) (cE (.int 0))) (cE (.str "word"))) (zr (Zn (j0 eqC (ap1 Zy (vB 0)) (cE (.int 2))) (za 1 c_n (z0 (zd ixT (vE 0) (cE (.int 1))) (zb))))) (nxS))
  (zj (ifS (orT (zM eqC (zd ixT (vE 0) (cE (.int 0))) (cE (.str "rising"))) (zM eqC (zd ixT (vE 0) (cE (.int 0))) (cE (.str "unlike")))) (zr (j0 eqC (ap1 Zy (vB 0)) (cE (.int 1)))) (nxS))
  (zj (ifS (zM eqC (zd ixT (vE 0) (cE (.int 0))) (cE (.str "no"))) (zr (Zn (j0 eqC (ap1 Zy (vB 0)) (cE (.int 2))) (za 2 c_h (z0 (zd ixT (vE 0) (cE (.int 1))) (z0 (zd Ju (vE 1) (cE (.int 1))) (zb)))))) (nxS))
  (zj (ifS (orT (zM eqC (zd ixT (vE 0) (cE (.int 0))) (cE (.str "all"))) (zM eqC (zd ixT (vE 0) (cE (.int 0))) (cE (.str "some")))) (zr (Zn (j0 eqC (ap1 Zy (vB 0)) (cE (.int 3))) (Zn (za 2 c_h (z0 (zd ixT (vE 0) (cE (.int 1))) (z0 (zd Ju (vE 1) (cE (.int 1))) (zb)))) (za 2 c_h (z0 (zd ixT (vE 0) (cE (.int 2))) (z0 (zd Ju (vE 1) (cE (.int 1))) (zb))))))) (nxS))
  (zr (cE (.bl false))))))))
def S_h:Nat->Nat->List T->R T
 | 0,_=>fun _=> .bad
 | n+1,_=>fun ts=>zl (b_h (f_n) (S_h n 0) (QU) (en0 2 ts))
abbrev f_h (n:Nat):List T->R T:=S_h n 0
def b_5 (c_h:List T->R T):En->RS:=
  zr (za 2 c_h (z0 (vE 0) (z0 (cE (.int 3)) (zb))))
def f_5:List T->R T:=fun ts=>zl (b_5 (f_h 8) (en0 1 ts))
def b_7 (c_5:List T->R T):En->RS:=
  ifS (JW (wK (za 1 c_5 (z0 (vE 0) (zb))))) (ZT 2) (nxS)
def f_7:List T->R T:=fun ts=>zl (b_7 (f_5) (en0 1 ts))
def QV (c_7:List T->R T):En->RS:=
  zj (ifS (JW (wK (ap1 (Yq "list" "tuple") (vE 0)))) (ZT 2) (nxS))
  (Ub (Wn (vE 0)) (jv 1) (ZI (za 1 c_7 (z0 (vE 1) (zb)))))
def QW:List T->R T:=fun ts=>zl (QV (f_7) (en0 2 ts))
def QX (c_b:List T->R T):En->RS:=
  zr (Zn (za 1 c_b (z0 (vE 0) (zb))) (Zn (za 1 c_b (z0 (vE 1) (zb))) (QN leC leC leC (vB 2) (vB 0) (vB 1) (vB 3))))
def QY:List T->R T:=fun ts=>zl (QX (f_b) (en0 4 ts))
def b_a:En->RS:=
  zr (Zn (ap1 (U7 "tuple") (vB 0)) (chE leC leC (vB 1) (ap1 Zy (vB 0)) (vB 2)))
def f_a:List T->R T:=fun ts=>zl (b_a  (en0 3 ts))
def QZ (c_b:List T->R T) (c_a:List T->R T) (c_n:List T->R T):En->RS:=
  zr (Zn (za 3 c_a (z0 (vE 0) (z0 (cE (.int 2)) (z0 (cE (.int 2)) (zb))))) (Zn (za 1 c_n (z0 (zd ixT (vE 0) (cE (.int 0))) (zb))) (Zn (za 1 c_b (z0 (zd ixT (vE 0) (cE (.int 1))) (zb))) (chE leC leC (cE (.int 1)) (zd ixT (vE 0) (cE (.int 1))) (cE (.int 20))))))
def v5:List T->R T:=fun ts=>zl (QZ (f_b) (f_a) (f_n) (en0 1 ts))
def b_t (c_a:List T->R T) (c_14:List T->R T):En->RS:=
  zj (ifS (orT (JW (wK (za 3 c_a (z0 (vE 0) (z0 (cE (.int 1)) (z0 (cE (.int 4)) (zb))))))) (JW (wK (ap1 yN (Zz (Wn (vE 0)) (jv 0) (wR) (za 1 c_14 (z0 (vE 0) (zb))) 1 []))))) (zr (cE (.bl false))) (nxS))
  (zj (Zj 1 (Zz (Wn (vE 0)) (jv 0) (wR) (zd ixT (vE 0) (cE (.int 0))) 1 []))
  (zr (j0 eqC (ap1 Y6 (vB 1)) (ap1 Zy (vB 1)))))
def f_t:List T->R T:=fun ts=>zl (b_t (f_a) (v5) (en0 2 ts))
def b_9 (c_11:List T->R T) (c_9:List T->R T) (c_t:List T->R T) (c_y:List T->R T):En->RS:=
  zj (ifS (orT (zM eqC (vB 1) (cE (.int 0))) (orT (JW (wK (ap1 (U7 "tuple") (vB 0)))) (zM eqC (ap1 Zy (vB 0)) (cE (.int 0))))) (zr (cE (.bl false))) (nxS))
  (zj (ifS (zM eqC (zd ixT (vE 0) (cE (.int 0))) (cE (.str "whole"))) (zr (Zn (j0 eqC (ap1 Zy (vB 0)) (cE (.int 3))) (za 4 c_11 (z0 (zd ixT (vE 0) (cE (.int 1))) (z0 (zd ixT (vE 0) (cE (.int 2))) (z0 (U0 (cE (.int 20))) (z0 (cE (.int 20)) (zb)))))))) (nxS))
  (zj (ifS (zM eqC (zd ixT (vE 0) (cE (.int 0))) (cE (.str "pick"))) (zr (Zn (j0 eqC (ap1 Zy (vB 0)) (cE (.int 2))) (za 1 c_t (z0 (zd ixT (vE 0) (cE (.int 1))) (zb))))) (nxS))
  (zj (ifS (zM eqC (zd ixT (vE 0) (cE (.int 0))) (cE (.str "row"))) (zr (Zn (j0 eqC (ap1 Zy (vB 0)) (cE (.int 2))) (za 2 c_y (z0 (zd ixT (vE 0) (cE (.int 1))) (z0 (zd Ju (vE 1) (cE (.int 1))) (zb)))))) (nxS))
  (zj (ifS (zM eqC (zd ixT (vE 0) (cE (.int 0))) (cE (.str "many"))) (zr (Zn (j0 eqC (ap1 Zy (vB 0)) (cE (.int 4))) (Zn (za 4 c_11 (z0 (zd ixT (vE 0) (cE (.int 2))) (z0 (zd ixT (vE 0) (cE (.int 3))) (z0 (cE (.int 0)) (z0 (cE (.int 3)) (zb)))))) (za 2 c_9 (z0 (zd ixT (vE 0) (cE (.int 1))) (z0 (zd Ju (vE 1) (cE (.int 1))) (zb))))))) (nxS))
  (zr (cE (.bl false)))))))
def b_y (c_a:List T->R T) (c_9:List T->R T):En->RS:=
  zr (Zn (za 3 c_a (z0 (vE 0) (z0 (cE (.int 1)) (z0 (cE (.int 3)) (zb))))) (ap1 yN (Zz (Wn (vE 0)) (jv 0) (wR) (za 2 c_9 (z0 (vE 0) (z0 (vE 1) (zb)))) 1 [1])))
def S_9:Nat->Nat->List T->R T
 | 0,_=>fun _=> .bad
 | n+1,0=>fun ts=>zl (b_9 (QY) (S_9 n 0) (f_t) (S_9 n 1) (en0 2 ts))
 | n+1,_=>fun ts=>zl (b_y (f_a) (S_9 n 0) (en0 2 ts))
abbrev f_9 (n:Nat):List T->R T:=S_9 n 0
abbrev f_y (n:Nat):List T->R T:=S_9 n 1
def b_4 (c_9:List T->R T):En->RS:=
  zr (za 2 c_9 (z0 (vE 0) (z0 (cE (.int 3)) (zb))))
def f_4:List T->R T:=fun ts=>zl (b_4 (f_9 20) (en0 1 ts))
def b_c (c_4:List T->R T):En->RS:=
  ifS (JW (wK (za 1 c_4 (z0 (vE 0) (zb))))) (ZT 0) (nxS)
def f_c:List T->R T:=fun ts=>zl (b_c (f_4) (en0 1 ts))
def b_1 (c_r:List T->R T) (c_d:List T->R T):En->RS:=
  zj (ifS (zM eqC (zd ixT (vE 0) (cE (.int 0))) (cE (.str "whole"))) (zr (zd zY (zd Ju (zd ixT (vE 0) (cE (.int 2))) (zd ixT (vE 0) (cE (.int 1)))) (cE (.int 1)))) (nxS))
  (zj (ifS (zM eqC (zd ixT (vE 0) (cE (.int 0))) (cE (.str "pick"))) (zr (ap1 Zy (zd ixT (vE 0) (cE (.int 1))))) (nxS))
  (zj (ifS (zM eqC (zd ixT (vE 0) (cE (.int 0))) (cE (.str "row"))) (zr (za 1 c_r (z0 (zd ixT (vE 0) (cE (.int 1))) (zb)))) (nxS))
  (zr (za 2 c_d (z0 (vE 0) (z0 (zd zY (zd ixT (vE 0) (cE (.int 3))) (cE (.int 1))) (zb)))))))
def b_r (c_1:List T->R T):En->RS:=
  zj (Zj 1 (cE (.int 1)))
  (zj (Ub (Wn (vE 0)) (jv 2) (Zj 1 (zd zT (vE 1) (za 1 c_1 (z0 (vE 2) (zb))))))
  (zr (vE 1)))
def b_d (c_r:List T->R T):En->RS:=
  zr (ap1 QP (Zz (Ua (zd ixT (vE 0) (cE (.int 2))) (vE 1)) (jv 0) (wR) (za 1 c_r (z0 (zd zT (zS (z0 (zd ixT (vE 1) (cE (.int 1))) (zb))) (vE 0)) (zb))) 1 [0]))
def S_1:Nat->Nat->List T->R T
 | 0,_=>fun _=> .bad
 | n+1,0=>fun ts=>zl (b_1 (S_1 n 1) (S_1 n 2) (en0 1 ts))
 | n+1,1=>fun ts=>zl (b_r (S_1 n 0) (en0 3 ts))
 | n+1,_=>fun ts=>zl (b_d (S_1 n 1) (en0 2 ts))
abbrev f_1 (n:Nat):List T->R T:=S_1 n 0
abbrev f_r (n:Nat):List T->R T:=S_1 n 1
abbrev f_d (n:Nat):List T->R T:=S_1 n 2
def b_e:En->RS:=
  zr (Zz (Wn (zd ixT (vE 0) (cE (.int 1)))) (jv 0) (wR) (zd ixT (vE 0) (cE (.int 0))) 1 [])
def f_e:List T->R T:=fun ts=>zl (b_e  (en0 1 ts))
def b_6 (c_e:List T->R T) (c_16:List T->R T) (c_s:List T->R T):En->RS:=
  zj (ifS (zM eqC (zd ixT (vE 0) (cE (.int 0))) (cE (.str "whole"))) (zr (zd zY (zd ixT (vE 0) (cE (.int 1))) (vE 1))) (nxS))
  (zj (ifS (zM eqC (zd ixT (vE 0) (cE (.int 0))) (cE (.str "pick"))) (zr (zd ixT (za 1 c_e (z0 (vE 0) (zb))) (vE 1))) (nxS))
  (zj (ifS (zM eqC (zd ixT (vE 0) (cE (.int 0))) (cE (.str "row"))) (zr (za 2 c_s (z0 (zd ixT (vE 0) (cE (.int 1))) (z0 (vE 1) (zb))))) (nxS))
  (zr (za 2 c_16 (z0 (vE 0) (z0 (vE 1) (zb)))))))
def v6 (c_d:List T->R T) (c_s:List T->R T):En->RS:=
  zj (Zj 2 (zd ixT (vE 0) (cE (.int 2))))
  (zj (Zt (zM leC (za 2 c_d (z0 (vE 0) (z0 (zd zY (vE 2) (cE (.int 1))) (zb)))) (vB 1)) (Zj 2 (zd zY (vE 2) (cE (.int 1)))) (8))
  (zr (za 2 c_s (z0 (zd zT (zS (z0 (zd ixT (vE 0) (cE (.int 1))) (zb))) (vE 2)) (z0 (zd Ju (vE 1) (za 2 c_d (z0 (vE 0) (z0 (vE 2) (zb))))) (zb))))))
def b_s (c_1:List T->R T) (c_6:List T->R T):En->RS:=
  zj (Jc 2 (zb))
  (zj (Zj 3 (vE 1))
  (zj (Ub (QQ (vE 0)) (jv 4) (zj (Zj 5 (za 1 c_1 (z0 (vE 4) (zb))))
  (zj (Z4 2 (za 2 c_6 (z0 (vE 4) (z0 (zd Zr (vE 3) (vE 5)) (zb)))))
  (Zj 3 (zd jL (vE 3) (vE 5))))))
  (zr (ap1 Yn (vE 2)))))
def S_6:Nat->Nat->List T->R T
 | 0,_=>fun _=> .bad
 | n+1,0=>fun ts=>zl (b_6 (f_e) (S_6 n 1) (S_6 n 2) (en0 2 ts))
 | n+1,1=>fun ts=>zl (v6 (f_d 20) (S_6 n 2) (en0 3 ts))
 | n+1,_=>fun ts=>zl (b_s (f_1 20) (S_6 n 0) (en0 6 ts))
abbrev f_6 (n:Nat):List T->R T:=S_6 n 0
abbrev Vi (n:Nat):List T->R T:=S_6 n 1
abbrev f_s (n:Nat):List T->R T:=S_6 n 2
def b_m (c_c:List T->R T) (c_1:List T->R T) (c_6:List T->R T):En->RS:=
  zj (ZI (za 1 c_c (z0 (vE 0) (zb))))
  (zj (Zj 1 (za 1 c_1 (z0 (vE 0) (zb))))
  (zj (ifS (zM gtC (vB 1) (cE (.int 500))) (ZT 3) (nxS))
  (zr (Zz (WG (vE 1)) (jv 0) (wR) (za 2 c_6 (z0 (vE 1) (z0 (vE 0) (zb)))) 1 [0]))))
def f_m:List T->R T:=fun ts=>zl (b_m (f_c) (f_1 20) (f_6 20) (en0 2 ts))
def Wb:List T->R T:=fun _=> .bad
def b_z:En->RS:=
  zr (QR (Wn (vE 1)))
def f_z:List T->R T:=fun ts=>zl (b_z  (en0 2 ts))
def b_8 (c_m:List T->R T) (c_13:List T->R T) (c_z:List T->R T):En->RS:=
  zj (ZI (za 1 c_13 (z0 (vE 1) (zb))))
  (zj (Zj 2 (za 1 c_m (z0 (vE 0) (zb))))
  (zj (Zj 3 (Zz (Wn (za 2 c_z (z0 (vE 2) (z0 (vE 1) (zb))))) (jv 0) (wR) (zd Yt (vE 0) (zd Ju (ap1 Zy (vB 1)) (vE 0))) 1 [2]))
  (zr (ifE (zM gtC (ap1 Zy (vB 3)) (cE (.int 0))) (UV Ye (vB 3) (ap1 Yu (vB 3))) (cE .non)))))
def f_8:List T->R T:=fun ts=>zl (b_8 (f_m) (QW) (f_z) (en0 4 ts))
def b_k (c_m:List T->R T):List T->R T:=fun ts=>exR (zS (z0 (za 1 c_m (z0 (vE 1) (zb))) (zb)) (.un :: ts.map Sl.vl))
def f_k:List T->R T:=b_k f_m
def b_f (c_b:List T->R T) (c_a:List T->R T) (c_e:List T->R T) (c_x:List T->R T):En->RS:=
  zj (ifS (zM eqC (zd ixT (vE 0) (cE (.int 0))) (cE (.str "whole"))) (zr (Zn (za 1 c_b (z0 (vE 1) (zb))) (chE leC leC (zd ixT (vE 0) (cE (.int 1))) (vB 1) (zd ixT (vE 0) (cE (.int 2)))))) (nxS))
  (zj (ifS (zM eqC (zd ixT (vE 0) (cE (.int 0))) (cE (.str "pick"))) (zr (j0 inC (vB 1) (za 1 c_e (z0 (vE 0) (zb))))) (nxS))
  (zj (ifS (zM eqC (zd ixT (vE 0) (cE (.int 0))) (cE (.str "row"))) (zr (Zn (za 3 c_a (z0 (vE 1) (z0 (ap1 Zy (zd ixT (vE 0) (cE (.int 1)))) (z0 (ap1 Zy (zd ixT (vE 0) (cE (.int 1)))) (zb))))) (za 2 c_x (z0 (zd ixT (vE 0) (cE (.int 1))) (z0 (vE 1) (zb)))))) (nxS))
  (zr (Zn (za 3 c_a (z0 (vE 1) (z0 (zd ixT (vE 0) (cE (.int 2))) (z0 (zd ixT (vE 0) (cE (.int 3))) (zb))))) (za 2 c_x (z0 (zd zT (zS (z0 (zd ixT (vE 0) (cE (.int 1))) (zb))) (ap1 Zy (vB 1))) (z0 (vE 1) (zb))))))))
def b_x (c_f:List T->R T):En->RS:=
  zr (ap1 yN (Zz (Qb (vE 0) (vE 1)) (ZJ 0 1) (wR) (za 2 c_f (z0 (vE 0) (z0 (vE 1) (zb)))) 2 []))
def S_f:Nat->Nat->List T->R T
 | 0,_=>fun _=> .bad
 | n+1,0=>fun ts=>zl (b_f (f_b) (f_a) (f_e) (S_f n 1) (en0 2 ts))
 | n+1,_=>fun ts=>zl (b_x (S_f n 0) (en0 2 ts))
abbrev f_f (n:Nat):List T->R T:=S_f n 0
abbrev f_x (n:Nat):List T->R T:=S_f n 1
def v7 (c_c:List T->R T) (c_f:List T->R T):En->RS:=
  zj (ZI (za 1 c_c (z0 (vE 0) (zb))))
  (zr (za 2 c_f (z0 (vE 0) (z0 (vE 1) (zb)))))
def v8:List T->R T:=fun ts=>zl (v7 (f_c) (f_f 20) (en0 2 ts))
def b_g (c_15:List T->R T):En->RS:=
  ifS (JW (wK (za 2 c_15 (z0 (vE 0) (z0 (vE 1) (zb)))))) (ZT 1) (nxS)
def f_g:List T->R T:=fun ts=>zl (b_g (v8) (en0 2 ts))
def b_o (c_1:List T->R T) (c_6:List T->R T):En->RS:=
  zj (ifS (JW (chT leC ltC (cE (.int 0)) (vB 1) (za 1 c_1 (z0 (vE 0) (zb))))) (zr (cE .non)) (nxS))
  (zr (za 2 c_6 (z0 (vE 0) (z0 (vE 1) (zb)))))
def f_o:List T->R T:=fun ts=>zl (b_o (f_1 20) (f_6 20) (en0 2 ts))
def b_3 (c_e:List T->R T) (c_d:List T->R T) (c_12:List T->R T):En->RS:=
  zj (ifS (zM eqC (zd ixT (vE 0) (cE (.int 0))) (cE (.str "whole"))) (zr (zd Ju (vE 1) (zd ixT (vE 0) (cE (.int 1))))) (nxS))
  (zj (ifS (zM eqC (zd ixT (vE 0) (cE (.int 0))) (cE (.str "pick"))) (zr (UV Ye (za 1 c_e (z0 (vE 0) (zb))) (vB 1))) (nxS))
  (zj (ifS (zM eqC (zd ixT (vE 0) (cE (.int 0))) (cE (.str "row"))) (zr (za 2 c_12 (z0 (zd ixT (vE 0) (cE (.int 1))) (z0 (vE 1) (zb))))) (nxS))
  (zj (Zj 2 (ap1 Zy (vB 1)))
  (zr (zd zY (za 2 c_d (z0 (vE 0) (z0 (vE 2) (zb)))) (za 2 c_12 (z0 (zd zT (zS (z0 (zd ixT (vE 0) (cE (.int 1))) (zb))) (vE 2)) (z0 (vE 1) (zb)))))))))
def v9 (c_1:List T->R T) (c_3:List T->R T):En->RS:=
  zj (Zj 2 (cE (.int 0)))
  (zj (Ub (Qb (vE 0) (vE 1)) (ZJ 3 4) (Zj 2 (zd zY (zd zT (vE 2) (za 1 c_1 (z0 (vE 3) (zb)))) (za 2 c_3 (z0 (vE 3) (z0 (vE 4) (zb)))))))
  (zr (vE 2)))
def S_3:Nat->Nat->List T->R T
 | 0,_=>fun _=> .bad
 | n+1,0=>fun ts=>zl (b_3 (f_e) (f_d 20) (S_3 n 1) (en0 3 ts))
 | n+1,_=>fun ts=>zl (v9 (f_1 20) (S_3 n 0) (en0 5 ts))
abbrev f_3 (n:Nat):List T->R T:=S_3 n 0
abbrev Vj (n:Nat):List T->R T:=S_3 n 1
def b_l (c_g:List T->R T) (c_3:List T->R T) (c_o:List T->R T):En->RS:=
  zj (ZI (za 2 c_g (z0 (vE 0) (z0 (vE 1) (zb)))))
  (zr (za 2 c_o (z0 (vE 0) (z0 (zd zY (za 2 c_3 (z0 (vE 0) (z0 (vE 1) (zb)))) (cE (.int 1))) (zb)))))
def f_l:List T->R T:=fun ts=>zl (b_l (f_g) (f_3 20) (f_o) (en0 2 ts))
def b_p (c_g:List T->R T) (c_3:List T->R T) (c_o:List T->R T):En->RS:=
  zj (ZI (za 2 c_g (z0 (vE 0) (z0 (vE 1) (zb)))))
  (zr (za 2 c_o (z0 (vE 0) (z0 (zd Ju (za 2 c_3 (z0 (vE 0) (z0 (vE 1) (zb)))) (cE (.int 1))) (zb)))))
def f_p:List T->R T:=fun ts=>zl (b_p (f_g) (f_3 20) (f_o) (en0 2 ts))
def b_i (c_g:List T->R T) (c_6:List T->R T) (c_3:List T->R T):En->RS:=
  zj (ZI (za 2 c_g (z0 (vE 0) (z0 (vE 1) (zb)))))
  (zj (ZI (za 2 c_g (z0 (vE 0) (z0 (vE 2) (zb)))))
  (zj (Zj 3 (za 2 c_3 (z0 (vE 0) (z0 (vE 1) (zb)))))
  (zj (Zj 4 (za 2 c_3 (z0 (vE 0) (z0 (vE 2) (zb)))))
  (zj (ifS (zM gtC (zd zY (zd Ju (vE 4) (vE 3)) (cE (.int 1))) (cE (.int 500))) (ZT 3) (nxS))
  (zr (Zz (Ua (vE 3) (zd zY (vE 4) (cE (.int 1)))) (jv 0) (wR) (za 2 c_6 (z0 (vE 1) (z0 (vE 0) (zb)))) 1 [0]))))))
def f_i:List T->R T:=fun ts=>zl (b_i (f_g) (f_6 20) (f_3 20) (en0 5 ts))
def b_q (c_c:List T->R T) (c_1:List T->R T) (c_6:List T->R T):En->RS:=
  zj (ZI (za 1 c_c (z0 (vE 0) (zb))))
  (zr (za 2 c_6 (z0 (vE 0) (z0 (zd jL (zd Ju (za 1 c_1 (z0 (vE 0) (zb))) (cE (.int 1))) (cE (.int 2))) (zb)))))
def f_q:List T->R T:=fun ts=>zl (b_q (f_c) (f_1 20) (f_6 20) (en0 1 ts))
def Zd:List T->R T:=fun _=> .bad
def b_u (c_c:List T->R T) (c_kind_written:List T->R T):En->RS:=
  zj (ZI (za 1 c_c (z0 (vE 0) (zb))))
  (zr (za 1 c_kind_written (z0 (vE 0) (zb))))
def f_u:List T->R T:=fun ts=>zl (b_u (f_c) (Zd) (en0 1 ts))
def Ze:List T->R T:=fun _=> .bad
def b_v (c_7:List T->R T) (c_rule_written:List T->R T):En->RS:=
  zj (ZI (za 1 c_7 (z0 (vE 0) (zb))))
  (zr (za 1 c_rule_written (z0 (vE 0) (zb))))
def f_v:List T->R T:=fun ts=>zl (b_v (f_7) (Ze) (en0 1 ts))
def b_w:En->RS:=
  zj (ifS (zM ltC (vB 1) (ap1 Zy (vB 0))) (zr (zd ixT (vE 0) (vE 1))) (nxS))
  (zj (ifS (zM eqC (vB 0) (zS (zb))) (zr (cE (.int 0))) (nxS))
  (zr (zd zY (zd zT (zd ixT (vE 0) (zd Zr (vE 1) (ap1 Zy (vB 0)))) (cE (.int 31))) (vE 1))))
def f_w:List T->R T:=fun ts=>zl (b_w  (en0 2 ts))
def b_j (c_w:List T->R T):En->RS:=
  zj (Zj 3 (zd Zr (zd zT (zd zY (za 2 c_w (z0 (vE 0) (z0 (vE 1) (zb)))) (zd zT (cE (.int 6151)) (zd zY (vE 1) (cE (.int 1))))) (cE (.int 40692))) (cE (.int 2147483399))))
  (zr (zd Zr (zd Zr (zd zY (zd zT (vE 3) (vE 3)) (zd jL (vE 3) (cE (.int 31)))) (cE (.int 2147483629))) (vE 2)))
def f_j:List T->R T:=fun ts=>zl (b_j (f_w) (en0 4 ts))
def b_0 (c_j:List T->R T) (c_2:Nat->R T) (c_u:List T->R T) (c_v:List T->R T) (c_l:List T->R T) (c_p:List T->R T) (c_i:List T->R T) (c_q:List T->R T) (c_8:List T->R T) (c_k:List T->R T):En->RS:=
  zj (Jc 1 (z0 (cE .non) (z0 (zw (zb)) (z0 (zw (z0 (cE (.str "whole")) (z0 (cE (.int 1)) (z0 (cE (.int 0)) (zb))))) (z0 (zw (z0 (cE (.str "whole")) (z0 (cE (.int 0)) (z0 (cE (.int 21)) (zb))))) (z0 (zw (z0 (cE (.str "pick")) (z0 (zw (zb)) (zb)))) (z0 (zw (z0 (cE (.str "row")) (z0 (zw (zb)) (zb)))) (zb))))))))
  (zj (YY 1 (zS (z0 (zw (z0 (cE (.str "many")) (z0 (zw (z0 (cE (.str "whole")) (z0 (cE (.int 0)) (z0 (cE (.int 1)) (zb))))) (z0 (cE (.int 0)) (z0 (cE (.int 4)) (zb)))))) (z0 (zS (z0 (cE (.str "whole")) (z0 (cE (.int 0)) (z0 (cE (.int 1)) (zb))))) (z0 (cE (.int 5)) (zb))))))
  (zj (Zj 2 (zS (z0 (cE .non) (z0 (cE (.int 5)) (z0 (U0 (cE (.int 1))) (z0 (cE (.bl true)) (z0 (cE (.str "a")) (z0 (zw (zb)) (z0 (zw (z0 (cE (.int 1)) (zb))) (z0 (cE (.bl false)) (z0 (zS (z0 (cE (.int 1)) (zb))) (zb))))))))))))
  (zj (Zj 3 (zS (z0 (cE .non) (z0 (zw (zb)) (z0 (zw (z0 (cE (.str "sum")) (z0 (cE (.int 0)) (zb)))) (z0 (zw (z0 (cE (.str "sum")) (z0 (cE (.int 0)) (z0 (cE (.int 51)) (zb))))) (z0 (zw (z0 (cE (.str "word")) (z0 (cE (.str "A")) (zb)))) (z0 (zw (z0 (cE (.str "no")) (zb))) (z0 (zS (z0 (cE (.str "rising")) (zb))) (z0 (zw (z0 (cE (.str "never")) (zb))) (z0 (cE (.int 5)) (zb))))))))))))
  (zj (UA (zw (z0 (zw (z0 (cE (.str "whole")) (z0 (cE (.int 0)) (z0 (cE (.int 4)) (zb))))) (z0 (zw (z0 (cE (.str "row")) (z0 (zw (z0 (zw (z0 (cE (.str "whole")) (z0 (cE (.int 0)) (z0 (cE (.int 20)) (zb))))) (z0 (zw (z0 (cE (.str "whole")) (z0 (U0 (cE (.int 4))) (z0 (cE (.int 20)) (zb))))) (zb)))) (zb)))) (zb)))) (ZJ 4 5))
  (zj (Ub (WG (cE (.int 4))) (jv 6) (zj (UA (zw (z0 (ixO 1 (zd Zr (zd zY (za 3 c_j (z0 (vE 0) (z0 (cE (.int 0)) (z0 (cE (.int 9)) (zb))))) (zd zT (cE (.int 2)) (vE 6))) (cE (.int 9)))) (z0 (zd ixT (vE 2) (zd Zr (zd zY (za 3 c_j (z0 (vE 0) (z0 (cE (.int 1)) (z0 (cE (.int 9)) (zb))))) (zd zT (cE (.int 2)) (vE 6))) (cE (.int 9)))) (zb)))) (ZJ 7 8))
  (zj (Zj 9 (zd ixT (vE 3) (zd Zr (zd zY (za 3 c_j (z0 (vE 0) (z0 (cE (.int 2)) (z0 (cE (.int 9)) (zb))))) (zd zT (cE (.int 2)) (vE 6))) (cE (.int 9)))))
  (zj (Jc 10 (z0 (zm [7,8] okX c_2 (za 2 c_l (z0 (vE 0) (z0 (vE 1) (zb))))) (zb)))
  (zj (Z4 10 (zm [7,8] okX c_2 (za 2 c_p (z0 (vE 0) (z0 (vE 1) (zb))))))
  (zj (Z4 10 (zm [7,8] okX c_2 (za 3 c_i (z0 (vE 0) (z0 (vE 1) (z0 (vE 1) (zb)))))))
  (zj (Z4 10 (zm [7] okX c_2 (za 1 c_q (z0 (vE 0) (zb)))))
  (zj (Z4 10 (zm [7] okX c_2 (za 1 c_u (z0 (vE 0) (zb)))))
  (zj (Z4 10 (zm [7] okX c_2 (exE (za 1 c_k (z0 (vE 0) (zb))))))
  (zj (Z4 10 (zm [7] okX c_2 (za 2 c_8 (z0 (vE 0) (z0 (zS (z0 (zw (z0 (cE (.str "rising")) (zb))) (zb))) (zb))))))
  (zj (ifS (zM neC (vB 10) (zd zT (zS (z0 (cE (.str "no kind")) (zb))) (cE (.int 7)))) (zr (cE (.bl false))) (nxS))
  (zj (Jc 10 (z0 (zm [4,8] okX c_2 (za 2 c_l (z0 (vE 0) (z0 (vE 1) (zb))))) (zb)))
  (zj (Z4 10 (zm [4,8] okX c_2 (za 2 c_p (z0 (vE 0) (z0 (vE 1) (zb))))))
  (zj (Z4 10 (zm [4,8] okX c_2 (za 3 c_i (z0 (vE 0) (z0 (cE (.int 0)) (z0 (vE 1) (zb)))))))
  (zj (Z4 10 (zm [4,8] okX c_2 (za 3 c_i (z0 (vE 0) (z0 (vE 1) (z0 (cE (.int 0)) (zb)))))))
  (zj (ifS (zM neC (vB 10) (zd zT (zS (z0 (cE (.str "no worth")) (zb))) (cE (.int 4)))) (zr (cE (.bl false))) (nxS))
  (zj (Jc 10 (z0 (zm [9] okX c_2 (za 1 c_v (z0 (vE 0) (zb)))) (zb)))
  (zj (Z4 10 (zm [7,9] okX c_2 (za 2 c_8 (z0 (vE 0) (z0 (zS (z0 (zw (z0 (cE (.str "rising")) (zb))) (z0 (vE 1) (zb)))) (zb))))))
  (zj (Z4 10 (zm [5,9] okX c_2 (za 2 c_8 (z0 (vE 0) (z0 (zw (z0 (vE 1) (zb))) (zb))))))
  (ifS (zM neC (vB 10) (zd zT (zS (z0 (cE (.str "no rule")) (zb))) (cE (.int 3)))) (zr (cE (.bl false))) (nxS)))))))))))))))))))))
  (zj (ifS (zM neC (zm [5] okX c_2 (exE (za 1 c_k (z0 (vE 0) (zb))))) (cE (.str "too many"))) (zr (cE (.bl false))) (nxS))
  (zj (ifS (zM neC (zm [5] okX c_2 (za 2 c_8 (z0 (vE 0) (z0 (zw (zb)) (zb))))) (cE (.str "too many"))) (zr (cE (.bl false))) (nxS))
  (zr (Zn (j0 eqC (za 2 c_l (z0 (vE 4) (z0 (cE (.int 3)) (zb)))) (cE (.int 4))) (Zn (j0 eqC (za 1 c_q (z0 (vE 5) (zb))) (zw (z0 (cE (.int 10)) (z0 (cE (.int 8)) (zb))))) (j0 Wl (za 2 c_8 (z0 (vE 4) (z0 (zS (zb)) (zb)))) (cE .non))))))))))))
def f_0:List T->R T:=fun ts=>zl (b_0 (f_j) (f_2) (f_u) (f_v) (f_l) (f_p) (f_i) (f_q) (f_8) (f_k) (en0 11 ts))
end G
namespace G
open PySem L2 PV
abbrev scr (ns:List Int):T:= .fz (ns.map T.int)
theorem UM (ns:List Int) (k:Int) (h0:0<=k):∃ c,f_w [scr ns, .int k]= .ok (.int c):=by
 have e1:f_w [scr ns, .int k]=zl (if decide (k < ((ns.map T.int).length:Int))=true then (atT (ns.map T.int) k).s (fun t=> .rt t) else
   match (eqC (scr ns) (.lst [])).s (fun b=>if b=true then RS.rt (.int 0) else .nx [.vl (scr ns), .vl (.int k)]) with
   | .nx ρ' =>zr (zd zY (zd zT (zd ixT (vE 0) (zd Zr (vE 1) (ap1 Zy (vB 0)))) (cE (.int 31))) (vE 1)) ρ'
   | r=>r):=by
  show zl (match (if decide (k < ((ns.map T.int).length:Int))=true then (atT (ns.map T.int) k).s (fun t=>RS.rt t) else .nx [.vl (scr ns), .vl (.int k)]) with
   | .nx ρ' =>_
   | r=>r)=_
  cases decide (k < ((ns.map T.int).length:Int)) with
  | true=>
   rw [if_pos rfl,if_pos rfl]
   unfold atT
   cases atI (ns.map T.int) k <;> rfl
  | false=>rfl
 rw [e1,List.length_map]
 by_cases hk:k < (ns.length:Int)
 ·obtain ⟨v,hv⟩:∃ v,ns[k.toNat]? =some v:=⟨ns[k.toNat]'(by omega),List.getElem?_eq_getElem (by omega)⟩
  have ea:atI (ns.map T.int) k=some (.int v):=by
   have:k=((k.toNat:Nat):Int):=by omega
   rw [this]
   exact J4 (by rw [List.getElem?_map,hv]; rfl)
  rw [decide_eq_true hk,if_pos rfl]
  exact ⟨v,by unfold atT; rw [ea]; rfl⟩
 ·rw [decide_eq_false hk,if_neg Bool.false_ne_true]
  cases ns with
  | nil=>exact ⟨0,rfl⟩
  | cons x xs=>
   have hm0:=Int.emod_nonneg k (show (((x :: xs).length:Nat):Int) ≠ 0 by simp only [List.length_cons]; omega)
   have hm1:=Int.emod_lt_of_pos k (show (0:Int) < (((x :: xs).length:Nat):Int) by simp only [List.length_cons]; omega)
   obtain ⟨v,hv⟩:∃ v,(x :: xs)[(k % (((x :: xs).length:Nat):Int)).toNat]? =some v:=⟨_,List.getElem?_eq_getElem (by omega)⟩
   have ea:atI ((x :: xs).map T.int) (k % (((x :: xs).length:Nat):Int))=some (.int v):=by
    have e:k % (((x :: xs).length:Nat):Int)=(((k % (((x :: xs).length:Nat):Int)).toNat:Nat):Int):=by omega
    rw [e]
    exact J4 (by rw [List.getElem?_map,hv]; rfl)
   have cm:jt v 31:= .inr ⟨by decide,by decide⟩
   have hp:(0:Int) < (((x :: xs).map T.int).length:Int):=by simp only [List.length_map,List.length_cons]; omega
   refine ⟨v*31+k, ?_⟩
   show zl (((((if 0 < (((x :: xs).map T.int).length:Int) then R.ok (T.int (k % (((x :: xs).map T.int).length:Int))) else .bad).bind fun y=>ixT (scr (x :: xs)) y).bind fun a=>zT a (.int 31)).bind fun a=>zY a (.int k)).s fun t=> .rt t)=_
   rw [if_pos hp]
   show zl ((((atT ((x :: xs).map T.int) (k % (((x :: xs).map T.int).length:Int))).bind fun a=>zT a (.int 31)).bind fun a=>zY a (.int k)).s fun t=> .rt t)=_
   rw [List.length_map]
   unfold atT
   rw [ea]
   show zl ((((if jt v 31 then R.ok (T.int (v*31)) else .bad)).bind fun a=>zY a (.int k)).s fun t=> .rt t)=_
   rw [if_pos cm]
   rfl
theorem Jj (ns:List Int) (k m:Int) (h0:0<=k) (hm:0 < m):∃ p,f_j [scr ns, .int k, .int m]= .ok (.int p)/\0<=p/\p < m:=by
 obtain ⟨c,hc⟩:=UM ns k h0
 have cm1:jt 6151 (k+1):= .inl ⟨by decide,by decide⟩
 have cm2:jt (c+6151*(k+1)) 40692:= .inr ⟨by decide,by decide⟩
 generalize hd:(c+6151*(k+1))*40692 % 2147483399=d
 have hd0:0<=d:=by rw [← hd]; exact Int.emod_nonneg _ (by decide)
 have hd1:d < 2147483399:=by rw [← hd]; exact Int.emod_lt_of_pos _ (by decide)
 have cm3:jt d d:= .inl ⟨by omega,by omega⟩
 refine ⟨(d*d+d / 31) % 2147483629 % m, ?_,Int.emod_nonneg _ (by omega),Int.emod_lt_of_pos _ hm⟩
 have e1:f_j [scr ns, .int k, .int m]=zl (match ((((((f_w [scr ns, .int k]).bind fun x=>(zT (.int 6151) (.int (k+1))).bind fun y=>zY x y).bind fun x=>zT x (.int 40692)).bind fun x=>Zr x (.int 2147483399))).s fun t=>RS.nx [.vl (scr ns), .vl (.int k), .vl (.int m), .vl t]) with
   | .nx ρ' =>zr (zd Zr (zd Zr (zd zY (zd zT (vE 3) (vE 3)) (zd jL (vE 3) (cE (.int 31)))) (cE (.int 2147483629))) (vE 2)) ρ'
   | r=>r):=rfl
 rw [e1,hc]
 show zl (match (((((if jt 6151 (k+1) then R.ok (T.int (6151*(k+1))) else .bad).bind fun y=>zY (.int c) y).bind fun x=>zT x (.int 40692)).bind fun x=>Zr x (.int 2147483399)).s fun t=>RS.nx [.vl (scr ns), .vl (.int k), .vl (.int m), .vl t]) with
   | .nx ρ' =>_
   | r=>r)=_
 rw [if_pos cm1]
 show zl (match ((((if jt (c+6151*(k+1)) 40692 then R.ok (T.int ((c+6151*(k+1))*40692)) else .bad)).bind fun x=>Zr x (.int 2147483399)).s fun t=>RS.nx [.vl (scr ns), .vl (.int k), .vl (.int m), .vl t]) with
   | .nx ρ' =>_
   | r=>r)=_
 rw [if_pos cm2]
 show zl (zr (zd Zr (zd Zr (zd zY (zd zT (vE 3) (vE 3)) (zd jL (vE 3) (cE (.int 31)))) (cE (.int 2147483629))) (vE 2)) [.vl (scr ns), .vl (.int k), .vl (.int m), .vl (.int ((c+6151*(k+1))*40692 % 2147483399))])=_
 rw [hd]
 show zl (((((if jt d d then R.ok (T.int (d*d)) else .bad).bind fun x=>zY x (.int (d / 31))).bind fun x=>Zr x (.int 2147483629)).bind fun x=>Zr x (.int m)).s fun t=>RS.rt t)=_
 rw [if_pos cm3]
 show zl ((if 0 < m then R.ok (T.int ((d*d+d / 31) % 2147483629 % m)) else .bad).s fun t=>RS.rt t)=_
 rw [if_pos hm]
 rfl
theorem bOk {α β:Type} (a:α) (f:α->R β):(R.ok a).bind f=f a:=rfl
theorem Qj {α:Type} (a:α) (f:α->RS):(R.ok a).s f=f a:=rfl
theorem YF (f:En->R T) (ρ:En):zr f ρ=(f (frz ρ)).s fun t=> .rt t:=rfl
theorem Qk {g:List T->R T} {f f' f'' :En->R T} {ρ:En}:za 3 g (z0 f (z0 f' (z0 f'' zb))) ρ=(f ρ).bind fun x=>(f' ρ).bind fun y=>(f'' ρ).bind fun z=>g [x,y,z]:=by
 unfold za z0 zb
 cases f ρ with
 | ok a=>
  cases f' ρ with
  | ok b=>cases f'' ρ <;> rfl
  | ex c=>rfl
  | bad=>rfl
 | ex c=>rfl
 | bad=>rfl
theorem v0 {t:T} {ρ:En}:vE 0 (.vl t :: ρ)= .ok t:=rfl
theorem Ql {t:T} {ρ:En}:cE t ρ= .ok t:=rfl
theorem jV {g:T->T->R T} {f f' :En->R T} {ρ:En}:zd g f f' ρ=(f ρ).bind fun x=>(f' ρ).bind fun y=>g x y:=rfl
theorem YG (f g:En->RS) (ρ:En):zj f g ρ=match f ρ with | .nx ρ' =>g ρ' | r=>r:=rfl
theorem Qm (g:En->R Bool) (f1 f2:En->RS) (ρ:En):ifS g f1 f2 ρ=(g ρ).s fun k=>if k=true then f1 ρ else f2 ρ:=rfl
theorem YH (i:Nat) (f:En->R T) (ρ:En):Zj i f ρ=(f ρ).s fun t=> .nx (ρ.set i (.vl t)):=rfl
theorem Wc {g:T->T->R Bool} {f f' :En->R T} {ρ:En}:zM g f f' ρ=(f ρ).bind fun x=>(f' ρ).bind fun y=>g x y:=rfl
theorem YI (i j:Int):zY (.int i) (.int j)= .ok (.int (i+j)):=rfl
theorem Vk {f g:En->R T} {ρ:En} {x y:T} (hf:f ρ= .ok x) (hg:g ρ= .ok y):zw (z0 f (z0 g zb)) ρ= .ok (.tup [x,y]):=by
 unfold zw z0 zb
 rw [hf,hg]; rfl
theorem Qn (c:Int) (j:Int) (hc:jt c j):zT (.int c) (.int j)= .ok (.int (c*j)):=by
 show (if jt c j then R.ok (T.int (c*j)) else .bad)=_
 rw [if_pos hc]
theorem Jk {xs:List T} {j:Nat} {x:T} (h:xs[j]? =some x):ixT (.lst xs) (.int (j:Int))= .ok x:=by
 show atT xs j=_
 unfold atT
 rw [J4 h]
theorem zt {f g:En->RS} {ρ ρ' :En} (h:f ρ= .nx ρ'):zj f g ρ=g ρ' :=by rw [YG,h]
theorem Vl {g:En->R Bool} {f1 f2:En->RS} {ρ:En} (h:g ρ= .ok false):ifS g f1 f2 ρ=f2 ρ:=by rw [Qm,h,Qj,if_neg Bool.false_ne_true]
theorem Wd {g:En->R Bool} {f1:En->RS} {ρ:En} (h:g ρ= .ok false):ifS g f1 nxS ρ= .nx ρ:=by rw [Vl h]; rfl
theorem YJ {i:Nat} {f:En->R T} {ρ:En} {t:T} (h:f ρ= .ok t):Zj i f ρ= .nx (ρ.set i (.vl t)):=by rw [YH,h,Qj]
theorem YK {f:En->R T} {ρ:En} {t:T} (h:f (frz ρ)= .ok t):zr f ρ= .rt t:=by rw [YF,h,Qj]
theorem JI {g:T->En->R En} {fb:En->RS} {t:T} {ts:List T} {ρ ρ1 ρ2:En} (hg:g t ρ= .ok ρ1) (hb:fb ρ1= .nx ρ2):Wm g fb (t :: ts) ρ=Wm g fb ts ρ2:=by
 rw [Wm,hg]
 dsimp only
 rw [hb]
mutual
def tEq:T->T->Bool
 | .non, .non=>true
 | .bl a, .bl b=>a == b
 | .int a, .int b=>a == b
 | .str a, .str b=>a == b
 | .tup a, .tup b=>UN a b
 | .lst a, .lst b=>UN a b
 | _,_=>false
def UN:List T->List T->Bool
 | [],[]=>true
 | a :: as,b :: bs=>tEq a b && UN as bs
 | _,_=>false
end
mutual
theorem uz:∀ x y:T,tEq x y=true->x=y
 | .non,y,h=>by cases y <;> simp [tEq] at h ⊢
 | .bl a,y,h=>by cases y <;> simp [tEq] at h ⊢; exact h
 | .int a,y,h=>by cases y <;> simp [tEq] at h ⊢; exact h
 | .str a,y,h=>by cases y <;> simp [tEq] at h ⊢; exact h
 | .tup a,y,h=>by cases y <;> simp [tEq] at h ⊢; exact Jl _ _ h
 | .lst a,y,h=>by cases y <;> simp [tEq] at h ⊢; exact Jl _ _ h
 | .fz a,y,h=>by cases y <;> simp [tEq] at h
theorem Jl:∀ x y:List T,UN x y=true->x=y
 | [],y,h=>by cases y <;> simp [UN] at h ⊢
 | a :: as,y,h=>by
  cases y with
  | nil=>simp [UN] at h
  | cons b bs=>
   rw [UN,Bool.and_eq_true] at h
   rw [uz a b h.1,Jl as bs h.2]
end
def okB (r:R T) (t:T):Bool:=match r with
 | .ok u=>tEq u t
 | _=>false
theorem zK {r:R T} {t:T} (h:okB r t=true):r= .ok t:=by
 unfold okB at h
 split at h
 ·rw [uz _ _ h]
 ·cases h
abbrev wa:List T:=[.non, .tup [], .tup [.str "whole", .int 1, .int 0], .tup [.str "whole", .int 0, .int 21], .tup [.str "pick", .tup []], .tup [.str "row", .tup []], .tup [.str "many", .tup [.str "whole", .int 0, .int 1], .int 0, .int 4], .lst [.str "whole", .int 0, .int 1], .int 5]
abbrev u8:List T:=[.non, .int 5, .int (-1), .bl true, .str "a", .tup [], .tup [.int 1], .bl false, .lst [.int 1]]
abbrev UO:List T:=[.non, .tup [], .tup [.str "sum", .int 0], .tup [.str "sum", .int 0, .int 51], .tup [.str "word", .str "A"], .tup [.str "no"], .lst [.str "rising"], .tup [.str "never"], .int 5]
abbrev kdT:T:= .tup [.str "whole", .int 0, .int 4]
abbrev wdT:T:= .tup [.str "row", .tup [.tup [.str "whole", .int 0, .int 20], .tup [.str "whole", .int (-4), .int 20]]]
def oT (i:Nat):T:=wa.getD i .non
def wT (i:Nat):T:=u8.getD i .non
def uT (i:Nat):T:=UO.getD i .non
abbrev EF (S:T) (k a b c y:Sl):En:=[.vl S, .ow wa, .vl (.lst u8), .vl (.lst UO), .vl kdT, .vl wdT,k,a,b,c,y]
abbrev EL (S:T) (k:Nat) (a b c y:Sl):En:=EF S (.vl (.int (k:Int))) a b c y
theorem ZV {i:Nat} {f:En->R T} {ρ:En} {ts:List T} {t:T} (h:ρ[i]? =some (.ow ts)) (hl:ts.length < bnd) (e:f ρ= .ok t):Z4 i f ρ= .nx (ρ.set i (.ow (ts++[t]))):=by
 unfold Z4
 rw [h]
 dsimp only
 rw [e]
 exact if_pos hl
theorem We {i:Nat} {f:En->R T} {ρ:En} {t:T} (e:f ρ= .ok t):Jc i (z0 f zb) ρ= .nx (ρ.set i (.ow [t])):=by
 unfold Jc z0 zb
 rw [e]
 show (if ([t]:List T).length<=bnd then RS.nx (ρ.set i (.ow [t])) else .bad)=_
 exact if_pos (show 1<=16777216 by decide)
theorem YL {i:Nat} {f:En->R T} {ρ:En} {ts:List T} {j:Nat} {t:T} (h:ρ[i]? =some (.ow ts)) (e:f ρ= .ok (.int (j:Int))) (ht:ts[j]? =some t):ixO i f ρ= .ok t:=by
 unfold ixO
 rw [h]
 dsimp only
 rw [e]
 exact Jk ht
theorem td0:∀ i:Nat,i < 9->∀ j:Nat,j < 9->okB (zx okX f_2 ((za 2 f_l (z0 (vE 0) (z0 (vE 1) (zb)))) [.vl (oT i), .vl (wT j)])) (.str "no kind")=true:=by decide+kernel
theorem td1:∀ i:Nat,i < 9->∀ j:Nat,j < 9->okB (zx okX f_2 ((za 2 f_p (z0 (vE 0) (z0 (vE 1) (zb)))) [.vl (oT i), .vl (wT j)])) (.str "no kind")=true:=by decide+kernel
theorem td2:∀ i:Nat,i < 9->∀ j:Nat,j < 9->okB (zx okX f_2 ((za 3 f_i (z0 (vE 0) (z0 (vE 1) (z0 (vE 1) (zb))))) [.vl (oT i), .vl (wT j)])) (.str "no kind")=true:=by decide+kernel
theorem td3:∀ i:Nat,i < 9->okB (zx okX f_2 ((za 1 f_q (z0 (vE 0) (zb))) [.vl (oT i)])) (.str "no kind")=true:=by decide+kernel
theorem td4:∀ i:Nat,i < 9->okB (zx okX f_2 ((za 1 f_u (z0 (vE 0) (zb))) [.vl (oT i)])) (.str "no kind")=true:=by decide+kernel
theorem td5:∀ i:Nat,i < 9->okB (zx okX f_2 ((exE (za 1 f_k (z0 (vE 0) (zb)))) [.vl (oT i)])) (.str "no kind")=true:=by decide+kernel
theorem td6:∀ i:Nat,i < 9->okB (zx okX f_2 ((za 2 f_8 (z0 (vE 0) (z0 (zS (z0 (zw (z0 (cE (.str "rising")) (zb))) (zb))) (zb)))) [.vl (oT i)])) (.str "no kind")=true:=by decide+kernel
theorem td7:∀ j:Nat,j < 9->okB (zx okX f_2 ((za 2 f_l (z0 (vE 0) (z0 (vE 1) (zb)))) [.vl kdT, .vl (wT j)])) (.str "no worth")=true:=by decide+kernel
theorem td8:∀ j:Nat,j < 9->okB (zx okX f_2 ((za 2 f_p (z0 (vE 0) (z0 (vE 1) (zb)))) [.vl kdT, .vl (wT j)])) (.str "no worth")=true:=by decide+kernel
theorem td9:∀ j:Nat,j < 9->okB (zx okX f_2 ((za 3 f_i (z0 (vE 0) (z0 (cE (.int 0)) (z0 (vE 1) (zb))))) [.vl kdT, .vl (wT j)])) (.str "no worth")=true:=by decide+kernel
theorem Vm:∀ j:Nat,j < 9->okB (zx okX f_2 ((za 3 f_i (z0 (vE 0) (z0 (vE 1) (z0 (cE (.int 0)) (zb))))) [.vl kdT, .vl (wT j)])) (.str "no worth")=true:=by decide+kernel
theorem Vn:∀ l:Nat,l < 9->okB (zx okX f_2 ((za 1 f_v (z0 (vE 0) (zb))) [.vl (uT l)])) (.str "no rule")=true:=by decide+kernel
theorem Vo:∀ i:Nat,i < 9->∀ l:Nat,l < 9->okB (zx okX f_2 ((za 2 f_8 (z0 (vE 0) (z0 (zS (z0 (zw (z0 (cE (.str "rising")) (zb))) (z0 (vE 1) (zb)))) (zb)))) [.vl (oT i), .vl (uT l)])) (.str "no rule")=true:=by decide+kernel
theorem Vp:∀ l:Nat,l < 9->okB (zx okX f_2 ((za 2 f_8 (z0 (vE 0) (z0 (zw (z0 (vE 1) (zb))) (zb)))) [.vl wdT, .vl (uT l)])) (.str "no rule")=true:=by decide+kernel
theorem Vq:okB (zx okX f_2 ((exE (za 1 f_k (z0 (vE 0) (zb)))) [.vl wdT])) (.str "too many")=true:=by decide+kernel
theorem Vr:okB (zx okX f_2 ((za 2 f_8 (z0 (vE 0) (z0 (zw (zb)) (zb)))) [.vl wdT])) (.str "too many")=true:=by decide+kernel
theorem tdR:okB ((Zn (j0 eqC (za 2 f_l (z0 (vE 4) (z0 (cE (.int 3)) (zb)))) (cE (.int 4))) (Zn (j0 eqC (za 1 f_q (z0 (vE 5) (zb))) (zw (z0 (cE (.int 10)) (z0 (cE (.int 8)) (zb))))) (j0 Wl (za 2 f_8 (z0 (vE 4) (z0 (zS (zb)) (zb)))) (cE .non)))) [.un, .un, .un, .un, .vl kdT, .vl wdT, .un, .un, .un, .un, .un]) (.bl true)=true:=by decide+kernel
abbrev lpB:En->RS:=zj (UA (zw (z0 (ixO 1 (zd Zr (zd zY (za 3 f_j (z0 (vE 0) (z0 (cE (.int 0)) (z0 (cE (.int 9)) (zb))))) (zd zT (cE (.int 2)) (vE 6))) (cE (.int 9)))) (z0 (zd ixT (vE 2) (zd Zr (zd zY (za 3 f_j (z0 (vE 0) (z0 (cE (.int 1)) (z0 (cE (.int 9)) (zb))))) (zd zT (cE (.int 2)) (vE 6))) (cE (.int 9)))) (zb)))) (ZJ 7 8)) (zj (Zj 9 (zd ixT (vE 3) (zd Zr (zd zY (za 3 f_j (z0 (vE 0) (z0 (cE (.int 2)) (z0 (cE (.int 9)) (zb))))) (zd zT (cE (.int 2)) (vE 6))) (cE (.int 9))))) (zj (Jc 10 (z0 (zm [7,8] okX f_2 (za 2 f_l (z0 (vE 0) (z0 (vE 1) (zb))))) (zb))) (zj (Z4 10 (zm [7,8] okX f_2 (za 2 f_p (z0 (vE 0) (z0 (vE 1) (zb)))))) (zj (Z4 10 (zm [7,8] okX f_2 (za 3 f_i (z0 (vE 0) (z0 (vE 1) (z0 (vE 1) (zb))))))) (zj (Z4 10 (zm [7] okX f_2 (za 1 f_q (z0 (vE 0) (zb))))) (zj (Z4 10 (zm [7] okX f_2 (za 1 f_u (z0 (vE 0) (zb))))) (zj (Z4 10 (zm [7] okX f_2 (exE (za 1 f_k (z0 (vE 0) (zb)))))) (zj (Z4 10 (zm [7] okX f_2 (za 2 f_8 (z0 (vE 0) (z0 (zS (z0 (zw (z0 (cE (.str "rising")) (zb))) (zb))) (zb)))))) (zj (ifS (zM neC (vB 10) (zd zT (zS (z0 (cE (.str "no kind")) (zb))) (cE (.int 7)))) (zr (cE (.bl false))) (nxS)) (zj (Jc 10 (z0 (zm [4,8] okX f_2 (za 2 f_l (z0 (vE 0) (z0 (vE 1) (zb))))) (zb))) (zj (Z4 10 (zm [4,8] okX f_2 (za 2 f_p (z0 (vE 0) (z0 (vE 1) (zb)))))) (zj (Z4 10 (zm [4,8] okX f_2 (za 3 f_i (z0 (vE 0) (z0 (cE (.int 0)) (z0 (vE 1) (zb))))))) (zj (Z4 10 (zm [4,8] okX f_2 (za 3 f_i (z0 (vE 0) (z0 (vE 1) (z0 (cE (.int 0)) (zb))))))) (zj (ifS (zM neC (vB 10) (zd zT (zS (z0 (cE (.str "no worth")) (zb))) (cE (.int 4)))) (zr (cE (.bl false))) (nxS)) (zj (Jc 10 (z0 (zm [9] okX f_2 (za 1 f_v (z0 (vE 0) (zb)))) (zb))) (zj (Z4 10 (zm [7,9] okX f_2 (za 2 f_8 (z0 (vE 0) (z0 (zS (z0 (zw (z0 (cE (.str "rising")) (zb))) (z0 (vE 1) (zb)))) (zb)))))) (zj (Z4 10 (zm [5,9] okX f_2 (za 2 f_8 (z0 (vE 0) (z0 (zw (z0 (vE 1) (zb))) (zb)))))) (ifS (zM neC (vB 10) (zd zT (zS (z0 (cE (.str "no rule")) (zb))) (cE (.int 3)))) (zr (cE (.bl false))) (nxS)))))))))))))))))))
theorem u9 {ns:List Int} {p q r:Int} (ep:f_j [scr ns, .int 0, .int 9]= .ok (.int p)) (eq:f_j [scr ns, .int 1, .int 9]= .ok (.int q)) (er:f_j [scr ns, .int 2, .int 9]= .ok (.int r)) {k:Nat} (hk:k < 4) (a b c y:Sl):∃ a' b' c' y',lpB (EL (scr ns) k a b c y)= .nx (EL (scr ns) k a' b' c' y'):=by
 have gi:∀ x:Int,∃ i:Nat,i < 9/\(x+2*(k:Int)) % 9=(i:Int):=fun x=>⟨((x+2*(k:Int)) % 9).toNat,by omega,by omega⟩
 obtain ⟨i,hi,ei⟩:=gi p
 obtain ⟨j,hj,ej⟩:=gi q
 obtain ⟨l,hl,el⟩:=gi r
 have go:wa[i]? =some (oT i):=by
  unfold oT
  rw [List.getD_eq_getElem?_getD,List.getElem?_eq_getElem (show i < wa.length from hi)]; rfl
 have gw:u8[j]? =some (wT j):=by
  unfold wT
  rw [List.getD_eq_getElem?_getD,List.getElem?_eq_getElem (show j < u8.length from hj)]; rfl
 have gu:UO[l]? =some (uT l):=by
  unfold uT
  rw [List.getD_eq_getElem?_getD,List.getElem?_eq_getElem (show l < UO.length from hl)]; rfl
 have cm:jt 2 (k:Int):= .inl ⟨by decide,by decide⟩
 have md:∀ x:Int,Zr (.int x) (.int 9)= .ok (.int (x % 9)):=fun x=>rfl
 have ix:∀ {x y:Int} {i:Nat} (a b c d:Sl),f_j [scr ns, .int y, .int 9]= .ok (.int x)->(x+2*(k:Int)) % 9=(i:Int)->zd Zr (zd zY (za 3 f_j (z0 (vE 0) (z0 (cE (.int y)) (z0 (cE (.int 9)) (zb))))) (zd zT (cE (.int 2)) (vE 6))) (cE (.int 9)) (EL (scr ns) k a b c d)= .ok (.int (i:Int)):=fun a b c d e1 e2=>by
  have u6:vE 6 (EL (scr ns) k a b c d)= .ok (.int (k:Int)):=rfl
  rw [jV,jV,Qk,v0,bOk,Ql,bOk,Ql,bOk,e1,bOk,jV,Ql,bOk,u6,bOk,Qn _ _ cm,bOk,YI,bOk,bOk,md,e2]
 have e1:UA (zw (z0 (ixO 1 (zd Zr (zd zY (za 3 f_j (z0 (vE 0) (z0 (cE (.int 0)) (z0 (cE (.int 9)) (zb))))) (zd zT (cE (.int 2)) (vE 6))) (cE (.int 9)))) (z0 (zd ixT (vE 2) (zd Zr (zd zY (za 3 f_j (z0 (vE 0) (z0 (cE (.int 1)) (z0 (cE (.int 9)) (zb))))) (zd zT (cE (.int 2)) (vE 6))) (cE (.int 9)))) (zb)))) (ZJ 7 8) (EL (scr ns) k a b c y)= .nx (EL (scr ns) k (.vl (oT i)) (.vl (wT j)) c y):=by
  unfold UA
  rw [Vk (x:=oT i) (y:=wT j) (YL (ts:=wa) (j:=i) rfl (ix a b c y ep ei) go) (by
   have u2:vE 2 (EL (scr ns) k a b c y)= .ok (.lst u8):=rfl
   rw [jV,u2,bOk,ix a b c y eq ej,bOk,Jk gw])]
  rfl
 have e2:Zj 9 (zd ixT (vE 3) (zd Zr (zd zY (za 3 f_j (z0 (vE 0) (z0 (cE (.int 2)) (z0 (cE (.int 9)) (zb))))) (zd zT (cE (.int 2)) (vE 6))) (cE (.int 9)))) (EL (scr ns) k (.vl (oT i)) (.vl (wT j)) c y)= .nx (EL (scr ns) k (.vl (oT i)) (.vl (wT j)) (.vl (uT l)) y):=by
  rw [YJ (t:=uT l)]
  ·rfl
  ·have u3:∀ a b c y,vE 3 (EL (scr ns) k a b c y)= .ok (.lst UO):=fun _ _ _ _=>rfl
   rw [jV,u3,bOk,ix _ _ _ _ er el,bOk,Jk gu]
 have f0:Jc 10 (z0 (zm [7,8] okX f_2 (za 2 f_l (z0 (vE 0) (z0 (vE 1) (zb))))) (zb)) (EL (scr ns) k (.vl (oT i)) (.vl (wT j)) (.vl (uT l)) y)= .nx (EL (scr ns) k (.vl (oT i)) (.vl (wT j)) (.vl (uT l)) (.ow [.str "no kind"])):=We (show zx okX f_2 ((za 2 f_l (z0 (vE 0) (z0 (vE 1) (zb)))) [.vl (oT i), .vl (wT j)])= .ok (.str "no kind") from zK (td0 i hi j hj))
 have f1:Z4 10 (zm [7,8] okX f_2 (za 2 f_p (z0 (vE 0) (z0 (vE 1) (zb))))) (EL (scr ns) k (.vl (oT i)) (.vl (wT j)) (.vl (uT l)) (.ow [.str "no kind"]))= .nx (EL (scr ns) k (.vl (oT i)) (.vl (wT j)) (.vl (uT l)) (.ow [.str "no kind", .str "no kind"])):=ZV (ts:=[.str "no kind"]) rfl (show 1 < 16777216 by decide) (show zx okX f_2 ((za 2 f_p (z0 (vE 0) (z0 (vE 1) (zb)))) [.vl (oT i), .vl (wT j)])= .ok (.str "no kind") from zK (td1 i hi j hj))
 have f2:Z4 10 (zm [7,8] okX f_2 (za 3 f_i (z0 (vE 0) (z0 (vE 1) (z0 (vE 1) (zb)))))) (EL (scr ns) k (.vl (oT i)) (.vl (wT j)) (.vl (uT l)) (.ow [.str "no kind", .str "no kind"]))= .nx (EL (scr ns) k (.vl (oT i)) (.vl (wT j)) (.vl (uT l)) (.ow [.str "no kind", .str "no kind", .str "no kind"])):=ZV (ts:=[.str "no kind", .str "no kind"]) rfl (show 2 < 16777216 by decide) (show zx okX f_2 ((za 3 f_i (z0 (vE 0) (z0 (vE 1) (z0 (vE 1) (zb))))) [.vl (oT i), .vl (wT j)])= .ok (.str "no kind") from zK (td2 i hi j hj))
 have f3:Z4 10 (zm [7] okX f_2 (za 1 f_q (z0 (vE 0) (zb)))) (EL (scr ns) k (.vl (oT i)) (.vl (wT j)) (.vl (uT l)) (.ow [.str "no kind", .str "no kind", .str "no kind"]))= .nx (EL (scr ns) k (.vl (oT i)) (.vl (wT j)) (.vl (uT l)) (.ow [.str "no kind", .str "no kind", .str "no kind", .str "no kind"])):=ZV (ts:=[.str "no kind", .str "no kind", .str "no kind"]) rfl (show 3 < 16777216 by decide) (show zx okX f_2 ((za 1 f_q (z0 (vE 0) (zb))) [.vl (oT i)])= .ok (.str "no kind") from zK (td3 i hi))
 have f4:Z4 10 (zm [7] okX f_2 (za 1 f_u (z0 (vE 0) (zb)))) (EL (scr ns) k (.vl (oT i)) (.vl (wT j)) (.vl (uT l)) (.ow [.str "no kind", .str "no kind", .str "no kind", .str "no kind"]))= .nx (EL (scr ns) k (.vl (oT i)) (.vl (wT j)) (.vl (uT l)) (.ow [.str "no kind", .str "no kind", .str "no kind", .str "no kind", .str "no kind"])):=ZV (ts:=[.str "no kind", .str "no kind", .str "no kind", .str "no kind"]) rfl (show 4 < 16777216 by decide) (show zx okX f_2 ((za 1 f_u (z0 (vE 0) (zb))) [.vl (oT i)])= .ok (.str "no kind") from zK (td4 i hi))
 have f5:Z4 10 (zm [7] okX f_2 (exE (za 1 f_k (z0 (vE 0) (zb))))) (EL (scr ns) k (.vl (oT i)) (.vl (wT j)) (.vl (uT l)) (.ow [.str "no kind", .str "no kind", .str "no kind", .str "no kind", .str "no kind"]))= .nx (EL (scr ns) k (.vl (oT i)) (.vl (wT j)) (.vl (uT l)) (.ow [.str "no kind", .str "no kind", .str "no kind", .str "no kind", .str "no kind", .str "no kind"])):=ZV (ts:=[.str "no kind", .str "no kind", .str "no kind", .str "no kind", .str "no kind"]) rfl (show 5 < 16777216 by decide) (show zx okX f_2 ((exE (za 1 f_k (z0 (vE 0) (zb)))) [.vl (oT i)])= .ok (.str "no kind") from zK (td5 i hi))
 have f6:Z4 10 (zm [7] okX f_2 (za 2 f_8 (z0 (vE 0) (z0 (zS (z0 (zw (z0 (cE (.str "rising")) (zb))) (zb))) (zb))))) (EL (scr ns) k (.vl (oT i)) (.vl (wT j)) (.vl (uT l)) (.ow [.str "no kind", .str "no kind", .str "no kind", .str "no kind", .str "no kind", .str "no kind"]))= .nx (EL (scr ns) k (.vl (oT i)) (.vl (wT j)) (.vl (uT l)) (.ow [.str "no kind", .str "no kind", .str "no kind", .str "no kind", .str "no kind", .str "no kind", .str "no kind"])):=ZV (ts:=[.str "no kind", .str "no kind", .str "no kind", .str "no kind", .str "no kind", .str "no kind"]) rfl (show 6 < 16777216 by decide) (show zx okX f_2 ((za 2 f_8 (z0 (vE 0) (z0 (zS (z0 (zw (z0 (cE (.str "rising")) (zb))) (zb))) (zb)))) [.vl (oT i)])= .ok (.str "no kind") from zK (td6 i hi))
 have g0:zM neC (vB 10) (zd zT (zS (z0 (cE (.str "no kind")) (zb))) (cE (.int 7))) (EL (scr ns) k (.vl (oT i)) (.vl (wT j)) (.vl (uT l)) (.ow [.str "no kind", .str "no kind", .str "no kind", .str "no kind", .str "no kind", .str "no kind", .str "no kind"]))= .ok false:=rfl
 have f7:Jc 10 (z0 (zm [4,8] okX f_2 (za 2 f_l (z0 (vE 0) (z0 (vE 1) (zb))))) (zb)) (EL (scr ns) k (.vl (oT i)) (.vl (wT j)) (.vl (uT l)) (.ow [.str "no kind", .str "no kind", .str "no kind", .str "no kind", .str "no kind", .str "no kind", .str "no kind"]))= .nx (EL (scr ns) k (.vl (oT i)) (.vl (wT j)) (.vl (uT l)) (.ow [.str "no worth"])):=We (show zx okX f_2 ((za 2 f_l (z0 (vE 0) (z0 (vE 1) (zb)))) [.vl kdT, .vl (wT j)])= .ok (.str "no worth") from zK (td7 j hj))
 have f8:Z4 10 (zm [4,8] okX f_2 (za 2 f_p (z0 (vE 0) (z0 (vE 1) (zb))))) (EL (scr ns) k (.vl (oT i)) (.vl (wT j)) (.vl (uT l)) (.ow [.str "no worth"]))= .nx (EL (scr ns) k (.vl (oT i)) (.vl (wT j)) (.vl (uT l)) (.ow [.str "no worth", .str "no worth"])):=ZV (ts:=[.str "no worth"]) rfl (show 1 < 16777216 by decide) (show zx okX f_2 ((za 2 f_p (z0 (vE 0) (z0 (vE 1) (zb)))) [.vl kdT, .vl (wT j)])= .ok (.str "no worth") from zK (td8 j hj))
 have f9:Z4 10 (zm [4,8] okX f_2 (za 3 f_i (z0 (vE 0) (z0 (cE (.int 0)) (z0 (vE 1) (zb)))))) (EL (scr ns) k (.vl (oT i)) (.vl (wT j)) (.vl (uT l)) (.ow [.str "no worth", .str "no worth"]))= .nx (EL (scr ns) k (.vl (oT i)) (.vl (wT j)) (.vl (uT l)) (.ow [.str "no worth", .str "no worth", .str "no worth"])):=ZV (ts:=[.str "no worth", .str "no worth"]) rfl (show 2 < 16777216 by decide) (show zx okX f_2 ((za 3 f_i (z0 (vE 0) (z0 (cE (.int 0)) (z0 (vE 1) (zb))))) [.vl kdT, .vl (wT j)])= .ok (.str "no worth") from zK (td9 j hj))
 have f10:Z4 10 (zm [4,8] okX f_2 (za 3 f_i (z0 (vE 0) (z0 (vE 1) (z0 (cE (.int 0)) (zb)))))) (EL (scr ns) k (.vl (oT i)) (.vl (wT j)) (.vl (uT l)) (.ow [.str "no worth", .str "no worth", .str "no worth"]))= .nx (EL (scr ns) k (.vl (oT i)) (.vl (wT j)) (.vl (uT l)) (.ow [.str "no worth", .str "no worth", .str "no worth", .str "no worth"])):=ZV (ts:=[.str "no worth", .str "no worth", .str "no worth"]) rfl (show 3 < 16777216 by decide) (show zx okX f_2 ((za 3 f_i (z0 (vE 0) (z0 (vE 1) (z0 (cE (.int 0)) (zb))))) [.vl kdT, .vl (wT j)])= .ok (.str "no worth") from zK (Vm j hj))
 have g1:zM neC (vB 10) (zd zT (zS (z0 (cE (.str "no worth")) (zb))) (cE (.int 4))) (EL (scr ns) k (.vl (oT i)) (.vl (wT j)) (.vl (uT l)) (.ow [.str "no worth", .str "no worth", .str "no worth", .str "no worth"]))= .ok false:=rfl
 have f11:Jc 10 (z0 (zm [9] okX f_2 (za 1 f_v (z0 (vE 0) (zb)))) (zb)) (EL (scr ns) k (.vl (oT i)) (.vl (wT j)) (.vl (uT l)) (.ow [.str "no worth", .str "no worth", .str "no worth", .str "no worth"]))= .nx (EL (scr ns) k (.vl (oT i)) (.vl (wT j)) (.vl (uT l)) (.ow [.str "no rule"])):=We (show zx okX f_2 ((za 1 f_v (z0 (vE 0) (zb))) [.vl (uT l)])= .ok (.str "no rule") from zK (Vn l hl))
 have f12:Z4 10 (zm [7,9] okX f_2 (za 2 f_8 (z0 (vE 0) (z0 (zS (z0 (zw (z0 (cE (.str "rising")) (zb))) (z0 (vE 1) (zb)))) (zb))))) (EL (scr ns) k (.vl (oT i)) (.vl (wT j)) (.vl (uT l)) (.ow [.str "no rule"]))= .nx (EL (scr ns) k (.vl (oT i)) (.vl (wT j)) (.vl (uT l)) (.ow [.str "no rule", .str "no rule"])):=ZV (ts:=[.str "no rule"]) rfl (show 1 < 16777216 by decide) (show zx okX f_2 ((za 2 f_8 (z0 (vE 0) (z0 (zS (z0 (zw (z0 (cE (.str "rising")) (zb))) (z0 (vE 1) (zb)))) (zb)))) [.vl (oT i), .vl (uT l)])= .ok (.str "no rule") from zK (Vo i hi l hl))
 have f13:Z4 10 (zm [5,9] okX f_2 (za 2 f_8 (z0 (vE 0) (z0 (zw (z0 (vE 1) (zb))) (zb))))) (EL (scr ns) k (.vl (oT i)) (.vl (wT j)) (.vl (uT l)) (.ow [.str "no rule", .str "no rule"]))= .nx (EL (scr ns) k (.vl (oT i)) (.vl (wT j)) (.vl (uT l)) (.ow [.str "no rule", .str "no rule", .str "no rule"])):=ZV (ts:=[.str "no rule", .str "no rule"]) rfl (show 2 < 16777216 by decide) (show zx okX f_2 ((za 2 f_8 (z0 (vE 0) (z0 (zw (z0 (vE 1) (zb))) (zb)))) [.vl wdT, .vl (uT l)])= .ok (.str "no rule") from zK (Vp l hl))
 have g2:zM neC (vB 10) (zd zT (zS (z0 (cE (.str "no rule")) (zb))) (cE (.int 3))) (EL (scr ns) k (.vl (oT i)) (.vl (wT j)) (.vl (uT l)) (.ow [.str "no rule", .str "no rule", .str "no rule"]))= .ok false:=rfl
 refine ⟨.vl (oT i), .vl (wT j), .vl (uT l),(.ow [.str "no rule", .str "no rule", .str "no rule"]), ?_⟩
 rw [lpB,zt e1,zt e2,zt f0,zt f1,zt f2,zt f3,zt f4,zt f5,zt f6,zt (Wd g0),zt f7,zt f8,zt f9,zt f10,zt (Wd g1),zt f11,zt f12,zt f13,Wd g2]
theorem va (ns:List Int) (h:ns.length<=63):f_0 [.fz (ns.map T.int)]= .ok (.bl true):=by
 obtain ⟨p,ep,p0,p8⟩:=Jj ns 0 9 (by omega) (by omega)
 obtain ⟨q,eq,q0,q10⟩:=Jj ns 1 9 (by omega) (by omega)
 obtain ⟨r,er,r0,r10⟩:=Jj ns 2 9 (by omega) (by omega)
 obtain ⟨a0,b0,c0,y0,l0⟩:=u9 ep eq er (show 0 < 4 by omega) .un .un .un .un
 obtain ⟨a1,b1,c1,y1,l1⟩:=u9 ep eq er (show 1 < 4 by omega) a0 b0 c0 y0
 obtain ⟨a2,b2,c2,y2,l2⟩:=u9 ep eq er (show 2 < 4 by omega) a1 b1 c1 y1
 obtain ⟨a3,b3,c3,y3,l3⟩:=u9 ep eq er (show 3 < 4 by omega) a2 b2 c2 y2
 have d0:Jc 1 (z0 (cE .non) (z0 (zw (zb)) (z0 (zw (z0 (cE (.str "whole")) (z0 (cE (.int 1)) (z0 (cE (.int 0)) (zb))))) (z0 (zw (z0 (cE (.str "whole")) (z0 (cE (.int 0)) (z0 (cE (.int 21)) (zb))))) (z0 (zw (z0 (cE (.str "pick")) (z0 (zw (zb)) (zb)))) (z0 (zw (z0 (cE (.str "row")) (z0 (zw (zb)) (zb)))) (zb))))))) [.vl (scr ns), .un, .un, .un, .un, .un, .un, .un, .un, .un, .un]= .nx [.vl (scr ns), .ow (wa.take 6), .un, .un, .un, .un, .un, .un, .un, .un, .un]:=rfl
 have d1:YY 1 (zS (z0 (zw (z0 (cE (.str "many")) (z0 (zw (z0 (cE (.str "whole")) (z0 (cE (.int 0)) (z0 (cE (.int 1)) (zb))))) (z0 (cE (.int 0)) (z0 (cE (.int 4)) (zb)))))) (z0 (zS (z0 (cE (.str "whole")) (z0 (cE (.int 0)) (z0 (cE (.int 1)) (zb))))) (z0 (cE (.int 5)) (zb))))) [.vl (scr ns), .ow (wa.take 6), .un, .un, .un, .un, .un, .un, .un, .un, .un]= .nx [.vl (scr ns), .ow wa, .un, .un, .un, .un, .un, .un, .un, .un, .un]:=rfl
 have d2:Zj 2 (zS (z0 (cE .non) (z0 (cE (.int 5)) (z0 (U0 (cE (.int 1))) (z0 (cE (.bl true)) (z0 (cE (.str "a")) (z0 (zw (zb)) (z0 (zw (z0 (cE (.int 1)) (zb))) (z0 (cE (.bl false)) (z0 (zS (z0 (cE (.int 1)) (zb))) (zb))))))))))) [.vl (scr ns), .ow wa, .un, .un, .un, .un, .un, .un, .un, .un, .un]= .nx [.vl (scr ns), .ow wa, .vl (.lst u8), .un, .un, .un, .un, .un, .un, .un, .un]:=rfl
 have d3:Zj 3 (zS (z0 (cE .non) (z0 (zw (zb)) (z0 (zw (z0 (cE (.str "sum")) (z0 (cE (.int 0)) (zb)))) (z0 (zw (z0 (cE (.str "sum")) (z0 (cE (.int 0)) (z0 (cE (.int 51)) (zb))))) (z0 (zw (z0 (cE (.str "word")) (z0 (cE (.str "A")) (zb)))) (z0 (zw (z0 (cE (.str "no")) (zb))) (z0 (zS (z0 (cE (.str "rising")) (zb))) (z0 (zw (z0 (cE (.str "never")) (zb))) (z0 (cE (.int 5)) (zb))))))))))) [.vl (scr ns), .ow wa, .vl (.lst u8), .un, .un, .un, .un, .un, .un, .un, .un]= .nx [.vl (scr ns), .ow wa, .vl (.lst u8), .vl (.lst UO), .un, .un, .un, .un, .un, .un, .un]:=rfl
 have d4:UA (zw (z0 (zw (z0 (cE (.str "whole")) (z0 (cE (.int 0)) (z0 (cE (.int 4)) (zb))))) (z0 (zw (z0 (cE (.str "row")) (z0 (zw (z0 (zw (z0 (cE (.str "whole")) (z0 (cE (.int 0)) (z0 (cE (.int 20)) (zb))))) (z0 (zw (z0 (cE (.str "whole")) (z0 (U0 (cE (.int 4))) (z0 (cE (.int 20)) (zb))))) (zb)))) (zb)))) (zb)))) (ZJ 4 5) [.vl (scr ns), .ow wa, .vl (.lst u8), .vl (.lst UO), .un, .un, .un, .un, .un, .un, .un]= .nx (EF (scr ns) .un .un .un .un .un):=rfl
 have dl:Ub (WG (cE (.int 4))) (jv 6) lpB (EF (scr ns) .un .un .un .un .un)= .nx (EL (scr ns) 3 a3 b3 c3 y3):=by
  show Wm (jv 6) lpB [.int ((0:Nat):Int), .int ((1:Nat):Int), .int ((2:Nat):Int), .int ((3:Nat):Int)] _=_
  rw [JI rfl l0,JI rfl l1,JI rfl l2,JI rfl l3]; rfl
 have h0:zM neC (zm [5] okX f_2 (exE (za 1 f_k (z0 (vE 0) (zb))))) (cE (.str "too many")) (EL (scr ns) 3 a3 b3 c3 y3)= .ok false:=by
  rw [Wc,show (zm [5] okX f_2 (exE (za 1 f_k (z0 (vE 0) (zb))))) (EL (scr ns) 3 a3 b3 c3 y3)= .ok (.str "too many") from (show zx okX f_2 ((exE (za 1 f_k (z0 (vE 0) (zb)))) [.vl wdT])= .ok (.str "too many") from zK Vq)]
  rfl
 have h1:zM neC (zm [5] okX f_2 (za 2 f_8 (z0 (vE 0) (z0 (zw (zb)) (zb))))) (cE (.str "too many")) (EL (scr ns) 3 a3 b3 c3 y3)= .ok false:=by
  rw [Wc,show (zm [5] okX f_2 (za 2 f_8 (z0 (vE 0) (z0 (zw (zb)) (zb))))) (EL (scr ns) 3 a3 b3 c3 y3)= .ok (.str "too many") from (show zx okX f_2 ((za 2 f_8 (z0 (vE 0) (z0 (zw (zb)) (zb)))) [.vl wdT])= .ok (.str "too many") from zK Vr)]
  rfl
 show zl (b_0 _ _ _ _ _ _ _ _ _ _ [.vl (scr ns), .un, .un, .un, .un, .un, .un, .un, .un, .un, .un])=_
 rw [b_0,zt d0,zt d1,zt d2,zt d3,zt d4,zt dl,zt (Wd h0),zt (Wd h1),YK (t:= .bl true)]
 ·rfl
 ·exact (show Zn (j0 eqC (za 2 f_l (z0 (vE 4) (z0 (cE (.int 3)) (zb)))) (cE (.int 4))) (Zn (j0 eqC (za 1 f_q (z0 (vE 5) (zb))) (zw (z0 (cE (.int 10)) (z0 (cE (.int 8)) (zb))))) (j0 Wl (za 2 f_8 (z0 (vE 4) (z0 (zS (zb)) (zb)))) (cE .non))) [.un, .un, .un, .un, .vl kdT, .vl wdT, .un, .un, .un, .un, .un]= .ok (.bl true) from zK tdR)
end G
namespace G
open PySem PySem.Spec PyProof.Rows L2 PV
def top (i:Nat):Stmt:=PySem.Challenge.pw_worthkinds_k77_steps_refused.main.body.getD i (.Pass ⟨0,0,0,0⟩)
abbrev s_2:Stmt:=top 83
abbrev N_2:List Str:=["_law_kept","_law_kinds"]
theorem vb:zc N_2 ["_law_kept"] (z9 s_2):=by refine ⟨rfl,rfl,rfl, ?_,rfl, ?_, ?_⟩ <;> decide+kernel
abbrev s_b:Stmt:=top 16
abbrev N_b:List Str:=["thing"]
theorem vc:zc N_b ["thing"] (z9 s_b):=by refine ⟨rfl,rfl,rfl, ?_,rfl, ?_, ?_⟩ <;> decide+kernel
abbrev vd:Stmt:=top 62
abbrev Vs:List Str:=["thing"]
theorem YM:zc Vs ["thing"] (z9 vd):=by refine ⟨rfl,rfl,rfl, ?_,rfl, ?_, ?_⟩ <;> decide+kernel
abbrev s_n:Stmt:=top 18
abbrev N_n:List Str:=["thing"]
theorem ve:zc N_n ["thing"] (z9 s_n):=by refine ⟨rfl,rfl,rfl, ?_,rfl, ?_, ?_⟩ <;> decide+kernel
abbrev s_h:Stmt:=top 61
abbrev N_h:List Str:=["thing","levels"]
theorem vf:zc N_h ["thing","levels"] (z9 s_h):=by refine ⟨rfl,rfl,rfl, ?_,rfl, ?_, ?_⟩ <;> decide+kernel
abbrev s_5:Stmt:=top 57
abbrev N_5:List Str:=["thing"]
theorem vg:zc N_5 ["thing"] (z9 s_5):=by refine ⟨rfl,rfl,rfl, ?_,rfl, ?_, ?_⟩ <;> decide+kernel
abbrev s_7:Stmt:=top 58
abbrev N_7:List Str:=["rule"]
theorem vh:zc N_7 ["rule"] (z9 s_7):=by refine ⟨rfl,rfl,rfl, ?_,rfl, ?_, ?_⟩ <;> decide+kernel
abbrev vi:Stmt:=top 59
abbrev Vt:List Str:=["rules","rule"]
theorem YN:zc Vt ["rules"] (z9 vi):=by refine ⟨rfl,rfl,rfl, ?_,rfl, ?_, ?_⟩ <;> decide+kernel
abbrev vj:Stmt:=top 19
abbrev Vu:List Str:=["low","high","least","most"]
theorem YO:zc Vu ["low","high","least","most"] (z9 vj):=by refine ⟨rfl,rfl,rfl, ?_,rfl, ?_, ?_⟩ <;> decide+kernel
abbrev s_a:Stmt:=top 17
abbrev N_a:List Str:=["thing","least","most"]
theorem vk:zc N_a ["thing","least","most"] (z9 s_a):=by refine ⟨rfl,rfl,rfl, ?_,rfl, ?_, ?_⟩ <;> decide+kernel
abbrev vm:Stmt:=top 22
abbrev Vv:List Str:=["thing"]
theorem YQ:zc Vv ["thing"] (z9 vm):=by refine ⟨rfl,rfl,rfl, ?_,rfl, ?_, ?_⟩ <;> decide+kernel
abbrev s_t:Stmt:=top 21
abbrev N_t:List Str:=["thing","words"]
theorem Qo:zc N_t ["thing"] (z9 s_t):=by refine ⟨rfl,rfl,rfl, ?_,rfl, ?_, ?_⟩ <;> decide+kernel
abbrev s_9:Stmt:=top 20
abbrev N_9:List Str:=["thing","levels"]
theorem vn:zc N_9 ["thing","levels"] (z9 s_9):=by refine ⟨rfl,rfl,rfl, ?_,rfl, ?_, ?_⟩ <;> decide+kernel
abbrev s_y:Stmt:=top 23
abbrev N_y:List Str:=["thing","levels"]
theorem vo:zc N_y ["thing","levels"] (z9 s_y):=by refine ⟨rfl,rfl,rfl, ?_,rfl, ?_, ?_⟩ <;> decide+kernel
abbrev s_4:Stmt:=top 12
abbrev N_4:List Str:=["thing"]
theorem vp:zc N_4 ["thing"] (z9 s_4):=by refine ⟨rfl,rfl,rfl, ?_,rfl, ?_, ?_⟩ <;> decide+kernel
abbrev s_c:Stmt:=top 14
abbrev N_c:List Str:=["kind"]
theorem vq:zc N_c ["kind"] (z9 s_c):=by refine ⟨rfl,rfl,rfl, ?_,rfl, ?_, ?_⟩ <;> decide+kernel
abbrev s_1:Stmt:=top 30
abbrev N_1:List Str:=["kind"]
theorem vt:zc N_1 ["kind"] (z9 s_1):=by refine ⟨rfl,rfl,rfl, ?_,rfl, ?_, ?_⟩ <;> decide+kernel
abbrev s_r:Stmt:=top 31
abbrev N_r:List Str:=["kinds","count","kind"]
theorem vu:zc N_r ["kinds"] (z9 s_r):=by refine ⟨rfl,rfl,rfl, ?_,rfl, ?_, ?_⟩ <;> decide+kernel
abbrev s_d:Stmt:=top 32
abbrev N_d:List Str:=["kind","length"]
theorem vv:zc N_d ["kind","length"] (z9 s_d):=by refine ⟨rfl,rfl,rfl, ?_,rfl, ?_, ?_⟩ <;> decide+kernel
abbrev s_e:Stmt:=top 24
abbrev N_e:List Str:=["kind"]
theorem vw:zc N_e ["kind"] (z9 s_e):=by refine ⟨rfl,rfl,rfl, ?_,rfl, ?_, ?_⟩ <;> decide+kernel
abbrev s_6:Stmt:=top 33
abbrev N_6:List Str:=["kind","number"]
theorem vx:zc N_6 ["kind","number"] (z9 s_6):=by refine ⟨rfl,rfl,rfl, ?_,rfl, ?_, ?_⟩ <;> decide+kernel
abbrev vy:Stmt:=top 34
abbrev Vw:List Str:=["kind","number","length"]
theorem YR:zc Vw ["kind","number"] (z9 vy):=by refine ⟨rfl,rfl,rfl, ?_,rfl, ?_, ?_⟩ <;> decide+kernel
abbrev s_s:Stmt:=top 35
abbrev N_s:List Str:=["kinds","number","parts","rest","kind","count"]
theorem vz:zc N_s ["kinds","number"] (z9 s_s):=by refine ⟨rfl,rfl,rfl, ?_,rfl, ?_, ?_⟩ <;> decide+kernel
abbrev s_m:Stmt:=top 29
abbrev N_m:List Str:=["kind","count"]
theorem vA:zc N_m ["kind"] (z9 s_m):=by refine ⟨rfl,rfl,rfl, ?_,rfl, ?_, ?_⟩ <;> decide+kernel
abbrev Wf:Stmt:=top 63
abbrev s_z:Stmt:=top 60
abbrev N_z:List Str:=["worths","rules"]
theorem vC:zc N_z ["worths","rules"] (z9 s_z):=by refine ⟨rfl,rfl,rfl, ?_,rfl, ?_, ?_⟩ <;> decide+kernel
abbrev s_8:Stmt:=top 79
abbrev N_8:List Str:=["kind","rules","worths","greater"]
theorem Qp:zc N_8 ["kind","rules"] (z9 s_8):=by refine ⟨rfl,rfl,rfl, ?_,rfl, ?_, ?_⟩ <;> decide+kernel
def Qq (s:Stmt) (j:Nat):Stmt:=match s with
 | .ClassDef _ _ _ b _ _ _ _ _ _ _=>b.getD j (.Pass ⟨0,0,0,0⟩)
 | s=>s
abbrev s_k:Stmt:=Qq (top 78) 0
abbrev N_k:List Str:=["self","kind"]
theorem vD:zc N_k ["self","kind"] (z9 s_k):=by refine ⟨rfl,rfl,rfl, ?_,rfl, ?_, ?_⟩ <;> decide+kernel
abbrev s_f:Stmt:=top 25
abbrev N_f:List Str:=["kind","thing"]
theorem vF:zc N_f ["kind","thing"] (z9 s_f):=by refine ⟨rfl,rfl,rfl, ?_,rfl, ?_, ?_⟩ <;> decide+kernel
abbrev s_x:Stmt:=top 26
abbrev N_x:List Str:=["kinds","parts"]
theorem vG:zc N_x ["kinds","parts"] (z9 s_x):=by refine ⟨rfl,rfl,rfl, ?_,rfl, ?_, ?_⟩ <;> decide+kernel
abbrev vH:Stmt:=top 13
abbrev Vx:List Str:=["kind","thing"]
theorem YS:zc Vx ["kind","thing"] (z9 vH):=by refine ⟨rfl,rfl,rfl, ?_,rfl, ?_, ?_⟩ <;> decide+kernel
abbrev s_g:Stmt:=top 15
abbrev N_g:List Str:=["kind","worth"]
theorem vI:zc N_g ["kind","worth"] (z9 s_g):=by refine ⟨rfl,rfl,rfl, ?_,rfl, ?_, ?_⟩ <;> decide+kernel
abbrev s_o:Stmt:=top 43
abbrev N_o:List Str:=["kind","number"]
theorem vJ:zc N_o ["kind","number"] (z9 s_o):=by refine ⟨rfl,rfl,rfl, ?_,rfl, ?_, ?_⟩ <;> decide+kernel
abbrev s_3:Stmt:=top 36
abbrev N_3:List Str:=["kind","worth","length"]
theorem vK:zc N_3 ["kind","worth"] (z9 s_3):=by refine ⟨rfl,rfl,rfl, ?_,rfl, ?_, ?_⟩ <;> decide+kernel
abbrev vL:Stmt:=top 37
abbrev Vy:List Str:=["kinds","parts","place","kind","part"]
theorem YT:zc Vy ["kinds","parts"] (z9 vL):=by refine ⟨rfl,rfl,rfl, ?_,rfl, ?_, ?_⟩ <;> decide+kernel
abbrev s_l:Stmt:=top 39
abbrev N_l:List Str:=["kind","worth"]
theorem vM:zc N_l ["kind","worth"] (z9 s_l):=by refine ⟨rfl,rfl,rfl, ?_,rfl, ?_, ?_⟩ <;> decide+kernel
abbrev s_p:Stmt:=top 40
abbrev N_p:List Str:=["kind","worth"]
theorem vN:zc N_p ["kind","worth"] (z9 s_p):=by refine ⟨rfl,rfl,rfl, ?_,rfl, ?_, ?_⟩ <;> decide+kernel
abbrev s_i:Stmt:=top 41
abbrev N_i:List Str:=["kind","one","other","first","last"]
theorem vO:zc N_i ["kind","one","other"] (z9 s_i):=by refine ⟨rfl,rfl,rfl, ?_,rfl, ?_, ?_⟩ <;> decide+kernel
abbrev s_q:Stmt:=top 42
abbrev N_q:List Str:=["kind"]
theorem vP:zc N_q ["kind"] (z9 s_q):=by refine ⟨rfl,rfl,rfl, ?_,rfl, ?_, ?_⟩ <;> decide+kernel
abbrev j3:Stmt:=top 73
abbrev s_u:Stmt:=top 71
abbrev N_u:List Str:=["kind"]
theorem vQ:zc N_u ["kind"] (z9 s_u):=by refine ⟨rfl,rfl,rfl, ?_,rfl, ?_, ?_⟩ <;> decide+kernel
abbrev j4:Stmt:=top 75
abbrev s_v:Stmt:=top 72
abbrev N_v:List Str:=["rule"]
theorem vR:zc N_v ["rule"] (z9 s_v):=by refine ⟨rfl,rfl,rfl, ?_,rfl, ?_, ?_⟩ <;> decide+kernel
abbrev ZW:Stmt:=top 84
abbrev Jm:List Str:=["_law_deed","e"]
theorem jW:zc Jm ["_law_deed"] (z9 ZW):=by refine ⟨rfl,rfl,rfl, ?_,rfl, ?_, ?_⟩ <;> decide+kernel
abbrev s_w:Stmt:=top 81
abbrev N_w:List Str:=["_law_script","_law_k"]
theorem vS:zc N_w ["_law_script","_law_k"] (z9 s_w):=by refine ⟨rfl,rfl,rfl, ?_,rfl, ?_, ?_⟩ <;> decide+kernel
abbrev s_j:Stmt:=top 82
abbrev N_j:List Str:=["_law_script","_law_k","_law_many","_law_drawn"]
theorem vT:zc N_j ["_law_script","_law_k","_law_many"] (z9 s_j):=by refine ⟨rfl,rfl,rfl, ?_,rfl, ?_, ?_⟩ <;> decide+kernel
abbrev s_0:Stmt:=top 85
abbrev N_0:List Str:=["_law_script","_law_odd","_law_bad","_law_rules","_law_kind","_law_wide","_law_k","_law_thing","_law_worth","_law_rule","_law_told_here"]
theorem vU:zc N_0 ["_law_script"] (z9 s_0):=by refine ⟨rfl,rfl,rfl, ?_,rfl, ?_, ?_⟩ <;> decide+kernel
structure Fn (K:PySem.W.Frag) (mg:Str->Option Value) (x:Str) (st:Stmt) (ps:List Str) (f:Addr) (fd:FuncData):Prop where
 F:Fun K x x st f fd
 b:L2.Binds K fd ps []
 m:mg x=some (.ref f)
structure FnI (K:PySem.W.Frag) (mg:Str->Option Value) (x:Str) (st:Stmt) (ps:List Str) (f:Addr) (fd:FuncData) (C:Addr):Prop where
 F:Fun K "__init__" "Sieve.__init__" st f fd
 b:L2.Binds K fd ps []
 m:mg x=some (.ref C)
 M:L2.Mk K C f
 c:L2.Cls K C
 n:L2.NoAttr K C "kind"
abbrev uA:List Value:=[.type "ValueError", .type "Exception", .type "BaseException", .type "object"]
set_option genInjectivity false in
set_option genSizeOf false in
structure Tx (K:PySem.W.Frag) (mg:Str->Option Value) where
 a_2:Addr
 d_2:FuncData
 C_2:Fn K mg "_law_class" s_2 ["_law_kept"] a_2 d_2
 a_b:Addr
 d_b:FuncData
 C_b:Fn K mg "is_whole" s_b ["thing"] a_b d_b
 a_10:Addr
 d_10:FuncData
 C_10:Fn K mg "is_bound" vd ["thing"] a_10 d_10
 a_n:Addr
 d_n:FuncData
 C_n:Fn K mg "is_word" s_n ["thing"] a_n d_n
 a_h:Addr
 d_h:FuncData
 C_h:Fn K mg "is_rule_within" s_h ["thing","levels"] a_h d_h
 a_5:Addr
 d_5:FuncData
 C_5:Fn K mg "is_rule" s_5 ["thing"] a_5 d_5
 a_7:Addr
 d_7:FuncData
 C_7:Fn K mg "need_rule" s_7 ["rule"] a_7 d_7
 a_13:Addr
 d_13:FuncData
 C_13:Fn K mg "need_rules" vi ["rules"] a_13 d_13
 a_11:Addr
 d_11:FuncData
 C_11:Fn K mg "is_span" vj ["low","high","least","most"] a_11 d_11
 a_a:Addr
 d_a:FuncData
 C_a:Fn K mg "is_tuple_of" s_a ["thing","least","most"] a_a d_a
 a_14:Addr
 d_14:FuncData
 C_14:Fn K mg "is_choice" vm ["thing"] a_14 d_14
 a_t:Addr
 d_t:FuncData
 C_t:Fn K mg "are_choices" s_t ["thing"] a_t d_t
 a_9:Addr
 d_9:FuncData
 C_9:Fn K mg "is_kind_within" s_9 ["thing","levels"] a_9 d_9
 a_y:Addr
 d_y:FuncData
 C_y:Fn K mg "are_kinds_within" s_y ["thing","levels"] a_y d_y
 a_4:Addr
 d_4:FuncData
 C_4:Fn K mg "is_kind" s_4 ["thing"] a_4 d_4
 a_c:Addr
 d_c:FuncData
 C_c:Fn K mg "need_kind" s_c ["kind"] a_c d_c
 a_1:Addr
 d_1:FuncData
 C_1:Fn K mg "count_of" s_1 ["kind"] a_1 d_1
 a_r:Addr
 d_r:FuncData
 C_r:Fn K mg "count_of_parts" s_r ["kinds"] a_r d_r
 a_d:Addr
 d_d:FuncData
 C_d:Fn K mg "count_shorter" s_d ["kind","length"] a_d d_d
 a_e:Addr
 d_e:FuncData
 C_e:Fn K mg "words_of_pick" s_e ["kind"] a_e d_e
 a_6:Addr
 d_6:FuncData
 C_6:Fn K mg "worth_at" s_6 ["kind","number"] a_6 d_6
 a_16:Addr
 d_16:FuncData
 C_16:Fn K mg "many_at" vy ["kind","number"] a_16 d_16
 a_s:Addr
 d_s:FuncData
 C_s:Fn K mg "parts_at" s_s ["kinds","number"] a_s d_s
 a_m:Addr
 d_m:FuncData
 C_m:Fn K mg "all_worths" s_m ["kind"] a_m d_m
 a_is_kept:Addr
 d_is_kept:FuncData
 C_is_kept:Fn K mg "is_kept" Wf ["rule","worth"] a_is_kept d_is_kept
 a_z:Addr
 d_z:FuncData
 C_z:Fn K mg "counts_keeping" s_z ["worths","rules"] a_z d_z
 a_8:Addr
 d_8:FuncData
 C_8:Fn K mg "best_rule" s_8 ["kind","rules"] a_8 d_8
 a_k:Addr
 d_k:FuncData
 B_Sieve:Addr
 C_k:FnI K mg "Sieve" s_k ["self","kind"] a_k d_k B_Sieve
 a_f:Addr
 d_f:FuncData
 C_f:Fn K mg "has_worth" s_f ["kind","thing"] a_f d_f
 a_x:Addr
 d_x:FuncData
 C_x:Fn K mg "have_parts" s_x ["kinds","parts"] a_x d_x
 a_15:Addr
 d_15:FuncData
 C_15:Fn K mg "is_worth" vH ["kind","thing"] a_15 d_15
 a_g:Addr
 d_g:FuncData
 C_g:Fn K mg "need_worth" s_g ["kind","worth"] a_g d_g
 a_o:Addr
 d_o:FuncData
 C_o:Fn K mg "worth_if_any" s_o ["kind","number"] a_o d_o
 a_3:Addr
 d_3:FuncData
 C_3:Fn K mg "place_of" s_3 ["kind","worth"] a_3 d_3
 a_12:Addr
 d_12:FuncData
 C_12:Fn K mg "place_of_parts" vL ["kinds","parts"] a_12 d_12
 a_l:Addr
 d_l:FuncData
 C_l:Fn K mg "next_worth" s_l ["kind","worth"] a_l d_l
 a_p:Addr
 d_p:FuncData
 C_p:Fn K mg "worth_ahead" s_p ["kind","worth"] a_p d_p
 a_i:Addr
 d_i:FuncData
 C_i:Fn K mg "between" s_i ["kind","one","other"] a_i d_i
 a_q:Addr
 d_q:FuncData
 C_q:Fn K mg "middle" s_q ["kind"] a_q d_q
 a_kind_written:Addr
 d_kind_written:FuncData
 C_kind_written:Fn K mg "kind_written" j3 ["kind"] a_kind_written d_kind_written
 a_u:Addr
 d_u:FuncData
 C_u:Fn K mg "kind_text" s_u ["kind"] a_u d_u
 a_rule_written:Addr
 d_rule_written:FuncData
 C_rule_written:Fn K mg "rule_written" j4 ["rule"] a_rule_written d_rule_written
 a_v:Addr
 d_v:FuncData
 C_v:Fn K mg "rule_text" s_v ["rule"] a_v d_v
 a__law_told:Addr
 d__law_told:FuncData
 C__law_told:Fn K mg "_law_told" ZW ["_law_deed"] a__law_told d__law_told
 a_w:Addr
 d_w:FuncData
 C_w:Fn K mg "_law_cell" s_w ["_law_script","_law_k"] a_w d_w
 a_j:Addr
 d_j:FuncData
 C_j:Fn K mg "_law_pick" s_j ["_law_script","_law_k","_law_many"] a_j d_j
 a_0:Addr
 d_0:FuncData
 C_0:Fn K mg "law" s_0 ["_law_script"] a_0 d_0
 k_law:Addr
 P_law:Addr
 e_law:d_0.code= .ref k_law
 h_law:PySem.W.codeHdIn K k_law P_law=true
 n_law:K.lookup P_law=none
 z_ValueError:mg "ValueError"=none
 z_all:mg "all"=none
 z_bool:mg "bool"=none
 z_int:mg "int"=none
 z_isinstance:mg "isinstance"=none
 z_len:mg "len"=none
 z_list:mg "list"=none
 z_max:mg "max"=none
 z_min:mg "min"=none
 z_range:mg "range"=none
 z_reversed:mg "reversed"=none
 z_set:mg "set"=none
 z_str:mg "str"=none
 z_sum:mg "sum"=none
 z_tuple:mg "tuple"=none
 z_zip:mg "zip"=none
 c_DEEPEST:∃ u,mg "DEEPEST"=some u/\∃ t,u=Value.int 3 t
 c_DEEPEST_RULE:∃ u,mg "DEEPEST_RULE"=some u/\∃ t,u=Value.int 3 t
 c_FARTHEST_BOUND:∃ u,mg "FARTHEST_BOUND"=some u/\∃ t,u=Value.int 50 t
 c_MOST_TOLD:∃ u,mg "MOST_TOLD"=some u/\∃ t,u=Value.int 500 t
set_option genInjectivity false in
set_option genSizeOf false in
structure Tq (K:PySem.W.Frag) (mg:Str->Option Value) (base:Heap) (cl:Nat->Value) where
 q_Ended:Addr
 q_NoBack:Addr
 q_NoKind:Addr
 q_NoRule:Addr
 q_NoText:Addr
 q_NoWorth:Addr
 q_TooMany:Addr
 q_WorthError:Addr
 X_k:XK1 K cl okX
 e_WorthError:∀ c,okX c=true->PySem.W.exmOne K (cl c) (.ref q_WorthError)=some true
 l_NoKind:cl 0= .ref q_NoKind
 l_NoRule:cl 2= .ref q_NoRule
 l_NoWorth:cl 1= .ref q_NoWorth
 l_TooMany:cl 3= .ref q_TooMany
 m_Ended:mg "Ended"=some (.ref q_Ended)
 m_NoBack:mg "NoBack"=some (.ref q_NoBack)
 m_NoKind:mg "NoKind"=some (.ref q_NoKind)
 m_NoRule:mg "NoRule"=some (.ref q_NoRule)
 m_NoText:mg "NoText"=some (.ref q_NoText)
 m_NoWorth:mg "NoWorth"=some (.ref q_NoWorth)
 m_TooMany:mg "TooMany"=some (.ref q_TooMany)
 m_WorthError:mg "WorthError"=some (.ref q_WorthError)
 o_NoKind:OwnCls "NoKind" q_NoKind uA "ValueError.__new__" mg base
 o_NoRule:OwnCls "NoRule" q_NoRule uA "ValueError.__new__" mg base
 o_NoWorth:OwnCls "NoWorth" q_NoWorth uA "ValueError.__new__" mg base
 o_TooMany:OwnCls "TooMany" q_TooMany uA "ValueError.__new__" mg base
 t_Ended:∀ c,okX c=true->PySem.W.kitOne K (cl c) (.ref q_Ended)=some (ZU c)
 t_NoBack:∀ c,okX c=true->PySem.W.kitOne K (cl c) (.ref q_NoBack)=some (ZD c)
 t_NoKind:∀ c,okX c=true->PySem.W.kitOne K (cl c) (.ref q_NoKind)=some (ZA c)
 t_NoRule:∀ c,okX c=true->PySem.W.kitOne K (cl c) (.ref q_NoRule)=some (ZB c)
 t_NoText:∀ c,okX c=true->PySem.W.kitOne K (cl c) (.ref q_NoText)=some (ZC c)
 t_NoWorth:∀ c,okX c=true->PySem.W.kitOne K (cl c) (.ref q_NoWorth)=some (Zl c)
 t_TooMany:∀ c,okX c=true->PySem.W.kitOne K (cl c) (.ref q_TooMany)=some (Zm c)
 t_ValueError:∀ c,okX c=true->PySem.W.kitOne K (cl c) (.type "ValueError")=some (zW c)
section
variable (P:Program) (w:World) {K:PySem.W.Frag} {mg:Str->Option Value} (base:Heap) (cl:Nat->Value) (tx:Tx K mg) (k:Nat) (c:List T->R T)
abbrev Q_2 (c:Nat->R T):Prop:=FnM P w K mg base k tx.a_2 tx.d_2 ["_law_kept"] (spC cl c)
abbrev Q_b:Prop:=zA P w K mg base CX0 k tx.a_b tx.d_b ["thing"] (spP cl 1 c)
abbrev Qr:Prop:=zA P w K mg base CX0 k tx.a_10 tx.d_10 ["thing"] (spP cl 1 c)
abbrev Q_n:Prop:=zA P w K mg base CX0 k tx.a_n tx.d_n ["thing"] (spP cl 1 c)
abbrev Q_h:Prop:=zA P w K mg base CX0 k tx.a_h tx.d_h ["thing","levels"] (spP cl 2 c)
abbrev Q_5:Prop:=zA P w K mg base CX0 k tx.a_5 tx.d_5 ["thing"] (spP cl 1 c)
abbrev Q_7:Prop:=zA P w K mg base (CX1 P w) k tx.a_7 tx.d_7 ["rule"] (spP cl 1 c)
abbrev Qs:Prop:=zA P w K mg base (CX1 P w) k tx.a_13 tx.d_13 ["rules"] (spP cl 1 c)
abbrev Qt:Prop:=zA P w K mg base CX0 k tx.a_11 tx.d_11 ["low","high","least","most"] (spP cl 4 c)
abbrev Q_a:Prop:=zA P w K mg base CX0 k tx.a_a tx.d_a ["thing","least","most"] (spP cl 3 c)
abbrev Qu:Prop:=zA P w K mg base CX0 k tx.a_14 tx.d_14 ["thing"] (spP cl 1 c)
abbrev Q_t:Prop:=zA P w K mg base CX0 k tx.a_t tx.d_t ["thing"] (spP cl 1 c)
abbrev Q_9:Prop:=zA P w K mg base CX0 k tx.a_9 tx.d_9 ["thing","levels"] (spP cl 2 c)
abbrev Q_y:Prop:=zA P w K mg base CX0 k tx.a_y tx.d_y ["thing","levels"] (spP cl 2 c)
abbrev Q_4:Prop:=zA P w K mg base CX0 k tx.a_4 tx.d_4 ["thing"] (spP cl 1 c)
abbrev Q_c:Prop:=zA P w K mg base (CX1 P w) k tx.a_c tx.d_c ["kind"] (spP cl 1 c)
abbrev Q_1:Prop:=zA P w K mg base CX0 k tx.a_1 tx.d_1 ["kind"] (spP cl 1 c)
abbrev Q_r:Prop:=zA P w K mg base CX0 k tx.a_r tx.d_r ["kinds"] (spP cl 1 c)
abbrev Q_d:Prop:=zA P w K mg base CX0 k tx.a_d tx.d_d ["kind","length"] (spP cl 2 c)
abbrev Q_e:Prop:=zA P w K mg base CX0 k tx.a_e tx.d_e ["kind"] (spP cl 1 c)
abbrev Q_6:Prop:=zA P w K mg base CX0 k tx.a_6 tx.d_6 ["kind","number"] (spP cl 2 c)
abbrev qb:Prop:=zA P w K mg base CX0 k tx.a_16 tx.d_16 ["kind","number"] (spP cl 2 c)
abbrev Q_s:Prop:=zA P w K mg base CX0 k tx.a_s tx.d_s ["kinds","number"] (spP cl 2 c)
abbrev Q_m:Prop:=zA P w K mg base (CX1 P w) k tx.a_m tx.d_m ["kind"] (spP cl 1 c)
abbrev Wg:Prop:=zA P w K mg base CX0 k tx.a_is_kept tx.d_is_kept ["rule","worth"] (spP cl 2 c)
abbrev Q_z:Prop:=zA P w K mg base CX0 k tx.a_z tx.d_z ["worths","rules"] (spP cl 2 c)
abbrev Q_8:Prop:=zA P w K mg base (CX1 P w) k tx.a_8 tx.d_8 ["kind","rules"] (spP cl 2 c)
abbrev Q_k:Prop:=zA P w K mg base (CX1 P w) (k - 1) tx.a_k tx.d_k ["self","kind"] (spI cl tx.B_Sieve 1 c)
abbrev Q_f:Prop:=zA P w K mg base CX0 k tx.a_f tx.d_f ["kind","thing"] (spP cl 2 c)
abbrev Q_x:Prop:=zA P w K mg base CX0 k tx.a_x tx.d_x ["kinds","parts"] (spP cl 2 c)
abbrev Qv:Prop:=zA P w K mg base (CX1 P w) k tx.a_15 tx.d_15 ["kind","thing"] (spP cl 2 c)
abbrev Q_g:Prop:=zA P w K mg base (CX1 P w) k tx.a_g tx.d_g ["kind","worth"] (spP cl 2 c)
abbrev Q_o:Prop:=zA P w K mg base CX0 k tx.a_o tx.d_o ["kind","number"] (spP cl 2 c)
abbrev Q_3:Prop:=zA P w K mg base CX0 k tx.a_3 tx.d_3 ["kind","worth"] (spP cl 2 c)
abbrev qc:Prop:=zA P w K mg base CX0 k tx.a_12 tx.d_12 ["kinds","parts"] (spP cl 2 c)
abbrev Q_l:Prop:=zA P w K mg base (CX1 P w) k tx.a_l tx.d_l ["kind","worth"] (spP cl 2 c)
abbrev Q_p:Prop:=zA P w K mg base (CX1 P w) k tx.a_p tx.d_p ["kind","worth"] (spP cl 2 c)
abbrev Q_i:Prop:=zA P w K mg base (CX1 P w) k tx.a_i tx.d_i ["kind","one","other"] (spP cl 3 c)
abbrev Q_q:Prop:=zA P w K mg base (CX1 P w) k tx.a_q tx.d_q ["kind"] (spP cl 1 c)
abbrev Zf:Prop:=zA P w K mg base CX0 k tx.a_kind_written tx.d_kind_written ["kind"] (spP cl 1 c)
abbrev Q_u:Prop:=zA P w K mg base (CX1 P w) k tx.a_u tx.d_u ["kind"] (spP cl 1 c)
abbrev Zg:Prop:=zA P w K mg base CX0 k tx.a_rule_written tx.d_rule_written ["rule"] (spP cl 1 c)
abbrev Q_v:Prop:=zA P w K mg base (CX1 P w) k tx.a_v tx.d_v ["rule"] (spP cl 1 c)
abbrev ZX (c:Nat->R T):Prop:=W9 P w K mg cl okX c k tx.a__law_told tx.d__law_told "_law_deed"
abbrev Q_w:Prop:=zA P w K mg base CX0 k tx.a_w tx.d_w ["_law_script","_law_k"] (spP cl 2 c)
abbrev Q_j:Prop:=zA P w K mg base CX0 k tx.a_j tx.d_j ["_law_script","_law_k","_law_many"] (spP cl 3 c)
abbrev qL:Str:="law"++".<locals>."++"<lambda>"
abbrev Q_0:Prop:=zA P w K mg base (CX1 P w) k tx.a_0 tx.d_0 ["_law_script"] (UW cl 1 c tx.P_law qL)
end
theorem cZ {X:Cx} {Y:Fx} {cl:Nat->Value} {k j n:Nat} {f:Addr} {fd:FuncData} {ps:List Str} {g:List T->R T} {x:Str} {st:Stmt} {a:Expr} {es:List Expr} {ga:En->R (List T)} {p pos:Pos} (hy:Y.cl=cl) (F:zA X.prog X.w X.K X.mg X.base CX0 j f fd ps (spP cl n g)) (hr:Z1 k X.A) (C:Fn X.K X.mg x st ps f fd) (ha:jX X Y (a :: es) ga) (hj:j<=k:=by omega) (gl:Gl X x:=by rfl) (hd:(x == ("__debug__":Str))=false:=by decide)
  (hs:starEach (a :: es) X.env=(false,eval a X.env) :: starEach es X.env:=by exact zv rfl) (hz:((backTo pos (starEach es X.env)).any fun x=>x.fst)=false:=by exact zH rfl):Snd X Y (.Call (.Name x p) (a :: es) [] pos) (za n g ga):=Uf hy F hr hj gl C.m C.F.kp C.b ha hd hs hz
theorem cX {X:Cx} {Y:Fx} {cl:Nat->Value} {k j n:Nat} {f:Addr} {fd:FuncData} {ps:List Str} {g:List T->R T} {x:Str} {st:Stmt} {a:Expr} {es:List Expr} {ga:En->R (List T)} {p pos:Pos} (hy:Y.cl=cl) (hp:zJ (CX1 X.prog X.w) X Y.E) (F:zA X.prog X.w X.K X.mg X.base (CX1 X.prog X.w) j f fd ps (spP cl n g)) (hr:Z1 k X.A) (C:Fn X.K X.mg x st ps f fd) (ha:jX X Y (a :: es) ga) (hj:j<=k:=by omega) (gl:Gl X x:=by rfl) (hd:(x == ("__debug__":Str))=false:=by decide)
  (hs:starEach (a :: es) X.env=(false,eval a X.env) :: starEach es X.env:=by exact zv rfl) (hz:((backTo pos (starEach es X.env)).any fun x=>x.fst)=false:=by exact zH rfl):Snd X Y (.Call (.Name x p) (a :: es) [] pos) (za n g ga):=Ug hy hp F hr hj gl C.m C.F.kp C.b ha hd hs hz
section
variable {P:Program} {w:World} {K:PySem.W.Frag} {mg:Str->Option Value} {base:Heap} {cl:Nat->Value} {tx:Tx K mg}
set_option hygiene false
local macro_rules | `(tactic| gp_on)=> `(tactic| first
  | (show jX _ _ _ _; first
   | refine uj ?_ ?_
   | exact yD)
  | (show Snd _ _ (.Name ..) _; first
   | exact qD _ (pv _)
   | exact jn (by rfl) c_FARTHEST_BOUND.1 c_FARTHEST_BOUND.2
   | exact jn (by rfl) c_MOST_TOLD.1 c_MOST_TOLD.2
   | exact jn (by rfl) c_DEEPEST_RULE.1 c_DEEPEST_RULE.2
   | exact jn (by rfl) c_DEEPEST.1 c_DEEPEST.2)
  | (show Snd _ _ (.Constant ..) _; first
   | exact qE
   | exact yC
   | exact Vb
   | exact qF)
  | (show Jb _ _ _ _; first
   | refine yP ?_ ?_
   | exact Q2
   | refine Q3 ?_)
  | (show Zi _ _ _ _; first
   | exact yB _ (pv _)
   | refine Snd.b ?_)
  | (show jO _ _ _ _; first
   | refine Q4 ?_
   | refine Q5 ?_ ?_ ?_
   | refine yQ nd (by rfl) (.inl (by rfl)) ?_
   | refine yS ?_
   | refine Q6 (pv _) ?_
   | refine yR nd (by rfl) (.inl (by rfl)) ?_
   | refine Y0 PassesOwn.never (by rfl) ?_ ?_ ?_
   | exact jo (c:=_) xq.o_NoRule PySem.F.excBase_ValueError (by decide) PySem.F.excBase_ValueError hE (by rw [hy]; exact xq.l_NoRule) (by rfl)
   | refine Y0 PassesOwn.leaving (by rfl) ?_ ?_ ?_
   | exact jo (c:=_) xq.o_TooMany PySem.F.excBase_ValueError (by decide) PySem.F.excBase_ValueError hE (by rw [hy]; exact xq.l_TooMany) (by rfl)
   | refine yQ nd (by rfl) (.inr (by rfl)) ?_
   | refine Ys ?_ (ut (by rfl) nd (by rfl) (by rfl) (.inr (by rfl)) (.inr (by rfl)))
   | exact jo (c:=_) xq.o_NoKind PySem.F.excBase_ValueError (by decide) PySem.F.excBase_ValueError hE (by rw [hy]; exact xq.l_NoKind) (by rfl)
   | refine Uc (n:=_) PassesOwn.never ?_ ?_
   | exact jo (c:=_) xq.o_NoWorth PySem.F.excBase_ValueError (by decide) PySem.F.excBase_ValueError hE (by rw [hy]; exact xq.l_NoWorth) (by rfl)
   | refine Q7 (pv _) ?_)
  | (show Snd _ _ (.Call ..) _; first
   | refine qZ (by rfl) tx.z_len ?_
   | refine Q1 hr.hd (by rfl) tx.z_all ?_
   | refine Uv hr.units ?_ ?_
   | refine WF (n:="tuple") (jN _) (by rfl) tx.z_isinstance (by rfl) tx.z_tuple PyProof.Rows.Boot.«tuple» ?_
   | exact Zk (hy ▸ xq.X_k) (hy ▸ xq.t_Ended) (by rfl) tx.z_isinstance (pv _) (by rfl) xq.m_Ended
   | exact Zk (hy ▸ xq.X_k) (hy ▸ xq.t_NoBack) (by rfl) tx.z_isinstance (pv _) (by rfl) xq.m_NoBack
   | exact Zk (hy ▸ xq.X_k) (hy ▸ xq.t_NoKind) (by rfl) tx.z_isinstance (pv _) (by rfl) xq.m_NoKind
   | exact Zk (hy ▸ xq.X_k) (hy ▸ xq.t_NoRule) (by rfl) tx.z_isinstance (pv _) (by rfl) xq.m_NoRule
   | exact Zk (hy ▸ xq.X_k) (hy ▸ xq.t_NoText) (by rfl) tx.z_isinstance (pv _) (by rfl) xq.m_NoText
   | exact Zk (hy ▸ xq.X_k) (hy ▸ xq.t_NoWorth) (by rfl) tx.z_isinstance (pv _) (by rfl) xq.m_NoWorth
   | exact Zk (hy ▸ xq.X_k) (hy ▸ xq.t_TooMany) (by rfl) tx.z_isinstance (pv _) (by rfl) xq.m_TooMany
   | refine Uu hr.units ?_ ?_
   | exact Uj (n:="ValueError") (hy ▸ xq.X_k) (hy ▸ xq.t_ValueError) (by rfl) tx.z_isinstance (pv _) (by rfl) tx.z_ValueError PyProof.Rows.Boot.«ValueError»
   | refine WF (n:="int") (U8 _) (by rfl) tx.z_isinstance (by rfl) tx.z_int PyProof.Rows.Boot.«int» ?_
   | refine WF (n:="bool") (WD _) (by rfl) tx.z_isinstance (by rfl) tx.z_bool PyProof.Rows.Boot.«bool» ?_
   | refine WF (n:="str") (U9 _) (by rfl) tx.z_isinstance (by rfl) tx.z_str PyProof.Rows.Boot.«str» ?_
   | refine Yr (n:="list") (m:="tuple") (WE _) (jN _) (by rfl) tx.z_isinstance (by rfl) tx.z_list PyProof.Rows.Boot.«list» (by rfl) tx.z_tuple PyProof.Rows.Boot.«tuple» ?_
   | refine Y7 hr.hd (by rfl) tx.z_len (by rfl) tx.z_set ?_
   | refine Qe hr.hd (by rfl) tx.z_sum ?_
   | refine Yp hr.hd (by rfl) tx.z_tuple (by rfl) tx.z_reversed ?_
   | refine Yv (by rfl) (by rfl) tx.z_max ?_ ?_
   | refine Yx hr.hd (by rfl) tx.z_min ?_
   | refine cZ hy O_1 hr tx.C_1 ?_
   | refine cZ hy O_b hr tx.C_b ?_
   | refine cZ hy O_a hr tx.C_a ?_
   | refine cZ hy O_3 hr tx.C_3 ?_
   | refine cZ hy O_h hr tx.C_h ?_
   | refine cZ hy O_d hr tx.C_d ?_
   | refine cX hy (hE ▸ ZY) O_c hr tx.C_c ?_
   | refine cX hy (hE ▸ ZY) O_g hr tx.C_g ?_
   | refine cX hy (hE ▸ jU) (O_8 _ KB) hr tx.C_8 ?_
   | refine cZ hy O_e hr tx.C_e ?_
   | refine cZ hy O_6 hr tx.C_6 ?_
   | refine cZ hy (O_j _ KB) hr tx.C_j ?_
   | refine cX hy (hE ▸ jU) (O_i _ KB) hr tx.C_i ?_
   | refine cZ hy O_10 hr tx.C_10 ?_
   | refine cZ hy O_n hr tx.C_n ?_
   | refine cX hy (hE ▸ ZY) O_7 hr tx.C_7 ?_
   | refine cZ hy O_11 hr tx.C_11 ?_
   | refine cZ hy O_9 hr tx.C_9 ?_
   | refine cZ hy O_s hr tx.C_s ?_
   | refine cZ (hy'.trans hy) O_6 hr tx.C_6 ?_
   | refine cX hy (hE ▸ ZY) O_m hr tx.C_m ?_
   | refine cZ hy O_x hr tx.C_x ?_
   | refine cZ hy O_12 hr tx.C_12 ?_
   | refine cZ hy O_o hr tx.C_o ?_
   | refine cX hy (hE ▸ jU) (O_l _ KB) hr tx.C_l ?_
   | refine cX hy (hE ▸ jU) (O_p _ KB) hr tx.C_p ?_
   | refine YE hy (hE ▸ jU) (O_k _ KB) hr (by omega) (by rfl) tx.C_k.m tx.C_k.M tx.C_k.b ?_
   | refine cZ hy O_5 hr tx.C_5 ?_
   | refine cZ (hy'.trans hy) O_14 hr tx.C_14 ?_
   | refine cZ hy O_t hr tx.C_t ?_
   | refine cZ hy O_y hr tx.C_y ?_
   | refine cZ (hy'.trans hy) O_9 hr tx.C_9 ?_
   | refine cZ hy O_4 hr tx.C_4 ?_
   | refine cZ hy O_r hr tx.C_r ?_
   | refine cZ (hy'.trans hy) O_r hr tx.C_r ?_
   | refine cZ hy O_16 hr tx.C_16 ?_
   | refine cX hy (hE ▸ ZY) O_13 hr tx.C_13 ?_
   | refine cZ hy O_z hr tx.C_z ?_
   | refine cX hy (hE ▸ ZY) O_8 hr tx.C_8 ?_
   | refine cZ (hy'.trans hy) O_f hr tx.C_f ?_
   | refine cZ hy O_f hr tx.C_f ?_
   | refine cX hy (hE ▸ ZY) O_15 hr tx.C_15 ?_
   | refine cZ hy O_kind_written hr tx.C_kind_written ?_
   | refine cZ hy O_rule_written hr tx.C_rule_written ?_
   | refine cZ hy O_w hr tx.C_w ?_
   | refine cX hy (hE ▸ jU) (O_q _ KB) hr tx.C_q ?_
   | refine cX hy (hE ▸ jU) (O_u _ KB) hr tx.C_u ?_
   | refine cX hy (hE ▸ jU) (O_v _ KB) hr tx.C_v ?_
   | refine cX hy (hE ▸ ZY) (O_l _ KB) hr tx.C_l ?_
   | refine cX hy (hE ▸ ZY) (O_q _ KB) hr tx.C_q ?_
   | refine cX hy (hE ▸ ZY) (O_8 _ KB) hr tx.C_8 ?_)
  | (show Jt _ _ _ _; first
   | refine wG yF (uk hr.units) ?_ ?_ (ZM _)
   | refine qW ?_
   | refine wG qP (yG hr.units) ?_ ?_ (ZM _)
   | refine wG qQ yI ?_ ?_ (ZM _)
   | refine wI jk jk Zs Zs ?_ ?_ ?_
   | refine wG jk Zs ?_ ?_ (ZM _)
   | refine wI jk yH Zs ul ?_ ?_ ?_
   | refine wG yH ul ?_ ?_ (ZM _)
   | refine qX ?_
   | refine WB.t ?_)
  | (show Snd _ _ (.Subscript ..) _; first
   | refine Ve ?_ ?_
   | refine Qi (pv _) ?_)
  | (show Snd _ _ (.BinOp ..) _; first
   | refine qJ ?_ ?_
   | refine qN ?_ ?_
   | refine qK ?_ ?_
   | refine qM ?_ ?_
   | refine yE ?_ ?_)
  | (show Snd _ _ (.BoolOp ..) _; first
   | refine qT ?_ ?_
   | refine qS ?_)
  | (show Snd _ _ (.Tuple ..) _; first
   | refine qG ?_)
  | (show Snd _ _ (.List ..) _; first
   | refine qH ?_)
  | (show Snd _ _ (.Compare ..) _; first
   | refine U1 yF (uk hr.units) ?_ ?_ (ZM _)
   | refine U5 jk jk Zs Zs ?_ ?_ ?_
   | refine WA jk jk jk Zs Zs Zs ?_ ?_ ?_ ?_
   | refine U1 yJ (yK hr.units) ?_ ?_ (by rfl)
   | refine U1 yL yM ?_ ?_ (ZM _))
  | (show WB _ _ _ _; first
   | refine Vc ?_ ?_
   | refine qV ?_)
  | (show wb _ _ _ _ _; first
   | refine yX (by rfl) tx.z_range ?_ ?_
   | refine yW (by rfl) tx.z_range ?_
   | refine Qc (by rfl) tx.z_zip ?_ ?_
   | refine Qh (by rfl) tx.z_reversed ?_
   | refine Qa ?_)
  | (show JX _ _ _ _; first
   | exact Y3)
  | (show Snd _ _ (.UnaryOp ..) _; first
   | refine qO ?_
   | refine qU ?_)
  | (show yY _ _ _ _; first
   | exact yZ nd (by rfl) (.inl (by rfl))
   | exact ut (by rfl) nd (by rfl) (by rfl) (.inl (by rfl)) (.inl (by rfl)))
  | (show Snd _ _ (.ListComp ..) _; first
   | refine UK (YD (z9 s_z) (by rfl) (by decide+kernel)) (by rfl) ?_)
  | (show Snd _ _ (.IfExp ..) _; first
   | refine Vd ?_ ?_ ?_)
  )
theorem Vz (xq:Tq K mg base cl):Q_2 P w base cl tx 1 (fun c=>zl (b_2  (enC 2 c))):=by
 refine UI tx.C_2.F vb (by decide) (fun cdv A outer s H Y hy hr=> ?_) (fun c=>rfl)
 have nd:=vb.nd
 repeat' gp_on
theorem VA:Q_b P w base cl tx 1 (fun ts=>zl (b_b  (en0 1 ts))):=by
 refine zI tx.C_b.F vc rfl (fun cdv A outer s H E Y hy hr=> ?_) (fun ts h=>rfl)
 have nd:=vc.nd
 repeat' gp_on
theorem Qw {c_b:List T->R T} (O_b:Q_b P w base cl tx 1 c_b):Qr P w base cl tx 2 (fun ts=>zl (QT c_b (en0 1 ts))):=by
 obtain ⟨u_FARTHEST_BOUND,c_FARTHEST_BOUND⟩:=tx.c_FARTHEST_BOUND
 refine zI tx.C_10.F YM rfl (fun cdv A outer s H E Y hy hr=> ?_) (fun ts h=>rfl)
 have nd:=YM.nd
 repeat' gp_on
theorem VB:Q_n P w base cl tx 1 (fun ts=>zl (b_n  (en0 1 ts))):=by
 refine zI tx.C_n.F ve rfl (fun cdv A outer s H E Y hy hr=> ?_) (fun ts h=>rfl)
 have nd:=ve.nd
 repeat' gp_on
 refine ZE (Zc ["sign"] N_n (z9 s_n) (by rfl) (by rfl) (by decide+kernel) (by rfl) ?_ (fun _ _ _ _ _ _=>zG (show List.Nodup (["sign"]:List Str) by decide+kernel) (by rfl) (.inl (by rfl)) (.inr (by rfl))) (zP 0) (zQ 0) (fun Y' hy' _ _ _ _ _ _=> ?_) (fun Y' hy' _ _ _ _ _ _ _ hp' => ?_))
 repeat' gp_on
theorem VC {j:Nat} (hj:2<=j) {c_n c_h c_10:List T->R T} (O_n:Q_n P w base cl tx 1 c_n) (O_h:Q_h P w base cl tx j c_h) (O_10:Qr P w base cl tx 2 c_10):Q_h P w base cl tx (j+1) (fun ts=>zl (b_h c_n c_h c_10 (en0 2 ts))):=by
 refine zI tx.C_h.F vf rfl (fun cdv A outer s H E Y hy hr=> ?_) (fun ts h=>rfl)
 have nd:=vf.nd
 repeat' gp_on
theorem VD {c_h:List T->R T} (O_h:Q_h P w base cl tx 10 c_h):Q_5 P w base cl tx 11 (fun ts=>zl (b_5 c_h (en0 1 ts))):=by
 obtain ⟨u_DEEPEST_RULE,c_DEEPEST_RULE⟩:=tx.c_DEEPEST_RULE
 refine zI tx.C_5.F vg rfl (fun cdv A outer s H E Y hy hr=> ?_) (fun ts h=>rfl)
 have nd:=vg.nd
 repeat' gp_on
theorem VE {c_5:List T->R T} (xq:Tq K mg base cl) (O_5:Q_5 P w base cl tx 11 c_5):Q_7 P w base cl tx 12 (fun ts=>zl (b_7 c_5 (en0 1 ts))):=by
 refine Z0 tx.C_7.F vh rfl (fun cdv A outer s H E Y hy hE hr=> ?_) (fun ts h=>rfl)
 have nd:=vh.nd
 repeat' gp_on
theorem Qx {c_7:List T->R T} (xq:Tq K mg base cl) (O_7:Q_7 P w base cl tx 12 c_7):Qs P w base cl tx 13 (fun ts=>zl (QV c_7 (en0 2 ts))):=by
 refine Z0 tx.C_13.F YN rfl (fun cdv A outer s H E Y hy hE hr=> ?_) (fun ts h=>rfl)
 have nd:=YN.nd
 repeat' gp_on
theorem Qy {c_b:List T->R T} (O_b:Q_b P w base cl tx 1 c_b):Qt P w base cl tx 2 (fun ts=>zl (QX c_b (en0 4 ts))):=by
 refine zI tx.C_11.F YO rfl (fun cdv A outer s H E Y hy hr=> ?_) (fun ts h=>rfl)
 have nd:=YO.nd
 repeat' gp_on
theorem VF:Q_a P w base cl tx 1 (fun ts=>zl (b_a  (en0 3 ts))):=by
 refine zI tx.C_a.F vk rfl (fun cdv A outer s H E Y hy hr=> ?_) (fun ts h=>rfl)
 have nd:=vk.nd
 repeat' gp_on
theorem Qz {c_b c_a c_n:List T->R T} (O_b:Q_b P w base cl tx 1 c_b) (O_a:Q_a P w base cl tx 1 c_a) (O_n:Q_n P w base cl tx 1 c_n):Qu P w base cl tx 2 (fun ts=>zl (QZ c_b c_a c_n (en0 1 ts))):=by
 refine zI tx.C_14.F YQ rfl (fun cdv A outer s H E Y hy hr=> ?_) (fun ts h=>rfl)
 have nd:=YQ.nd
 repeat' gp_on
theorem VG {c_a c_14:List T->R T} (O_a:Q_a P w base cl tx 1 c_a) (O_14:Qu P w base cl tx 2 c_14):Q_t P w base cl tx 3 (fun ts=>zl (b_t c_a c_14 (en0 2 ts))):=by
 refine zI tx.C_t.F Qo rfl (fun cdv A outer s H E Y hy hr=> ?_) (fun ts h=>rfl)
 have nd:=Qo.nd
 repeat' gp_on
 refine ZE (Zc ["part"] N_t (z9 s_t) (by rfl) (by rfl) (by decide+kernel) (by rfl) ?_ (fun _ _ _ _ _ _=>zG (show List.Nodup (["part"]:List Str) by decide+kernel) (by rfl) (.inl (by rfl)) (.inr (by rfl))) (zP 0) (zQ 0) (fun Y' hy' _ _ _ _ _ _=> ?_) (fun Y' hy' _ _ _ _ _ _ _ hp' => ?_))
 repeat' gp_on
 refine uu (i:=1) (Zc ["choice"] N_t (z9 s_t) (by rfl) (by rfl) (by decide+kernel) (by rfl) ?_ (fun _ _ _ _ _ _=>zG (show List.Nodup (["choice"]:List Str) by decide+kernel) (by rfl) (.inl (by rfl)) (.inr (by rfl))) (zP 0) (zQ 0) (fun Y' hy' _ _ _ _ _ _=> ?_) (fun Y' hy' _ _ _ _ _ _ _ hp' => ?_)) Qo.nd (by rfl) (.inl (by rfl)) (by rfl)
 repeat' gp_on
theorem VH {j:Nat} (hj:3<=j) {c_11 c_9 c_t c_y:List T->R T} (O_11:Qt P w base cl tx 2 c_11) (O_9:Q_9 P w base cl tx j c_9) (O_t:Q_t P w base cl tx 3 c_t) (O_y:Q_y P w base cl tx j c_y):Q_9 P w base cl tx (j+1) (fun ts=>zl (b_9 c_11 c_9 c_t c_y (en0 2 ts))):=by
 refine zI tx.C_9.F vn rfl (fun cdv A outer s H E Y hy hr=> ?_) (fun ts h=>rfl)
 have nd:=vn.nd
 repeat' gp_on
theorem VI {j:Nat} (hj:3<=j) {c_a c_9:List T->R T} (O_a:Q_a P w base cl tx 1 c_a) (O_9:Q_9 P w base cl tx j c_9):Q_y P w base cl tx (j+1) (fun ts=>zl (b_y c_a c_9 (en0 2 ts))):=by
 refine zI tx.C_y.F vo rfl (fun cdv A outer s H E Y hy hr=> ?_) (fun ts h=>rfl)
 have nd:=vo.nd
 repeat' gp_on
 refine ZE (Zc ["part","levels"] N_y (z9 s_y) (by rfl) (by rfl) (by decide+kernel) (by rfl) ?_ (fun _ _ _ _ _ _=>zG (show List.Nodup (["part","levels"]:List Str) by decide+kernel) (by rfl) (.inl (by rfl)) (.inr (by rfl))) (zP 0) (zQ 0) (fun Y' hy' _ _ _ _ _ _=> ?_) (fun Y' hy' _ _ _ _ _ _ _ hp' => ?_))
 repeat' gp_on
theorem VJ {c_9:List T->R T} (O_9:Q_9 P w base cl tx 23 c_9):Q_4 P w base cl tx 24 (fun ts=>zl (b_4 c_9 (en0 1 ts))):=by
 obtain ⟨u_DEEPEST,c_DEEPEST⟩:=tx.c_DEEPEST
 refine zI tx.C_4.F vp rfl (fun cdv A outer s H E Y hy hr=> ?_) (fun ts h=>rfl)
 have nd:=vp.nd
 repeat' gp_on
theorem VL {c_4:List T->R T} (xq:Tq K mg base cl) (O_4:Q_4 P w base cl tx 24 c_4):Q_c P w base cl tx 25 (fun ts=>zl (b_c c_4 (en0 1 ts))):=by
 refine Z0 tx.C_c.F vq rfl (fun cdv A outer s H E Y hy hE hr=> ?_) (fun ts h=>rfl)
 have nd:=vq.nd
 repeat' gp_on
theorem VM {j:Nat} (hj:0<=j) {c_r c_d:List T->R T} (O_r:Q_r P w base cl tx j c_r) (O_d:Q_d P w base cl tx j c_d):Q_1 P w base cl tx (j+1) (fun ts=>zl (b_1 c_r c_d (en0 1 ts))):=by
 refine zI tx.C_1.F vt rfl (fun cdv A outer s H E Y hy hr=> ?_) (fun ts h=>rfl)
 have nd:=vt.nd
 repeat' gp_on
theorem VN {j:Nat} (hj:0<=j) {c_1:List T->R T} (O_1:Q_1 P w base cl tx j c_1):Q_r P w base cl tx (j+1) (fun ts=>zl (b_r c_1 (en0 3 ts))):=by
 refine zI tx.C_r.F vu rfl (fun cdv A outer s H E Y hy hr=> ?_) (fun ts h=>rfl)
 have nd:=vu.nd
 repeat' gp_on
theorem VO {j:Nat} (hj:0<=j) {c_r:List T->R T} (O_r:Q_r P w base cl tx j c_r):Q_d P w base cl tx (j+1) (fun ts=>zl (b_d c_r (en0 2 ts))):=by
 refine zI tx.C_d.F vv rfl (fun cdv A outer s H E Y hy hr=> ?_) (fun ts h=>rfl)
 have nd:=vv.nd
 repeat' gp_on
 refine ZE (Zc ["each","kind"] N_d (z9 s_d) (by rfl) (by rfl) (by decide+kernel) (by rfl) ?_ (fun _ _ _ _ _ _=>zG (show List.Nodup (["each","kind"]:List Str) by decide+kernel) (by rfl) (.inl (by rfl)) (.inr (by rfl))) (zP 0) (zQ 0) (fun Y' hy' _ _ _ _ _ _=> ?_) (fun Y' hy' _ _ _ _ _ _ _ hp' => ?_))
 repeat' gp_on
theorem VP:Q_e P w base cl tx 1 (fun ts=>zl (b_e  (en0 1 ts))):=by
 refine zI tx.C_e.F vw rfl (fun cdv A outer s H E Y hy hr=> ?_) (fun ts h=>rfl)
 have nd:=vw.nd
 repeat' gp_on
 refine ZE (Zc ["choice"] N_e (z9 s_e) (by rfl) (by rfl) (by decide+kernel) (by rfl) ?_ (fun _ _ _ _ _ _=>zG (show List.Nodup (["choice"]:List Str) by decide+kernel) (by rfl) (.inl (by rfl)) (.inr (by rfl))) (zP 0) (zQ 0) (fun Y' hy' _ _ _ _ _ _=> ?_) (fun Y' hy' _ _ _ _ _ _ _ hp' => ?_))
 repeat' gp_on
theorem VQ {j:Nat} (hj:20<=j) {c_e c_16 c_s:List T->R T} (O_e:Q_e P w base cl tx 1 c_e) (O_16:qb P w base cl tx j c_16) (O_s:Q_s P w base cl tx j c_s):Q_6 P w base cl tx (j+1) (fun ts=>zl (b_6 c_e c_16 c_s (en0 2 ts))):=by
 refine zI tx.C_6.F vx rfl (fun cdv A outer s H E Y hy hr=> ?_) (fun ts h=>rfl)
 have nd:=vx.nd
 repeat' gp_on
theorem QA {j:Nat} (hj:20<=j) {c_d c_s:List T->R T} (O_d:Q_d P w base cl tx 20 c_d) (O_s:Q_s P w base cl tx j c_s):qb P w base cl tx (j+1) (fun ts=>zl (v6 c_d c_s (en0 3 ts))):=by
 refine zI tx.C_16.F YR rfl (fun cdv A outer s H E Y hy hr=> ?_) (fun ts h=>rfl)
 have nd:=YR.nd
 repeat' gp_on
theorem VR {j:Nat} (hj:20<=j) {c_1 c_6:List T->R T} (O_1:Q_1 P w base cl tx 20 c_1) (O_6:Q_6 P w base cl tx j c_6):Q_s P w base cl tx (j+1) (fun ts=>zl (b_s c_1 c_6 (en0 6 ts))):=by
 refine zI tx.C_s.F vz rfl (fun cdv A outer s H E Y hy hr=> ?_) (fun ts h=>rfl)
 have nd:=vz.nd
 repeat' gp_on
theorem VS {c_c c_1 c_6:List T->R T} (xq:Tq K mg base cl) (O_c:Q_c P w base cl tx 25 c_c) (O_1:Q_1 P w base cl tx 20 c_1) (O_6:Q_6 P w base cl tx 40 c_6):Q_m P w base cl tx 41 (fun ts=>zl (b_m c_c c_1 c_6 (en0 2 ts))):=by
 obtain ⟨u_MOST_TOLD,c_MOST_TOLD⟩:=tx.c_MOST_TOLD
 refine Z0 tx.C_m.F vA rfl (fun cdv A outer s H E Y hy hE hr=> ?_) (fun ts h=>rfl)
 have nd:=vA.nd
 repeat' gp_on
 refine ZE (Zc ["number","kind"] N_m (z9 s_m) (by rfl) (by rfl) (by decide+kernel) (by rfl) ?_ (fun _ _ _ _ _ _=>zG (show List.Nodup (["number","kind"]:List Str) by decide+kernel) (by rfl) (.inl (by rfl)) (.inr (by rfl))) (zP 0) (zQ 0) (fun Y' hy' _ _ _ _ _ _=> ?_) (fun Y' hy' _ _ _ _ _ _ _ hp' => ?_))
 repeat' gp_on
theorem VT:Q_z P w base cl tx 2 (fun ts=>zl (b_z  (en0 2 ts))):=by
 refine zI tx.C_z.F vC rfl (fun cdv A outer s H E Y hy hr=> ?_) (fun ts h=>rfl)
 have nd:=vC.nd
 repeat' gp_on
theorem VU {c_m c_13 c_z:List T->R T} (O_m:Q_m P w base cl tx 41 c_m) (O_13:Qs P w base cl tx 13 c_13) (O_z:Q_z P w base cl tx 2 c_z):Q_8 P w base cl tx 42 (fun ts=>zl (b_8 c_m c_13 c_z (en0 4 ts))):=by
 refine Z0 tx.C_8.F Qp rfl (fun cdv A outer s H E Y hy hE hr=> ?_) (fun ts h=>rfl)
 have nd:=Qp.nd
 repeat' gp_on
 refine uu (i:=3) (Zc ["count","worths"] N_8 (z9 s_8) (by rfl) (by rfl) (by decide+kernel) (by rfl) ?_ (fun _ _ _ _ _ _=>zG (show List.Nodup (["count","worths"]:List Str) by decide+kernel) (by rfl) (.inl (by rfl)) (.inr (by rfl))) (zP 0) (zQ 0) (fun Y' hy' _ _ _ _ _ _=> ?_) (fun Y' hy' _ _ _ _ _ _ _ hp' => ?_)) Qp.nd (by rfl) (.inl (by rfl)) (by rfl)
 repeat' gp_on
theorem VV {c_m:List T->R T} (O_m:Q_m P w base cl tx 41 c_m):Q_k P w base cl tx 43 (fun ts=>exR (zS (z0 (za 1 c_m (z0 (vE 1) (zb))) (zb)) (.un :: ts.map Sl.vl))):=by
 refine UL (k:=41) (fv:=zS (z0 (za 1 c_m (z0 (vE 1) (zb))) (zb))) tx.C_k.F vD tx.C_k.c tx.C_k.n (by rfl) (fun cdv A outer s H E Y hy hE hr=> ?_) (.inl (by rfl)) (.inl (by rfl)) (by decide) (by decide) (by decide) (by decide) (fun _=>by rfl)
 have nd:=vD.nd
 repeat' gp_on
theorem VW {j:Nat} (hj:1<=j) {c_b c_a c_e c_x:List T->R T} (O_b:Q_b P w base cl tx 1 c_b) (O_a:Q_a P w base cl tx 1 c_a) (O_e:Q_e P w base cl tx 1 c_e) (O_x:Q_x P w base cl tx j c_x):Q_f P w base cl tx (j+1) (fun ts=>zl (b_f c_b c_a c_e c_x (en0 2 ts))):=by
 refine zI tx.C_f.F vF rfl (fun cdv A outer s H E Y hy hr=> ?_) (fun ts h=>rfl)
 have nd:=vF.nd
 repeat' gp_on
theorem VX {j:Nat} (hj:1<=j) {c_f:List T->R T} (O_f:Q_f P w base cl tx j c_f):Q_x P w base cl tx (j+1) (fun ts=>zl (b_x c_f (en0 2 ts))):=by
 refine zI tx.C_x.F vG rfl (fun cdv A outer s H E Y hy hr=> ?_) (fun ts h=>rfl)
 have nd:=vG.nd
 repeat' gp_on
 refine ZE (Zc ["kind","part"] N_x (z9 s_x) (by rfl) (by rfl) (by decide+kernel) (by rfl) ?_ (fun _ _ _ _ _ _=>ub (by rfl) (ZL (zG (show List.Nodup (["kind","part"]:List Str) by decide+kernel) (by rfl) (.inl (by rfl)) (.inr (by rfl))) (ZL (zG (show List.Nodup (["kind","part"]:List Str) by decide+kernel) (by rfl) (.inl (by rfl)) (.inr (by rfl))) wj))) (WJ _ 0 1) (WL 0 1) (fun Y' hy' _ _ _ _ _ _=> ?_) (fun Y' hy' _ _ _ _ _ _ _ hp' => ?_))
 repeat' gp_on
theorem QB {c_c c_f:List T->R T} (O_c:Q_c P w base cl tx 25 c_c) (O_f:Q_f P w base cl tx 21 c_f):Qv P w base cl tx 26 (fun ts=>zl (v7 c_c c_f (en0 2 ts))):=by
 refine Z0 tx.C_15.F YS rfl (fun cdv A outer s H E Y hy hE hr=> ?_) (fun ts h=>rfl)
 have nd:=YS.nd
 repeat' gp_on
theorem VY {c_15:List T->R T} (xq:Tq K mg base cl) (O_15:Qv P w base cl tx 26 c_15):Q_g P w base cl tx 27 (fun ts=>zl (b_g c_15 (en0 2 ts))):=by
 refine Z0 tx.C_g.F vI rfl (fun cdv A outer s H E Y hy hE hr=> ?_) (fun ts h=>rfl)
 have nd:=vI.nd
 repeat' gp_on
theorem VZ {c_1 c_6:List T->R T} (O_1:Q_1 P w base cl tx 20 c_1) (O_6:Q_6 P w base cl tx 40 c_6):Q_o P w base cl tx 41 (fun ts=>zl (b_o c_1 c_6 (en0 2 ts))):=by
 refine zI tx.C_o.F vJ rfl (fun cdv A outer s H E Y hy hr=> ?_) (fun ts h=>rfl)
 have nd:=vJ.nd
 repeat' gp_on
theorem x0 {j:Nat} (hj:20<=j) {c_e c_d c_12:List T->R T} (O_e:Q_e P w base cl tx 1 c_e) (O_d:Q_d P w base cl tx 20 c_d) (O_12:qc P w base cl tx j c_12):Q_3 P w base cl tx (j+1) (fun ts=>zl (b_3 c_e c_d c_12 (en0 3 ts))):=by
 refine zI tx.C_3.F vK rfl (fun cdv A outer s H E Y hy hr=> ?_) (fun ts h=>rfl)
 have nd:=vK.nd
 repeat' gp_on
theorem QC {j:Nat} (hj:20<=j) {c_1 c_3:List T->R T} (O_1:Q_1 P w base cl tx 20 c_1) (O_3:Q_3 P w base cl tx j c_3):qc P w base cl tx (j+1) (fun ts=>zl (v9 c_1 c_3 (en0 5 ts))):=by
 refine zI tx.C_12.F YT rfl (fun cdv A outer s H E Y hy hr=> ?_) (fun ts h=>rfl)
 have nd:=YT.nd
 repeat' gp_on
theorem x3 {c_g c_3 c_o:List T->R T} (O_g:Q_g P w base cl tx 27 c_g) (O_3:Q_3 P w base cl tx 40 c_3) (O_o:Q_o P w base cl tx 41 c_o):Q_l P w base cl tx 42 (fun ts=>zl (b_l c_g c_3 c_o (en0 2 ts))):=by
 refine Z0 tx.C_l.F vM rfl (fun cdv A outer s H E Y hy hE hr=> ?_) (fun ts h=>rfl)
 have nd:=vM.nd
 repeat' gp_on
theorem x4 {c_g c_3 c_o:List T->R T} (O_g:Q_g P w base cl tx 27 c_g) (O_3:Q_3 P w base cl tx 40 c_3) (O_o:Q_o P w base cl tx 41 c_o):Q_p P w base cl tx 42 (fun ts=>zl (b_p c_g c_3 c_o (en0 2 ts))):=by
 refine Z0 tx.C_p.F vN rfl (fun cdv A outer s H E Y hy hE hr=> ?_) (fun ts h=>rfl)
 have nd:=vN.nd
 repeat' gp_on
theorem x5 {c_g c_6 c_3:List T->R T} (xq:Tq K mg base cl) (O_g:Q_g P w base cl tx 27 c_g) (O_6:Q_6 P w base cl tx 40 c_6) (O_3:Q_3 P w base cl tx 40 c_3):Q_i P w base cl tx 41 (fun ts=>zl (b_i c_g c_6 c_3 (en0 5 ts))):=by
 obtain ⟨u_MOST_TOLD,c_MOST_TOLD⟩:=tx.c_MOST_TOLD
 refine Z0 tx.C_i.F vO rfl (fun cdv A outer s H E Y hy hE hr=> ?_) (fun ts h=>rfl)
 have nd:=vO.nd
 repeat' gp_on
 refine ZE (Zc ["number","kind"] N_i (z9 s_i) (by rfl) (by rfl) (by decide+kernel) (by rfl) ?_ (fun _ _ _ _ _ _=>zG (show List.Nodup (["number","kind"]:List Str) by decide+kernel) (by rfl) (.inl (by rfl)) (.inr (by rfl))) (zP 0) (zQ 0) (fun Y' hy' _ _ _ _ _ _=> ?_) (fun Y' hy' _ _ _ _ _ _ _ hp' => ?_))
 repeat' gp_on
theorem x6 {c_c c_1 c_6:List T->R T} (O_c:Q_c P w base cl tx 25 c_c) (O_1:Q_1 P w base cl tx 20 c_1) (O_6:Q_6 P w base cl tx 40 c_6):Q_q P w base cl tx 41 (fun ts=>zl (b_q c_c c_1 c_6 (en0 1 ts))):=by
 refine Z0 tx.C_q.F vP rfl (fun cdv A outer s H E Y hy hE hr=> ?_) (fun ts h=>rfl)
 have nd:=vP.nd
 repeat' gp_on
theorem x8 {c_c c_kind_written:List T->R T} (O_c:Q_c P w base cl tx 25 c_c) (O_kind_written:Zf P w base cl tx 1 c_kind_written):Q_u P w base cl tx 26 (fun ts=>zl (b_u c_c c_kind_written (en0 1 ts))):=by
 refine Z0 tx.C_u.F vQ rfl (fun cdv A outer s H E Y hy hE hr=> ?_) (fun ts h=>rfl)
 have nd:=vQ.nd
 repeat' gp_on
theorem x9 {c_7 c_rule_written:List T->R T} (O_7:Q_7 P w base cl tx 12 c_7) (O_rule_written:Zg P w base cl tx 1 c_rule_written):Q_v P w base cl tx 13 (fun ts=>zl (b_v c_7 c_rule_written (en0 1 ts))):=by
 refine Z0 tx.C_v.F vR rfl (fun cdv A outer s H E Y hy hE hr=> ?_) (fun ts h=>rfl)
 have nd:=vR.nd
 repeat' gp_on
theorem xa:Q_w P w base cl tx 1 (fun ts=>zl (b_w  (en0 2 ts))):=by
 refine zI tx.C_w.F vS rfl (fun cdv A outer s H E Y hy hr=> ?_) (fun ts h=>rfl)
 have nd:=vS.nd
 repeat' gp_on
theorem xb {c_w:List T->R T} (O_w:Q_w P w base cl tx 1 c_w):Q_j P w base cl tx 2 (fun ts=>zl (b_j c_w (en0 4 ts))):=by
 refine zI tx.C_j.F vT rfl (fun cdv A outer s H E Y hy hr=> ?_) (fun ts h=>rfl)
 have nd:=vT.nd
 repeat' gp_on
theorem xf {c_j c_u c_v c_l c_p c_i c_q c_8 c_k:List T->R T} {c_2:Nat->R T} (KB:K.In base) (hBT:base.BuiltinsAt mg tx.P_law) (O_j:∀ base,K.In base->Q_j P w base cl tx 2 c_j) (O_u:∀ base,K.In base->Q_u P w base cl tx 26 c_u) (O_v:∀ base,K.In base->Q_v P w base cl tx 13 c_v) (O_l:∀ base,K.In base->Q_l P w base cl tx 42 c_l) (O_p:∀ base,K.In base->Q_p P w base cl tx 42 c_p) (O_i:∀ base,K.In base->Q_i P w base cl tx 41 c_i) (O_q:∀ base,K.In base->Q_q P w base cl tx 41 c_q) (O_8:∀ base,K.In base->Q_8 P w base cl tx 42 c_8) (O_k:∀ base,K.In base->Q_k P w base cl tx 43 c_k) (O__law_told:ZX P w cl tx 43 c_2):Q_0 P w base cl tx 46 (fun ts=>zl (b_0 c_j c_2 c_u c_v c_l c_p c_i c_q c_8 c_k (en0 11 ts))):=by
 refine YC tx.C_0.F tx.e_law vU rfl (fun A outer s H E Y hy hE hT hr=> ?_) (fun ts h=>rfl)
 have nd:=vU.nd
 repeat' gp_on
 refine zN hy ⟨rfl,tx.h_law,hBT,rfl⟩ hT (fun _=>rfl) O__law_told hr (by omega) (by rfl) tx.C__law_told.m tx.C__law_told.F.kp tx.C__law_told.b ["_law_thing","_law_worth"] N_0 (z9 s_0) (by rfl) (by rfl) (by decide+kernel) (by rfl) (by rfl) (fun base A outer s H E f c' clos Y' KB hy hE hr=> ?_)
 repeat' gp_on
 refine zN hy ⟨rfl,tx.h_law,hBT,rfl⟩ hT (fun _=>rfl) O__law_told hr (by omega) (by rfl) tx.C__law_told.m tx.C__law_told.F.kp tx.C__law_told.b ["_law_thing","_law_worth"] N_0 (z9 s_0) (by rfl) (by rfl) (by decide+kernel) (by rfl) (by rfl) (fun base A outer s H E f c' clos Y' KB hy hE hr=> ?_)
 repeat' gp_on
 refine zN hy ⟨rfl,tx.h_law,hBT,rfl⟩ hT (fun _=>rfl) O__law_told hr (by omega) (by rfl) tx.C__law_told.m tx.C__law_told.F.kp tx.C__law_told.b ["_law_thing","_law_worth"] N_0 (z9 s_0) (by rfl) (by rfl) (by decide+kernel) (by rfl) (by rfl) (fun base A outer s H E f c' clos Y' KB hy hE hr=> ?_)
 repeat' gp_on
 refine zN hy ⟨rfl,tx.h_law,hBT,rfl⟩ hT (fun _=>rfl) O__law_told hr (by omega) (by rfl) tx.C__law_told.m tx.C__law_told.F.kp tx.C__law_told.b ["_law_thing"] N_0 (z9 s_0) (by rfl) (by rfl) (by decide+kernel) (by rfl) (by rfl) (fun base A outer s H E f c' clos Y' KB hy hE hr=> ?_)
 repeat' gp_on
 refine zN hy ⟨rfl,tx.h_law,hBT,rfl⟩ hT (fun _=>rfl) O__law_told hr (by omega) (by rfl) tx.C__law_told.m tx.C__law_told.F.kp tx.C__law_told.b ["_law_thing"] N_0 (z9 s_0) (by rfl) (by rfl) (by decide+kernel) (by rfl) (by rfl) (fun base A outer s H E f c' clos Y' KB hy hE hr=> ?_)
 repeat' gp_on
 refine zN hy ⟨rfl,tx.h_law,hBT,rfl⟩ hT (fun _=>rfl) O__law_told hr (by omega) (by rfl) tx.C__law_told.m tx.C__law_told.F.kp tx.C__law_told.b ["_law_thing"] N_0 (z9 s_0) (by rfl) (by rfl) (by decide+kernel) (by rfl) (by rfl) (fun base A outer s H E f c' clos Y' KB hy hE hr=> ?_)
 repeat' gp_on
 refine zN hy ⟨rfl,tx.h_law,hBT,rfl⟩ hT (fun _=>rfl) O__law_told hr (by omega) (by rfl) tx.C__law_told.m tx.C__law_told.F.kp tx.C__law_told.b ["_law_thing"] N_0 (z9 s_0) (by rfl) (by rfl) (by decide+kernel) (by rfl) (by rfl) (fun base A outer s H E f c' clos Y' KB hy hE hr=> ?_)
 repeat' gp_on
 refine zN hy ⟨rfl,tx.h_law,hBT,rfl⟩ hT (fun _=>rfl) O__law_told hr (by omega) (by rfl) tx.C__law_told.m tx.C__law_told.F.kp tx.C__law_told.b ["_law_kind","_law_worth"] N_0 (z9 s_0) (by rfl) (by rfl) (by decide+kernel) (by rfl) (by rfl) (fun base A outer s H E f c' clos Y' KB hy hE hr=> ?_)
 repeat' gp_on
 refine zN hy ⟨rfl,tx.h_law,hBT,rfl⟩ hT (fun _=>rfl) O__law_told hr (by omega) (by rfl) tx.C__law_told.m tx.C__law_told.F.kp tx.C__law_told.b ["_law_kind","_law_worth"] N_0 (z9 s_0) (by rfl) (by rfl) (by decide+kernel) (by rfl) (by rfl) (fun base A outer s H E f c' clos Y' KB hy hE hr=> ?_)
 repeat' gp_on
 refine zN hy ⟨rfl,tx.h_law,hBT,rfl⟩ hT (fun _=>rfl) O__law_told hr (by omega) (by rfl) tx.C__law_told.m tx.C__law_told.F.kp tx.C__law_told.b ["_law_kind","_law_worth"] N_0 (z9 s_0) (by rfl) (by rfl) (by decide+kernel) (by rfl) (by rfl) (fun base A outer s H E f c' clos Y' KB hy hE hr=> ?_)
 repeat' gp_on
 refine zN hy ⟨rfl,tx.h_law,hBT,rfl⟩ hT (fun _=>rfl) O__law_told hr (by omega) (by rfl) tx.C__law_told.m tx.C__law_told.F.kp tx.C__law_told.b ["_law_kind","_law_worth"] N_0 (z9 s_0) (by rfl) (by rfl) (by decide+kernel) (by rfl) (by rfl) (fun base A outer s H E f c' clos Y' KB hy hE hr=> ?_)
 repeat' gp_on
 refine zN hy ⟨rfl,tx.h_law,hBT,rfl⟩ hT (fun _=>rfl) O__law_told hr (by omega) (by rfl) tx.C__law_told.m tx.C__law_told.F.kp tx.C__law_told.b ["_law_rule"] N_0 (z9 s_0) (by rfl) (by rfl) (by decide+kernel) (by rfl) (by rfl) (fun base A outer s H E f c' clos Y' KB hy hE hr=> ?_)
 repeat' gp_on
 refine zN hy ⟨rfl,tx.h_law,hBT,rfl⟩ hT (fun _=>rfl) O__law_told hr (by omega) (by rfl) tx.C__law_told.m tx.C__law_told.F.kp tx.C__law_told.b ["_law_thing","_law_rule"] N_0 (z9 s_0) (by rfl) (by rfl) (by decide+kernel) (by rfl) (by rfl) (fun base A outer s H E f c' clos Y' KB hy hE hr=> ?_)
 repeat' gp_on
 refine zN hy ⟨rfl,tx.h_law,hBT,rfl⟩ hT (fun _=>rfl) O__law_told hr (by omega) (by rfl) tx.C__law_told.m tx.C__law_told.F.kp tx.C__law_told.b ["_law_wide","_law_rule"] N_0 (z9 s_0) (by rfl) (by rfl) (by decide+kernel) (by rfl) (by rfl) (fun base A outer s H E f c' clos Y' KB hy hE hr=> ?_)
 repeat' gp_on
 refine zN hy ⟨rfl,tx.h_law,hBT,rfl⟩ hT (fun _=>rfl) O__law_told hr (by omega) (by rfl) tx.C__law_told.m tx.C__law_told.F.kp tx.C__law_told.b ["_law_wide"] N_0 (z9 s_0) (by rfl) (by rfl) (by decide+kernel) (by rfl) (by rfl) (fun base A outer s H E f c' clos Y' KB hy hE hr=> ?_)
 repeat' gp_on
 refine zN hy ⟨rfl,tx.h_law,hBT,rfl⟩ hT (fun _=>rfl) O__law_told hr (by omega) (by rfl) tx.C__law_told.m tx.C__law_told.F.kp tx.C__law_told.b ["_law_wide"] N_0 (z9 s_0) (by rfl) (by rfl) (by decide+kernel) (by rfl) (by rfl) (fun base A outer s H E f c' clos Y' KB hy hE hr=> ?_)
 repeat' gp_on
end
theorem zO {P:Program} {w:World} {K:PySem.W.Frag} {mg:Str->Option Value} {base:Heap} {CX:CXT} {cl:Nat->Value} {k n:Nat} {f:Addr} {fd:FuncData} {ps:List Str} (hn:n=ps.length):zA P w K mg base CX k f fd ps (spP cl n (fun _=> .bad)):=
 ⟨fun vs H Q E h=>by rw [← hn]; exact spP.len vs H Q E h,fun A outer s H args us vs Q E _ _ _ _ ⟨B,ts,_,_,_,q⟩=>q.elim⟩
section
variable {P:Program} {w:World} {K:PySem.W.Frag} {mg:Str->Option Value} {base:Heap} {cl:Nat->Value} {tx:Tx K mg}
theorem YU (xqA:∀ base,K.In base->Tq K mg base cl) (KB:K.In base) (hBT:base.BuiltinsAt mg tx.P_law):Q_0 P w base cl tx 46 f_0:=by
 have O_2:∀ base,K.In base->Q_2 P w base cl tx 1 f_2:=fun _ KB=>Vz (xqA _ KB)
 have O_b:∀ base,K.In base->Q_b P w base cl tx 1 f_b:=fun _ KB=>VA
 have O_10:∀ base,K.In base->Qr P w base cl tx 2 QU:=fun _ KB=>Qw (O_b _ KB)
 have O_n:∀ base,K.In base->Q_n P w base cl tx 1 f_n:=fun _ KB=>VB
 have R_h:∀ base,K.In base->∀ n:Nat,Q_h P w base cl tx (2+n) (S_h n 0):=by
  intro base KB n
  induction n with
  | zero=>exact zO rfl
  | succ n ih=>
   exact VC (j:=2+n) (by omega) (O_n _ KB) ih (O_10 _ KB)
 have O_h:∀ base,K.In base->Q_h P w base cl tx 10 (f_h 8):=fun _ KB=>(R_h _ KB 8)
 have O_5:∀ base,K.In base->Q_5 P w base cl tx 11 f_5:=fun _ KB=>VD (O_h _ KB)
 have O_7:∀ base,K.In base->Q_7 P w base cl tx 12 f_7:=fun _ KB=>VE (xqA _ KB) (O_5 _ KB)
 have O_13:∀ base,K.In base->Qs P w base cl tx 13 QW:=fun _ KB=>Qx (xqA _ KB) (O_7 _ KB)
 have O_11:∀ base,K.In base->Qt P w base cl tx 2 QY:=fun _ KB=>Qy (O_b _ KB)
 have O_a:∀ base,K.In base->Q_a P w base cl tx 1 f_a:=fun _ KB=>VF
 have O_14:∀ base,K.In base->Qu P w base cl tx 2 v5:=fun _ KB=>Qz (O_b _ KB) (O_a _ KB) (O_n _ KB)
 have O_t:∀ base,K.In base->Q_t P w base cl tx 3 f_t:=fun _ KB=>VG (O_a _ KB) (O_14 _ KB)
 have R_9:∀ base,K.In base->∀ n:Nat,Q_9 P w base cl tx (3+n) (S_9 n 0)/\Q_y P w base cl tx (3+n) (S_9 n 1):=by
  intro base KB n
  induction n with
  | zero=>exact ⟨zO rfl,zO rfl⟩
  | succ n ih=>
   exact ⟨VH (j:=3+n) (by omega) (O_11 _ KB) ih.1 (O_t _ KB) ih.2,VI (j:=3+n) (by omega) (O_a _ KB) ih.1⟩
 have O_9:∀ base,K.In base->Q_9 P w base cl tx 23 (f_9 20):=fun _ KB=>(R_9 _ KB 20).1
 have O_y:∀ base,K.In base->Q_y P w base cl tx 23 (f_y 20):=fun _ KB=>(R_9 _ KB 20).2
 have O_4:∀ base,K.In base->Q_4 P w base cl tx 24 f_4:=fun _ KB=>VJ (O_9 _ KB)
 have O_c:∀ base,K.In base->Q_c P w base cl tx 25 f_c:=fun _ KB=>VL (xqA _ KB) (O_4 _ KB)
 have R_1:∀ base,K.In base->∀ n:Nat,Q_1 P w base cl tx (0+n) (S_1 n 0)/\Q_r P w base cl tx (0+n) (S_1 n 1)/\Q_d P w base cl tx (0+n) (S_1 n 2):=by
  intro base KB n
  induction n with
  | zero=>exact ⟨zO rfl,zO rfl,zO rfl⟩
  | succ n ih=>
   exact ⟨VM (j:=0+n) (by omega) ih.2.1 ih.2.2,VN (j:=0+n) (by omega) ih.1,VO (j:=0+n) (by omega) ih.2.1⟩
 have O_1:∀ base,K.In base->Q_1 P w base cl tx 20 (f_1 20):=fun _ KB=>(R_1 _ KB 20).1
 have O_r:∀ base,K.In base->Q_r P w base cl tx 20 (f_r 20):=fun _ KB=>(R_1 _ KB 20).2.1
 have O_d:∀ base,K.In base->Q_d P w base cl tx 20 (f_d 20):=fun _ KB=>(R_1 _ KB 20).2.2
 have O_e:∀ base,K.In base->Q_e P w base cl tx 1 f_e:=fun _ KB=>VP
 have R_6:∀ base,K.In base->∀ n:Nat,Q_6 P w base cl tx (20+n) (S_6 n 0)/\qb P w base cl tx (20+n) (S_6 n 1)/\Q_s P w base cl tx (20+n) (S_6 n 2):=by
  intro base KB n
  induction n with
  | zero=>exact ⟨zO rfl,zO rfl,zO rfl⟩
  | succ n ih=>
   exact ⟨VQ (j:=20+n) (by omega) (O_e _ KB) ih.2.1 ih.2.2,QA (j:=20+n) (by omega) (O_d _ KB) ih.2.2,VR (j:=20+n) (by omega) (O_1 _ KB) ih.1⟩
 have O_6:∀ base,K.In base->Q_6 P w base cl tx 40 (f_6 20):=fun _ KB=>(R_6 _ KB 20).1
 have O_16:∀ base,K.In base->qb P w base cl tx 40 (Vi 20):=fun _ KB=>(R_6 _ KB 20).2.1
 have O_s:∀ base,K.In base->Q_s P w base cl tx 40 (f_s 20):=fun _ KB=>(R_6 _ KB 20).2.2
 have O_m:∀ base,K.In base->Q_m P w base cl tx 41 f_m:=fun _ KB=>VS (xqA _ KB) (O_c _ KB) (O_1 _ KB) (O_6 _ KB)
 have O_is_kept:∀ base,K.In base->Wg P w base cl tx 1 Wb:=fun _ _=>zO rfl
 have O_z:∀ base,K.In base->Q_z P w base cl tx 2 f_z:=fun _ KB=>VT
 have O_8:∀ base,K.In base->Q_8 P w base cl tx 42 f_8:=fun _ KB=>VU (O_m _ KB) (O_13 _ KB) (O_z _ KB)
 have O_k:∀ base,K.In base->Q_k P w base cl tx 43 f_k:=fun _ KB=>VV (O_m _ KB)
 have R_f:∀ base,K.In base->∀ n:Nat,Q_f P w base cl tx (1+n) (S_f n 0)/\Q_x P w base cl tx (1+n) (S_f n 1):=by
  intro base KB n
  induction n with
  | zero=>exact ⟨zO rfl,zO rfl⟩
  | succ n ih=>
   exact ⟨VW (j:=1+n) (by omega) (O_b _ KB) (O_a _ KB) (O_e _ KB) ih.2,VX (j:=1+n) (by omega) ih.1⟩
 have O_f:∀ base,K.In base->Q_f P w base cl tx 21 (f_f 20):=fun _ KB=>(R_f _ KB 20).1
 have O_x:∀ base,K.In base->Q_x P w base cl tx 21 (f_x 20):=fun _ KB=>(R_f _ KB 20).2
 have O_15:∀ base,K.In base->Qv P w base cl tx 26 v8:=fun _ KB=>QB (O_c _ KB) (O_f _ KB)
 have O_g:∀ base,K.In base->Q_g P w base cl tx 27 f_g:=fun _ KB=>VY (xqA _ KB) (O_15 _ KB)
 have O_o:∀ base,K.In base->Q_o P w base cl tx 41 f_o:=fun _ KB=>VZ (O_1 _ KB) (O_6 _ KB)
 have R_3:∀ base,K.In base->∀ n:Nat,Q_3 P w base cl tx (20+n) (S_3 n 0)/\qc P w base cl tx (20+n) (S_3 n 1):=by
  intro base KB n
  induction n with
  | zero=>exact ⟨zO rfl,zO rfl⟩
  | succ n ih=>
   exact ⟨x0 (j:=20+n) (by omega) (O_e _ KB) (O_d _ KB) ih.2,QC (j:=20+n) (by omega) (O_1 _ KB) ih.1⟩
 have O_3:∀ base,K.In base->Q_3 P w base cl tx 40 (f_3 20):=fun _ KB=>(R_3 _ KB 20).1
 have O_12:∀ base,K.In base->qc P w base cl tx 40 (Vj 20):=fun _ KB=>(R_3 _ KB 20).2
 have O_l:∀ base,K.In base->Q_l P w base cl tx 42 f_l:=fun _ KB=>x3 (O_g _ KB) (O_3 _ KB) (O_o _ KB)
 have O_p:∀ base,K.In base->Q_p P w base cl tx 42 f_p:=fun _ KB=>x4 (O_g _ KB) (O_3 _ KB) (O_o _ KB)
 have O_i:∀ base,K.In base->Q_i P w base cl tx 41 f_i:=fun _ KB=>x5 (xqA _ KB) (O_g _ KB) (O_6 _ KB) (O_3 _ KB)
 have O_q:∀ base,K.In base->Q_q P w base cl tx 41 f_q:=fun _ KB=>x6 (O_c _ KB) (O_1 _ KB) (O_6 _ KB)
 have O_kind_written:∀ base,K.In base->Zf P w base cl tx 1 Zd:=fun _ _=>zO rfl
 have O_u:∀ base,K.In base->Q_u P w base cl tx 26 f_u:=fun _ KB=>x8 (O_c _ KB) (O_kind_written _ KB)
 have O_rule_written:∀ base,K.In base->Zg P w base cl tx 1 Ze:=fun _ _=>zO rfl
 have O_v:∀ base,K.In base->Q_v P w base cl tx 13 f_v:=fun _ KB=>x9 (O_7 _ KB) (O_rule_written _ KB)
 have O__law_told:ZX P w cl tx 43 f_2:=UH (i:=1) tx.C__law_told.F jW rfl rfl rfl rfl rfl (by decide) rfl (xqA _ KB).m_WorthError (xqA _ KB).e_WorthError rfl tx.C_2.m tx.C_2.F.kp tx.C_2.b O_2 (by decide)
 have O_w:∀ base,K.In base->Q_w P w base cl tx 1 f_w:=fun _ KB=>xa
 have O_j:∀ base,K.In base->Q_j P w base cl tx 2 f_j:=fun _ KB=>xb (O_w _ KB)
 exact xf KB hBT O_j O_u O_v O_l O_p O_i O_q O_8 O_k O__law_told
end
def uB:List Str:=["NoKind","NoWorth","NoRule","TooMany","Ended","NoText","NoBack"]
def clK (K:PySem.W.Frag) (c:Nat):Value:=match PySem.W.nsIn K mainGlobals (uB.getD c "") with
 | some (some v)=>v
 | _=> .none
theorem JJ {K:PySem.W.Frag} {c:Nat} {x:Str} {q:Addr} (hx:uB.getD c ""=x) (h:PySem.W.nsIn K mainGlobals x=some (some (.ref q))):clK K c= .ref q:=by unfold clK; rw [hx,h]
def QD:List Nat:=[0,1,2,3,4,5,6]
def Wh (p:Nat->Bool):Bool:=QD.all p
theorem YV {c:Nat} (h:okX c=true):c∈QD:=by
 unfold okX at h; unfold QD; simpa using h
theorem zX {p:Nat->Bool} (h:Wh p=true) {c:Nat} (hc:okX c=true):p c=true:=List.all_eq_true.mp h c (YV hc)
def UP (K:PySem.W.Frag) (v:Value):Bool:=match v with
 | .ref C=>PySem.W.findIn K (.ref C) "__getattribute__" == some (some (.builtin "BaseException.__getattribute__")) && (PySem.W.findIn K (.ref C) "__getattr__" == some none && (PySem.W.findIn K (.ref C) "__class__" == some (some (.builtin "object.__class__")) && (PySem.W.specialIn K (.builtin "object.__class__") "__get__" == some (some (.builtin "getset_descriptor.__get__")) && (PySem.W.takesIn K (.builtin "object.__class__") == some true && (PySem.W.mroIn K C (.type "object") == some true && (PySem.W.mroIn K C (.type "BaseException") == some true && (PySem.W.clsIn K C).isSome))))))
 | _=>false
theorem ua {K:PySem.W.Frag} {v:Value} (h:UP K v=true):∃ C,v= .ref C/\PySem.W.XCls K C:=by
 unfold UP at h
 split at h
 ·rename_i C
  simp only [Bool.and_eq_true,beq_iff_eq] at h
  obtain ⟨h1,h2,h3,h4,h5,h6,h7,h8⟩:=h
  exact ⟨C,rfl,h1,h2,h3,h4,h5,h6,h7,h8⟩
 ·cases h
theorem JK {K:PySem.W.Frag} {base:Heap} {mg:Str->Option Value} {x:Str} {C:Addr} {bmB:List Value} {newId:String} (KB:K.In base) (hb:mg x=some (.ref C)) (h:PySem.W.excIn K C bmB newId=true):OwnCls x C bmB newId mg base:=by
 unfold PySem.W.excIn at h
 split at h
 ·rename_i dd cd sl hC
  split at h
  ·rename_i C1 bm a0 a1 a2 a3 m a5 hm hs
   simp only [Bool.and_eq_true,beq_iff_eq,Bool.not_eq_true'] at h
   obtain ⟨⟨⟨⟨⟨h1,h2⟩,h3⟩,h4⟩,h5⟩,h6⟩:=h
   subst h1 h2
   cases cd with
   | mk nm bs mro ns qn hd sn sub ab col del=>
    dsimp only at hm h3 h5 h6
    subst hm h3
    obtain rfl:sl= #[a0,a1,a2,a3,some (.builtin m),a5]:=by
     cases sl; simp only at hs; rw [hs]
    exact ⟨hb,bm,ns,nm,qn,bs,hd,sn,sub,ab,col,dd,a0,a1,a2,a3,a5,_,KB _ _ hC, .of_isNs (PySem.W.isNs_of_in KB h5),PySem.W.nsMap_none_of_in KB h5 h6,PySem.W.tail_of_in KB h4⟩
  ·cases h
 ·cases h
theorem fi1 {K:PySem.W.Frag} {h:Heap} {mg:Str->Option Value} {f C:Addr} {od an:Option Addr} {sl:Array (Option Value)} {oc kV dc pm cd ct:Value} {x:Str} {st:Stmt} {ps:List Str} (X:K.In h) (G:h.Ns mainGlobals mg) (e:PySem.W.nsIn K mainGlobals x=some (some (.ref C))) (i:PySem.W.findIn K (.ref C) "__init__"=some (some (.ref f))) (l:K.lookup f=some ⟨oc,od, .func (PySem.W.fnOf "__init__" "Sieve.__init__" (zL st) (zo st) (z9 st) .none kV dc pm an cd ct),sl⟩) (g:PySem.W.codeIn K cd "Sieve.__init__"=true) (k:PySem.W.keepIn K (.ref f)=true)
  (ma:PySem.W.makesIn K C=true) (fn:PySem.W.isFn K (.ref f)=true) (kc:PySem.W.keepIn K (.ref C)=true) (pg:PySem.W.plainGet K C Str.empty=true) (hd:PySem.W.hasDictIn K C=true) (po:PySem.W.plainOver K C=true) (sa:PySem.W.findIn K (.ref C) "__setattr__"=some (some (.builtin "object.__setattr__"))) (na:PySem.W.findIn K (.ref C) "kind"=some none)
  (hb:∀ F:Fun K "__init__" "Sieve.__init__" st f (PySem.W.fnOf "__init__" "Sieve.__init__" (zL st) (zo st) (z9 st) .none kV dc pm an cd ct),L2.Binds K (PySem.W.fnOf "__init__" "Sieve.__init__" (zL st) (zo st) (z9 st) .none kV dc pm an cd ct) ps []):FnI K mg x st ps f (PySem.W.fnOf "__init__" "Sieve.__init__" (zL st) (zo st) (z9 st) .none kV dc pm an cd ct) C:=
 have F:=ui (st:=st) l g k
 ⟨F,hb F,PySem.W.mg_of X G e,⟨ma,i,fn,kc⟩,⟨pg,hd,po,sa⟩,na⟩
theorem fn1 {K:PySem.W.Frag} {h:Heap} {mg:Str->Option Value} {f:Addr} {od an:Option Addr} {sl:Array (Option Value)} {oc kV dc pm cd ct:Value} {x:Str} {st:Stmt} {ps:List Str} (X:K.In h) (G:h.Ns mainGlobals mg) (e:PySem.W.nsIn K mainGlobals x=some (some (.ref f))) (l:K.lookup f=some ⟨oc,od, .func (PySem.W.fnOf x x (zL st) (zo st) (z9 st) .none kV dc pm an cd ct),sl⟩) (g:PySem.W.codeIn K cd x=true) (k:PySem.W.keepIn K (.ref f)=true)
  (hb:∀ F:Fun K x x st f (PySem.W.fnOf x x (zL st) (zo st) (z9 st) .none kV dc pm an cd ct),L2.Binds K (PySem.W.fnOf x x (zL st) (zo st) (z9 st) .none kV dc pm an cd ct) ps []):Fn K mg x st ps f (PySem.W.fnOf x x (zL st) (zo st) (z9 st) .none kV dc pm an cd ct):=
 have F:=ui (st:=st) l g k
 ⟨F,hb F,PySem.W.mg_of X G e⟩
theorem fin_ {l:PySem.W.OpenLaw} {w:World} {K:PySem.W.Frag} {h:Heap} {mg:Str->Option Value} {fa:Addr} (X:K.In h) (G:h.Ns mainGlobals mg) (hfa:mg "law"=some (.ref fa)) (tx:Tx K mg) (hB:∀ (s:Shared) (v:Value),BindsTo s tx.d_0 ⟨[v],[]⟩ [("_law_script",v)]) (hts:h.get? tx.P_law=some (PySem.W.tabObj #[])) {q_Ended q_NoBack q_NoKind q_NoRule q_NoText q_NoWorth q_TooMany q_WorthError:Addr} (n_Ended:PySem.W.nsIn K mainGlobals "Ended"=some (some (.ref q_Ended))) (n_NoBack:PySem.W.nsIn K mainGlobals "NoBack"=some (some (.ref q_NoBack))) (n_NoKind:PySem.W.nsIn K mainGlobals "NoKind"=some (some (.ref q_NoKind))) (n_NoRule:PySem.W.nsIn K mainGlobals "NoRule"=some (some (.ref q_NoRule))) (n_NoText:PySem.W.nsIn K mainGlobals "NoText"=some (some (.ref q_NoText))) (n_NoWorth:PySem.W.nsIn K mainGlobals "NoWorth"=some (some (.ref q_NoWorth))) (n_TooMany:PySem.W.nsIn K mainGlobals "TooMany"=some (some (.ref q_TooMany))) (n_WorthError:PySem.W.nsIn K mainGlobals "WorthError"=some (some (.ref q_WorthError))) (b_K:Wh (fun c=>UP K (clK K c))=true) (b_e_WorthError:Wh (fun c=>PySem.W.exmOne K (clK K c) (.ref q_WorthError) == some true)=true) (b_o_NoKind:PySem.W.excIn K q_NoKind uA "ValueError.__new__"=true) (b_o_NoRule:PySem.W.excIn K q_NoRule uA "ValueError.__new__"=true) (b_o_NoWorth:PySem.W.excIn K q_NoWorth uA "ValueError.__new__"=true) (b_o_TooMany:PySem.W.excIn K q_TooMany uA "ValueError.__new__"=true) (b_t_Ended:Wh (fun c=>PySem.W.kitOne K (clK K c) (.ref q_Ended) == some (ZU c))=true) (b_t_NoBack:Wh (fun c=>PySem.W.kitOne K (clK K c) (.ref q_NoBack) == some (ZD c))=true) (b_t_NoKind:Wh (fun c=>PySem.W.kitOne K (clK K c) (.ref q_NoKind) == some (ZA c))=true) (b_t_NoRule:Wh (fun c=>PySem.W.kitOne K (clK K c) (.ref q_NoRule) == some (ZB c))=true) (b_t_NoText:Wh (fun c=>PySem.W.kitOne K (clK K c) (.ref q_NoText) == some (ZC c))=true) (b_t_NoWorth:Wh (fun c=>PySem.W.kitOne K (clK K c) (.ref q_NoWorth) == some (Zl c))=true) (b_t_TooMany:Wh (fun c=>PySem.W.kitOne K (clK K c) (.ref q_TooMany) == some (Zm c))=true) (b_t_ValueError:Wh (fun c=>PySem.W.kitOne K (clK K c) (.type "ValueError") == some (zW c))=true):∃ (fd:FuncData) (c Pt:Addr),(∀ (s:Shared) (v:Value),BindsTo s fd ⟨[v],[]⟩ [("_law_script",v)])/\h.get? Pt=some (PySem.W.tabObj #[])/\K.lookup Pt=none/\PySem.W.codeHdIn K c Pt=true/\∀ base:Heap,K.In base->base.BuiltinsAt mg Pt->zA l.prog w K mg base (CX1 l.prog w) 46 fa fd ["_law_script"] (UW (clK K) 1 f_0 Pt qL):=by
 have e:=hfa.symm.trans tx.C_0.m
 cases e
 exact ⟨tx.d_0,tx.k_law,tx.P_law,hB,hts,tx.n_law,tx.h_law,fun base KB hBT=>YU (fun base KB=>⟨q_Ended,q_NoBack,q_NoKind,q_NoRule,q_NoText,q_NoWorth,q_TooMany,q_WorthError,⟨fun c hc=>ua (zX b_K hc)⟩,(fun c hc=>beq_iff_eq.mp (zX b_e_WorthError hc)),(JJ (x:="NoKind") rfl n_NoKind),(JJ (x:="NoRule") rfl n_NoRule),(JJ (x:="NoWorth") rfl n_NoWorth),(JJ (x:="TooMany") rfl n_TooMany),(PySem.W.mg_of X G n_Ended),(PySem.W.mg_of X G n_NoBack),(PySem.W.mg_of X G n_NoKind),(PySem.W.mg_of X G n_NoRule),(PySem.W.mg_of X G n_NoText),(PySem.W.mg_of X G n_NoWorth),(PySem.W.mg_of X G n_TooMany),(PySem.W.mg_of X G n_WorthError),(JK KB (PySem.W.mg_of X G n_NoKind) b_o_NoKind),(JK KB (PySem.W.mg_of X G n_NoRule) b_o_NoRule),(JK KB (PySem.W.mg_of X G n_NoWorth) b_o_NoWorth),(JK KB (PySem.W.mg_of X G n_TooMany) b_o_TooMany),(fun c hc=>beq_iff_eq.mp (zX b_t_Ended hc)),(fun c hc=>beq_iff_eq.mp (zX b_t_NoBack hc)),(fun c hc=>beq_iff_eq.mp (zX b_t_NoKind hc)),(fun c hc=>beq_iff_eq.mp (zX b_t_NoRule hc)),(fun c hc=>beq_iff_eq.mp (zX b_t_NoText hc)),(fun c hc=>beq_iff_eq.mp (zX b_t_NoWorth hc)),(fun c hc=>beq_iff_eq.mp (zX b_t_TooMany hc)),(fun c hc=>beq_iff_eq.mp (zX b_t_ValueError hc))⟩) KB hBT⟩
def Wi (K:PySem.W.Frag):Bool:=K.all fun p=> !(p.2.cls == Value.type "list")
theorem UQ {K:PySem.W.Frag} (h:Wi K=true) {a:Addr} {o:Obj} (e:K.lookup a=some o) (c:o.cls=Value.type "list"):False:=by
 have hm:(a,o)∈K:=by
  clear h
  induction K with
  | nil=>cases e
  | cons p r ih=>
   obtain ⟨b,u⟩:=p
   by_cases hb:a=b
   ·subst hb
    have e' :some u=some o:=by simpa [List.lookup_cons] using e
    cases e'; exact List.mem_cons_self
   ·have e' :r.lookup a=some o:=by rw [List.lookup_cons,(beq_eq_false_iff_ne.mpr hb)] at e; exact e
    exact List.mem_cons_of_mem _ (ih e')
 have:=List.all_eq_true.mp h _ hm
 rw [c] at this
 simp at this
def xg (o:Obj):Option Addr:=match o.data with
 | .fields vs=>(match (vs[11]? :Option Value) with | some (.ref P)=>some P | _=>none)
 | _=>none
structure QE (K:PySem.W.Frag) (c P:Addr) (o:Obj):Prop where
 t:K.lookup c=some o
 u:xg o=some P
 h:PySem.W.codeHdIn K c P=true
 n:K.lookup P=none
abbrev vV {K:PySem.W.Frag} {h:Heap} (_:K.In h) (c P:Addr) (o:Obj):Prop:=QE K c P o
theorem YW {cl:Nat->Value} {H:Hp} {a Pt:Addr} {o:Obj} {q:Str} {ns:List Int} (hL:f_0 [.fz (ns.map T.int)]= .ok (.bl true)) (h:H a=some (.frz o (.lst (ns.map V.int)))) (h2:H Pt=some (.tbl #[] q)):UW cl 1 f_0 Pt q [.ref a] H (fun v _=>v= .bl true) fun _ _ _=>False:=by
 have scrR:∀ ns:List Int,zn H (ns.map V.int) (ns.map T.int):=fun ns=>by
  induction ns with
  | nil=>exact .nil
  | cons n r ih=>exact .cons (.int n) ih
 refine ⟨h2,H,[.fz (ns.map T.int)],rfl,zh.refl H, .cons (.fz h (scrR ns)) .nil, ?_⟩
 rw [hL]
 intro v H' _ r
 cases r; rfl
theorem walk {l:PySem.W.OpenLaw} {q:Program} {loose:List Str} {XP:(Str->Option Value)->Heap->Prop} {YP:World->Heap->Prop} {d:DefRec} {K:Params->PySem.W.Frag} {ts:List Addr} (hn:l.most=some 63) (hdf:d.params.defaults=[])
  (hL:∀ ns:List Int,ns.length<=63->f_0 [.fz (ns.map T.int)]= .ok (.bl true)) (hK:∀ p,Wi (K p)=true)
  (hY:∀ (w:World) (h:Heap),YP w h->(K w.params).In h/\∀ P∈ts,h.get? P=some (PySem.W.tabObj #[]))
  (F:∀ (w:World) (mg:Str->Option Value) (fa:Addr) (h:Heap),(K w.params).In h->h.Ns mainGlobals mg->mg d.name=some (.ref fa)->(∀ P∈ts,h.get? P=some (PySem.W.tabObj #[]))->
   ∃ (fd:FuncData) (c Pt:Addr),(∀ (s:Shared) (u:Value),BindsTo s fd ⟨[u],[]⟩ [("_law_script",u)])/\h.get? Pt=some (PySem.W.tabObj #[])/\(K w.params).lookup Pt=none/\PySem.W.codeHdIn (K w.params) c Pt=true/\∀ base:Heap,(K w.params).In base->base.BuiltinsAt mg Pt->zA l.prog w (K w.params) mg base (CX1 l.prog w) 46 fa fd ["_law_script"] (UW (clK (K w.params)) 1 f_0 Pt qL)):
  PySem.W.WalkO q loose XP YP l.row.toRowW d [] (fun f vs=>PySem.call f vs):=
 L2.walk_ofT (n:=63) (k:=46) (x:="_law_script") (nm:=qL) (CX:=fun w=>(CX1 l.prog w)) (sp:=fun w Pt=>UW (clK (K w.params)) 1 f_0 Pt qL) hn (by decide) hdf ⟨rfl,by decide,by decide,rfl⟩ hY (fun w a o e c=>UQ (hK w.params) e c) F (fun w H a Pt o ns hl h1 h2=>YW (hL ns hl) h1 h2) fun _ _ _ _ _ ⟨_,_,_,_,_,_,_,z⟩=>z
end G
namespace PySem.W.Fast
def tw17473715482153499697:=0
def tw14964469543882910996:=0
def tw10526513704068074708:=0
def tw7626091542065872969:=0
def tw16948654822316384500:=0
def tw14123725222083371767:=0
def tw964961959203798409:=0
def tw8664067220483624281:=0
def tw13834132791303624275:=0
def tw14708840618446640440:=0
def tw18423030987592150692:=0
def tw18409620694088667164:=0
def tw5875423245721698064:=0
def tw3411518480005723430:=0
def tw6760277641108000698:=0
def tw4378247625462365313:=0
def tw2626116064361700543:=0
def tw13662568730889486370:=0
def tw18332104367732449652:=0
def tw16643018774388406094:=0
def tw9254498460867764379:=0
def tw11751799899027339264:=0
def tw5073604993648124261:=0
def tw15785209093419581883:=0
def tw6392612167138267005:=0
def tw15035412793675135078:=0
def tw14980048276053822889:=0
def tw1501887420701355703:=0
def tw14923554039643368036:=0
def tw6366047071863232932:=0
def tw14328966876447165133:=0
def tw6195341909255142260:=0
def tw13234169117377074318:=0
def tw11690726436345508376:=0
def tw15856663823242682353:=0
def tw1492043937156068203:=0
def tw11107946740549794451:=0
def tw14559339623569379005:=0
def tw7124596248006437642:=0
def tw8211032946163412556:=0
def tw7776115401689777896:=0
def tw17757043429890875849:=0
def tw1776652793176074928:=0
def tw14531657177156012117:=0
def tw12132507503540731506:=0
def tw5291342946670944233:=0
def tw58693385066904400:=0
def tw7945636535480261546:=0
def tw6955595443758110249:=0
def tw12302705758789179401:=0
def tw2084172152192449223:=0
def tw19158618773389124:=0
def tw7208019873192667844:=0
def tw13999061539326440731:=0
def tw7827471950670702443:=0
def tw4040651994724097815:=0
def tw2542307001505756137:=0
def tw3411154543335714149:=0
def tw16679983495146968454:=0
def tw11708373461957666840:=0
def tw9842826656486260745:=0
def tw1607318817347619462:=0
def tw12614805585649238203:=0
def tw11398415379500071951:=0
def tw7581952707402065294:=0
def tw13834135727041832852:=0
def tw10384552855430913061:=0
def tw7833288356474204188:=0
def tw9758775638047009944:=0
def tw10979140573771373626:=0
def tw10859787210368826440:=0
def tw2728878426471811219:=0
def tw10650230517770712779:=0
def tw3637640478739203552:=0
def tw18415332153381249003:=0
def tw3747305052444041790:=0
def tw1420474677883945441:=0
def tw15169956901665381755:=0
def tw13531039091801093681:=0
def tw357763476976668529:=0
def tw14902949322086564384:=0
def tw792695251286301269:=0
def tw4471987039608759698:=0
def tw15877890707699063482:=0
def tw6141839026103972000:=0
def tw11772722888200069950:=0
def tw318773909924094611:=0
def tw12266104335737615113:=0
def tw15774344454992212846:=0
def tw16244483268307115744:=0
def tw2587090234308318549:=0
def tw16534753257062248256:=0
def tw17098610347369932375:=0
def tw2362812535281125753:=0
def tw10477188382506212832:=0
def tw6127594973764344426:=0
def tw18233079759238541397:=0
def tw7099635651639917217:=0
def tw3164282765011007337:=0
def tw8145446883777596944:=0
def tw14007791649926777222:=0
def tw6125613100862165984:=0
def tw13216553815381524065:=0
def tw17788912660076728205:=0
def tw4073663830142481313:=0
def tw9013367716887152208:=0
def tw6675769563580161380:=0
def tw14043020159563966583:=0
def tw3515171298162585045:=0
def tw15397660045380472767:=0
def tw9042903005678415733:=0
def tw3135006790319932405:=0
def tw13376688941028769340:=0
def tw2264058116008102585:=0
def tw7728637385251004520:=0
def tw851632989233661033:=0
def tw9624388204373018250:=0
def tw7740877693699383783:=0
def tw14694738885542152922:=0
def tw14948053177798210667:=0
def tw244824421516817393:=0
def tw9399291304528240154:=0
def tw19991495098964324:=0
def tw8070841369396237250:=0
def tw2422377242678119027:=0
def tw8477636758695729621:=0
def tw16559516753094697176:=0
def tw1942116112853038088:=0
def tw7415798964159613204:=0
def tw15904919249220558655:=0
def tw8831800493928747328:=0
def tw12913612414455856881:=0
def tw6657609197642715977:=0
def tw11076402462310814248:=0
def tw1684966786516997675:=0
def tw1098162748917342018:=0
def tw1821805269453643842:=0
def tw11892931174183603405:=0
def tw6568979305210788074:=0
def tw15854514814188318817:=0
def tw5835474002148463586:=0
def tw8026879948571908692:=0
def tw9472432811245153846:=0
def tw7336304489920738271:=0
def tw13608734771066526327:=0
def tw9527033446264717151:=0
def tw7243616706865495913:=0
def tw9243304557995004892:=0
def tw622860677880693531:=0
def tw1262598946455566688:=0
def tw5542989482720823047:=0
def tw12456050569110719654:=0
def tw13250458783340297287:=0
def tw1891199388393742696:=0
def tw4872039291152946614:=0
def tw7204855678549749300:=0
def tw8837023201989971029:=0
def tw10956052953163379292:=0
def tw6915431196839542029:=0
def tw13915733086084424702:=0
def tw15068362071005638976:=0
def tw7623095288559711200:=0
def tw2246551125571036627:=0
def tw16313232819105803563:=0
def tw5015124902872864338:=0
def tw9471719546698536564:=0
def tw11046448850729658410:=0
def tw11040935923168391981:=0
def tw11706578156716785974:=0
def tw4132365454701206340:=0
def tw8912795288562930992:=0
def tw9946634407208808006:=0
def tw5193551960502106217:=0
def tw11728442224494387002:=0
def tw1257685045728495388:=0
end PySem.W.Fast
open PySem PySem.W PyProof.Rows
set_option maxRecDepth 100000 in
set_option maxHeartbeats 0 in
theorem PySem.Challenge.cw_worthkinds_k77_steps_refused_holds : PySem.Challenge.rw_worthkinds_k77_steps_refused.Holds := by
 w_on; o_law; k_head; (case hw=>w_witness2)
 k_fill
 refine G.walk (l:=PySem.Challenge.rw_worthkinds_k77_steps_refused) rfl rfl G.va ?nl (fun w h Y=>⟨PySem.W.km_in_of Y,PySem.W.km_tabs_of Y⟩) ?F
 case nl=>intro p; kernel_rfl
 case F=>
  intro w mg fa h KX G0 hmg hT
  obtain ⟨a0,d0,C0⟩:∃ a d,G.Fn _ mg "_law_class" G.s_2 ["_law_kept"] a d:=by
   refine' ⟨_,_,G.fn1 KX G0 ?e ?l ?g ?k (fun F=>F.binds (ps:=["_law_kept"]) fun _ _ _ _ _ _ us hl=>match us,hl with | [_],_=>rfl)⟩
   (case e=>k_is)
   (case l=>k_is)
   (case g=>k_is)
   (case k=>k_is)
  obtain ⟨a1,d1,C1⟩:∃ a d,G.Fn _ mg "is_whole" G.s_b ["thing"] a d:=by
   refine' ⟨_,_,G.fn1 KX G0 ?e ?l ?g ?k (fun F=>F.binds (ps:=["thing"]) fun _ _ _ _ _ _ us hl=>match us,hl with | [_],_=>rfl)⟩
   (case e=>k_is)
   (case l=>k_is)
   (case g=>k_is)
   (case k=>k_is)
  obtain ⟨a2,d2,C2⟩:∃ a d,G.Fn _ mg "is_bound" G.vd ["thing"] a d:=by
   refine' ⟨_,_,G.fn1 KX G0 ?e ?l ?g ?k (fun F=>F.binds (ps:=["thing"]) fun _ _ _ _ _ _ us hl=>match us,hl with | [_],_=>rfl)⟩
   (case e=>k_is)
   (case l=>k_is)
   (case g=>k_is)
   (case k=>k_is)
  obtain ⟨a3,d3,C3⟩:∃ a d,G.Fn _ mg "is_word" G.s_n ["thing"] a d:=by
   refine' ⟨_,_,G.fn1 KX G0 ?e ?l ?g ?k (fun F=>F.binds (ps:=["thing"]) fun _ _ _ _ _ _ us hl=>match us,hl with | [_],_=>rfl)⟩
   (case e=>k_is)
   (case l=>k_is)
   (case g=>k_is)
   (case k=>k_is)
  obtain ⟨a4,d4,C4⟩:∃ a d,G.Fn _ mg "is_rule_within" G.s_h ["thing","levels"] a d:=by
   refine' ⟨_,_,G.fn1 KX G0 ?e ?l ?g ?k (fun F=>F.binds (ps:=["thing","levels"]) fun _ _ _ _ _ _ us hl=>match us,hl with | [_,_],_=>rfl)⟩
   (case e=>k_is)
   (case l=>k_is)
   (case g=>k_is)
   (case k=>k_is)
  obtain ⟨a5,d5,C5⟩:∃ a d,G.Fn _ mg "is_rule" G.s_5 ["thing"] a d:=by
   refine' ⟨_,_,G.fn1 KX G0 ?e ?l ?g ?k (fun F=>F.binds (ps:=["thing"]) fun _ _ _ _ _ _ us hl=>match us,hl with | [_],_=>rfl)⟩
   (case e=>k_is)
   (case l=>k_is)
   (case g=>k_is)
   (case k=>k_is)
  obtain ⟨a6,d6,C6⟩:∃ a d,G.Fn _ mg "need_rule" G.s_7 ["rule"] a d:=by
   refine' ⟨_,_,G.fn1 KX G0 ?e ?l ?g ?k (fun F=>F.binds (ps:=["rule"]) fun _ _ _ _ _ _ us hl=>match us,hl with | [_],_=>rfl)⟩
   (case e=>k_is)
   (case l=>k_is)
   (case g=>k_is)
   (case k=>k_is)
  obtain ⟨a7,d7,C7⟩:∃ a d,G.Fn _ mg "need_rules" G.vi ["rules"] a d:=by
   refine' ⟨_,_,G.fn1 KX G0 ?e ?l ?g ?k (fun F=>F.binds (ps:=["rules"]) fun _ _ _ _ _ _ us hl=>match us,hl with | [_],_=>rfl)⟩
   (case e=>k_is)
   (case l=>k_is)
   (case g=>k_is)
   (case k=>k_is)
  obtain ⟨a8,d8,C8⟩:∃ a d,G.Fn _ mg "is_span" G.vj ["low","high","least","most"] a d:=by
   refine' ⟨_,_,G.fn1 KX G0 ?e ?l ?g ?k (fun F=>F.binds (ps:=["low","high","least","most"]) fun _ _ _ _ _ _ us hl=>match us,hl with | [_,_,_,_],_=>rfl)⟩
   (case e=>k_is)
   (case l=>k_is)
   (case g=>k_is)
   (case k=>k_is)
  obtain ⟨a9,d9,C9⟩:∃ a d,G.Fn _ mg "is_tuple_of" G.s_a ["thing","least","most"] a d:=by
   refine' ⟨_,_,G.fn1 KX G0 ?e ?l ?g ?k (fun F=>F.binds (ps:=["thing","least","most"]) fun _ _ _ _ _ _ us hl=>match us,hl with | [_,_,_],_=>rfl)⟩
   (case e=>k_is)
   (case l=>k_is)
   (case g=>k_is)
   (case k=>k_is)
  obtain ⟨a10,d10,C10⟩:∃ a d,G.Fn _ mg "is_choice" G.vm ["thing"] a d:=by
   refine' ⟨_,_,G.fn1 KX G0 ?e ?l ?g ?k (fun F=>F.binds (ps:=["thing"]) fun _ _ _ _ _ _ us hl=>match us,hl with | [_],_=>rfl)⟩
   (case e=>k_is)
   (case l=>k_is)
   (case g=>k_is)
   (case k=>k_is)
  obtain ⟨a11,d11,C11⟩:∃ a d,G.Fn _ mg "are_choices" G.s_t ["thing"] a d:=by
   refine' ⟨_,_,G.fn1 KX G0 ?e ?l ?g ?k (fun F=>F.binds (ps:=["thing"]) fun _ _ _ _ _ _ us hl=>match us,hl with | [_],_=>rfl)⟩
   (case e=>k_is)
   (case l=>k_is)
   (case g=>k_is)
   (case k=>k_is)
  obtain ⟨a12,d12,C12⟩:∃ a d,G.Fn _ mg "is_kind_within" G.s_9 ["thing","levels"] a d:=by
   refine' ⟨_,_,G.fn1 KX G0 ?e ?l ?g ?k (fun F=>F.binds (ps:=["thing","levels"]) fun _ _ _ _ _ _ us hl=>match us,hl with | [_,_],_=>rfl)⟩
   (case e=>k_is)
   (case l=>k_is)
   (case g=>k_is)
   (case k=>k_is)
  obtain ⟨a13,d13,C13⟩:∃ a d,G.Fn _ mg "are_kinds_within" G.s_y ["thing","levels"] a d:=by
   refine' ⟨_,_,G.fn1 KX G0 ?e ?l ?g ?k (fun F=>F.binds (ps:=["thing","levels"]) fun _ _ _ _ _ _ us hl=>match us,hl with | [_,_],_=>rfl)⟩
   (case e=>k_is)
   (case l=>k_is)
   (case g=>k_is)
   (case k=>k_is)
  obtain ⟨a14,d14,C14⟩:∃ a d,G.Fn _ mg "is_kind" G.s_4 ["thing"] a d:=by
   refine' ⟨_,_,G.fn1 KX G0 ?e ?l ?g ?k (fun F=>F.binds (ps:=["thing"]) fun _ _ _ _ _ _ us hl=>match us,hl with | [_],_=>rfl)⟩
   (case e=>k_is)
   (case l=>k_is)
   (case g=>k_is)
   (case k=>k_is)
  obtain ⟨a15,d15,C15⟩:∃ a d,G.Fn _ mg "need_kind" G.s_c ["kind"] a d:=by
   refine' ⟨_,_,G.fn1 KX G0 ?e ?l ?g ?k (fun F=>F.binds (ps:=["kind"]) fun _ _ _ _ _ _ us hl=>match us,hl with | [_],_=>rfl)⟩
   (case e=>k_is)
   (case l=>k_is)
   (case g=>k_is)
   (case k=>k_is)
  obtain ⟨a16,d16,C16⟩:∃ a d,G.Fn _ mg "count_of" G.s_1 ["kind"] a d:=by
   refine' ⟨_,_,G.fn1 KX G0 ?e ?l ?g ?k (fun F=>F.binds (ps:=["kind"]) fun _ _ _ _ _ _ us hl=>match us,hl with | [_],_=>rfl)⟩
   (case e=>k_is)
   (case l=>k_is)
   (case g=>k_is)
   (case k=>k_is)
  obtain ⟨a17,d17,C17⟩:∃ a d,G.Fn _ mg "count_of_parts" G.s_r ["kinds"] a d:=by
   refine' ⟨_,_,G.fn1 KX G0 ?e ?l ?g ?k (fun F=>F.binds (ps:=["kinds"]) fun _ _ _ _ _ _ us hl=>match us,hl with | [_],_=>rfl)⟩
   (case e=>k_is)
   (case l=>k_is)
   (case g=>k_is)
   (case k=>k_is)
  obtain ⟨a18,d18,C18⟩:∃ a d,G.Fn _ mg "count_shorter" G.s_d ["kind","length"] a d:=by
   refine' ⟨_,_,G.fn1 KX G0 ?e ?l ?g ?k (fun F=>F.binds (ps:=["kind","length"]) fun _ _ _ _ _ _ us hl=>match us,hl with | [_,_],_=>rfl)⟩
   (case e=>k_is)
   (case l=>k_is)
   (case g=>k_is)
   (case k=>k_is)
  obtain ⟨a19,d19,C19⟩:∃ a d,G.Fn _ mg "words_of_pick" G.s_e ["kind"] a d:=by
   refine' ⟨_,_,G.fn1 KX G0 ?e ?l ?g ?k (fun F=>F.binds (ps:=["kind"]) fun _ _ _ _ _ _ us hl=>match us,hl with | [_],_=>rfl)⟩
   (case e=>k_is)
   (case l=>k_is)
   (case g=>k_is)
   (case k=>k_is)
  obtain ⟨a20,d20,C20⟩:∃ a d,G.Fn _ mg "worth_at" G.s_6 ["kind","number"] a d:=by
   refine' ⟨_,_,G.fn1 KX G0 ?e ?l ?g ?k (fun F=>F.binds (ps:=["kind","number"]) fun _ _ _ _ _ _ us hl=>match us,hl with | [_,_],_=>rfl)⟩
   (case e=>k_is)
   (case l=>k_is)
   (case g=>k_is)
   (case k=>k_is)
  obtain ⟨a21,d21,C21⟩:∃ a d,G.Fn _ mg "many_at" G.vy ["kind","number"] a d:=by
   refine' ⟨_,_,G.fn1 KX G0 ?e ?l ?g ?k (fun F=>F.binds (ps:=["kind","number"]) fun _ _ _ _ _ _ us hl=>match us,hl with | [_,_],_=>rfl)⟩
   (case e=>k_is)
   (case l=>k_is)
   (case g=>k_is)
   (case k=>k_is)
  obtain ⟨a22,d22,C22⟩:∃ a d,G.Fn _ mg "parts_at" G.s_s ["kinds","number"] a d:=by
   refine' ⟨_,_,G.fn1 KX G0 ?e ?l ?g ?k (fun F=>F.binds (ps:=["kinds","number"]) fun _ _ _ _ _ _ us hl=>match us,hl with | [_,_],_=>rfl)⟩
   (case e=>k_is)
   (case l=>k_is)
   (case g=>k_is)
   (case k=>k_is)
  obtain ⟨a23,d23,C23⟩:∃ a d,G.Fn _ mg "all_worths" G.s_m ["kind"] a d:=by
   refine' ⟨_,_,G.fn1 KX G0 ?e ?l ?g ?k (fun F=>F.binds (ps:=["kind"]) fun _ _ _ _ _ _ us hl=>match us,hl with | [_],_=>rfl)⟩
   (case e=>k_is)
   (case l=>k_is)
   (case g=>k_is)
   (case k=>k_is)
  obtain ⟨a24,d24,C24⟩:∃ a d,G.Fn _ mg "is_kept" G.Wf ["rule","worth"] a d:=by
   refine' ⟨_,_,G.fn1 KX G0 ?e ?l ?g ?k (fun F=>F.binds (ps:=["rule","worth"]) fun _ _ _ _ _ _ us hl=>match us,hl with | [_,_],_=>rfl)⟩
   (case e=>k_is)
   (case l=>k_is)
   (case g=>k_is)
   (case k=>k_is)
  obtain ⟨a25,d25,C25⟩:∃ a d,G.Fn _ mg "counts_keeping" G.s_z ["worths","rules"] a d:=by
   refine' ⟨_,_,G.fn1 KX G0 ?e ?l ?g ?k (fun F=>F.binds (ps:=["worths","rules"]) fun _ _ _ _ _ _ us hl=>match us,hl with | [_,_],_=>rfl)⟩
   (case e=>k_is)
   (case l=>k_is)
   (case g=>k_is)
   (case k=>k_is)
  obtain ⟨a26,d26,C26⟩:∃ a d,G.Fn _ mg "best_rule" G.s_8 ["kind","rules"] a d:=by
   refine' ⟨_,_,G.fn1 KX G0 ?e ?l ?g ?k (fun F=>F.binds (ps:=["kind","rules"]) fun _ _ _ _ _ _ us hl=>match us,hl with | [_,_],_=>rfl)⟩
   (case e=>k_is)
   (case l=>k_is)
   (case g=>k_is)
   (case k=>k_is)
  obtain ⟨a27,d27,e27,C27⟩:∃ a d e,G.FnI _ mg "Sieve" G.s_k ["self","kind"] a d e:=by
   refine' ⟨_,_,_,G.fi1 KX G0 ?e ?i ?l ?g ?k ?ma ?fn ?kc ?pg ?hd ?po ?sa ?na (fun F=>F.binds (ps:=["self","kind"]) fun _ _ _ _ _ _ us hl=>match us,hl with | [_,_],_=>rfl)⟩
   (case e=>k_is)
   (case i=>k_is)
   (case l=>k_is)
   (case g=>k_is)
   (case k=>k_is)
   (case ma=>kernel_rfl)
   (case fn=>kernel_rfl)
   (case kc=>k_is)
   (case pg=>kernel_rfl)
   (case hd=>kernel_rfl)
   (case po=>kernel_rfl)
   (case sa=>kernel_rfl)
   (case na=>kernel_rfl)
  obtain ⟨a28,d28,C28⟩:∃ a d,G.Fn _ mg "has_worth" G.s_f ["kind","thing"] a d:=by
   refine' ⟨_,_,G.fn1 KX G0 ?e ?l ?g ?k (fun F=>F.binds (ps:=["kind","thing"]) fun _ _ _ _ _ _ us hl=>match us,hl with | [_,_],_=>rfl)⟩
   (case e=>k_is)
   (case l=>k_is)
   (case g=>k_is)
   (case k=>k_is)
  obtain ⟨a29,d29,C29⟩:∃ a d,G.Fn _ mg "have_parts" G.s_x ["kinds","parts"] a d:=by
   refine' ⟨_,_,G.fn1 KX G0 ?e ?l ?g ?k (fun F=>F.binds (ps:=["kinds","parts"]) fun _ _ _ _ _ _ us hl=>match us,hl with | [_,_],_=>rfl)⟩
   (case e=>k_is)
   (case l=>k_is)
   (case g=>k_is)
   (case k=>k_is)
  obtain ⟨a30,d30,C30⟩:∃ a d,G.Fn _ mg "is_worth" G.vH ["kind","thing"] a d:=by
   refine' ⟨_,_,G.fn1 KX G0 ?e ?l ?g ?k (fun F=>F.binds (ps:=["kind","thing"]) fun _ _ _ _ _ _ us hl=>match us,hl with | [_,_],_=>rfl)⟩
   (case e=>k_is)
   (case l=>k_is)
   (case g=>k_is)
   (case k=>k_is)
  obtain ⟨a31,d31,C31⟩:∃ a d,G.Fn _ mg "need_worth" G.s_g ["kind","worth"] a d:=by
   refine' ⟨_,_,G.fn1 KX G0 ?e ?l ?g ?k (fun F=>F.binds (ps:=["kind","worth"]) fun _ _ _ _ _ _ us hl=>match us,hl with | [_,_],_=>rfl)⟩
   (case e=>k_is)
   (case l=>k_is)
   (case g=>k_is)
   (case k=>k_is)
  obtain ⟨a32,d32,C32⟩:∃ a d,G.Fn _ mg "worth_if_any" G.s_o ["kind","number"] a d:=by
   refine' ⟨_,_,G.fn1 KX G0 ?e ?l ?g ?k (fun F=>F.binds (ps:=["kind","number"]) fun _ _ _ _ _ _ us hl=>match us,hl with | [_,_],_=>rfl)⟩
   (case e=>k_is)
   (case l=>k_is)
   (case g=>k_is)
   (case k=>k_is)
  obtain ⟨a33,d33,C33⟩:∃ a d,G.Fn _ mg "place_of" G.s_3 ["kind","worth"] a d:=by
   refine' ⟨_,_,G.fn1 KX G0 ?e ?l ?g ?k (fun F=>F.binds (ps:=["kind","worth"]) fun _ _ _ _ _ _ us hl=>match us,hl with | [_,_],_=>rfl)⟩
   (case e=>k_is)
   (case l=>k_is)
   (case g=>k_is)
   (case k=>k_is)
  obtain ⟨a34,d34,C34⟩:∃ a d,G.Fn _ mg "place_of_parts" G.vL ["kinds","parts"] a d:=by
   refine' ⟨_,_,G.fn1 KX G0 ?e ?l ?g ?k (fun F=>F.binds (ps:=["kinds","parts"]) fun _ _ _ _ _ _ us hl=>match us,hl with | [_,_],_=>rfl)⟩
   (case e=>k_is)
   (case l=>k_is)
   (case g=>k_is)
   (case k=>k_is)
  obtain ⟨a35,d35,C35⟩:∃ a d,G.Fn _ mg "next_worth" G.s_l ["kind","worth"] a d:=by
   refine' ⟨_,_,G.fn1 KX G0 ?e ?l ?g ?k (fun F=>F.binds (ps:=["kind","worth"]) fun _ _ _ _ _ _ us hl=>match us,hl with | [_,_],_=>rfl)⟩
   (case e=>k_is)
   (case l=>k_is)
   (case g=>k_is)
   (case k=>k_is)
  obtain ⟨a36,d36,C36⟩:∃ a d,G.Fn _ mg "worth_ahead" G.s_p ["kind","worth"] a d:=by
   refine' ⟨_,_,G.fn1 KX G0 ?e ?l ?g ?k (fun F=>F.binds (ps:=["kind","worth"]) fun _ _ _ _ _ _ us hl=>match us,hl with | [_,_],_=>rfl)⟩
   (case e=>k_is)
   (case l=>k_is)
   (case g=>k_is)
   (case k=>k_is)
  obtain ⟨a37,d37,C37⟩:∃ a d,G.Fn _ mg "between" G.s_i ["kind","one","other"] a d:=by
   refine' ⟨_,_,G.fn1 KX G0 ?e ?l ?g ?k (fun F=>F.binds (ps:=["kind","one","other"]) fun _ _ _ _ _ _ us hl=>match us,hl with | [_,_,_],_=>rfl)⟩
   (case e=>k_is)
   (case l=>k_is)
   (case g=>k_is)
   (case k=>k_is)
  obtain ⟨a38,d38,C38⟩:∃ a d,G.Fn _ mg "middle" G.s_q ["kind"] a d:=by
   refine' ⟨_,_,G.fn1 KX G0 ?e ?l ?g ?k (fun F=>F.binds (ps:=["kind"]) fun _ _ _ _ _ _ us hl=>match us,hl with | [_],_=>rfl)⟩
   (case e=>k_is)
   (case l=>k_is)
   (case g=>k_is)
   (case k=>k_is)
  obtain ⟨a39,d39,C39⟩:∃ a d,G.Fn _ mg "kind_written" G.j3 ["kind"] a d:=by
   refine' ⟨_,_,G.fn1 KX G0 ?e ?l ?g ?k (fun F=>F.binds (ps:=["kind"]) fun _ _ _ _ _ _ us hl=>match us,hl with | [_],_=>rfl)⟩
   (case e=>k_is)
   (case l=>k_is)
   (case g=>k_is)
   (case k=>k_is)
  obtain ⟨a40,d40,C40⟩:∃ a d,G.Fn _ mg "kind_text" G.s_u ["kind"] a d:=by
   refine' ⟨_,_,G.fn1 KX G0 ?e ?l ?g ?k (fun F=>F.binds (ps:=["kind"]) fun _ _ _ _ _ _ us hl=>match us,hl with | [_],_=>rfl)⟩
   (case e=>k_is)
   (case l=>k_is)
   (case g=>k_is)
   (case k=>k_is)
  obtain ⟨a41,d41,C41⟩:∃ a d,G.Fn _ mg "rule_written" G.j4 ["rule"] a d:=by
   refine' ⟨_,_,G.fn1 KX G0 ?e ?l ?g ?k (fun F=>F.binds (ps:=["rule"]) fun _ _ _ _ _ _ us hl=>match us,hl with | [_],_=>rfl)⟩
   (case e=>k_is)
   (case l=>k_is)
   (case g=>k_is)
   (case k=>k_is)
  obtain ⟨a42,d42,C42⟩:∃ a d,G.Fn _ mg "rule_text" G.s_v ["rule"] a d:=by
   refine' ⟨_,_,G.fn1 KX G0 ?e ?l ?g ?k (fun F=>F.binds (ps:=["rule"]) fun _ _ _ _ _ _ us hl=>match us,hl with | [_],_=>rfl)⟩
   (case e=>k_is)
   (case l=>k_is)
   (case g=>k_is)
   (case k=>k_is)
  obtain ⟨a43,d43,C43⟩:∃ a d,G.Fn _ mg "_law_told" G.ZW ["_law_deed"] a d:=by
   refine' ⟨_,_,G.fn1 KX G0 ?e ?l ?g ?k (fun F=>F.binds (ps:=["_law_deed"]) fun _ _ _ _ _ _ us hl=>match us,hl with | [_],_=>rfl)⟩
   (case e=>k_is)
   (case l=>k_is)
   (case g=>k_is)
   (case k=>k_is)
  obtain ⟨a44,d44,C44⟩:∃ a d,G.Fn _ mg "_law_cell" G.s_w ["_law_script","_law_k"] a d:=by
   refine' ⟨_,_,G.fn1 KX G0 ?e ?l ?g ?k (fun F=>F.binds (ps:=["_law_script","_law_k"]) fun _ _ _ _ _ _ us hl=>match us,hl with | [_,_],_=>rfl)⟩
   (case e=>k_is)
   (case l=>k_is)
   (case g=>k_is)
   (case k=>k_is)
  obtain ⟨a45,d45,C45⟩:∃ a d,G.Fn _ mg "_law_pick" G.s_j ["_law_script","_law_k","_law_many"] a d:=by
   refine' ⟨_,_,G.fn1 KX G0 ?e ?l ?g ?k (fun F=>F.binds (ps:=["_law_script","_law_k","_law_many"]) fun _ _ _ _ _ _ us hl=>match us,hl with | [_,_,_],_=>rfl)⟩
   (case e=>k_is)
   (case l=>k_is)
   (case g=>k_is)
   (case k=>k_is)
  obtain ⟨a46,d46,C46,hB,kl,Pl,el,ol,tl,gl⟩:∃ a d,G.Fn _ mg "law" G.s_0 ["_law_script"] a d/\(∀ (s:PySem.Shared) (v:PySem.Value),BindsTo s d ⟨[v],[]⟩ [("_law_script",v)])/\∃ c P,d.code= .ref c/\∃ o,G.vV KX c P o/\h.get? P=some (PySem.W.tabObj #[]):=by
   refine' ⟨_,_,G.fn1 KX G0 ?e ?l ?g ?k (fun F=>F.binds (ps:=["_law_script"]) fun _ _ _ _ _ _ us hl=>match us,hl with | [_],_=>rfl),fun s v=> .of_eq rfl,_,_,rfl,_,⟨?t, ?u, ?h, ?n⟩, ?m⟩
   (case e=>k_is)
   (case l=>k_is)
   (case g=>k_is)
   (case k=>k_is)
   (case t=>k_is)
   (case u=>exact rfl)
   (case h=>kernel_rfl)
   (case n=>kernel_rfl)
   (case m=>exact hT _ (by decide))
  refine' G.fin_ KX G0 hmg ⟨a0,d0,C0,a1,d1,C1,a2,d2,C2,a3,d3,C3,a4,d4,C4,a5,d5,C5,a6,d6,C6,a7,d7,C7,a8,d8,C8,a9,d9,C9,a10,d10,C10,a11,d11,C11,a12,d12,C12,a13,d13,C13,a14,d14,C14,a15,d15,C15,a16,d16,C16,a17,d17,C17,a18,d18,C18,a19,d19,C19,a20,d20,C20,a21,d21,C21,a22,d22,C22,a23,d23,C23,a24,d24,C24,a25,d25,C25,a26,d26,C26,a27,d27,e27,C27,a28,d28,C28,a29,d29,C29,a30,d30,C30,a31,d31,C31,a32,d32,C32,a33,d33,C33,a34,d34,C34,a35,d35,C35,a36,d36,C36,a37,d37,C37,a38,d38,C38,a39,d39,C39,a40,d40,C40,a41,d41,C41,a42,d42,C42,a43,d43,C43,a44,d44,C44,a45,d45,C45,a46,d46,C46,kl,Pl,el,tl.h,tl.n,PySem.W.mg_none_of KX G0 (by k_is),PySem.W.mg_none_of KX G0 (by k_is),PySem.W.mg_none_of KX G0 (by k_is),PySem.W.mg_none_of KX G0 (by k_is),PySem.W.mg_none_of KX G0 (by k_is),PySem.W.mg_none_of KX G0 (by k_is),PySem.W.mg_none_of KX G0 (by k_is),PySem.W.mg_none_of KX G0 (by k_is),PySem.W.mg_none_of KX G0 (by k_is),PySem.W.mg_none_of KX G0 (by k_is),PySem.W.mg_none_of KX G0 (by k_is),PySem.W.mg_none_of KX G0 (by k_is),PySem.W.mg_none_of KX G0 (by k_is),PySem.W.mg_none_of KX G0 (by k_is),PySem.W.mg_none_of KX G0 (by k_is),PySem.W.mg_none_of KX G0 (by k_is),⟨_,PySem.W.mg_of KX G0 (by k_is),_,rfl⟩,⟨_,PySem.W.mg_of KX G0 (by k_is),_,rfl⟩,⟨_,PySem.W.mg_of KX G0 (by k_is),_,rfl⟩,⟨_,PySem.W.mg_of KX G0 (by k_is),_,rfl⟩⟩ hB gl ?n0 ?n1 ?n2 ?n3 ?n4 ?n5 ?n6 ?n7 ?b0 ?b1 ?b2 ?b3 ?b4 ?b5 ?b6 ?b7 ?b8 ?b9 ?b10 ?b11 ?b12 ?b13
  (case n0=>k_is)
  (case n1=>k_is)
  (case n2=>k_is)
  (case n3=>k_is)
  (case n4=>k_is)
  (case n5=>k_is)
  (case n6=>k_is)
  (case n7=>k_is)
  (case b0=>kernel_rfl)
  (case b1=>kernel_rfl)
  (case b2=>kernel_rfl)
  (case b3=>kernel_rfl)
  (case b4=>kernel_rfl)
  (case b5=>kernel_rfl)
  (case b6=>kernel_rfl)
  (case b7=>kernel_rfl)
  (case b8=>kernel_rfl)
  (case b9=>kernel_rfl)
  (case b10=>kernel_rfl)
  (case b11=>kernel_rfl)
  (case b12=>kernel_rfl)
  (case b13=>kernel_rfl)
