import PyProof.Rows.All
import Wide.All
import OpenK.AllK
import Wide.FinOn
import Lean
import PyProof.EqAt
import PyProof.EqKinds
import PyProof.TupleCall
import PyProof.NeKinds
import PyProof.WalksEnum
import PyProof.StrWalks
import PyProof.ExcAttrAll.ValueError
import PyProof.ZipIter
import KE.KRevIter
import PyProof.ListNew
import PyProof.WalksMore
import PyProof.ReprLoop
import PyProof.FactsAll.list
import PyProof.CollectIter
import PyProof.TupleOfGen
import PyProof.Draws
import PyProof.EnumMake
import PyProof.SeqI3
import KE.KMinBuiltin
import PyProof.SetRoads
import PyProof.CollectWalk
import KE.KDictSum
import PyProof.AttrMiss
import PyProof.IsiH_tuple
import KE.KDictOf
import PyProof.FitsBits
import PyProof.SliceList
import PyProof.InstFacts
import PyProof.Rows.StrNews2
import PyProof.StrBlockH
import PyProof.CallStr
import KE.KIntText
import PyProof.Rows.RuleB_pow
import KE.KSortTup
import PyProof.ReprRoads
import KE.KLam
import PySem.Challenge.RW_worthkinds_k84_sieves_refused
noncomputable section
set_option maxHeartbeats 4000000
set_option Elab.async false
set_option linter.all false
set_option maxRecDepth 100000
namespace L2
open PySem PySem.Spec PyProof.Rows
abbrev Key:=Sum Int Str
def YU:Key->Value->Bool
 | .inl k,v=>Value.isInt k v
 | .inr x,v=>Value.isStrOf x v
def KU (w:World):Key->Int
 | .inl k=>hashInt k
 | .inr x=>hashStr w x
theorem zx:∀ {k:Key} {v:Value},YU k v=true->(∃ i t,k=Sum.inl i/\v=Value.int i t)\/(∃ x t,k=Sum.inr x/\v=Value.str x t)
 | .inl i,v,h=>by
  obtain ⟨t,e⟩:=Value.isInt_shape (k:=i) (v:=v) h
  exact .inl ⟨i,t,rfl,e⟩
 | .inr x,v,h=>by
  obtain ⟨t,e⟩:=Value.isStrOf_shape (x:=x) (v:=v) h
  exact .inr ⟨x,t,rfl,e⟩
theorem YV (a b:Int):decide ((Sum.inl a:Key)=Sum.inl b)=(a == b):=by
 by_cases e:a=b
 ·subst e; simp
 ·have h:¬ (Sum.inl a:Key)=Sum.inl b:=fun q=>e (Sum.inl.inj q)
  rw [decide_eq_false h]
  exact (beq_eq_false_iff_ne.mpr e).symm
theorem YW (a b:Str):decide ((Sum.inr a:Key)=Sum.inr b)=decide (a=b):=by
 by_cases e:a=b
 ·subst e; simp
 ·have h:¬ (Sum.inr a:Key)=Sum.inr b:=fun q=>e (Sum.inr.inj q)
  rw [decide_eq_false h,decide_eq_false e]
theorem YX (a:Int) (b:Str):decide ((Sum.inl a:Key)=Sum.inr b)=false:=decide_eq_false (fun q=>nomatch q)
theorem YY (a:Str) (b:Int):decide ((Sum.inr a:Key)=Sum.inl b)=false:=decide_eq_false (fun q=>nomatch q)
def JM (prog:Program) (w:World):PySem.KeyKind prog w Key where
 is:=YU
 hash:=KU w
 inj:=fun v a b ha hb=>by
  rcases zx ha with ⟨i,t,rfl,rfl⟩ | ⟨x,t,rfl,rfl⟩
  ·rcases zx hb with ⟨j,u,rfl,e⟩ | ⟨y,u,rfl,e⟩
   ·injection e with e1 _; rw [e1]
   ·exact nomatch e
  ·rcases zx hb with ⟨j,u,rfl,e⟩ | ⟨y,u,rfl,e⟩
   ·exact nomatch e
   ·injection e with e1 _; rw [e1]
 byValue:=fun k v h=>by
  rcases zx h with ⟨i,t,rfl,rfl⟩ | ⟨x,t,rfl,rfl⟩ <;> rfl
 pyHash:=fun hv h=>by
  rcases zx hv with ⟨i,t,rfl,rfl⟩ | ⟨x,t,rfl,rfl⟩
  ·exact wpAny_pyHash_int h
  ·exact wpAny_pyHash_str h
 eqBool:=fun hu hv h=>by
  rcases zx hu with ⟨i,t,rfl,rfl⟩ | ⟨x,t,rfl,rfl⟩
  ·rcases zx hv with ⟨j,u,rfl,rfl⟩ | ⟨y,u,rfl,rfl⟩
   ·rw [YV] at h; exact wpAny_eqBool_int h
   ·rw [YX] at h; exact SeqAt.EqAt.int_str i t y u _ _ _ _ h
  ·rcases zx hv with ⟨j,u,rfl,rfl⟩ | ⟨y,u,rfl,rfl⟩
   ·rw [YY] at h; exact SeqAt.EqAt.str_int x t j u _ _ _ _ h
   ·rw [YW] at h; exact wpAny_eqBool_str h
 «strs»:=fun k x t v h=>by
  rcases zx h with ⟨i,u,rfl,e⟩ | ⟨y,u,rfl,e⟩
  ·exact nomatch e
  ·injection e with e1 _
   subst e1
   cases v <;> rfl
end L2
namespace L2
open PySem PySem.Spec PyProof.Rows
inductive V where
 | non | bl (b:Bool) | int (i:Int) | str (x:Str) | byt (b:Array UInt8) | flt (b:UInt64) | ref (a:Addr) | ty (n:String)
 deriving DecidableEq
def zF:V->Value->Prop
 | .non,u=>u=Value.none
 | .bl b,u=>u=Value.bool b
 | .int i,u=>∃ t,u=Value.int i t
 | .str x,u=>∃ t,u=Value.str x t
 | .byt b,u=>∃ t,u=Value.bytes b t
 | .flt b,u=>∃ t,u=Value.float b t
 | .ref a,u=>u=Value.ref a
 | .ty n,u=>u=Value.type n
abbrev zv:List V->List Value->Prop:=Paired zF
theorem zv.length {xs:List V} {us:List Value} (r:zv xs us):xs.length=us.length:=Paired.length r
theorem zv.get:∀ {xs:List V} {us:List Value} {i:Nat} {x:V},zv xs us->xs[i]? =some x->∃ u,us[i]? =some u/\zF x u
 | _,_,_,_, .nil,e=>by simp at e
 | _,_,0,_, .cons r _,e=>by simp at e; subst e; exact ⟨_,rfl,r⟩
 | _,_,i+1,x, .cons _ t,e=>by
  obtain ⟨u,h1,h2⟩:=zv.get (i:=i) (x:=x) t (by simpa using e)
  exact ⟨u,by simpa using h1,h2⟩
theorem zv.append:∀ {xs ys:List V} {us ws:List Value},zv xs us->zv ys ws->zv (xs++ys) (us++ws)
 | _,_,_,_, .nil,s=>s
 | _,_,_,_, .cons r t,s=> .cons r (zv.append t s)
theorem zv.take:∀ {xs:List V} {us:List Value} (n:Nat),zv xs us->zv (xs.take n) (us.take n)
 | _,_,0,_=> .nil
 | _,_,_+1, .nil=> .nil
 | _,_,n+1, .cons r t=> .cons r (zv.take n t)
theorem zv.drop:∀ {xs:List V} {us:List Value} (n:Nat),zv xs us->zv (xs.drop n) (us.drop n)
 | _,_,0,r=>r
 | _,_,_+1, .nil=> .nil
 | _,_,n+1, .cons _ t=>zv.drop n t
def uM:Option V->Option Value->Prop
 | some v,some u=>zF v u
 | none,none=>True
 | _,_=>False
def KV {κ:Type}:List (κ×V)->List (κ×Value)->Prop:=Paired fun (p:κ×V) (q:κ×Value)=>p.1=q.1/\zF p.2 q.2
def kV:Key->V
 | .inl i=> .int i
 | .inr x=> .str x
inductive HO where
 | lst (xs:List V)
 | tup (xs:List V)
 | dK (kvs:List (Key×V)) | dT (kvs:List (List Key×V))
 | set (S:Int->Bool) (n:Nat)
 | ins (C dx:Addr) (fs:List (Str×V))
 | own (x:Addr)
 | xd (fs:List (Str×V))
 | met (f x:Addr)
 | rng (lo hi:Int)
 | frz (o:Obj) (u:HO)
 | tbl (ps:Array Value) (q:Str)
 | ext (φ:Heap->Prop)
abbrev Hp:=Addr->Option HO
def upd (H:Hp) (a:Addr) (o:HO):Hp:=fun b=>if b=a then some o else H b
theorem zi {H:Hp} {a:Addr} {o:HO}:upd H a o a=some o:=by unfold upd; rw [if_pos rfl]
theorem zd {H:Hp} {a b:Addr} {o:HO} (h:b ≠ a):upd H a o b=H b:=by unfold upd; rw [if_neg h]
theorem zl {H:Hp} {a b:Addr} {o:HO} (h:H a=some o) (h' :H b=none):a ≠ b:=by
 intro e; subst e; rw [h] at h'; cases h'
def ITN (h:Heap) (a:Addr) (its:Array Value):Prop:=IsTup h a its/\((∃ i t,its[0]? =some (Value.int i t))\/∃ o,h.get? a=some o/\o.dict=none)
theorem ITN.new (h:Heap) (its:Array Value):ITN (h.push { cls:= .type "tuple",data:= .seq its }) h.objs.size its:=⟨IsTup.new h its, .inr ⟨_,Heap.get?_push_size _ rfl,rfl⟩⟩
section
variable (P:Program) (w:World)
def zK (H:Hp) (h:Heap) (a:Addr):HO->Prop
 | .lst xs=>xs.length<=sizeLine/\∃ (its:List Value) (n:Nat),zv xs its/\h.get? a=some { cls:= .type "list",data:= .seq its.toArray n }
 | .tup xs=>xs.length<=sizeLine/\∃ its:List Value,zv xs its/\ITN h a its.toArray
 | .dK kvs=>kvs.length<=sizeLine/\(a == sysModules)=false/\∃ vs,KV kvs vs/\h.DictOf (JM P w) a vs
 | .dT kvs=>kvs.length<=sizeLine/\(a == sysModules)=false/\∃ xs:List (List Key×Addr×Value),
   Paired (fun (p:List Key×V) (q:List Key×Addr×Value)=>p.1=q.1/\H q.2.1=some (.tup (p.1.map kV))/\zF p.2 q.2.2) kvs xs/\
   ∃ o es ep,h.get? a=some o/\o.ExactDict/\o.data= .dict es ep/\es.toList=xs.map (entryOfKey (tupleKind (JM P w)))/\(xs.map (·.1)).Nodup
 | .set S n=>h.SetOf (intKind P w) a S n
 | .ins C dx fs=>H dx=some (.own a)/\fs.length<=1000/\dx ≠ a/\h.get? a=some (PySem.W.instObj C dx)/\
   ∃ mA,h.Ns1 dx mA/\(∀ f,uM (fs.lookup f) (mA f))/\PySem.Within mA (fs.map (·.1))
 | .own _=>∃ o,h.get? a=some o
 | .xd fs=>∃ mA,h.Ns1 a mA/\∀ f,uM (fs.lookup f) (mA f)
 | .rng lo hi=>∃ t u v,h.get? a=some { cls:= .type "range",data:= .fields #[.int lo t, .int hi u, .int 1 v] }
 | .frz o u=>h.get? a=some o/\zK H h a u
 | .tbl ps q=>∃ more:Array Value,h.get? a=some { cls:= .none,data:= .fields (ps++more) }/\TriplesOk (ps++more).toList/\∀ p cv,codeAmong p (ps++more).toList=some cv->∃ c oc vs t,cv= .ref c/\H c=some (.frz oc (.own c))/\oc.data= .fields vs/\vs[1]? =some (.str q t)
 | .met f x=>h.get? a=some (PySem.W.methodObj (.ref f) (.ref x))
 | .ext φ=>φ h/\(∃ o,h.get? a=some o)/\∀ h1 h2:Heap,φ h1->(∀ o,h1.get? a=some o->h2.get? a=some o)->φ h2
def HOk (H:Hp) (h:Heap):Prop:=∀ a o,H a=some o->zK P w H h a o
end
section
variable {P:Program} {w:World} {H H' :Hp} {h h' :Heap} {a:Addr} {o:HO}
theorem zK.lt (x:zK P w H h a o):a < h.objs.size:=by
 cases o with
 | lst xs=>obtain ⟨_,_,_,_,e⟩:=x; exact Heap.lt_size e
 | tup xs=>obtain ⟨_,_,_,p,_⟩:=x; exact p.lt
 | dK kvs=>obtain ⟨_,_,_,_,o,_,_,e,_⟩:=x; exact Heap.lt_size e
 | dT kvs=>obtain ⟨_,_,_,_,o,_,_,e,_⟩:=x; exact Heap.lt_size e
 | set S n=>obtain ⟨o,_,_,_,e,_⟩:=x; exact Heap.lt_size e
 | ins C dx fs=>obtain ⟨_,_,_,e,_⟩:=x; exact Heap.lt_size e
 | own y=>obtain ⟨_,e⟩:=x; exact Heap.lt_size e
 | xd fs=>obtain ⟨_,⟨_,_,_,e,_⟩,_⟩:=x; exact Heap.lt_size e
 | rng lo hi=>obtain ⟨_,_,_,e⟩:=x; exact Heap.lt_size e
 | frz ob u=>obtain ⟨e,_⟩:=x; exact Heap.lt_size e
 | tbl ps q=>obtain ⟨_,e,_⟩:=x; exact Heap.lt_size e
 | met f y=>exact Heap.lt_size (show h.get? a=some _ from x)
 | ext φ=>obtain ⟨_,⟨_,e⟩,_⟩:=x; exact Heap.lt_size e
theorem Paired.mapP {α β:Type} {F G:α->β->Prop}:∀ {l₁:List α} {l₂:List β},Paired F l₁ l₂->(∀ a b,F a b->G a b)->Paired G l₁ l₂
 | _,_, .nil,_=> .nil
 | _,_, .cons r t,f=> .cons (f _ _ r) (Paired.mapP t f)
theorem zK.stay (x:zK P w H h a o) (k:∀ b u,(b=a\/H b=some (.own a))->h.get? b=some u->h'.get? b=some u)
  (ho:∀ b,H b=some (.own a)->H' b=some (.own a)) (ht:∀ b xs,H b=some (.tup xs)->H' b=some (.tup xs)) (hf:∀ b o u,H b=some (.frz o u)->H' b=some (.frz o u):=by exact fun _ _ _ q=>q):zK P w H' h' a o:=by
 induction o with
 | lst xs=>obtain ⟨z,its,n,r,e⟩:=x; exact ⟨z,its,n,r,k _ _ (.inl rfl) e⟩
 | tup xs=>obtain ⟨z,its,r,⟨ob,e,c⟩,q⟩:=x; exact ⟨z,its,r,⟨ob,k _ _ (.inl rfl) e,c⟩,q.imp id fun ⟨o2,e2,d2⟩=>⟨o2,k _ _ (.inl rfl) e2,d2⟩⟩
 | dK kvs=>obtain ⟨z,y,vs,r,ob,es,ep,e,c⟩:=x; exact ⟨z,y,vs,r,ob,es,ep,k _ _ (.inl rfl) e,c⟩
 | dT kvs=>
  obtain ⟨z,y,xs,r,ob,es,ep,e,c⟩:=x
  exact ⟨z,y,xs,Paired.mapP r fun p q z=>⟨z.1,ht _ _ z.2.1,z.2.2⟩,ob,es,ep,k _ _ (.inl rfl) e,c⟩
 | set S n=>obtain ⟨ob,es,ep,t,e,c⟩:=x; exact ⟨ob,es,ep,t,k _ _ (.inl rfl) e,c⟩
 | ins C dx fs=>
  obtain ⟨d,z,ne,e,mA,⟨od,es,ep,e2,c⟩,r⟩:=x
  exact ⟨ho _ d,z,ne,k _ _ (.inl rfl) e,mA,⟨od,es,ep,k _ _ (.inr d) e2,c⟩,r⟩
 | own y=>obtain ⟨ob,e⟩:=x; exact ⟨ob,k _ _ (.inl rfl) e⟩
 | xd fs=>obtain ⟨mA,⟨od,es,ep,e,c⟩,r⟩:=x; exact ⟨mA,⟨od,es,ep,k _ _ (.inl rfl) e,c⟩,r⟩
 | rng lo hi=>obtain ⟨t,u,v,e⟩:=x; exact ⟨t,u,v,k _ _ (.inl rfl) e⟩
 | frz ob u ih=>obtain ⟨e,q⟩:=x; exact ⟨k _ _ (.inl rfl) e,ih q⟩
 | tbl ps q=>
  obtain ⟨m,e,tr,al⟩:=x
  exact ⟨m,k a _ (.inl rfl) e,tr,fun p cv z=>let ⟨c,oc,vs,t,e1,e2,e3⟩:=al p cv z; ⟨c,oc,vs,t,e1,hf _ _ _ e2,e3⟩⟩
 | met f y=>
  have e:h.get? a=some (PySem.W.methodObj (.ref f) (.ref y)):=x
  show h'.get? a=some (PySem.W.methodObj (.ref f) (.ref y))
  exact k a _ (.inl rfl) e
 | ext φ=>obtain ⟨p,⟨o,e⟩,st⟩:=x; exact ⟨st _ _ p fun o q=>k _ _ (.inl rfl) q,⟨o,k _ _ (.inl rfl) e⟩,st⟩
theorem HOk.lt (x:HOk P w H h) (e:H a=some o):a < h.objs.size:=(x a o e).lt
theorem HOk.fresh (x:HOk P w H h) (e:h.objs.size<=a):H a=none:=by
 cases q:H a with
 | none=>rfl
 | some u=>exact absurd (Nat.lt_of_lt_of_le (x.lt q) e) (Nat.lt_irrefl _)
theorem HOk.kept (x:HOk P w H h) (k:∀ b u,h.get? b=some u->h'.get? b=some u):HOk P w H h' :=fun a o e=>
 (x a o e).stay (fun b u _ q=>k b u q) (fun _ q=>q) fun _ _ q=>q
theorem HOk.laid (x:HOk P w H h) (k:∀ b u,h.get? b=some u->h'.get? b=some u) (hp:h.objs.size<=a) (new:zK P w (upd H a o) h' a o):HOk P w (upd H a o) h' :=fun b u e=>by
 have hn:=x.fresh hp
 by_cases hb:b=a
 ·subst hb; rw [zi] at e; cases e; exact new
 ·rw [zd hb] at e
  exact (x b u e).stay (fun c v _ q=>k c v q) (fun c q=>by rw [zd (zl q hn)]; exact q) (fun c xs q=>by rw [zd (zl q hn)]; exact q) fun c o u q=>by rw [zd (zl q hn)]; exact q
end
def Rd (H:Hp) (a:Addr) (u:HO):Prop:=H a=some u\/∃ o,H a=some (.frz o u)
theorem Rd.ok {P:Program} {w:World} {H:Hp} {h:Heap} {a:Addr} {u:HO} (r:Rd H a u) (x:HOk P w H h):zK P w H h a u:=by
 rcases r with r | ⟨o,r⟩
 ·exact x a u r
 ·obtain ⟨_,q⟩:=x a _ r
  exact q
def Mut:Option HO->Prop
 | some (.lst _)=>True
 | some (.dK _)=>True
 | some (.dT _)=>True
 | some (.set _ _)=>True
 | some (.ins _ _ _)=>True
 | some (.ext _)=>True
 | _=>False
section
variable {P:Program} {w:World} {H:Hp} {h h' :Heap} {x e:Addr} {o' :HO}
theorem HOk.write (ok:HOk P w H h) (mu:Mut (H x)) (he:e=x\/H e=some (.own x)) (k:∀ b u,b ≠ e->h.get? b=some u->h'.get? b=some u) (heo:∃ u,h'.get? e=some u)
  (new:zK P w (upd H x o') h' x o'):HOk P w (upd H x o') h' :=fun b u q=>by
 have nown:∀ c y,H c=some (.own y)->c ≠ x:=fun c y r z=>by subst z; rw [r] at mu; exact mu
 have ntup:∀ c xs,H c=some (.tup xs)->c ≠ x:=fun c xs r z=>by subst z; rw [r] at mu; exact mu
 by_cases hb:b=x
 ·subst hb; rw [zi] at q; cases q; exact new
 ·rw [zd hb] at q
  by_cases hbe:b=e
  ·have q' :H b=some (.own x):=by
    rcases he with z | z
    ·exact absurd (hbe.trans z) hb
    ·rw [hbe]; exact z
   rw [q] at q'; cases q'
   obtain ⟨v,hv⟩:=heo
   exact ⟨v,by rw [hbe]; exact hv⟩
  ·refine (ok b u q).stay (fun c v hc r=>k c v ?_ r) (fun c r=>by rw [zd (nown c b r)]; exact r) (fun c xs r=>by rw [zd (ntup c xs r)]; exact r) fun c o u r=>by rw [zd (fun z=>by subst z; rw [r] at mu; exact mu)]; exact r
   rcases hc with rfl | hc
   ·exact hbe
   ·rintro rfl
    rcases he with z | z
    ·exact nown c b hc z
    ·rw [hc] at z; cases z; exact hb rfl
end
structure Un (fs ex:List Addr) (H H' :Hp) (h h' :Heap):Prop where
 keep:∀ b o,h.get? b=some o->H b=none->b ∉ fs->b ∉ ex->h'.get? b=some o
 slot:∀ b o,h.get? b=some o->H b=none->b∈fs->b ∉ ex->∃ sl,h'.get? b=some { o with slots:=sl }
 free:∀ b o,h.get? b=some o->H b=none->b ∉ ex->H' b=none
 there:∀ b o,h.get? b=some o->b ∉ ex->∃ o',h'.get? b=some o'
 tups:∀ b xs,H b=some (.tup xs)->H' b=some (.tup xs)
 frzs:∀ b o u,H b=some (.frz o u)->H' b=some (.frz o u)
 tbls:∀ b ps q,H b=some (.tbl ps q)->H' b=some (.tbl ps q)
section
variable {fs fs' ex ex' :List Addr} {H H1 H2:Hp} {h h1 h2 h' :Heap} {a x e:Addr} {o:HO}
theorem Un.any (u:Un fs ex H H1 h h1) {b:Addr} {ob:Obj} (q:h.get? b=some ob) (n:H b=none) (hx:b ∉ ex):∃ sl,h1.get? b=some { ob with slots:=sl }:=by
 by_cases hb:b∈fs
 ·exact u.slot b ob q n hb hx
 ·exact ⟨ob.slots,u.keep b ob q n hb hx⟩
theorem Un.kept (k:∀ b u,h.get? b=some u->h'.get? b=some u):Un fs ex H H h h' :=
 ⟨fun b ob q _ _ _=>k b ob q,fun b ob q _ _ _=>⟨ob.slots,k b ob q⟩,fun _ _ _ n _=>n,fun b ob q _=>⟨ob,k b ob q⟩,fun _ _ q=>q,fun _ _ _ q=>q,fun _ _ _ q=>q⟩
theorem Un.refl:Un fs ex H H h h:=Un.kept fun _ _ q=>q
theorem Un.laid (k:∀ b u,h.get? b=some u->h'.get? b=some u) (hp:h.objs.size<=a) (hn:H a=none):Un fs ex H (upd H a o) h h' where
 keep:=fun b u q _ _ _=>k b u q
 slot:=fun b u q _ _ _=>⟨u.slots,k b u q⟩
 free:=fun b u q n _=>by rw [zd (Nat.ne_of_lt (Nat.lt_of_lt_of_le (Heap.lt_size q) hp))]; exact n
 there:=fun b u q _=>⟨u,k b u q⟩
 tups:=fun b xs q=>by rw [zd (zl q hn)]; exact q
 frzs:=fun b u xs q=>by rw [zd (zl q hn)]; exact q
 tbls:=fun b ps q e=>by rw [zd (zl e hn)]; exact e
theorem Un.write (mu:Mut (H x)) (he:e=x\/H e=some (.own x)) (k:∀ b u,b ≠ e->h.get? b=some u->h'.get? b=some u) (heo:∃ u,h'.get? e=some u):Un fs ex H (upd H x o) h h' :=by
 have hx:∀ b,H b=none->b ≠ x:=fun b n z=>by subst z; rw [n] at mu; exact mu
 have hb:∀ b,H b=none->b ≠ e:=fun b n z=>by
  subst z
  rcases he with r | r
  ·exact hx b n r
  ·rw [n] at r; cases r
 have hm:∀ b u,H b=some u->¬ Mut (some u)->b ≠ x:=fun b u q nm z=>by subst z; rw [q] at mu; exact nm mu
 refine ⟨fun b u q n _ _=>k b u (hb b n) q,fun b u q n _ _=>⟨u.slots,k b u (hb b n) q⟩,fun b u q n _=>by rw [zd (hx b n)]; exact n,fun b u q _=> ?_,
  fun b xs q=>by rw [zd (hm b _ q fun z=>z)]; exact q,fun b u xs q=>by rw [zd (hm b _ q fun z=>z)]; exact q,fun b ps q e=>by rw [zd (hm b _ e fun z=>z)]; exact e⟩
 by_cases hbe:b=e
 ·subst hbe; exact heo
 ·exact ⟨u,k b u hbe q⟩
end
def trk (h:Heap) (H:Hp):List Addr:=(List.range h.objs.size).filter fun a=>(H a).isSome
def uS (h:Heap) (H:Hp):Heap:=PySem.W.hideAll h (trk h H)
theorem Wm (h:Heap) (H:Hp):(uS h H).objs.size=h.objs.size:=PySem.W.hideAll_size _ _
theorem jM {h:Heap} {H:Hp} {b:Addr} {o:Obj} (e:h.get? b=some o) (n:H b=none):(uS h H).get? b=some o:=
 PySem.W.hideAll_get _ e fun hm=>by
  have q:(H b).isSome=true:=(List.mem_filter.mp hm).2
  rw [n] at q; simp at q
theorem ye {h:Heap} {H:Hp} {b:Addr} {o:Obj} (e:(uS h H).get? b=some o):h.get? b=some o/\H b=none:=by
 have e' :h.get? b=some o:=PySem.W.of_hideAll (trk h H) e
 refine ⟨e', ?_⟩
 cases q:H b with
 | none=>rfl
 | some x=>
  have hm:b∈trk h H:=List.mem_filter.mpr ⟨List.mem_range.mpr (Heap.lt_size e'),by simp [q]⟩
  have z:(uS h H).get? b=none:=PySem.W.hideAll_none (trk h H) hm
  rw [z] at e; cases e
end L2
namespace L2
open PySem PySem.Spec PyProof.Rows
structure Mod (K:PySem.W.Frag) (mg:Str->Option Value) (base:Heap):Prop where
 kin:K.In base
 glob:base.Ns mainGlobals mg
 blt:∃ mb,base.Ns builtinsNs mb/\∀ x:Str,x ≠ "__name__"->mb x=bootBuiltins x
 nolimit:base.NoLimit
structure Cx where
 prog:Program
 w:World
 K:PySem.W.Frag
 mg:Str->Option Value
 base:Heap
 A:Around
 N:List Str
 s₀:Shared
 H₀:Hp
 env:Env
 outer:List Env
 stack:List Env
 ex:List Addr
 fn:Str->Bool
 calm:Bool
 pn:List (Addr×Obj)
 xe:Value->Shared->Prop
def frs (l:List Env):List Addr:=l.filterMap (·.frame)
abbrev Cx.fs (X:Cx):List Addr:=frs X.outer
def Vis (sc:Scope) (x:Str):Prop:=sc.names.lookup x=some .local\/sc.names.lookup x=some .cell\/sc.names.lookup x=some .free
def Loc (sc:Scope) (x:Str):Prop:=sc.names.lookup x=some .local\/sc.names.lookup x=some .cell
def KW (env:Env) (h:Heap) (m:Str->Option Value) (x:Str) (u:Value):Prop:=
 (env.kindOf x=some .local/\m x=some u)\/((env.kindOf x=some .cell\/env.kindOf x=some .free)/\∃ c,env.cells.lookup x=some c/\h.IsCell c (some u))
structure Cx.Ok (X:Cx):Prop where
 mod:Mod X.K X.mg X.base
 kind:X.env.scope.kind= .function
 glob:X.env.globals=mainGlobals
 blt:X.env.builtins=builtinsNs
 above:X.s₀.heap.objs.size<=X.env.locals
 inj:∀ x y c,X.env.cells.lookup x=some c->X.env.cells.lookup y=some c->x=y
 has:∀ x,(X.env.kindOf x=some .cell\/X.env.kindOf x=some .free)->∃ c,X.env.cells.lookup x=some c
 cab:∀ x c,X.fn x=true->X.env.cells.lookup x=some c->X.s₀.heap.objs.size<=c
 hd:X.calm=true->X.A.handled=none
 frames:X.A.frames=some X.stack
 stk:X.stack=X.outer\/(X.stack=X.env :: X.outer/\X.env.frame=some X.env.locals)
 exf:∀ b∈X.ex,b ≠ X.env.locals/\∀ x c,X.env.cells.lookup x=some c->c ≠ b
 bs:∀ b o,X.base.get? b=some o->X.s₀.heap.get? b=some o/\X.H₀ b=none
 bsz:X.base.objs.size<=X.s₀.heap.objs.size
 noex:∀ b o,X.base.get? b=some o->b ∉ X.ex
 exfs:∀ b∈X.ex,b ∉ X.fs
 funs:X.s₀.heap.FunFrames X.base X.outer
 frf:∀ b∈X.fs,X.H₀ b=none
structure Inv (X:Cx) (pins:List (Addr×Obj)) (σ:List (Option V)) (H:Hp) (s:Shared):Prop where
 ok:X.Ok
 os:s.os=X.s₀.os
 bare:AllBare s.gens
 base:Un X.fs X.ex X.H₀ H X.s₀.heap s.heap
 loc:∃ m,s.heap.Ns X.env.locals m/\∀ (i:Nat) (x:Str) (v:V),X.N[i]? =some x->σ[i]? =some (some v)->Vis X.env.scope x->∃ u,zF v u/\KW X.env s.heap m x u
 cell:∀ x c,X.env.cells.lookup x=some c->∃ v,s.heap.IsCell c v
 free:H X.env.locals=none
 freeC:∀ x c,X.env.cells.lookup x=some c->H c=none
 pin:∀ p∈X.pn++pins,s.heap.get? p.1=some p.2/\H p.1=none/\p.1 ≠ X.env.locals/\p.1 ∉ X.fs/\∀ v,p.2.data ≠ .cell v
 hok:HOk X.prog X.w H s.heap
 len:σ.length=X.N.length
section
variable {X:Cx} {pins:List (Addr×Obj)} {σ:List (Option V)} {H H' :Hp} {s:Shared} {h' :Heap}
theorem Cx.Ok.nofr (ok:X.Ok) {b:Addr} {o:Obj} (e:X.base.get? b=some o):b ∉ X.fs:=fun hb=>by
 have:=(ok.funs.mem hb).1
 rw [e] at this; cases this
theorem Inv.bs (I:Inv X pins σ H s):∀ b o,X.base.get? b=some o->s.heap.get? b=some o/\H b=none:=fun b o e=>
 ⟨I.base.keep b o (I.ok.bs b o e).1 (I.ok.bs b o e).2 (I.ok.nofr e) (I.ok.noex b o e),I.base.free b o (I.ok.bs b o e).1 (I.ok.bs b o e).2 (I.ok.noex b o e)⟩
theorem Inv.bk (I:Inv X pins σ H s):∀ b o,X.base.get? b=some o->s.heap.get? b=some o:=fun b o e=>(I.bs b o e).1
theorem Inv.mod (I:Inv X pins σ H s):Mod X.K X.mg X.base:=I.ok.mod
theorem Inv.kIn (I:Inv X pins σ H s):X.K.In s.heap:=I.ok.mod.kin.keeps I.bk
theorem Inv.lt (I:Inv X pins σ H s):X.env.locals < s.heap.objs.size:=let ⟨_,hn,_⟩:=I.loc; hn.lt
theorem Inv.sz (I:Inv X pins σ H s):X.s₀.heap.objs.size<=s.heap.objs.size:=Nat.le_trans I.ok.above (Nat.le_of_lt I.lt)
theorem Inv.nofs (I:Inv X pins σ H s) {a:Addr} (h:s.heap.objs.size<=a):a ∉ X.fs:=fun hb=>by
 obtain ⟨_,o,ho,_⟩:=I.ok.funs.mem hb
 exact absurd (Nat.lt_of_lt_of_le (Heap.lt_size ho) (Nat.le_trans I.sz h)) (Nat.lt_irrefl _)
theorem Inv.cne (I:Inv X pins σ H s):∀ x c,X.env.cells.lookup x=some c->c ≠ X.env.locals:=fun x c e z=>by
 obtain ⟨v,o,ho,hd⟩:=I.cell x c e
 obtain ⟨m,⟨o',es,ep,ho',hd',_⟩,_⟩:=I.loc
 rw [z,ho'] at ho; cases ho; rw [hd'] at hd; cases hd
theorem Inv.funs (I:Inv X pins σ H s):s.heap.FunFrames X.base X.outer:=by
 have all:∀ (l:List Env),(∀ b∈frs l,b∈X.fs)->X.s₀.heap.FunFrames X.base l->s.heap.FunFrames X.base l:=by
  intro l
  induction l with
  | nil=>intro _ _; trivial
  | cons env r ih=>
   intro hs hl
   obtain ⟨hk,⟨L,o,hf,hn,ho,hd⟩,hr⟩:=hl
   have hL:L∈X.fs:=hs L (by unfold frs; rw [List.filterMap_cons,hf]; exact List.mem_cons_self)
   obtain ⟨sl,e⟩:=I.base.slot L o ho (I.ok.frf L hL) hL fun z=>I.ok.exfs L z hL
   exact ⟨hk,⟨L,_,hf,hn,e,hd⟩,ih (fun b hb=>hs b (by unfold frs; rw [List.filterMap_cons,hf]; exact List.mem_cons_of_mem _ hb)) hr⟩
 exact all X.outer (fun _ hb=>hb) I.ok.funs
theorem Inv.stack (I:Inv X pins σ H s):s.heap.FunFrames X.base X.stack:=by
 rcases I.ok.stk with e | ⟨e,hf⟩
 ·rw [e]; exact I.funs
 ·rw [e]
  obtain ⟨m,hn,_⟩:=I.loc
  refine .cons (by rw [I.ok.kind]; decide) hf hn ?_ I.funs
  exact Heap.get?_none_of_le (Nat.le_trans I.ok.bsz I.ok.above)
theorem Inv.stkSub (I:Inv X pins σ H s):∀ b∈frs X.stack,b∈X.env.locals :: X.fs:=fun b hb=>by
 rcases I.ok.stk with e | ⟨e,hf⟩
 ·rw [e] at hb; exact List.mem_cons_of_mem _ hb
 ·rw [e] at hb
  unfold frs at hb
  rw [List.filterMap_cons,hf] at hb
  exact hb
theorem Inv.stkFree (I:Inv X pins σ H s):∀ b∈frs X.stack,H b=none:=fun b hb=>by
 rcases List.mem_cons.mp (I.stkSub b hb) with e | hb
 ·rw [e]; exact I.free
 ·obtain ⟨_,o,ho,_⟩:=I.ok.funs.mem hb
  exact I.base.free b o ho (I.ok.frf b hb) fun z=>I.ok.exfs b z hb
theorem Inv.step {g' :Array GenState} {t' :Nat} {d' :Drawn} {ch:List Addr} (I:Inv X pins σ H s)
  (hch:∀ b∈ch,(b∈X.ex\/X.s₀.heap.objs.size<=b)/\b ≠ X.env.locals/\(∀ x c,X.env.cells.lookup x=some c->c ≠ b)/\∀ p∈X.pn++pins,p.1 ≠ b)
  (keep:∀ b o,b ≠ X.env.locals->b ∉ X.fs->b ∉ ch->s.heap.get? b=some o->H b=none->h'.get? b=some o)
  (slot:∀ b o,b ≠ X.env.locals->b∈X.fs->b ∉ ch->s.heap.get? b=some o->H b=none->∃ sl,h'.get? b=some { o with slots:=sl }) (free:∀ b o,b ∉ ch->s.heap.get? b=some o->H b=none->H' b=none)
  (there:∀ b o,b ∉ ch->s.heap.get? b=some o->∃ o',h'.get? b=some o')
  (tups:∀ b xs,H b=some (.tup xs)->H' b=some (.tup xs)) (frzs:∀ b o u,H b=some (.frz o u)->H' b=some (.frz o u)) (tbls:∀ b ps q,H b=some (.tbl ps q)->H' b=some (.tbl ps q))
  (ns:∀ m,s.heap.Ns X.env.locals m->h'.Ns X.env.locals m) (hok:HOk X.prog X.w H' h') (hg:AllBare g'):
  Inv X pins σ H' { s with heap:=h',gens:=g',drawn:=d',toks:=t' }:=by
 have neL:∀ b o,X.s₀.heap.get? b=some o->b ≠ X.env.locals:=fun b o e=>Nat.ne_of_lt (Nat.lt_of_lt_of_le (Heap.lt_size e) I.ok.above)
 have neC:∀ b o,X.s₀.heap.get? b=some o->b ∉ X.ex->b ∉ ch:=fun b o e hx hb=>by
  rcases (hch b hb).1 with z | z
  ·exact hx z
  ·exact absurd (Nat.lt_of_lt_of_le (Heap.lt_size e) z) (Nat.lt_irrefl _)
 have cellK:∀ x c,X.env.cells.lookup x=some c->∀ v,s.heap.IsCell c v->h'.IsCell c v:=fun x c e v ⟨o,ho,hd⟩=>by
  have nch:c ∉ ch:=fun z=>(hch c z).2.2.1 x c e rfl
  by_cases hc:c∈X.fs
  ·obtain ⟨sl,q⟩:=slot c o (I.cne x c e) hc nch ho (I.freeC x c e)
   exact ⟨_,q,hd⟩
  ·exact ⟨o,keep c o (I.cne x c e) hc nch ho (I.freeC x c e),hd⟩
 refine ⟨I.ok,I.os,hg,⟨fun b o e n hb hx=> ?_,fun b o e n hb hx=> ?_,fun b o e n hx=> ?_,fun b o e hx=> ?_,fun b xs e=>tups b xs (I.base.tups b xs e),fun b o xs e=>frzs b o xs (I.base.frzs b o xs e),fun b ps q e=>tbls b ps q (I.base.tbls b ps q e)⟩, ?_,fun x c e=> ?_, ?_,fun x c e=> ?_,fun p hp=> ?_,hok,I.len⟩
 ·exact keep b o (neL b o e) hb (neC b o e hx) (I.base.keep b o e n hb hx) (I.base.free b o e n hx)
 ·obtain ⟨sl,e1⟩:=I.base.slot b o e n hb hx
  obtain ⟨sl',e2⟩:=slot b _ (neL b o e) hb (neC b o e hx) e1 (I.base.free b o e n hx)
  exact ⟨sl',e2⟩
 ·obtain ⟨o',e1⟩:=I.base.there b o e hx
  exact free b o' (neC b o e hx) e1 (I.base.free b o e n hx)
 ·obtain ⟨o',e1⟩:=I.base.there b o e hx
  exact there b o' (neC b o e hx) e1
 ·obtain ⟨m,hn,hl⟩:=I.loc
  refine ⟨m,ns m hn,fun i x v e1 e2 e3=> ?_⟩
  obtain ⟨u,r,l⟩:=hl i x v e1 e2 e3
  refine ⟨u,r, ?_⟩
  rcases l with l | ⟨k,c,e,z⟩
  ·exact .inl l
  ·exact .inr ⟨k,c,e,cellK x c e _ z⟩
 ·obtain ⟨v,z⟩:=I.cell x c e
  exact ⟨v,cellK x c e v z⟩
 ·obtain ⟨m,⟨o,_,_,ho,_⟩,_⟩:=I.loc
  exact free _ o (fun z=>(hch _ z).2.1 rfl) ho I.free
 ·obtain ⟨v,o,ho,hd⟩:=I.cell x c e
  exact free c o (fun z=>(hch c z).2.2.1 x c e rfl) ho (I.freeC x c e)
 ·obtain ⟨e,n,ne,nf,d⟩:=I.pin p hp
  have nch:p.1 ∉ ch:=fun z=>(hch p.1 z).2.2.2 p hp rfl
  exact ⟨keep p.1 p.2 ne nf nch e n,free p.1 p.2 nch e n,ne,nf,d⟩
theorem Inv.un {t' :Nat} (I:Inv X pins σ H s) (u:Un X.fs [] H H' s.heap h') (hok:HOk X.prog X.w H' h'):Inv X pins σ H' { s with heap:=h',toks:=t' }:=by
 obtain ⟨m,⟨o,es,ep,ho,r⟩,_⟩:=id I.loc
 obtain ⟨sl,hL⟩:=u.any ho I.free (by simp)
 exact I.step (g' :=s.gens) (d' :=s.drawn) (ch:=[]) (fun _ z=>nomatch z) (fun b o _ hb _ e n=>u.keep b o e n hb (by simp)) (fun b o _ hb _ e n=>u.slot b o e n hb (by simp)) (fun b o _ e n=>u.free b o e n (by simp)) (fun b o _ e=>u.there b o e (by simp)) u.tups u.frzs u.tbls (fun m' hm=>by
  obtain ⟨o',es',ep',ho',r'⟩:=hm
  rw [ho] at ho'; cases ho'
  exact ⟨_,es',ep',hL,r'⟩) hok I.bare
theorem Inv.call {g' :Array GenState} {t' :Nat} {d' :Drawn} {ch:List Addr} (I:Inv X pins σ H s) (u:Un (frs X.stack) ch H H' s.heap h') (hok:HOk X.prog X.w H' h') (hg:AllBare g')
  (hch:∀ b∈ch,(b∈X.ex\/X.s₀.heap.objs.size<=b)/\b ≠ X.env.locals/\(∀ x c,X.env.cells.lookup x=some c->c ≠ b)/\∀ p∈X.pn++pins,p.1 ≠ b):
  Inv X pins σ H' { s with heap:=h',gens:=g',drawn:=d',toks:=t' }:=by
 obtain ⟨m,⟨o,es,ep,ho,r⟩,_⟩:=id I.loc
 obtain ⟨sl,hL⟩:=u.any ho I.free fun z=>(hch _ z).2.1 rfl
 exact I.step (ch:=ch) hch (fun b o hL hb hc e n=>u.keep b o e n (fun z=>(List.mem_cons.mp (I.stkSub b z)).elim hL hb) hc) (fun b o _ _ hc e n=>u.any e n hc) (fun b o hc e n=>u.free b o e n hc) (fun b o hc e=>u.there b o e hc) u.tups u.frzs u.tbls (fun m' hm=>by
  obtain ⟨o',es',ep',ho',r'⟩:=hm
  rw [ho] at ho'; cases ho'
  exact ⟨_,es',ep',hL,r'⟩) hok hg
theorem Inv.turned {t' :Nat} {it:Addr} (I:Inv X pins σ H s) (k:∀ b o,b ≠ it->s.heap.get? b=some o->h'.get? b=some o) (hn:H it=none) (hL:it ≠ X.env.locals)
  (h1:it∈X.ex\/X.s₀.heap.objs.size<=it) (h2:∀ x c,X.env.cells.lookup x=some c->c ≠ it) (h3:∀ p∈X.pn++pins,p.1 ≠ it):Inv X pins σ H { s with heap:=h',toks:=t' }:=by
 have nit:∀ b u,H b=some u->b ≠ it:=fun b u e z=>by rw [z,hn] at e; cases e
 refine I.step (g' :=s.gens) (d' :=s.drawn) (ch:=[it]) (fun b hb=> ?_) (fun b o _ _ hc e _=>k b o (fun z=>hc (by simp [z])) e) (fun b o _ _ hc e _=>⟨o.slots,k b o (fun z=>hc (by simp [z])) e⟩) (fun _ _ _ _ n=>n)
  (fun b o hc e=>⟨o,k b o (fun z=>hc (by simp [z])) e⟩) (fun _ _ e=>e) (fun _ _ _ e=>e) (fun _ _ _ e=>e) (fun m hm=> ?_) (fun b u e=> ?_) I.bare
 ·have e:b=it:=by simpa using hb
  subst e
  exact ⟨h1,hL,h2,h3⟩
 ·obtain ⟨o,es,ep,ho,r⟩:=hm
  exact ⟨o,es,ep,k _ o (Ne.symm hL) ho,r⟩
 ·refine (I.hok b u e).stay (fun c v hc q=>k c v ?_ q) (fun _ q=>q) fun _ _ q=>q
  rcases hc with z | z
  ·rw [z]; exact nit b u e
  ·exact nit c _ z
theorem Inv.tok (I:Inv X pins σ H s) (t:Nat):Inv X pins σ H { s with toks:=t }:=I.un (h' :=s.heap) (t' :=t) Un.refl I.hok
theorem Inv.kept {t' :Nat} (I:Inv X pins σ H s) (k:∀ b u,s.heap.get? b=some u->h'.get? b=some u):Inv X pins σ H { s with heap:=h',toks:=t' }:=I.un (Un.kept k) (I.hok.kept k)
theorem Inv.laid {a:Addr} {o:HO} {t' :Nat} (I:Inv X pins σ H s) (k:∀ b u,s.heap.get? b=some u->h'.get? b=some u) (hp:s.heap.objs.size<=a) (new:zK X.prog X.w (upd H a o) h' a o):
  Inv X pins σ (upd H a o) { s with heap:=h',toks:=t' }:=I.un (Un.laid k hp (I.hok.fresh hp)) (I.hok.laid k hp new)
theorem Inv.write {x e:Addr} {o:HO} {t' :Nat} (I:Inv X pins σ H s) (mu:Mut (H x)) (he:e=x\/H e=some (.own x)) (k:∀ b u,b ≠ e->s.heap.get? b=some u->h'.get? b=some u) (heo:∃ u,h'.get? e=some u)
  (new:zK X.prog X.w (upd H x o) h' x o):Inv X pins σ (upd H x o) { s with heap:=h',toks:=t' }:=I.un (Un.write mu he k heo) (I.hok.write mu he k heo new)
theorem Inv.pins_of {pins' :List (Addr×Obj)} (I:Inv X pins σ H s) (h:∀ p∈pins',s.heap.get? p.1=some p.2/\H p.1=none/\p.1 ≠ X.env.locals/\p.1 ∉ X.fs/\∀ v,p.2.data ≠ .cell v):Inv X pins' σ H s:=
 ⟨I.ok,I.os,I.bare,I.base,I.loc,I.cell,I.free,I.freeC,fun p hp=>(List.mem_append.mp hp).elim (fun z=>I.pin p (List.mem_append_left _ z)) (h p),I.hok,I.len⟩
theorem jN {N:List Str} (hN:N.Nodup) {i j:Nat} {x:Str} (a:N[i]? =some x) (b:N[j]? =some x):i=j:=by
 obtain ⟨h1,e1⟩:=List.getElem?_eq_some_iff.mp a
 obtain ⟨h2,e2⟩:=List.getElem?_eq_some_iff.mp b
 exact (List.getElem_inj hN).mp (e1.trans e2.symm)
theorem Wn {M:Model} {A:Around} {E:Value->Shared->Prop} {i:Nat} {x:Str} {v:V} {u:Value} {Q:Unit->Shared->Prop} (I:Inv X pins σ H s) (hN:X.N.Nodup) (hi:X.N[i]? =some x) (hx:Loc X.env.scope x) (r:zF v u)
  (h:∀ s',Inv X pins (σ.set i (some v)) H s' ->(∃ a,Heap.SameBut a s.heap s'.heap/\(a=X.env.locals\/X.env.cells.lookup x=some a))->Q () s') (hf:X.fn x=true\/X.env.scope.names.lookup x=some .local:=by first | exact .inl rfl | exact .inr rfl | assumption):wpAny M A (storeName X.env x u) Q E s:=by
 obtain ⟨m,hn,hl⟩:=id I.loc
 have hcls:(X.env.scope.kind == .class || (X.env.scope.kind == .module && X.env.locals != X.env.globals))=false:=by rw [I.ok.kind]; rfl
 have hiσ:i < σ.length:=by rw [I.len]; exact (List.getElem?_eq_some_iff.mp hi).1
 have cne:=I.cne
 have tracked:∀ {a:Addr} {h' :Heap},(∃ o,s.heap.get? a=some o/\H a=none)->Heap.SameBut a s.heap h' ->HOk X.prog X.w H h' :=fun {a h'} ha hs b ob e=>by
  obtain ⟨_,_,hfree⟩:=ha
  refine (I.hok b ob e).stay (fun c w' hc q=>(hs.2 c ?_).trans q) (fun _ q=>q) fun _ _ q=>q
  rintro rfl
  rcases hc with rfl | hc
  ·rw [hfree] at e; cases e
  ·rw [hfree] at hc; cases hc
 rcases hx with hk | hk
 ·refine wpAny_storeName_local hk hn (fun h' hn' hs=> ?_) hcls
  obtain ⟨oL,_,_,hoL,_⟩:=id hn
  refine h _ ⟨I.ok,I.os,I.bare,⟨fun b o e n hb hx=> ?_,fun b o e n hb hx=> ?_,I.base.free,fun b o e hx=> ?_,I.base.tups,I.base.frzs,I.base.tbls⟩,⟨_,hn',fun j y v' e1 e2 e3=> ?_⟩,fun y c e=> ?_,I.free,I.freeC,fun p hp=> ?_,tracked ⟨oL,hoL,I.free⟩ hs,by simpa using I.len⟩ ⟨_,hs, .inl rfl⟩
  ·exact (hs.2 b (Nat.ne_of_lt (Nat.lt_of_lt_of_le (Heap.lt_size e) I.ok.above))).trans (I.base.keep b o e n hb hx)
  ·obtain ⟨sl,e1⟩:=I.base.slot b o e n hb hx
   exact ⟨sl,(hs.2 b (Nat.ne_of_lt (Nat.lt_of_lt_of_le (Heap.lt_size e) I.ok.above))).trans e1⟩
  ·obtain ⟨o',e1⟩:=I.base.there b o e hx
   exact ⟨o',(hs.2 b (Nat.ne_of_lt (Nat.lt_of_lt_of_le (Heap.lt_size e) I.ok.above))).trans e1⟩
  ·by_cases hj:j=i
   ·subst hj
    rw [hi] at e1; cases e1
    rw [List.getElem?_set_self hiσ] at e2
    cases e2
    exact ⟨u,r, .inl ⟨hk,by simp⟩⟩
   ·rw [List.getElem?_set_ne (Ne.symm hj)] at e2
    obtain ⟨u',r',q⟩:=hl j y v' e1 e2 e3
    refine ⟨u',r', ?_⟩
    rcases q with ⟨k,e⟩ | ⟨k,c,e,z⟩
    ·refine .inl ⟨k, ?_⟩
     have:y ≠ x:=fun e=>hj (jN hN e1 (e ▸ hi))
     simp [this,e]
    ·exact .inr ⟨k,c,e,z.sameBut hs (cne y c e)⟩
  ·obtain ⟨w',z⟩:=I.cell y c e
   exact ⟨w',z.sameBut hs (cne y c e)⟩
  ·obtain ⟨e,n,ne,nf,d⟩:=I.pin p hp
   exact ⟨(hs.2 p.1 ne).trans e,n,ne,nf,d⟩
 ·have hfn:X.fn x=true:=by
   rcases hf with z | z
   ·exact z
   ·rw [z] at hk; cases hk
  obtain ⟨c,hc⟩:=I.ok.has x (.inl hk)
  obtain ⟨w',z⟩:=I.cell x c hc
  refine wpAny_storeName_cell I.ok.kind hk hc z (fun h' hc' hs=> ?_)
  obtain ⟨oc,hoc,hocd⟩:=id z
  refine h { s with heap:=h' } ⟨I.ok,I.os,I.bare,⟨fun b o e n hb hx=> ?_,fun b o e n hb hx=> ?_,I.base.free,fun b o e hx=> ?_,I.base.tups,I.base.frzs,I.base.tbls⟩,⟨m,hn.sameBut hs (Ne.symm (cne x c hc)),fun j y v' e1 e2 e3=> ?_⟩,fun y c' e=> ?_,I.free,I.freeC,fun p hp=> ?_,tracked ⟨oc,hoc,I.freeC x c hc⟩ hs,by simpa using I.len⟩ ⟨c,hs, .inr hc⟩
  ·exact (hs.2 b (Nat.ne_of_lt (Nat.lt_of_lt_of_le (Heap.lt_size e) (I.ok.cab x c hfn hc)))).trans (I.base.keep b o e n hb hx)
  ·obtain ⟨sl,e1⟩:=I.base.slot b o e n hb hx
   exact ⟨sl,(hs.2 b (Nat.ne_of_lt (Nat.lt_of_lt_of_le (Heap.lt_size e) (I.ok.cab x c hfn hc)))).trans e1⟩
  ·obtain ⟨o',e1⟩:=I.base.there b o e hx
   exact ⟨o',(hs.2 b (Nat.ne_of_lt (Nat.lt_of_lt_of_le (Heap.lt_size e) (I.ok.cab x c hfn hc)))).trans e1⟩
  ·by_cases hj:j=i
   ·subst hj
    rw [hi] at e1; cases e1
    rw [List.getElem?_set_self hiσ] at e2
    cases e2
    exact ⟨u,r, .inr ⟨.inl hk,c,hc,hc'⟩⟩
   ·rw [List.getElem?_set_ne (Ne.symm hj)] at e2
    obtain ⟨u',r',q⟩:=hl j y v' e1 e2 e3
    refine ⟨u',r', ?_⟩
    rcases q with q | ⟨k,c',e,z'⟩
    ·exact .inl q
    ·refine .inr ⟨k,c',e,z'.sameBut hs ?_⟩
     rintro rfl
     exact hj (jN hN e1 (I.ok.inj _ _ _ e hc ▸ hi))
  ·by_cases hcc:c' =c
   ·subst hcc; exact ⟨_,hc'⟩
   ·obtain ⟨w2,z2⟩:=I.cell y c' e
    exact ⟨w2,z2.sameBut hs hcc⟩
  ·obtain ⟨e,n,ne,nf,d⟩:=I.pin p hp
   refine ⟨(hs.2 p.1 ?_).trans e,n,ne,nf,d⟩
   intro q
   rw [q,hoc] at e
   have q' :oc=p.2:=Option.some.inj e
   exact d w' (by rw [← q']; exact hocd)
theorem Zs {M:Model} {A:Around} {E:Value->Shared->Prop} {i:Nat} {x:Str} {v:V} {u:Value} {Q:Unit->Shared->Prop} (I:Inv X pins σ H s) (hN:X.N.Nodup) (hi:X.N[i]? =some x) (hx:Loc X.env.scope x) (r:zF v u)
  (h:∀ s',Inv X pins (σ.set i (some v)) H s' ->Q () s') (hf:X.fn x=true\/X.env.scope.names.lookup x=some .local:=by first | exact .inl rfl | exact .inr rfl | assumption):wpAny M A (storeName X.env x u) Q E s:=
 Wn I hN hi hx r (fun s' I' _=>h s' I') hf
theorem Inv.call' {s' :Shared} {ch:List Addr} (I:Inv X pins σ H s) (ho:s'.os=s.os) (u:Un (frs X.stack) ch H H' s.heap s'.heap) (hok:HOk X.prog X.w H' s'.heap) (hg:AllBare s'.gens)
  (hch:∀ b∈ch,(b∈X.ex\/X.s₀.heap.objs.size<=b)/\b ≠ X.env.locals/\(∀ x c,X.env.cells.lookup x=some c->c ≠ b)/\∀ p∈X.pn++pins,p.1 ≠ b):Inv X pins σ H' s' :=by
 obtain ⟨h',g',d',t',o'⟩:=s'
 have e:o' =s.os:=ho
 subst e
 exact I.call (g' :=g') (t' :=t') (d' :=d') u hok hg hch
end
abbrev XK:=Value->Option Addr->Hp->Prop
abbrev St:=List (Option V)
abbrev VK:=V->Hp->Prop
abbrev TE:=St->Hp->VK->Prop
abbrev TT:=St->Hp->(Bool->Hp->Prop)->Prop
abbrev TA:=St->Hp->(List V->Hp->Prop)->Prop
structure Wo where
 nx:St->Hp->Prop
 rt:VK
 bk:St->Hp->Prop:=fun _ _=>False
 ct:St->Hp->Prop:=fun _ _=>False
abbrev TS:=Wo->St->Hp->Prop
def EP (X:Cx) (pins:List (Addr×Obj)) (σ:St) (Q:VK) (u:Value) (s' :Shared):Prop:=∃ v H',Inv X pins σ H' s' /\zF v u/\Q v H'
def TP (X:Cx) (pins:List (Addr×Obj)) (σ:St) (Q:Bool->Hp->Prop) (b:Bool) (s' :Shared):Prop:=∃ H',Inv X pins σ H' s' /\Q b H'
def AP (X:Cx) (pins:List (Addr×Obj)) (σ:St) (Q:List V->Hp->Prop) (us:List Value) (s' :Shared):Prop:=∃ vs H',Inv X pins σ H' s' /\zv vs us/\Q vs H'
def SP (X:Cx) (pins:List (Addr×Obj)) (D:Wo) (f:Flow) (s' :Shared):Prop:=
 match f with
 | .next=>∃ σ' H',Inv X pins σ' H' s' /\D.nx σ' H'
 | .brk=>∃ σ' H',Inv X pins σ' H' s' /\D.bk σ' H'
 | .cont=>∃ σ' H',Inv X pins σ' H' s' /\D.ct σ' H'
 | .ret u=>∃ v σ' H',Inv X pins σ' H' s' /\zF v u/\D.rt v H'
def PE (X:Cx) (e:Expr) (t:TE):Prop:=
 ∀ (pins:List (Addr×Obj)) (s:Shared) (σ:St) (H:Hp) (Q:VK),Inv X pins σ H s->t σ H Q->wpAny (model X.prog X.w) X.A (eval e X.env) (EP X pins σ Q) X.xe s
def PT (X:Cx) (e:Expr) (t:TT):Prop:=
 ∀ (pins:List (Addr×Obj)) (s:Shared) (σ:St) (H:Hp) (Q:Bool->Hp->Prop),Inv X pins σ H s->t σ H Q->wpAny (model X.prog X.w) X.A (isTrue e X.env (eval e X.env)) (TP X pins σ Q) X.xe s
def PW (X:Cx) (e:Expr) (t:TT):Prop:=
 ∀ (whole:Sem Value) (pins:List (Addr×Obj)) (s:Shared) (σ:St) (H:Hp) (Q:Bool->Hp->Prop),Inv X pins σ H s->t σ H Q->wpAny (model X.prog X.w) X.A (isTrue e X.env whole) (TP X pins σ Q) X.xe s
theorem PW.pt {X:Cx} {e:Expr} {t:TT} (h:PW X e t):PT X e t:=h _
def PA (X:Cx) (es:List Expr) (t:TA):Prop:=
 ∀ (pos:Pos) (pins:List (Addr×Obj)) (s:Shared) (σ:St) (H:Hp) (Q:List V->Hp->Prop),Inv X pins σ H s->t σ H Q->wpAny (model X.prog X.w) X.A (spliced (backTo pos (starEach es X.env))) (AP X pins σ Q) X.xe s
def PS (X:Cx) (st:Stmt) (t:TS):Prop:=
 ∀ (pins:List (Addr×Obj)) (s:Shared) (σ:St) (H:Hp) (D:Wo),Inv X pins σ H s->t D σ H->wpAny (model X.prog X.w) X.A (exec st X.env) (SP X pins D) X.xe s
def PSs (X:Cx) (st:List Stmt) (t:TS):Prop:=
 ∀ (pins:List (Addr×Obj)) (s:Shared) (σ:St) (H:Hp) (D:Wo),Inv X pins σ H s->t D σ H->wpAny (model X.prog X.w) X.A (execs st X.env) (SP X pins D) X.xe s
theorem thn {α:Type} {t:Sem α} {Q Q' :α->Shared->Prop} {M:Model} {A:Around} {E:Value->Shared->Prop} {s:Shared} (h:wpAny M A t Q E s) (hQ:∀ a s,Q a s->Q' a s):wpAny M A t Q' E s:=wpAny_mono h hQ fun _ _ x=>x
end L2
namespace L2
open PySem PySem.Spec PyProof.Rows
section
variable {X:Cx}
theorem bin {a b:Expr} {ta tb:TE} (ha:PE X a ta) (hb:PE X b tb) {pins:List (Addr×Obj)} {s:Shared} {σ:St} {H:Hp} {R:V->V->Hp->Prop} (I:Inv X pins σ H s) (h:ta σ H fun x H1=>tb σ H1 fun y H2=>R x y H2)
  {α:Type} {Q:α->Shared->Prop} {f:Value->Value->Sem α}
  (hf:∀ v u s2 x y H2,Inv X pins σ H2 s2->zF x v->zF y u->R x y H2->wpAny (model X.prog X.w) X.A (f v u) Q X.xe s2):
  wpAny (model X.prog X.w) X.A (eval a X.env) (fun v s₁=>wpAny (model X.prog X.w) X.A (eval b X.env) (fun u s₂=>wpAny (model X.prog X.w) X.A (f v u) Q X.xe s₂) X.xe s₁) X.xe s:=by
 refine thn (ha pins s σ H _ I h) fun v s1 ⟨x,H1,I1,r1,q1⟩=> ?_
 refine thn (hb pins s1 σ H1 _ I1 q1) fun u s2 ⟨y,H2,I2,r2,q2⟩=> ?_
 exact hf v u s2 x y H2 I2 r1 r2 q2
def j5 (i:Nat):TE:=fun σ H Q=>∃ v,σ[i]? =some (some v)/\Q v H
def tC (v:V):TE:=fun _ H Q=>Q v H
theorem Wp {i:Nat} {x:Str} {pos:Pos} (hN:X.N[i]? =some x) (hv:Vis X.env.scope x) (hd:(x == ("__debug__":Str))=false:=by decide) (hcd:(x == ("__classdict__":Str))=false:=by decide):PE X (.Name x pos) (j5 i):=by
 intro pins s σ H Q I h
 obtain ⟨v,e,h⟩:=h
 obtain ⟨m,hn,hl⟩:=I.loc
 obtain ⟨u,r,l⟩:=hl i x v hN e hv
 have fin:EP X pins σ Q u s:=⟨v,H,I,r,h⟩
 rcases l with ⟨hk,hm⟩ | ⟨hk,c,hc,hcell⟩
 ·exact wpAny_Name (wpAny_loadName_local I.ok.kind hk hn hm fin) hd
 ·rcases hk with hk | hk
  ·exact wpAny_Name (wpAny_loadName_cell I.ok.kind hk hc hcell fin) hd
  ·exact wpAny_Name (wpAny_loadName_free I.ok.kind hk hc hcell fin hcd) hd
theorem YZ {i j pos}:PE X (.Constant (.int i) j pos) (tC (.int i)):=fun _ _ _ H _ I h=>wpAny_Constant_int ⟨.int i,H,I.tok _,⟨_,rfl⟩,h⟩
theorem V0 {b j pos}:PE X (.Constant (.bool b) j pos) (tC (.bl b)):=fun _ _ _ H _ I h=>Constant_bool ⟨.bl b,H,I,rfl,h⟩
theorem qa {j pos}:PE X (.Constant .none j pos) (tC .non):=fun _ _ _ H _ I h=>Constant_none ⟨.non,H,I,rfl,h⟩
theorem Wq {x j pos}:PE X (.Constant (.str x) j pos) (tC (.str x)):=fun _ _ _ H _ I h=>Calls.Constant_str ⟨.str x,H,I.tok _,⟨_,rfl⟩,h⟩
def Gl (X:Cx) (x:Str):Prop:=X.env.kindOf x=some .globalImplicit
theorem Zm {E:Value->Shared->Prop} {pins:List (Addr×Obj)} {s:Shared} {σ:St} {H:Hp} {x:Str} {u:Value} {pos:Pos} {Q:Value->Shared->Prop} (I:Inv X pins σ H s) (hg:Gl X x) (hm:X.mg x=some u) (h:Q u s)
  (hd:(x == ("__debug__":Str))=false:=by decide):wpAny (model X.prog X.w) X.A (eval (.Name x pos) X.env) Q E s:=
 Calls.Name_function_global I.ok.kind hg (Calls.loadGlobal_global (by rw [I.ok.glob]; exact I.mod.glob.keeps I.bk) hm h) hd
theorem Zi {E:Value->Shared->Prop} {pins:List (Addr×Obj)} {s:Shared} {σ:St} {H:Hp} {x:Str} {u:Value} {pos:Pos} {Q:Value->Shared->Prop} (I:Inv X pins σ H s) (hg:Gl X x) (hm:X.mg x=none) (hv:bootBuiltins x=some u) (h:Q u s)
  (hn:x ≠ "__name__":=by decide) (hd:(x == ("__debug__":Str))=false:=by decide):wpAny (model X.prog X.w) X.A (eval (.Name x pos) X.env) Q E s:=by
 obtain ⟨mb,h1,h2⟩:=I.mod.blt
 exact Calls.Name_function_global I.ok.kind hg (Calls.loadGlobal_builtin (by rw [I.ok.glob]; exact I.mod.glob.keeps I.bk) hm (by rw [I.ok.blt]; exact h1.keeps I.bk) ((h2 x hn).trans hv) h) hd
theorem Wr {x:Str} {v:V} {u:Value} {pos:Pos} (hg:Gl X x) (hm:X.mg x=some u) (r:zF v u) (hd:(x == ("__debug__":Str))=false:=by decide):PE X (.Name x pos) (tC v):=
 fun _ _ _ H _ I h=>Zm I hg hm ⟨v,H,I,r,h⟩ hd
theorem Ws {x:Str} {v:V} {u:Value} {pos:Pos} (hg:Gl X x) (hm:X.mg x=none) (hv:bootBuiltins x=some u) (r:zF v u) (hn:x ≠ "__name__":=by decide) (hd:(x == ("__debug__":Str))=false:=by decide):PE X (.Name x pos) (tC v):=
 fun _ _ _ H _ I h=>Zi I hg hm hv ⟨v,H,I,r,h⟩ hn hd
variable {a b:Expr} {ta tb:TE} {pos:Pos}
variable {tA tB' :TT} {rest:List Expr}
def KY (t u:TT):TT:=fun σ H Q=>t σ H fun c H1=>if c=true then u σ H1 Q else Q false H1
def tOr (t u:TT):TT:=fun σ H Q=>t σ H fun c H1=>if c=true then Q true H1 else u σ H1 Q
def KZ (t:TT):TT:=fun σ H Q=>t σ H fun c H1=>Q (!c) H1
theorem yf (ha:PT X a tA):PW X (.BoolOp .And [a] pos) tA:=by
 intro wh pins s σ H Q I h
 refine isTrue_and (thn (ha pins s σ H Q I h) fun c s1 e=> ?_)
 cases c with
 | true=>exact isTrue_and_nil e
 | false=>exact e
theorem UE (ha:PT X a tA):PW X (.BoolOp .Or [a] pos) tA:=by
 intro wh pins s σ H Q I h
 refine isTrue_or (thn (ha pins s σ H Q I h) fun c s1 e=> ?_)
 cases c with
 | false=>exact isTrue_or_nil e
 | true=>exact e
theorem qb (ha:PT X a tA) (hb:PW X (.BoolOp .And (b :: rest) pos) tB'):PW X (.BoolOp .And (a :: b :: rest) pos) (KY tA tB'):=by
 intro wh pins s σ H Q I h
 refine isTrue_and (thn (ha pins s σ H _ I h) fun c s1 ⟨H1,I1,q1⟩=> ?_)
 cases c with
 | true=>exact hb wh pins s1 σ H1 Q I1 q1
 | false=>exact ⟨H1,I1,q1⟩
theorem qd (ha:PT X a tA) (hb:PW X (.BoolOp .Or (b :: rest) pos) tB'):PW X (.BoolOp .Or (a :: b :: rest) pos) (tOr tA tB'):=by
 intro wh pins s σ H Q I h
 refine isTrue_or (thn (ha pins s σ H _ I h) fun c s1 ⟨H1,I1,q1⟩=> ?_)
 cases c with
 | true=>exact ⟨H1,I1,q1⟩
 | false=>exact hb wh pins s1 σ H1 Q I1 q1
theorem qe (ha:PT X a tA):PT X (.UnaryOp .Not a pos) (KZ tA):=by
 intro pins s σ H Q I h
 exact isTrue_not (ha pins s σ H (fun c H1=>Q (!c) H1) I h)
def V1 (ta tb:TE):TE:=fun σ H Q=>ta σ H fun x H1=>∃ c,x= .bl c/\if c=true then tb σ H1 Q else Q (.bl false) H1
def g9 (ta tb:TE):TE:=fun σ H Q=>ta σ H fun x H1=>∃ c,x= .bl c/\if c=true then Q (.bl true) H1 else tb σ H1 Q
def V2 (ta:TE):TE:=fun σ H Q=>ta σ H fun x H1=>∃ c,x= .bl c/\Q (.bl (!c)) H1
theorem qf {op} {t:TE} (h:PE X a t):PE X (.BoolOp op [a] pos) t:=fun pins s σ H Q I hw=>BoolOp_one (h pins s σ H Q I hw)
theorem qg (ha:PE X a ta) (hb:PE X (.BoolOp .And (b :: rest) pos) tb):PE X (.BoolOp .And (a :: b :: rest) pos) (V1 ta tb):=by
 intro pins s σ H Q I h
 refine BoolOp_and (thn (ha pins s σ H _ I h) fun v s1 ⟨x,H1,I1,r1,q1⟩=> ?_)
 obtain ⟨c,rfl,q1⟩:=q1
 cases r1
 refine wpAny_truthy_bool ?_
 cases c with
 | true=>exact hb pins s1 σ H1 Q I1 q1
 | false=>exact ⟨.bl false,H1,I1,rfl,q1⟩
theorem V3 (ha:PE X a ta) (hb:PE X (.BoolOp .Or (b :: rest) pos) tb):PE X (.BoolOp .Or (a :: b :: rest) pos) (g9 ta tb):=by
 intro pins s σ H Q I h
 refine BoolOp_or (thn (ha pins s σ H _ I h) fun v s1 ⟨x,H1,I1,r1,q1⟩=> ?_)
 obtain ⟨c,rfl,q1⟩:=q1
 cases r1
 refine wpAny_truthy_bool ?_
 cases c with
 | false=>exact hb pins s1 σ H1 Q I1 q1
 | true=>exact ⟨.bl true,H1,I1,rfl,q1⟩
theorem qh (ha:PE X a ta):PE X (.UnaryOp .Not a pos) (V2 ta):=by
 intro pins s σ H Q I h
 refine UnaryOp_ (thn (ha pins s σ H _ I h) fun v s1 ⟨x,H1,I1,r1,q1⟩=> ?_)
 obtain ⟨c,rfl,q1⟩:=q1
 cases r1
 exact not_of (wpAny_truthy_bool ⟨.bl (!c),H1,I1,rfl,q1⟩)
def tIf (t:TT) (ta tb:TE):TE:=fun σ H Q=>t σ H fun c H1=>if c=true then ta σ H1 Q else tb σ H1 Q
theorem uU {c:Expr} (hc:PT X c tA) (ha:PE X a ta) (hb:PE X b tb):PE X (.IfExp c a b pos) (tIf tA ta tb):=by
 intro pins s σ H Q I h
 refine wpAny_IfExp (thn (hc pins s σ H _ I h) fun d s1 ⟨H1,I1,q1⟩=> ?_)
 cases d with
 | true=>exact ha pins s1 σ H1 Q I1 q1
 | false=>exact hb pins s1 σ H1 Q I1 q1
end
end L2
namespace L2
open PySem PySem.Spec PyProof.Rows
def SqL (K:PySem.W.Frag) (H:Hp) (a:Addr) (xs:List V):Prop:=
 Rd H a (.lst xs)\/
  ∃ (o:Obj) (its:Array Value) (n:Nat),K.lookup a=some o/\o.cls= .type "list"/\o.dict=none/\o.data= .seq its n/\its.size<=sizeLine/\zv xs its.toList
def SqT (K:PySem.W.Frag) (H:Hp) (a:Addr) (xs:List V):Prop:=
 Rd H a (.tup xs)\/
  ∃ (o:Obj) (its:Array Value) (n:Nat),K.lookup a=some o/\o.cls= .type "tuple"/\o.data= .seq its n/\its.size<=sizeLine/\zv xs its.toList
def gc:Value->Option V
 | .none=>some .non
 | .bool b=>some (.bl b)
 | .int i _=>some (.int i)
 | .str x _=>some (.str x)
 | .bytes b _=>some (.byt b)
 | .float b _=>some (.flt b)
 | .ref a=>some (.ref a)
 | .type n=>some (.ty n)
 | _=>none
theorem zF.abs {x:V} {u:Value} (r:zF x u):gc u=some x:=by
 cases x with
 | non=>cases r; rfl
 | bl _=>cases r; rfl
 | int _=>obtain ⟨t,rfl⟩:=r; rfl
 | str _=>obtain ⟨t,rfl⟩:=r; rfl
 | byt _=>obtain ⟨t,rfl⟩:=r; rfl
 | flt _=>obtain ⟨t,rfl⟩:=r; rfl
 | ref _=>cases r; rfl
 | ty _=>cases r; rfl
theorem zF.inj {x y:V} {u:Value} (r:zF x u) (q:zF y u):x=y:=Option.some.inj (r.abs.symm.trans q.abs)
theorem zv.inj:∀ {xs ys:List V} {us:List Value},zv xs us->zv ys us->xs=ys
 | _,_,_, .nil, .nil=>rfl
 | _,_,_, .cons r t, .cons r' t' =>by rw [r.inj r',zv.inj t t']
section
variable {X:Cx} {pins:List (Addr×Obj)} {σ:St} {H:Hp} {s:Shared} {a:Addr} {xs ys:List V}
theorem SqL.of {K:PySem.W.Frag} (h:H a=some (.lst xs)):SqL K H a xs:= .inl (.inl h)
theorem SqT.of {K:PySem.W.Frag} (h:H a=some (.tup xs)):SqT K H a xs:= .inl (.inl h)
theorem Inv.list (I:Inv X pins σ H s) (h:SqL X.K H a xs):∃ its:List Value,zv xs its/\PlainL s.heap a its.toArray/\xs.length<=sizeLine:=by
 rcases h with h | ⟨o,its,n,hk,hc,hd,hs,hz,r⟩
 ·obtain ⟨z,its,n,r,e⟩:=h.ok I.hok
  exact ⟨its,r,⟨_,n,e,rfl,rfl,rfl⟩,z⟩
 ·refine ⟨its.toList,r,⟨o,n,I.kIn a o hk,hc,hd,by simpa using hs⟩, ?_⟩
  have e:=r.length
  simp only [Array.length_toList] at e
  omega
theorem Inv.tuple (I:Inv X pins σ H s) (h:SqT X.K H a xs):∃ its:List Value,zv xs its/\IsTup s.heap a its.toArray/\xs.length<=sizeLine:=by
 rcases h with h | ⟨o,its,n,hk,hc,hs,hz,r⟩
 ·obtain ⟨z,its,r,p,_⟩:=h.ok I.hok
  exact ⟨its,r,p,z⟩
 ·refine ⟨its.toList,r,⟨o,I.kIn a o hk,hc,n,by simpa using hs⟩, ?_⟩
  have e:=r.length
  simp only [Array.length_toList] at e
  omega
theorem Inv.list_inj (I:Inv X pins σ H s) (h:SqL X.K H a xs) (h' :SqL X.K H a ys):xs=ys:=by
 obtain ⟨its,r,⟨o,n,e,_,_,d⟩,_⟩:=I.list h
 obtain ⟨its',r',⟨o',n',e',_,_,d'⟩,_⟩:=I.list h'
 rw [e] at e'; cases e'
 rw [d] at d'
 injection d' with d1 _
 have:its=its' :=by simpa using congrArg Array.toList d1
 subst this
 exact r.inj r'
theorem Inv.tuple_inj (I:Inv X pins σ H s) (h:SqT X.K H a xs) (h' :SqT X.K H a ys):xs=ys:=by
 obtain ⟨its,r,⟨o,e,_,n,d⟩,_⟩:=I.tuple h
 obtain ⟨its',r',⟨o',e',_,n',d'⟩,_⟩:=I.tuple h'
 rw [e] at e'; cases e'
 rw [d] at d'
 injection d' with d1 _
 have:its=its' :=by simpa using congrArg Array.toList d1
 subst this
 exact r.inj r'
end
abbrev Cx.wish (X:Cx) (E:Value->Shared->Prop):Cx:={ X with xe:=E }
abbrev Cx.nox (X:Cx):Cx:=X.wish fun _ _=>False
theorem Cx.Ok.wish {X:Cx} (ok:X.Ok) (E:Value->Shared->Prop):(X.wish E).Ok:=
 ⟨ok.mod,ok.kind,ok.glob,ok.blt,ok.above,ok.inj,ok.has,ok.cab,ok.hd,ok.frames,ok.stk,ok.exf,ok.bs,ok.bsz,ok.noex,ok.exfs,ok.funs,ok.frf⟩
theorem Cx.Ok.unwish {X:Cx} {E:Value->Shared->Prop} (ok:(X.wish E).Ok):X.Ok:=
 ⟨ok.mod,ok.kind,ok.glob,ok.blt,ok.above,ok.inj,ok.has,ok.cab,ok.hd,ok.frames,ok.stk,ok.exf,ok.bs,ok.bsz,ok.noex,ok.exfs,ok.funs,ok.frf⟩
section
variable {X:Cx} {pins:List (Addr×Obj)} {σ:St} {H:Hp} {s:Shared} {E:Value->Shared->Prop}
theorem Inv.wish (I:Inv X pins σ H s) (E:Value->Shared->Prop):Inv (X.wish E) pins σ H s:=⟨I.ok.wish E,I.os,I.bare,I.base,I.loc,I.cell,I.free,I.freeC,I.pin,I.hok,I.len⟩
theorem Inv.unwish (I:Inv (X.wish E) pins σ H s):Inv X pins σ H s:=⟨I.ok.unwish,I.os,I.bare,I.base,I.loc,I.cell,I.free,I.freeC,I.pin,I.hok,I.len⟩
theorem SP.unwish {D:Wo} {f:Flow} {s' :Shared} (h:SP (X.wish E) pins D f s'):SP X pins D f s' :=by
 cases f with
 | next=>obtain ⟨σ',H',I,q⟩:=h; exact ⟨σ',H',I.unwish,q⟩
 | brk=>obtain ⟨σ',H',I,q⟩:=h; exact ⟨σ',H',I.unwish,q⟩
 | cont=>obtain ⟨σ',H',I,q⟩:=h; exact ⟨σ',H',I.unwish,q⟩
 | ret u=>obtain ⟨v,σ',H',I,r,q⟩:=h; exact ⟨v,σ',H',I.unwish,r,q⟩
theorem PSs.nox {st:List Stmt} {t:TS} (h:PSs X.nox st t):PSs X st t:=fun pins s σ H D I hw=>
 wpAny_mono (h pins s σ H D (I.wish _) hw) (fun _ _ q=>q.unwish) fun _ _ z=>False.elim z
end
section
variable {X:Cx} {st:Stmt} {rest:List Stmt} {t u:TS} {e:Expr} {te:TE} {pos:Pos}
def V4:TS:=fun D σ H=>D.nx σ H
def gf (t u:TS):TS:=fun D σ H=>t { D with nx:=u D } σ H
theorem Wt:PSs X [] V4:=fun _ _ σ H _ I h=>wpAny_execs_nil ⟨σ,H,I,h⟩
theorem wj (h1:PS X st t) (h2:PSs X rest u):PSs X (st :: rest) (gf t u):=by
 intro pins s σ H D I h
 refine wpAny_execs_cons (thn (h1 pins s σ H { D with nx:=u D } I h) fun f s1 q=> ?_)
 cases f with
 | next=>
  obtain ⟨σ',H',I',q⟩:=q
  exact h2 pins s1 σ' H' D I' q
 | ret v=>exact q
 | brk=>exact q
 | cont=>exact q
theorem Zz (h1:PS X st t):PSs X [st] t:=by
 intro pins s σ H D I h
 refine wpAny_execs_cons (thn (h1 pins s σ H D I h) fun f s1 q=> ?_)
 cases f with
 | next=>exact wpAny_execs_nil q
 | ret v=>exact q
 | brk=>exact q
 | cont=>exact q
theorem Inv.quiet {pins:List (Addr×Obj)} {σ:St} {H:Hp} {s:Shared} (I:Inv X pins σ H s):interactive X.env=false:=by simp [interactive,I.ok.kind]
def V5 (te:TE):TS:=fun D σ H=>te σ H fun _ H1=>D.nx σ H1
theorem j6 (he:PE X e te) (hs:swapsWith e none pos.line X.env=pure false:=by rfl):PS X (.Expr e pos) (V5 te):=by
 intro pins s σ H D I h
 exact wpAny_Expr_any (thn (he pins s σ H _ I h) fun v s1 ⟨x,H1,I1,r1,q1⟩=>⟨σ,H1,I1,q1⟩) I.quiet hs
def XD (te:TE):TS:=fun D σ H=>te σ H D.rt
theorem jw (he:PE X e te):PS X (.Return (some e) pos) (XD te):=by
 intro pins s σ H D I h
 exact wpAny_Return_some (thn (he pins s σ H _ I h) fun v s1 ⟨x,H1,I1,r1,q1⟩=>⟨x,σ,H1,I1,r1,q1⟩)
def gh (c:TT) (t u:TS):TS:=fun D σ H=>c σ H fun b H1=>if b=true then t D σ H1 else u D σ H1
theorem qi {c:Expr} {a b:List Stmt} {tc:TT} (hc:PT X c tc) (ha:PSs X a t) (hb:PSs X b u):PS X (.If c a b pos) (gh tc t u):=by
 intro pins s σ H D I h
 refine wpAny_If (thn (hc pins s σ H _ I h) fun d s1 ⟨H1,I1,q1⟩=> ?_)
 cases d with
 | true=>exact ha pins s1 σ H1 D I1 q1
 | false=>exact hb pins s1 σ H1 D I1 q1
end
abbrev TG:=V->St->Hp->(St->Hp->Prop)->Prop
abbrev TGs:=List V->St->Hp->(St->Hp->Prop)->Prop
def PG (X:Cx) (target:Expr) (t:TG):Prop:=
 ∀ (pins:List (Addr×Obj)) (s:Shared) (σ:St) (H:Hp) (v:V) (u:Value) (Q:St->Hp->Prop),Inv X pins σ H s->zF v u->t v σ H Q->
  wpAny (model X.prog X.w) X.A (assign target X.env u) (fun _ s' =>∃ σ' H',Inv X pins σ' H' s' /\Q σ' H') X.xe s
def PGs (X:Cx) (ts:List Expr) (t:TGs):Prop:=
 ∀ (pins:List (Addr×Obj)) (s:Shared) (σ:St) (H:Hp) (vs:List V) (us:List Value) (Q:St->Hp->Prop),Inv X pins σ H s->zv vs us->t vs σ H Q->
  wpAny (model X.prog X.w) X.A (assignInOrder ((assignEach ts X.env).map (·.2)) us) (fun _ s' =>∃ σ' H',Inv X pins σ' H' s' /\Q σ' H') X.xe s
section
variable {X:Cx} {pos:Pos}
def J7 (i:Nat):TG:=fun v σ H Q=>Q (σ.set i (some v)) H
theorem zt {i:Nat} {x:Str} (hN:X.N.Nodup) (hi:X.N[i]? =some x) (hx:Loc X.env.scope x) (hf:X.fn x=true\/X.env.scope.names.lookup x=some .local:=by first | exact .inl rfl | exact .inr rfl | assumption):PG X (.Name x pos) (J7 i):=by
 intro pins s σ H v u Q I r h
 exact wpAny_assign_Name (Zs I hN hi hx r (fun s' I' =>⟨_,H,I',h⟩) hf)
def V6:TGs:=fun vs σ H Q=>vs=[]/\Q σ H
def Wu (t:TG) (u:TGs):TGs:=fun vs σ H Q=>∃ v r,vs=v :: r/\t v σ H fun σ' H' =>u r σ' H' Q
theorem j7:PGs X [] V6:=by
 intro pins s σ H vs us Q I r h
 obtain ⟨e,h⟩:=h
 subst e
 cases r
 exact assignInOrder_nil ⟨σ,H,I,h⟩
theorem zM {e:Expr} {es:List Expr} {t:TG} {u:TGs} (h1:PG X e t) (h2:PGs X es u)
  (hs:(assignEach (e :: es) X.env).map (·.2)=assign e X.env :: (assignEach es X.env).map (·.2):=by rfl):PGs X (e :: es) (Wu t u):=by
 intro pins s σ H vs us Q I r h
 obtain ⟨v,vr,e1,h⟩:=h
 subst e1
 cases r with
 | cons r rr=>
  rw [hs]
  refine assignInOrder_cons (thn (h1 pins s σ H _ _ _ I r h) fun _ s1 ⟨σ1,H1,I1,q1⟩=> ?_)
  exact h2 pins s1 σ1 H1 _ _ Q I1 rr q1
def V7 (K:PySem.W.Frag) (n:Nat) (t:TGs):TG:=fun v σ H Q=>∃ a xs,v= .ref a/\SqT K H a xs/\xs.length=n/\t xs σ H Q
theorem J8 {es:List Expr} {k:Nat} {t:TGs} {n:Nat} (hc:X.calm=true) (h:PGs X es t)
  (hn:(assignEach es X.env).length=n:=by rfl) (hst:(assignEach es X.env).findIdx? (·.1)=none:=by rfl):PG X (.Tuple es k pos) (V7 X.K n t):=by
 intro pins s σ H v u Q I r hw
 obtain ⟨a,xs,e1,hq,hl,hw⟩:=hw
 subst e1
 cases r
 obtain ⟨its,rv,ht,hz⟩:=I.tuple hq
 refine assign_Tuple_tuple (I.ok.hd hc) ht (by simp [hn,← hl,rv.length]) hst fun h' hx=> ?_
 have I1:Inv X pins σ H { s with heap:=h' }:=I.kept (t' :=s.toks) fun b o e=>hx b o (Nat.ne_of_lt (Heap.lt_size e)) e
 exact h pins _ σ H xs _ Q I1 (by simpa using rv) hw
def gi (te:TE) (g:TG):TS:=fun D σ H=>te σ H fun x H1=>g x σ H1 D.nx
theorem wk {i:Nat} {x:Str} {e:Expr} {te:TE} {pos' :Pos} (hN:X.N.Nodup) (hi:X.N[i]? =some x) (hx:Loc X.env.scope x) (he:PE X e te) (hs:swapsWith e (some (.Name x pos')) pos.line X.env=pure false:=by rfl) (hf:X.fn x=true\/X.env.scope.names.lookup x=some .local:=by first | exact .inl rfl | exact .inr rfl | assumption):
  PS X (.Assign [.Name x pos'] e pos) (gi te (J7 i)):=by
 intro pins s σ H D I h
 refine wpAny_Assign_Name (thn (he pins s σ H _ I h) fun v s1 ⟨y,H1,I1,r1,q1⟩=> ?_) hs
 exact Zs I1 hN hi hx r1 (fun s2 I2=>⟨_,H1,I2,q1⟩) hf
def gj (i j:Nat) (ta:TA):TS:=fun D σ H=>ta σ H fun vs H1=>∃ v w,vs=[v,w]/\D.nx ((σ.set i (some v)).set j (some w)) H1
theorem qj {i j:Nat} {x y:Str} {a b:Expr} {ta:TA} {px py pt:Pos} {kt k2 pt2} (hc:X.calm=true) (hN:X.N.Nodup) (hi:X.N[i]? =some x) (hj:X.N[j]? =some y) (hij:i ≠ j)
  (hx:X.env.scope.names.lookup x=some .local) (hy:X.env.scope.names.lookup y=some .local) (ha:PA X [a,b] ta)
  (hw:swappedStores [.Tuple [.Name x px, .Name y py] kt pt] (.Tuple [a,b] k2 pt2) X.env=pure (some [x,y]))
  (hs:swapsWithSole [.Tuple [.Name x px, .Name y py] kt pt] (.Tuple [a,b] k2 pt2) pos.line X.env=pure false:=by rfl):
  PS X (.Assign [.Tuple [.Name x px, .Name y py] kt pt] (.Tuple [a,b] k2 pt2) pos) (gj i j ta):=by
 intro pins s σ H D I h
 rw [exec_Assign_arm]
 refine wpAny_bind (wpAny_standAt ?_)
 rw [hs]
 refine wpAny_bind (wpAny_pure ?_)
 rw [if_neg (by decide)]
 refine wpAny_bind (Tuple_ (thn (ha _ pins s σ H _ I h) fun us s1 ⟨vs,H1,I1,r1,q1⟩=> ?_))
 obtain ⟨v,w,e1,q1⟩:=q1
 subst e1
 obtain ⟨u1,u2,rfl,rv,rw'⟩:∃ u1 u2,us=[u1,u2]/\zF v u1/\zF w u2:=by
  cases r1 with
  | cons p q=>
   cases q with
   | cons p' q' =>
    cases q'
    exact ⟨_,_,rfl,p,p'⟩
 refine wpAny_newObj_type ?_ (by show 2<=sizeLine; decide)
 have I2:Inv X pins σ H1 { s1 with heap:=s1.heap.push { cls:= .type "tuple",data:= .seq [u1,u2].toArray } }:=I1.kept (t' :=s1.toks) fun b o e=>Heap.get?_push_of_some _ e
 rw [hw]
 refine wpAny_bind (wpAny_pure ?_)
 show wpAny (model X.prog X.w) X.A (do rule "assign.swapped-stores"; let items ← unpackItems (.ref s1.heap.objs.size) 2 none; assignInOrder [fun v=>bindName X.env y v,fun v=>bindName X.env x v] items.reverse; pure Flow.next) _ _ _
 refine wpAny_bind (wpAny_rule (wpAny_bind (unpackItems_tuple (items:= #[u1,u2]) (I.ok.hd hc) (IsTup.new s1.heap _) fun h' hx' => ?_)))
 have I3:=I2.kept (h' :=h') (t' :=s1.toks) fun b o e=>hx' b o (Nat.ne_of_lt (Heap.lt_size e)) e
 show wpAny _ _ (assignInOrder [fun v=>bindName X.env y v,fun v=>bindName X.env x v] [u2,u1] >>= fun _=>pure Flow.next) _ _ _
 refine wpAny_bind (assignInOrder_cons (wpAny_bindName (Zs I3 hN hj (.inl hy) rw' (fun s2 I4=> ?_) (.inr hy))))
 refine assignInOrder_cons (wpAny_bindName (Zs I4 hN hi (.inl hx) rv (fun s3 I5=>assignInOrder_nil (wpAny_pure ?_)) (.inr hx)))
 rw [List.set_comm _ _ (Ne.symm hij)] at I5
 exact ⟨_,H1,I5,q1⟩
end
section
variable {X:Cx} {pos:Pos}
end
structure It where
 go:Nat->Hp->Prop
 yld:Nat->Hp->V->Hp->Prop
 stop:Nat->Hp->Prop
def J9 (X:Cx) (pins:List (Addr×Obj)) (H:Hp) (b:Addr):Prop:=
 H b=none/\b ≠ X.env.locals/\b ∉ X.fs/\(b∈X.ex\/X.s₀.heap.objs.size<=b)/\(∀ x c,X.env.cells.lookup x=some c->c ≠ b)/\∀ p∈X.pn++pins,p.1 ≠ b
theorem Inv.fpOk {X:Cx} {pins:List (Addr×Obj)} {σ:St} {H H' :Hp} {s:Shared} {b:Addr} (I:Inv X pins σ H s) (hb:s.heap.objs.size<=b) (hn:H' b=none):J9 X pins H' b:=by
 refine ⟨hn,Nat.ne_of_gt (Nat.lt_of_lt_of_le I.lt hb),I.nofs hb, .inr (Nat.le_trans I.sz hb),fun x c e z=> ?_,fun p hp z=> ?_⟩
 ·obtain ⟨v,q⟩:=I.cell x c e
  exact absurd (Nat.lt_of_lt_of_le q.lt (by rw [z]; exact hb)) (Nat.lt_irrefl _)
 ·exact absurd (Nat.lt_of_lt_of_le (Heap.lt_size (I.pin p hp).1) (by rw [z]; exact hb)) (Nat.lt_irrefl _)
structure Wh (P:Program) (w:World) (K:PySem.W.Frag) (tg:Expr) (J:It) (fp:List Addr) (it:Addr) (tn:Nat->Heap->Prop):Prop where
 mem:it∈fp
 obj:∀ i h,tn i h->∀ b∈fp,∃ o,h.get? b=some o/\∀ v,o.data ≠ .cell v
 keep:∀ i h h',tn i h->(∀ b∈fp,∀ o,h.get? b=some o->h'.get? b=some o)->tn i h'
 item:∀ (X:Cx),X.prog=P->X.w=w->X.K=K->X.calm=true->∀ (i:Nat) (pins:List (Addr×Obj)) (s:Shared) (σ:St) (H:Hp) (E:Value->Shared->Prop),Inv X pins σ H s->(∀ b∈fp,J9 X pins H b)->tn i s.heap->J.go i H->
  wpAny (model P w) X.A (pyNext (.ref it)) (fun r s1=>∃ u,r=some u/\
   wpAny (model P w) X.A (letOwnedTupleGo tg (.ref it) u) (fun _ s2=>∃ x H',Inv X pins σ H' s2/\zF x u/\J.yld i H x H' /\tn (i+1) s2.heap/\∀ b∈fp,H' b=none) E s1) E s
 done:∀ (X:Cx),X.prog=P->X.w=w->X.K=K->X.calm=true->∀ (i:Nat) (pins:List (Addr×Obj)) (s:Shared) (σ:St) (H:Hp) (E:Value->Shared->Prop),Inv X pins σ H s->(∀ b∈fp,J9 X pins H b)->tn i s.heap->J.stop i H->
  wpAny (model P w) X.A (pyNext (.ref it)) (fun r s1=>r=none/\Inv X pins σ H s1) E s
 self:∀ (A:Around) (i:Nat) (s:Shared) (Q:Value->Shared->Prop) (E:Value->Shared->Prop),tn i s.heap->Q (.ref it) s->wpAny (model P w) A (pyIter (.ref it)) Q E s
abbrev TI:=St->Hp->(It->Hp->Prop)->Prop
def PIE (X:Cx) (pins:List (Addr×Obj)) (σ:St) (tg:Expr) (R:It->Hp->Prop) (itv:Value) (s2:Shared):Prop:=
 ∃ (it:Addr) (fp:List Addr) (tn:Nat->Heap->Prop) (J:It) (H' :Hp),itv= .ref it/\Inv X pins σ H' s2/\Wh X.prog X.w X.K tg J fp it tn/\tn 0 s2.heap/\(∀ b∈fp,J9 X pins H' b)/\R J H'
def PI (X:Cx) (tg iter:Expr) (wi:TI):Prop:=
 ∀ (pins:List (Addr×Obj)) (s:Shared) (σ:St) (H:Hp) (R:It->Hp->Prop),Inv X pins σ H s->wi σ H R->
  wpAny (model X.prog X.w) X.A (eval iter X.env) (fun v s1=>wpAny (model X.prog X.w) X.A (pyIter v) (PIE X pins σ tg R) X.xe s1) X.xe s
theorem wQ {M:Model} {A:Around} {E:Value->Shared->Prop} {s:Shared} {tg:Expr} {it:Addr} {u:Value} {o:Obj} {n:String} {vs:Array Value} {Q:Unit->Shared->Prop} (ho:s.heap.get? it=some o) (hc:o.cls= .type n) (hd:o.data= .fields vs)
  (hn:["enumerate","zip","dict_itemiterator","dict_reverseitemiterator","odict_iterator","itertools.zip_longest","itertools.pairwise"].contains n=false) (hQ:Q () s):wpAny M A (letOwnedTupleGo tg (.ref it) u) Q E s:=by
 unfold letOwnedTupleGo
 cases tg <;> first
  | exact wpAny_pure hQ
  | (cases u <;> first
    | exact wpAny_pure hQ
    | (refine wpAny_bind (wpAny_load ho ?_); rw [hc,hd]; show wpAny M A (if (["enumerate","zip","dict_itemiterator","dict_reverseitemiterator","odict_iterator","itertools.zip_longest","itertools.pairwise"].contains n && vs[0]? == some (rawInt _))=true then _ else _) Q E s; rw [if_neg (by intro h; rw [hn,Bool.false_and] at h; cases h)]; exact wpAny_pure hQ))
def Itl (K:PySem.W.Frag) (a:Addr):It:=
 ⟨fun i H=>∃ xs x,SqL K H a xs/\xs[i]? =some x,fun i H x H' =>H' =H/\∀ xs,SqL K H a xs->xs[i]? =some x,fun i H=>∃ xs,SqL K H a xs/\xs.length<=i⟩
def Itt (K:PySem.W.Frag) (a:Addr):It:=
 ⟨fun i H=>∃ xs x,SqT K H a xs/\xs[i]? =some x,fun i H x H' =>H' =H/\∀ xs,SqT K H a xs->xs[i]? =some x,fun i H=>∃ xs,SqT K H a xs/\xs.length<=i⟩
def Itr (lo:Int) (n:Nat):It:=⟨fun i _=>i < n,fun i H x H' =>H' =H/\x= .int (lo+i),fun i _=>n<=i⟩
theorem Wv {P:Program} {w:World} {K:PySem.W.Frag} {tg:Expr} (a it:Addr):Wh P w K tg (Itl K a) [it] it (fun i h=>h.IsListIter it a i) where
 mem:=by simp
 obj:=fun i h st b hb=>by
  have e:b=it:=by simpa using hb
  subst e
  obtain ⟨o,e,c,d⟩:=st
  exact ⟨o,e,fun v z=>by rw [d] at z; cases z⟩
 keep:=fun i h h' st k=>st.at fun o e=>k it (by simp) o e
 item:=by
  intro X hP hw hK hc i pins s σ H E I hf st hg
  subst hP hw hK
  obtain ⟨xs,x,hq,hx⟩:=hg
  obtain ⟨its,rv,p,hz⟩:=I.list hq
  obtain ⟨u,hu,ru⟩:=rv.get hx
  obtain ⟨f0,f1,f2,f3,f4,f5⟩:=hf it (by simp)
  refine wpAny_pyNext_list_item st p.isList (x:=u) (by simpa using hu) fun h' st' sb=> ?_
  have I1:Inv X pins σ H { s with heap:=h' }:=I.turned (t' :=s.toks) (fun b o hb e=>(sb.2 b hb).trans e) f0 f1 f3 f4 f5
  obtain ⟨o,e,c,d⟩:=id st'
  exact ⟨u,rfl,wQ (s:={ s with heap:=h' }) e c d (by decide) ⟨x,H,I1,ru,⟨rfl,fun ys hy=>by rw [I.list_inj hy hq]; exact hx⟩,st',fun b hb=>(hf b hb).1⟩⟩
 done:=by
  intro X hP hw hK hc i pins s σ H E I hf st hg
  subst hP hw hK
  obtain ⟨xs,hq,hx⟩:=hg
  obtain ⟨its,rv,p,hz⟩:=I.list hq
  obtain ⟨f0,f1,f2,f3,f4,f5⟩:=hf it (by simp)
  have hl:=rv.length
  exact wpAny_pyNext_list_end (I.ok.hd hc) st p.isList (by simp; omega) fun h' eb=>⟨rfl,I.turned (t' :=s.toks) (fun b o hb e=>eb b o hb e) f0 f1 f3 f4 f5⟩
 self:=fun _ _ _ _ _ st h=>wpAny_pyIter_listiter st h
theorem wR {P:Program} {w:World} {K:PySem.W.Frag} {tg:Expr} (a it:Addr):Wh P w K tg (Itt K a) [it] it (fun i h=>h.IsTupleIter it a i) where
 mem:=by simp
 obj:=fun i h st b hb=>by
  have e:b=it:=by simpa using hb
  subst e
  obtain ⟨o,e,c,d⟩:=st
  exact ⟨o,e,fun v z=>by rw [d] at z; cases z⟩
 keep:=fun i h h' st k=>st.at fun o e=>k it (by simp) o e
 item:=by
  intro X hP hw hK hc i pins s σ H E I hf st hg
  subst hP hw hK
  obtain ⟨xs,x,hq,hx⟩:=hg
  obtain ⟨its,rv,p,hz⟩:=I.tuple hq
  obtain ⟨u,hu,ru⟩:=rv.get hx
  obtain ⟨f0,f1,f2,f3,f4,f5⟩:=hf it (by simp)
  refine wpAny_pyNext_tuple_item st (show s.heap.IsTuple a its.toArray from p) (x:=u) (by simpa using hu) fun h' st' sb=> ?_
  have I1:Inv X pins σ H { s with heap:=h' }:=I.turned (t' :=s.toks) (fun b o hb e=>(sb.2 b hb).trans e) f0 f1 f3 f4 f5
  obtain ⟨o,e,c,d⟩:=id st'
  exact ⟨u,rfl,wQ (s:={ s with heap:=h' }) e c d (by decide) ⟨x,H,I1,ru,⟨rfl,fun ys hy=>by rw [I.tuple_inj hy hq]; exact hx⟩,st',fun b hb=>(hf b hb).1⟩⟩
 done:=by
  intro X hP hw hK hc i pins s σ H E I hf st hg
  subst hP hw hK
  obtain ⟨xs,hq,hx⟩:=hg
  obtain ⟨its,rv,p,hz⟩:=I.tuple hq
  obtain ⟨f0,f1,f2,f3,f4,f5⟩:=hf it (by simp)
  have hl:=rv.length
  exact wpAny_pyNext_tuple_end (I.ok.hd hc) st (show s.heap.IsTuple a its.toArray from p) (by simp; omega) fun h' eb=>⟨rfl,I.turned (t' :=s.toks) (fun b o hb e=>eb b o hb e) f0 f1 f3 f4 f5⟩
 self:=fun _ _ _ _ _ st h=>wpAny_pyIter_tupleiter st h
theorem wS {P:Program} {w:World} {K:PySem.W.Frag} {tg:Expr} (it:Addr) (lo:Int) (n:Nat):Wh P w K tg (Itr lo n) [it] it (fun i h=>IsRangeIter h it (lo+(i:Nat)*1) ((n:Int) - (i:Nat)) 1) where
 mem:=by simp
 obj:=fun i h st b hb=>by
  have e:b=it:=by simpa using hb
  subst e
  exact ⟨_,st,fun v z=>by
   have z' :Data.fields _=Data.cell v:=z
   cases z'⟩
 keep:=fun i h h' st k=>k it (by simp) _ st
 item:=by
  intro X hP hw hK hc i pins s σ H E I hf st hg
  subst hP hw hK
  obtain ⟨f0,f1,f2,f3,f4,f5⟩:=hf it (by simp)
  have W:=Walks.range (prog:=X.prog) (w:=X.w) (I.ok.hd hc) it lo 1 n
  refine W.item i s _ _ hg st fun v h' tk hv st' kk=> ?_
  obtain ⟨t,rfl⟩:=hv
  have I1:Inv X pins σ H { s with heap:=h',toks:=tk }:=I.turned (fun b o hb e=>kk b o (by simpa using hb) e) f0 f1 f3 f4 f5
  refine ⟨_,rfl,wQ (s:={ s with heap:=h',toks:=tk }) (n:="range_iterator") st' rfl rfl (by decide) ⟨.int (lo+i),H,I1,⟨t, ?_⟩,⟨rfl,rfl⟩,st',fun b hb=>(hf b hb).1⟩⟩
  rw [Int.mul_one]
 done:=by
  intro X hP hw hK hc i pins s σ H E I hf st hg
  subst hP hw hK
  obtain ⟨f0,f1,f2,f3,f4,f5⟩:=hf it (by simp)
  exact wpAny_pyNext_range_end (I.ok.hd hc) st (by have:n<=i:=hg; omega) fun h' eb=>⟨rfl,I.turned (t' :=s.toks) (fun b o hb e=>eb b o hb e) f0 f1 f3 f4 f5⟩
 self:=fun _ _ _ _ _ st h=>wpAny_pyIter_rangeiter st h
end L2
namespace L2
open PySem PySem.Spec PyProof.Rows
section
variable {X:Cx} {tg:Expr}
theorem uV {pins:List (Addr×Obj)} {σ:St} {H:Hp} {s:Shared} {R:It->Hp->Prop} {E:Value->Shared->Prop} {lo hi:Int} {t u v:Tok} {tk:Nat} (I:Inv X pins σ H s) (h1: -(2 ^ 62)<=lo) (h2:lo < 2 ^ 62) (h3: -(2 ^ 62)<=hi) (h4:hi < 2 ^ 62)
  (q:R (Itr lo (hi - lo).toNat) H):wpAny (model X.prog X.w) X.A (pyIter (.ref s.heap.objs.size)) (PIE X pins σ tg R) E { s with heap:=s.heap.push { cls:= .type "range",data:= .fields #[.int lo t, .int hi u, .int 1 v] },toks:=tk }:=by
 refine wpAny_pyIter_range (IsRange.new ..) (small_one h1 h2 h3 h4) ?_
 have I1:Inv X pins σ H { s with heap:=s.heap.push { cls:= .type "range",data:= .fields #[.int lo t, .int hi u, .int 1 v] },toks:=tk }:=I.kept fun b o e=>Heap.get?_push_of_some _ e
 refine ⟨(s.heap.push { cls:= .type "range",data:= .fields #[.int lo t, .int hi u, .int 1 v] }).objs.size,[(s.heap.push { cls:= .type "range",data:= .fields #[.int lo t, .int hi u, .int 1 v] }).objs.size],_,_,H,rfl,
  I1.kept (t' :=tk) fun b o e=>Heap.get?_push_of_some _ e,wS _ lo (hi - lo).toNat, ?_,fun b hb=> ?_,q⟩
 ·have e1:lo+((0:Nat):Int)*1=lo:=by simp
  have e2:(((hi - lo).toNat:Nat):Int) - ((0:Nat):Int)=Builtin.Range.rangeSize lo hi 1:=by rw [rangeSize_one]; split <;> omega
  show IsRangeIter _ _ (lo+((0:Nat):Int)*1) ((((hi - lo).toNat:Nat):Int) - ((0:Nat):Int)) 1
  rw [e1,e2]
  exact Heap.get?_push_size _ rfl
 ·have e:b=(s.heap.push { cls:= .type "range",data:= .fields #[.int lo t, .int hi u, .int 1 v] }).objs.size:=by simpa using hb
  subst e
  exact I1.fpOk (Nat.le_refl _) (I1.hok.fresh (Nat.le_refl _))
def V8 (ta:TA):TI:=fun σ H R=>ta σ H fun vs H1=>∃ j:Int,vs=[.int j]/\ -(2 ^ 62)<=j/\j < 2 ^ 62/\R (Itr 0 j.toNat) H1
theorem Ww {a:Expr} {ta:TA} {p pos:Pos} (hg:Gl X "range") (hm:X.mg "range"=none) (ha:PA X [a] ta) (hs:starEach [a] X.env=[(false,eval a X.env)]:=by rfl):PI X tg (.Call (.Name "range" p) [a] [] pos) (V8 ta):=by
 intro pins s σ H R I h
 refine Call_ (Zi I hg hm boot_range (PyProof.Rows.callWith_type1 (thn (ha pos pins s σ H _ I h) fun us s1 ⟨vs,H1,I1,r1,q1⟩=> ?_) hs rfl))
 obtain ⟨j,e,q1,q2,q⟩:=q1
 subst e
 cases r1 with
 | cons r rr=>
  cases rr
  obtain ⟨t,rfl⟩:=r
  exact call_range_1 (uV I1 (by omega) (by omega) q1 q2 (by simpa using q))
def gm (wi:TI) (g:TG) (tb:TS):TS:=fun D σ H=>wi σ H fun J H1=>∃ W:Nat->Nat->St->Hp->Prop,(∃ m,W 0 m σ H1)/\∀ i m σ H,W i m σ H->
 (J.stop i H/\D.nx σ H)\/(J.go i H/\∃ N:St->Hp->Prop,(∀ σ' H',N σ' H' ->∃ m',m' < m/\W (i+1) m' σ' H')/\∀ x H',J.yld i H x H' ->g x σ H' fun σ2 H2=>tb { D with nx:=N,ct:=N,bk:=D.nx } σ2 H2)
def Ja (fp:List Addr) (h:Heap):List (Addr×Obj):=fp.filterMap fun b=>(h.get? b).map fun o=>(b,o)
theorem Zd {fp:List Addr} {h:Heap} {b:Addr} {o:Obj} (hb:b∈fp) (e:h.get? b=some o):(b,o)∈Ja fp h:=List.mem_filterMap.mpr ⟨b,hb,by rw [e]; rfl⟩
theorem Wx {fp:List Addr} {h:Heap} {p:Addr×Obj} (hp:p∈Ja fp h):p.1∈fp/\h.get? p.1=some p.2:=by
 obtain ⟨b,hb,e⟩:=List.mem_filterMap.mp hp
 cases q:h.get? b with
 | none=>rw [q] at e; cases e
 | some o=>
  rw [q] at e
  have e' :(b,o)=p:=Option.some.inj e
  subst e'
  exact ⟨hb,q⟩
theorem Inv.pinned {pins:List (Addr×Obj)} {σ:St} {H:Hp} {s:Shared} {fp:List Addr} (I:Inv X pins σ H s) (hf:∀ b∈fp,J9 X pins H b) (ho:∀ b∈fp,∃ o,s.heap.get? b=some o/\∀ v,o.data ≠ .cell v):Inv X (pins++Ja fp s.heap) σ H s:=
 I.pins_of fun p hp=>(List.mem_append.mp hp).elim (fun z=>I.pin p (List.mem_append_right _ z)) fun z=>by
  obtain ⟨hb,e⟩:=Wx z
  obtain ⟨f0,f1,f2,_⟩:=hf p.1 hb
  obtain ⟨o,e',d⟩:=ho p.1 hb
  rw [e] at e'; cases e'
  exact ⟨e,f0,f1,f2,d⟩
theorem Inv.unpinned {pins pl:List (Addr×Obj)} {σ:St} {H:Hp} {s:Shared} (I:Inv X (pins++pl) σ H s):Inv X pins σ H s:=I.pins_of fun p hp=>I.pin p (List.mem_append_right _ (List.mem_append_left _ hp))
theorem qk {iter:Expr} {body:List Stmt} {wi:TI} {g:TG} {tb:TS} {pos:Pos} (hp:PassesOwn (model X.prog X.w) X.A X.env X.xe) (hc:X.calm=true) (hi:PI X tg iter wi) (hg:PG X tg g) (hb:PSs X body tb)
  (hs:∀ x,foldedSetIterable iter X.env x=pure x:=by intro _; rfl):PS X (.For tg iter body [] pos) (gm wi g tb):=by
 intro pins s σ H D I h
 refine wpAny_For (thn (hi pins s σ H _ I h) fun v s1 h1=>thn h1 fun itv s2 h2=> ?_) hs
 obtain ⟨it,fp,tn,J,H2,e,I2,T,st2,f2,W,⟨m0,w0⟩,turn⟩:=h2
 subst e
 have stat:∀ {H' :Hp},(∀ b∈fp,H' b=none)->∀ b∈fp,J9 X pins H' b:=fun hn b hb=>⟨hn b hb,(f2 b hb).2⟩
 refine codeAny_forLoop_any (fun n s' =>∃ i σ' H',Inv X pins σ' H' s' /\tn i s'.heap/\(∀ b∈fp,H' b=none)/\W i n σ' H') ?_ m0 ⟨0,σ,H2,I2,st2,fun b hb=>(f2 b hb).1,w0⟩
 rintro n s3 ⟨i,σ3,H3,I3,st3,fr3,w3⟩
 rcases turn i n σ3 H3 w3 with ⟨stop,qn⟩ | ⟨go,N,hN,step⟩
 ·refine wpAny_passesOwn hp (thn (T.done X rfl rfl rfl hc i pins s3 σ3 H3 X.xe I3 (stat fr3) st3 stop) fun r s4 ⟨hr,I4⟩=> ?_)
  subst hr
  exact wpAny_execs_nil ⟨σ3,H3,I4,qn⟩
 ·refine wpAny_passesOwn hp (thn (T.item X rfl rfl rfl hc i pins s3 σ3 H3 X.xe I3 (stat fr3) st3 go) fun r s4 ⟨u,hr,h4⟩=> ?_)
  subst hr
  refine wpAny_passesOwn hp (thn h4 fun _ s5 ⟨x,H5,I5,r5,y5,st5,fr5⟩=> ?_)
  have I5' :=I5.pinned (stat fr5) (T.obj _ _ st5)
  refine wpAny_passesOwn hp (thn (hg _ s5 σ3 H5 x u _ I5' r5 (step x H5 y5)) fun _ s6 ⟨σ6,H6,I6,q6⟩=> ?_)
  refine wpAny_passesOwn hp (thn (hb _ s6 σ6 H6 _ I6 q6) fun f s7 q7=> ?_)
  have again:∀ {σ7:St} {H7:Hp},Inv X (pins++Ja fp s5.heap) σ7 H7 s7->N σ7 H7->∃ m,m < n/\∃ i σ' H',Inv X pins σ' H' s7/\tn i s7.heap/\(∀ b∈fp,H' b=none)/\W i m σ' H' :=fun {σ7 H7} I7 n7=>by
   obtain ⟨m',hm,w7⟩:=hN σ7 H7 n7
   refine ⟨m',hm,i+1,σ7,H7,I7.unpinned,T.keep _ _ _ st5 fun b hb o e=>(I7.pin (b,o) (List.mem_append_right _ (List.mem_append_right _ (Zd hb e)))).1,fun b hb=> ?_,w7⟩
   obtain ⟨o,e,d⟩:=T.obj _ _ st5 b hb
   exact (I7.pin (b,o) (List.mem_append_right _ (List.mem_append_right _ (Zd hb e)))).2.1
  cases f with
  | next=>obtain ⟨σ7,H7,I7,n7⟩:=q7; exact again I7 n7
  | cont=>obtain ⟨σ7,H7,I7,n7⟩:=q7; exact again I7 n7
  | brk=>obtain ⟨σ7,H7,I7,q7⟩:=q7; exact ⟨σ7,H7,I7.unpinned,q7⟩
  | ret v=>obtain ⟨x7,σ7,H7,I7,r7,q7⟩:=q7; exact ⟨x7,σ7,H7,I7.unpinned,r7,q7⟩
end
end L2
namespace L2
open PySem PySem.Spec PyProof.Rows
abbrev R2:=V->V->Hp->VK->Prop
def OpR (X:Cx) (f:Value->Value->Sem Value) (r:R2):Prop:=
 ∀ (pins:List (Addr×Obj)) (s:Shared) (σ:St) (H:Hp) (x y:V) (v u:Value) (Q:VK),Inv X pins σ H s->zF x v->zF y u->r x y H Q->
  wpAny (model X.prog X.w) X.A (f v u) (EP X pins σ Q) X.xe s
def UnR (X:Cx) (f:Value->Sem Value) (r:V->Hp->VK->Prop):Prop:=
 ∀ (pins:List (Addr×Obj)) (s:Shared) (σ:St) (H:Hp) (x:V) (v:Value) (Q:VK),Inv X pins σ H s->zF x v->r x H Q->
  wpAny (model X.prog X.w) X.A (f v) (EP X pins σ Q) X.xe s
def Z4 (X:Cx) (f:Value) (r:List V->Hp->VK->Prop):Prop:=
 ∀ (pins:List (Addr×Obj)) (s:Shared) (σ:St) (H:Hp) (xs:List V) (us:List Value) (Q:VK),Inv X pins σ H s->zv xs us->r xs H Q->
  wpAny (model X.prog X.w) X.A (call f us) (EP X pins σ Q) X.xe s
def gp (X:Cx) (r:V->Hp->(Bool->Hp->Prop)->Prop):Prop:=
 ∀ (pins:List (Addr×Obj)) (s:Shared) (σ:St) (H:Hp) (x:V) (v:Value) (Q:Bool->Hp->Prop),Inv X pins σ H s->zF x v->r x H Q->
  wpAny (model X.prog X.w) X.A (truthy v) (TP X pins σ Q) X.xe s
def tOp (r:R2) (ta tb:TE):TE:=fun σ H Q=>ta σ H fun x H1=>tb σ H1 fun y H2=>r x y H2 Q
def tUn (r:V->Hp->VK->Prop) (ta:TE):TE:=fun σ H Q=>ta σ H fun x H1=>r x H1 Q
def rI (C:Int->Int->Prop) (g:Int->Int->V):R2:=fun x y H Q=>∃ i j,x= .int i/\y= .int j/\C i j/\Q (g i j) H
def rI0 (g:Int->Int->V):R2:=fun x y H Q=>∃ i j,x= .int i/\y= .int j/\Q (g i j) H
def rU (g:Int->V):V->Hp->VK->Prop:=fun x H Q=>∃ i,x= .int i/\Q (g i) H
section
variable {X:Cx} {a b c:Expr} {ta tb tc:TE} {pos:Pos}
theorem V9 (ha:PE X a ta) (hb:PE X b tb) {pins:List (Addr×Obj)} {s:Shared} {σ:St} {H:Hp} {R:V->V->Hp->Prop} (I:Inv X pins σ H s)
  (h:ta σ H fun x H1=>tb σ H1 fun y H2=>R x y H2) {Q:Value->Shared->Prop} {f:Value->Value->Sem Value}
  (hf:∀ v u s2 x y H2,Inv X pins σ H2 s2->zF x v->zF y u->R x y H2->wpAny (model X.prog X.w) X.A (f v u) Q X.xe s2):
  wpAny (model X.prog X.w) X.A (eval a X.env) (fun v s₁=>wpAny (model X.prog X.w) X.A (eval b X.env) (fun u s₂=>wpAny (model X.prog X.w) X.A (f v u) Q X.xe s₂) X.xe s₁) X.xe s:=by
 refine thn (ha pins s σ H _ I h) fun v s1 ⟨x,H1,I1,r1,q1⟩=> ?_
 refine thn (hb pins s1 σ H1 _ I1 q1) fun u s2 ⟨y,H2,I2,r2,q2⟩=> ?_
 exact hf v u s2 x y H2 I2 r1 r2 q2
theorem qm {op:Operator} {r:R2} (ho:OpR X (binaryOp op) r) (ha:PE X a ta) (hb:PE X b tb):PE X (.BinOp a op b pos) (tOp r ta tb):=by
 intro pins s σ H Q I h
 exact wpAny_BinOp (V9 ha hb I h fun v u s2 x y H2 I2 rx ry q=>ho pins s2 σ H2 x y v u Q I2 rx ry q)
theorem Va {op:UnaryOp} {r:V->Hp->VK->Prop} (ho:UnR X (unaryOp op) r) (ha:PE X a ta):PE X (.UnaryOp op a pos) (tUn r ta):=by
 intro pins s σ H Q I h
 exact UnaryOp_ (thn (ha pins s σ H _ I h) fun v s1 ⟨x,H1,I1,r1,q1⟩=>ho pins s1 σ H1 x v Q I1 r1 q1)
theorem opI {f:Value->Value->Sem Value} {C:Int->Int->Prop} {g:Int->Int->Int}
  (rule:∀ (i j:Int) (t u:Tok) (s:Shared) (Q:Value->Shared->Prop) (E:Value->Shared->Prop),C i j->Q (.int (g i j) s.toks) { s with toks:=s.toks+1 }->wpAny (model X.prog X.w) X.A (f (.int i t) (.int j u)) Q E s):
  OpR X f (rI C fun i j=> .int (g i j)):=by
 intro pins s σ H x y v u Q I rx ry h
 obtain ⟨i,j,rfl,rfl,hc,q⟩:=h
 obtain ⟨t,rfl⟩:=rx
 obtain ⟨t',rfl⟩:=ry
 exact rule i j t t' s _ _ hc ⟨.int (g i j),H,I.tok _,⟨_,rfl⟩,q⟩
theorem XF {f:Value->Value->Sem Value} {g:Int->Int->Int}
  (rule:∀ (i j:Int) (t u:Tok) (s:Shared) (Q:Value->Shared->Prop) (E:Value->Shared->Prop),Q (.int (g i j) s.toks) { s with toks:=s.toks+1 }->wpAny (model X.prog X.w) X.A (f (.int i t) (.int j u)) Q E s):
  OpR X f (rI0 fun i j=> .int (g i j)):=by
 intro pins s σ H x y v u Q I rx ry h
 obtain ⟨i,j,rfl,rfl,q⟩:=h
 obtain ⟨t,rfl⟩:=rx
 obtain ⟨t',rfl⟩:=ry
 exact rule i j t t' s _ _ ⟨.int (g i j),H,I.tok _,⟨_,rfl⟩,q⟩
theorem Vb {f:Value->Value->Sem Value} {g:Int->Int->Bool}
  (rule:∀ (i j:Int) (t u:Tok) (s:Shared) (Q:Value->Shared->Prop) (E:Value->Shared->Prop),Q (.bool (g i j)) s->wpAny (model X.prog X.w) X.A (f (.int i t) (.int j u)) Q E s):
  OpR X f (rI0 fun i j=> .bl (g i j)):=by
 intro pins s σ H x y v u Q I rx ry h
 obtain ⟨i,j,rfl,rfl,q⟩:=h
 obtain ⟨t,rfl⟩:=rx
 obtain ⟨t',rfl⟩:=ry
 exact rule i j t t' s _ _ ⟨.bl (g i j),H,I,rfl,q⟩
def gq (i j:Int):Prop:=0 < j/\j < 1073741824
def J6 (i j:Int):Prop:=(-(2 ^ 64) < i/\i < 2 ^ 64)\/(-(2 ^ 64) < j/\j < 2 ^ 64)
theorem J6.ok {i j:Int} (h:J6 i j):IntMulOk i j:=by
 rcases h with ⟨h1,h2⟩ | ⟨h1,h2⟩
 ·exact .of_left (intBits_le_64 h1 h2)
 ·exact .of_right (intBits_le_64 h1 h2)
theorem qo:OpR X (binaryOp .Add) (rI0 fun i j=> .int (i+j)):=XF fun _ _ _ _ _ _ _ q=>add_int q
theorem qp:OpR X (binaryOp .Sub) (rI0 fun i j=> .int (i - j)):=XF fun _ _ _ _ _ _ _ q=>sub_int q
theorem qq:OpR X (binaryOp .Mult) (rI J6 fun i j=> .int (i*j)):=opI fun _ _ _ _ _ _ _ hc q=>mul_int q hc.ok
theorem yg:OpR X (binaryOp .FloorDiv) (rI gq fun i j=> .int (i / j)):=opI fun i j _ _ _ _ _ hc q=>by
 have h1:(0:Int) < j:=hc.1
 have h2:j < 1073741824:=hc.2
 exact floordiv_int (by omega) (by rw [Int.fdiv_eq_ediv_of_nonneg i (by omega)]; exact q) (.inl (PyProof.noPylong_small (by omega)))
theorem qr:OpR X (binaryOp .Mod) (rI (fun _ j=>0 < j) fun i j=> .int (i % j)):=opI fun i j _ _ _ _ _ hc q=>by
 have h1:(0:Int) < j:=hc
 exact mod_int' (by omega) (by rw [Int.fmod_eq_emod_of_nonneg i (by omega)]; exact q)
theorem unI {f:Value->Sem Value} {g:Int->Int}
  (rule:∀ (i:Int) (t:Tok) (s:Shared) (Q:Value->Shared->Prop) (E:Value->Shared->Prop),Q (.int (g i) s.toks) { s with toks:=s.toks+1 }->wpAny (model X.prog X.w) X.A (f (.int i t)) Q E s):
  UnR X f (rU fun i=> .int (g i)):=by
 intro pins s σ H x v Q I rx h
 obtain ⟨i,rfl,q⟩:=h
 obtain ⟨t,rfl⟩:=rx
 exact rule i t s _ _ ⟨.int (g i),H,I.tok _,⟨_,rfl⟩,q⟩
theorem qs:UnR X (unaryOp .USub) (rU fun i=> .int (-i)):=unI fun _ _ _ _ _ q=>neg_int q
theorem Wy:OpR X (binaryOp .Add) (fun x y H Q=>∃ i k,x= .int i/\y= .bl k/\Q (.int (i+b2i k)) H):=by
 intro pins s σ H x y v u Q I rx ry h
 obtain ⟨i,k,rfl,rfl,q⟩:=h
 obtain ⟨t,rfl⟩:=rx
 cases ry
 exact add_int_bool ⟨.int (i+b2i k),H,I.tok _,⟨_,rfl⟩,q⟩
end
section
variable {X:Cx} {a b c:Expr} {ta tb tc:TE} {pos:Pos}
theorem Vc:OpR X (compareOp .Lt) (rI0 fun i j=> .bl (decide (i < j))):=Vb fun _ _ _ _ _ _ _ q=>lt_int q
theorem Vd:OpR X (compareOp .LtE) (rI0 fun i j=> .bl (decide (i<=j))):=Vb fun _ _ _ _ _ _ _ q=>le_int q
theorem Ve:OpR X (compareOp .Gt) (rI0 fun i j=> .bl (decide (j < i))):=Vb fun _ _ _ _ _ _ _ q=>gt_int q
theorem ZN (b:Expr) {op:CmpOp} (h:op ≠ .In:=by decide) (h2:op ≠ .NotIn:=by decide):behindInMarks op b=false:=by
 have e1:(op == CmpOp.In)=false:=by cases op <;> first | rfl | exact absurd rfl h
 have e2:(op == CmpOp.NotIn)=false:=by cases op <;> first | rfl | exact absurd rfl h2
 cases b <;> simp [behindInMarks,e1,e2]
theorem Wz {op:CmpOp} {r:R2} (ho:OpR X (compareOp op) r) (ha:PE X a ta) (hb:PE X b tb) (hm:behindInMarks op b=false):PE X (.Compare a [op] [b] pos) (tOp r ta tb):=by
 intro pins s σ H Q I h
 exact wpAny_Compare1 (V9 ha hb I h fun v u s2 x y H2 I2 rx ry q=>ho pins s2 σ H2 x y v u Q I2 rx ry q) hm
def qt (t:TE):TT:=fun σ H Q=>t σ H fun x H' =>∃ k,x= .bl k/\Q k H'
theorem WA {op:CmpOp} {r:R2} (ho:OpR X (compareOp op) r) (ha:PE X a ta) (hb:PE X b tb) (hm:behindInMarks op b=false):PT X (.Compare a [op] [b] pos) (qt (tOp r ta tb)):=by
 intro pins s σ H Q I h
 refine wpAny_isTrue_Compare1 (thn (ha pins s σ H _ I h) fun v s1 ⟨x,H1,I1,r1,q1⟩=>thn (hb pins s1 σ H1 _ I1 q1) fun u s2 ⟨y,H2,I2,r2,q2⟩=>
  thn (ho pins s2 σ H2 x y v u _ I2 r1 r2 q2) fun c s3 ⟨z,H3,I3,r3,k,e,q3⟩=> ?_) hm
 subst e
 cases r3
 exact wpAny_truthy_bool ⟨H3,I3,q3⟩
def UF (r r' :R2) (ta tb tc:TE):TE:=fun σ H Q=>ta σ H fun x H1=>tb σ H1 fun y H2=>r x y H2 fun z H3=>∃ k,z= .bl k/\
 (if k=true then tc σ H3 fun w' H4=>r' y w' H4 Q else Q (.bl false) H3)
theorem uW {op op' :CmpOp} {r r' :R2} (ho:OpR X (compareOp op) r) (ho' :OpR X (compareOp op') r') (ha:PE X a ta) (hb:PE X b tb) (hc:PE X c tc)
  (hm:lastMarks [op,op'] [b,c]=false:=by with_unfolding_all rfl):PE X (.Compare a [op,op'] [b,c] pos) (UF r r' ta tb tc):=by
 intro pins s σ H Q I h
 refine Compare_chain (thn (ha pins s σ H _ I h) fun v s1 ⟨x,H1,I1,r1,q1⟩=>chain_link (thn (hb pins s1 σ H1 _ I1 q1) fun u s2 ⟨y,H2,I2,r2,q2⟩=>
  thn (ho pins s2 σ H2 x y v u _ I2 r1 r2 q2) fun d s3 ⟨z,H3,I3,r3,k,e,q3⟩=> ?_)) hm
 subst e
 cases r3
 refine wpAny_truthy_bool ?_
 cases k with
 | false=>exact ite_ff ⟨.bl false,H3,I3,rfl,q3⟩
 | true=>exact ite_tt (chain_last (thn (hc pins s3 σ H3 _ I3 q3) fun w' s4 ⟨z',H4,I4,r4,q4⟩=>ho' pins s4 σ H4 y z' u w' Q I4 r2 r4 q4))
theorem uX {op op' :CmpOp} {r r' :R2} (ho:OpR X (compareOp op) r) (ho' :OpR X (compareOp op') r') (ha:PE X a ta) (hb:PE X b tb) (hc:PE X c tc)
  (hm:lastMarks [op,op'] [b,c]=false:=by with_unfolding_all rfl):PT X (.Compare a [op,op'] [b,c] pos) (qt (UF r r' ta tb tc)):=by
 intro pins s σ H Q I h
 refine isTrue_chain (thn (ha pins s σ H _ I h) fun v s1 ⟨x,H1,I1,r1,q1⟩=>test_link (thn (hb pins s1 σ H1 _ I1 q1) fun u s2 ⟨y,H2,I2,r2,q2⟩=>
  thn (ho pins s2 σ H2 x y v u _ I2 r1 r2 q2) fun d s3 ⟨z,H3,I3,r3,k,e,q3⟩=> ?_)) hm
 subst e
 cases r3
 refine wpAny_truthy_bool ?_
 cases k with
 | false=>
  obtain ⟨k',e',q'⟩:=q3
  cases e'
  exact ite_ff ⟨H3,I3,q'⟩
 | true=>
  refine ite_tt (test_last (thn (hc pins s3 σ H3 _ I3 q3) fun w' s4 ⟨z',H4,I4,r4,q4⟩=>thn (ho' pins s4 σ H4 y z' u w' _ I4 r2 r4 q4) fun d' s5 ⟨z2,H5,I5,r5,k2,e2,q5⟩=> ?_))
  subst e2
  cases r5
  exact wpAny_truthy_bool ⟨H5,I5,q5⟩
def XG (K:PySem.W.Frag) (x:V) (H:Hp) (k:Bool):Prop:=
 match x with
 | .non=>k=false
 | .bl b=>k=b
 | .int i=>k=(i != 0)
 | .str y=>y.length<=sizeLine/\k=((y.length:Int) != 0)
 | .byt y=>y.size<=sizeLine/\k=((y.size:Int) != 0)
 | .ref p=>(∃ xs,SqL K H p xs/\k= !xs.isEmpty)\/(∃ xs,SqT K H p xs/\k= !xs.isEmpty)\/∃ kvs,H p=some (.dK kvs)/\k= !kvs.isEmpty
 | _=>False
theorem wT {κ:Type} {kvs:List (κ×V)} {vs:List (κ×Value)} (r:KV kvs vs):(!vs.isEmpty)= !kvs.isEmpty:=by
 cases r <;> rfl
theorem jx {xs:List V} {its:List Value} (r:zv xs its):(!its.toArray.isEmpty)= !xs.isEmpty:=by
 cases r <;> simp
theorem jy:(sizeLine:Nat) < 2 ^ 63:=by rw [sizeLine_eq]; decide
theorem qu:gp X (fun x H Q=>∃ k,XG X.K x H k/\Q k H):=by
 intro pins s σ H x v Q I rx h
 obtain ⟨k,e,q⟩:=h
 have hl:=jy
 have hs:sizeLine=16777216:=sizeLine_eq
 cases x with
 | non=>
  cases rx
  have e' :k=false:=e
  subst e'
  exact truthy_none ⟨H,I,q⟩
 | bl b=>
  cases rx
  have e' :k=b:=e
  subst e'
  exact wpAny_truthy_bool ⟨H,I,q⟩
 | int i=>
  obtain ⟨t,rfl⟩:=rx
  have e' :k=(i != 0):=e
  subst e'
  exact PySem.P.truthy_int ⟨H,I,q⟩
 | str y=>
  obtain ⟨t,rfl⟩:=rx
  obtain ⟨hy,e'⟩:y.length<=sizeLine/\k=((y.length:Int) != 0):=e
  subst e'
  exact PySem.P.truthy_str (by omega) ⟨H,I.tok _,q⟩
 | byt y=>
  obtain ⟨t,rfl⟩:=rx
  obtain ⟨hy,e'⟩:y.size<=sizeLine/\k=((y.size:Int) != 0):=e
  subst e'
  exact PySem.W.truthy_bytes (by omega) ⟨H,I.tok _,q⟩
 | ref p=>
  cases rx
  have e' :(∃ xs,SqL X.K H p xs/\k= !xs.isEmpty)\/(∃ xs,SqT X.K H p xs/\k= !xs.isEmpty)\/∃ kvs,H p=some (.dK kvs)/\k= !kvs.isEmpty:=e
  rcases e' with ⟨xs,hx,e'⟩ | ⟨xs,hx,e'⟩ | ⟨kvs,hx,e'⟩
  ·subst e'
   obtain ⟨its,r,pl,hz⟩:=I.list hx
   have hlen:=r.length
   exact wpAny_truthy_list pl.isList (by simp only [List.size_toArray]; omega) ⟨H,I.tok _,by rw [jx r]; exact q⟩
  ·subst e'
   obtain ⟨its,r,pl,hz⟩:=I.tuple hx
   have hlen:=r.length
   exact truthy_tuple pl (by simp only [List.size_toArray]; omega) ⟨H,I.tok _,by rw [jx r]; exact q⟩
  ·subst e'
   obtain ⟨hz,hS,vs,r,m⟩:kvs.length<=sizeLine/\(p == sysModules)=false/\∃ vs,KV kvs vs/\s.heap.DictOf (JM X.prog X.w) p vs:=I.hok p _ hx
   have hlen:kvs.length=vs.length:=Paired.length r
   exact wpAny_truthy_dict hS m (by omega) ⟨H,I.tok _,by rw [wT r]; exact q⟩
 | _=>exact (show False from e).elim
theorem uY (ha:PE X a ta) (he:∀ whole,isTrue a X.env whole=(do let v ← whole; standAt a.pos; holding [v] (truthy v))):
  PT X a (fun σ H Q=>ta σ H fun x H' =>∃ k,XG X.K x H' k/\Q k H'):=by
 intro pins s σ H Q I h
 exact isTrue_plain (thn (ha pins s σ H _ I h) fun v s1 ⟨x,H1,I1,r1,q1⟩=>qu pins s1 σ H1 x v Q I1 r1 q1) (he _)
theorem wU:OpR X (binaryOp .Add) (fun x y H Q=>∃ i j,x= .str i/\y= .str j/\i.length+j.length<=sizeLine/\Q (.str (i++j)) H):=by
 intro pins s σ H x y v u Q I rx ry h
 obtain ⟨i,j,rfl,rfl,hz,q⟩:=h
 obtain ⟨t,rfl⟩:=rx
 obtain ⟨t',rfl⟩:=ry
 exact add_str (fun t' tk=>⟨.str (i++j),H,I.tok _,⟨_,rfl⟩,q⟩) hz
theorem zX {x:V} {us:List Value} (r:zv [x] us):∃ u,us=[u]/\zF x u:=by
 cases r with
 | cons r1 r2=>cases r2; exact ⟨_,rfl,r1⟩
theorem uZ {x y:V} {us:List Value} (r:zv [x,y] us):∃ u w',us=[u,w']/\zF x u/\zF y w' :=by
 cases r with
 | cons r1 r2=>
  cases r2 with
  | cons r3 r4=>cases r4; exact ⟨_,_,rfl,r1,r3⟩
end
end L2
namespace L2
open PySem PySem.Spec PyProof.Rows
structure yh (h:Heap) (x dx C:Addr) (mA:Str->Option Value):Prop where
 obj:h.get? x=some (PySem.W.instObj C dx)
 ns:h.Ns1 dx mA
 ne:dx ≠ x
theorem WB {h:Heap} {dx:Addr} {mA:Str->Option Value} (n:h.Ns1 dx mA):∃ od,h.get? dx=some od/\∀ name,PySem.W.lookIn name od=some (mA name):=by
 obtain ⟨o,es,ep,ho,hd,hk,_,hm⟩:=n
 refine ⟨o,ho,fun name=> ?_⟩
 have e:=hm name
 unfold nsFind findBy at e
 rw [← Array.find?_toList] at e
 unfold PySem.W.lookIn
 rw [hd]
 dsimp only
 split
 ·rename_i y q
  rw [q] at e
  exact congrArg some e
 ·rename_i q
  rw [q] at e
  have a:es.toList.any (·.refKey)=false:=by
   rw [List.any_eq_false]
   intro y hy
   obtain ⟨z,t,hkey⟩:=hk y (Array.mem_toList_iff.mp hy)
   simp [DictEntry.refKey,hkey]
  have a' :¬ es.toList.any (·.refKey)=true:=by rw [a]; exact Bool.false_ne_true
  rw [if_neg a']
  exact congrArg some e
theorem yh.look {h:Heap} {x dx C:Addr} {mA:Str->Option Value} (I:yh h x dx C mA):∃ od,PySem.W.InstAt h x (PySem.W.instObj C dx) C (some od)/\∀ name,PySem.W.lookIn name od=some (mA name):=
 let ⟨od,ho,hl⟩:=WB I.ns
 ⟨od,⟨I.obj,rfl,rfl,ho⟩,hl⟩
section
variable {prog:Program} {w:World} {A:Around} {E:Value->Shared->Prop} {s:Shared} {K:PySem.W.Frag} {x dx C f:Addr} {mA:Str->Option Value} {name:Str} {v:Value}
theorem yi {expr:Bool} {Q:Value->Shared->Prop} (X:K.In s.heap) (I:yh s.heap x dx C mA) (hg:PySem.W.plainGet K C name=true) (hh:PySem.W.hasDictIn K C=true)
  (ha:PySem.W.findIn K (.ref C) name=some none) (hv:mA name=some v) (hv' :PySem.W.handedIn v=true) (h:Q v { s with toks:=s.toks+1 }):
  wpAny (model prog w) A (getAttr (.ref x) name expr) Q E s:=by
 obtain ⟨od,J,hl⟩:=I.look
 exact PySem.W.get_value X J (PySem.W.plainGet_of hg).1 (PySem.W.findObj_own hh ha rfl (by rw [hl,hv])) hv' h
theorem U0 {pl:Sem Bool} {Q:Value×List Value->Shared->Prop} (X:K.In s.heap) (I:yh s.heap x dx C mA) (hg:PySem.W.plainGet K C name=true)
  (hf:PySem.W.findIn K (.ref C) name=some (some (.ref f))) (ht:PySem.W.isFn K (.ref f)=true) (hv:mA name=none) (h:Q (.ref f,[.ref x]) s):
  wpAny (model prog w) A (getMethod (.ref x) name pl) Q E s:=by
 obtain ⟨od,J,hl⟩:=I.look
 exact PySem.W.method_fn X J (PySem.W.plainGet_of hg).1 (PySem.W.plainGet_of hg).2 hf (beq_iff_eq.mp ht) (by show (PySem.W.lookIn name od).map (·.isSome)=some false; rw [hl,hv]; rfl) h
theorem yj {ns:List Str} {Q:Unit->Shared->Prop} (X:K.In s.heap) (I:yh s.heap x dx C mA)
  (hs:PySem.W.findIn K (.ref C) "__setattr__"=some (some (.builtin "object.__setattr__"))) (hp:PySem.W.plainOver K C=true) (ht:PySem.W.takerIn K C name=some none) (hh:PySem.W.hasDictIn K C=true)
  (hw:PySem.Within mA ns) (hsz:ns.length<=sizeLine)
  (h:∀ h',yh h' x dx C (fun y=>if y=name then some v else mA y)->Heap.SameBut dx s.heap h' ->Q () { s with heap:=h',toks:=s.toks+2 }):
  wpAny (model prog w) A (setAttr (.ref x) name v) Q E s:=by
 obtain ⟨od,J,hl⟩:=I.look
 refine PySem.W.set_plain X J hs (PySem.W.osa_open (s:={ s with toks:=s.toks+1 }) (r:=none) X J hp ht fun b=> ?_)
 obtain ⟨cd,hc,hd'⟩:=PySem.W.any_some hh
 have hx:s.heap.get? x=some ⟨.ref C,some dx, .plain, #[]⟩:=I.obj
 refine wpAny_bind (wpAny_pure (wpAny_bind (wpAny_bind (wpAny_loadPart hx (wpAny_bind (PySem.W.Looks.here (s:={ s with toks:=s.toks+1 }) (PySem.W.looks_clsIn X hc) ?_))))))
 rw [hd']
 refine wpAny_pure (a:=some dx) (wpAny_bind (wpAny_pure (wpAny_bind ?_)))
 refine wpAny_nsSet1 (s:={ s with toks:=s.toks+1 }) I.ns fun h' hn2 hs2=> ?_
 obtain ⟨oD,esD,epD,hoD,hdD,hcD⟩:=hn2.count (PySem.Within.cons name v hw)
 refine wpAny_bind (wpAny_lookBehind hoD (by rw [hdD]; exact pastItsLine_dict (Nat.le_trans hcD (by rw [List.length_cons]; omega))) ?_)
 exact wpAny_pure (h _ ⟨(hs2.2 _ (Ne.symm I.ne)).trans I.obj,hn2,I.ne⟩ hs2)
theorem U1 {R:Result->Shared->Prop} {vs:List Value} {kw:List (Str×Value)} (X:K.In s.heap) (hm:PySem.W.makesIn K C=true)
  (hi:PySem.W.findIn K (.ref C) "__init__"=some (some (.ref f))) (hf:PySem.W.typeIn K (.ref f)=some (.type "function"))
  (h:codeAny (model prog w) (A.under (.builtin "type.__call__" ⟨.ref C :: vs,kw⟩)) (.call (.ref f) ⟨.ref (s.heap.objs.size+1) :: vs,kw⟩) (PySem.W.InitBack (s.heap.objs.size+1) R)
   { s with heap:=(s.heap.push PySem.W.emptyDict).push (PySem.W.instObj C s.heap.objs.size) }):
  codeAny (model prog w) A (.call (.ref C) ⟨vs,kw⟩) R s:=by
 obtain ⟨hh,g,d,t,os⟩:=s
 exact PySem.W.make_core (PySem.W.makes_of X hm) (PySem.W.looks_findIn X hi) (fun self=>PySem.W.bind_fn X self hf) (.inl rfl) h
end
def putF (f:Str) (v:V):List (Str×V)->List (Str×V)
 | []=>[(f,v)]
 | (g,x) :: r=>if g=f then (g,v) :: r else (g,x) :: putF f v r
theorem lookup_putF (f g:Str) (v:V):∀ fs:List (Str×V),(putF f v fs).lookup g=if g=f then some v else fs.lookup g
 | []=>by
  show List.lookup g [(f,v)]=_
  by_cases h:g=f
  ·have hb:(g == f)=true:=beq_iff_eq.mpr h
   simp only [List.lookup,hb,if_pos h]
  ·have hb:(g == f)=false:=beq_eq_false_iff_ne.mpr h
   simp only [List.lookup,hb,if_neg h]
 | (k,x) :: r=>by
  have ih:=lookup_putF f g v r
  rw [show putF f v ((k,x) :: r)=(if k=f then (k,v) :: r else (k,x) :: putF f v r) from rfl]
  by_cases hk:k=f
  ·rw [if_pos hk]
   by_cases h:g=k
   ·have hb:(g == k)=true:=beq_iff_eq.mpr h
    simp only [List.lookup,hb,if_pos (h.trans hk)]
   ·have hb:(g == k)=false:=beq_eq_false_iff_ne.mpr h
    simp only [List.lookup,hb,if_neg (fun e:g=f=>h (e.trans hk.symm))]
  ·rw [if_neg hk]
   by_cases h:g=k
   ·have hb:(g == k)=true:=beq_iff_eq.mpr h
    simp only [List.lookup,hb,if_neg (fun e:g=f=>hk (h.symm.trans e))]
   ·have hb:(g == k)=false:=beq_eq_false_iff_ne.mpr h
    simp only [List.lookup,hb]
    exact ih
theorem j8 (f:Str) (v:V):∀ fs:List (Str×V),f∈(putF f v fs).map (·.1)/\∀ g,g∈fs.map (·.1)->g∈(putF f v fs).map (·.1)
 | []=>⟨by simp [putF],fun g h=>by simp at h⟩
 | (k,x) :: r=>by
  obtain ⟨i1,i2⟩:=j8 f v r
  rw [show putF f v ((k,x) :: r)=(if k=f then (k,v) :: r else (k,x) :: putF f v r) from rfl]
  by_cases hk:k=f
  ·rw [if_pos hk]
   subst hk
   exact ⟨by simp,fun g h=>by simpa using h⟩
  ·rw [if_neg hk]
   refine ⟨?_,fun g h=> ?_⟩
   ·rw [List.map_cons]
    exact List.mem_cons_of_mem _ i1
   ·rw [List.map_cons] at h ⊢
    rcases List.mem_cons.mp h with e | e
    ·exact List.mem_cons.mpr (.inl e)
    ·exact List.mem_cons_of_mem _ (i2 g e)
theorem j9 (f:Str) (v:V):∀ fs:List (Str×V),(putF f v fs).length<=fs.length+1
 | []=>by simp [putF]
 | (k,x) :: r=>by
  have ih:=j9 f v r
  rw [show putF f v ((k,x) :: r)=(if k=f then (k,v) :: r else (k,x) :: putF f v r) from rfl]
  by_cases hk:k=f
  ·rw [if_pos hk,List.length_cons,List.length_cons]; omega
  ·rw [if_neg hk,List.length_cons,List.length_cons]; omega
theorem uM.some_of {v:V} {o:Option Value} (r:uM (some v) o):∃ u,o=some u/\zF v u:=by
 cases o with
 | none=>exact (show False from r).elim
 | some u=>exact ⟨u,rfl,r⟩
theorem uM.none_of {o:Option Value} (r:uM none o):o=none:=by
 cases o with
 | none=>rfl
 | some u=>exact (show False from r).elim
theorem WC {v:V} {u:Value} (r:zF v u):PySem.W.handedIn u=true:=by
 cases v with
 | non=>cases (show u=Value.none from r); rfl
 | bl b=>cases (show u=Value.bool b from r); rfl
 | int i=>obtain ⟨t,e⟩:=(show ∃ t,u=Value.int i t from r); cases e; rfl
 | str x=>obtain ⟨t,e⟩:=(show ∃ t,u=Value.str x t from r); cases e; rfl
 | byt b=>obtain ⟨t,e⟩:=(show ∃ t,u=Value.bytes b t from r); cases e; rfl
 | flt b=>obtain ⟨t,e⟩:=(show ∃ t,u=Value.float b t from r); cases e; rfl
 | ref a=>cases (show u=Value.ref a from r); rfl
 | ty n=>cases (show u=Value.type n from r); rfl
section
variable {P:Program} {w:World} {H H' :Hp} {h h' :Heap} {a C dx:Addr} {fs fs' :List (Str×V)}
theorem jO (hok:HOk P w H h) (e:H a=some (.ins C dx fs)):∃ mA,yh h a dx C mA/\(∀ f,uM (fs.lookup f) (mA f))/\PySem.Within mA (fs.map (·.1))/\fs.length<=1000/\H dx=some (.own a):=by
 obtain ⟨d,z,ne,ob,mA,n,r,q⟩:=(show zK P w H h a (.ins C dx fs) from hok a _ e)
 exact ⟨mA,⟨ob,n,ne⟩,r,q,z,d⟩
end
structure Cls (K:PySem.W.Frag) (C:Addr):Prop where
 pg:PySem.W.plainGet K C Str.empty=true
 hd:PySem.W.hasDictIn K C=true
 po:PySem.W.plainOver K C=true
 sa:PySem.W.findIn K (.ref C) "__setattr__"=some (some (.builtin "object.__setattr__"))
theorem Cls.get {K:PySem.W.Frag} {C:Addr} (c:Cls K C) (f:Str):PySem.W.plainGet K C f=true:=c.pg
def NoAttr (K:PySem.W.Frag) (C:Addr) (f:Str):Prop:=PySem.W.findIn K (.ref C) f=some none
theorem NoAttr.taker {K:PySem.W.Frag} {C:Addr} {f:Str} (n:NoAttr K C f):PySem.W.takerIn K C f=some none:=by
 unfold PySem.W.takerIn
 rw [show PySem.W.findIn K (.ref C) f=some none from n]
 rfl
structure Meth (K:PySem.W.Frag) (C:Addr) (m:Str) (f:Addr):Prop where
 at_:PySem.W.findIn K (.ref C) m=some (some (.ref f))
 fn:PySem.W.isFn K (.ref f)=true
 kp:PySem.W.keepIn K (.ref f)=true
section
variable {X:Cx} {pins:List (Addr×Obj)} {σ:St} {H:Hp} {s:Shared} {a C dx:Addr} {fs:List (Str×V)} {f:Str} {v:V} {A:Around} {E:Value->Shared->Prop}
theorem wV {b:Bool} {Q:Value->Shared->Prop} (I:Inv X pins σ H s) (e:H a=some (.ins C dx fs)) (c:Cls X.K C) (n:NoAttr X.K C f) (l:fs.lookup f=some v)
  (h:∀ u s',Inv X pins σ H s' ->zF v u->Q u s'):wpAny (model X.prog X.w) A (getAttr (.ref a) f b) Q E s:=by
 obtain ⟨mA,O,r,_,_,_⟩:=jO I.hok e
 obtain ⟨u,hu,ru⟩:=uM.some_of (v:=v) (o:=mA f) (by rw [← l]; exact r f)
 exact yi I.kIn O (c.get f) c.hd n hu (WC ru) (h u _ (I.tok _) ru)
theorem ZA {m:Str} {g:Addr} {pl:Sem Bool} {Q:Value×List Value->Shared->Prop} (I:Inv X pins σ H s) (e:H a=some (.ins C dx fs)) (c:Cls X.K C) (k:Meth X.K C m g) (l:fs.lookup m=none)
  (h:Q (.ref g,[.ref a]) s):wpAny (model X.prog X.w) A (getMethod (.ref a) m pl) Q E s:=by
 obtain ⟨mA,O,r,_,_,_⟩:=jO I.hok e
 have hn:mA m=none:=uM.none_of (by rw [← l]; exact r m)
 exact U0 I.kIn O (c.get m) k.at_ k.fn hn h
theorem wW {y:V} {u:Value} {Q:Unit->Shared->Prop} (I:Inv X pins σ H s) (e:H a=some (.ins C dx fs)) (c:Cls X.K C) (n:NoAttr X.K C f) (hl:fs.length < 1000) (ry:zF y u)
  (h:∀ s',Inv X pins σ (upd H a (.ins C dx (putF f y fs))) s' ->Q () s'):wpAny (model X.prog X.w) A (setAttr (.ref a) f u) Q E s:=by
 obtain ⟨mA,O,r,wi,_,ho⟩:=jO I.hok e
 have hz:(fs.map (·.1)).length<=sizeLine:=by rw [List.length_map,sizeLine_eq]; omega
 refine yj I.kIn O c.sa c.po n.taker c.hd wi hz fun h' O' sb=>h _ ?_
 have hd:∃ o,h'.get? dx=some o:=let ⟨o,_,_,e',_⟩:=O'.ns; ⟨o,e'⟩
 refine I.write (x:=a) (e:=dx) (by rw [e]; exact True.intro) (.inr ho) (fun b q hb z=>(sb.2 b hb).trans z) hd ?_
 refine ⟨by rw [zd O.ne]; exact ho, ?_,O.ne,O'.obj,_,O'.ns,fun g=> ?_,fun g hg=> ?_⟩
 ·have:=j9 f y fs; omega
 ·show uM ((putF f y fs).lookup g) (if g=f then some u else mA g)
  rw [lookup_putF]
  by_cases q:g=f
  ·rw [if_pos q,if_pos q]; exact ry
  ·rw [if_neg q,if_neg q]; exact r g
 ·by_cases q:g=f
  ·rw [q]; exact (j8 f y fs).1
  ·refine (j8 f y fs).2 g (wi g fun z=>hg ?_)
   show (if g=f then some u else mA g)=none
   rw [if_neg q]; exact z
theorem Inv.made (I:Inv X pins σ H s):Inv X pins σ (upd (upd H s.heap.objs.size (.own (s.heap.objs.size+1))) (s.heap.objs.size+1) (.ins C s.heap.objs.size []))
  { s with heap:=(s.heap.push PySem.W.emptyDict).push (PySem.W.instObj C s.heap.objs.size) }:=by
 have e1:(s.heap.push PySem.W.emptyDict).get? s.heap.objs.size=some PySem.W.emptyDict:=Heap.get?_push_size s.heap rfl
 have e2:((s.heap.push PySem.W.emptyDict).push (PySem.W.instObj C s.heap.objs.size)).get? (s.heap.objs.size+1)=some (PySem.W.instObj C s.heap.objs.size):=by
  have:=Heap.get?_push_size (s.heap.push PySem.W.emptyDict) (o:=PySem.W.instObj C s.heap.objs.size) rfl
  rwa [Heap.size_push] at this
 have e3:(s.heap.push PySem.W.emptyDict).Ns s.heap.objs.size (fun _=>none):=⟨PySem.W.emptyDict, #[],_,e1,rfl,(fun e he=>absurd he (by simp)),fun _=>rfl⟩
 have I1:=I.laid (a:=s.heap.objs.size) (o:= .own (s.heap.objs.size+1)) (h' :=s.heap.push PySem.W.emptyDict) (t' :=s.toks) (fun b u q=>Heap.get?_push_of_some _ q) (Nat.le_refl _) ⟨_,e1⟩
 refine I1.laid (a:=s.heap.objs.size+1) (o:= .ins C s.heap.objs.size []) (t' :=s.toks) (fun b u q=>Heap.get?_push_of_some _ q) (Nat.le_of_eq (Heap.size_push _ _)) ?_
 have ne:s.heap.objs.size ≠ s.heap.objs.size+1:=Nat.ne_of_lt (Nat.lt_succ_self _)
 refine ⟨by rw [zd ne,zi],Nat.zero_le _,ne,e2,fun _=>none,(Heap.Ns1.of_empty e3).at fun o q=>Heap.get?_push_of_some _ q,fun _=>True.intro,fun y hy=>absurd rfl hy⟩
theorem yk {prog:Program} {w:World} {env:Env} {e:Expr} {f:Str} {pos:Pos} {s:Shared} {Q:Value->Shared->Prop} (hb:attributeBase e f env (eval e env)=eval e env)
  (h:wpAny (model prog w) A (eval e env) (fun o s₁=>wpAny (model prog w) A (getAttr o f true) Q E s₁) E s):wpAny (model prog w) A (eval (.Attribute e f pos) env) Q E s:=
 Attribute_any_ h (by rw [arm_eval_Attribute,hb])
end
def gr (K:PySem.W.Frag) (ta:TE) (f:Str):TE:=fun σ H Q=>ta σ H fun x H1=>∃ a C dx fs v,x= .ref a/\H1 a=some (.ins C dx fs)/\Cls K C/\NoAttr K C f/\fs.lookup f=some v/\Q v H1
def gs (K:PySem.W.Frag) (ta tv:TE) (f:Str):TS:=fun D σ H=>tv σ H fun y H1=>ta σ H1 fun x H2=>∃ a C dx fs,x= .ref a/\H2 a=some (.ins C dx fs)/\Cls K C/\NoAttr K C f/\fs.length < 1000/\
 D.nx σ (upd H2 a (.ins C dx (putF f y fs)))
section
variable {X:Cx} {o e value:Expr} {f:Str} {pos pos' tpos:Pos} {ta tv:TE}
theorem jz (he:PE X e ta) (hb:attributeBase e f X.env (eval e X.env)=eval e X.env):PE X (.Attribute e f pos) (gr X.K ta f):=by
 intro pins s σ H Q I h
 refine yk hb (thn (he pins s σ H _ I h) fun u s1 ⟨x,H1,I1,rx,a,C,dx,fs,v,ex,ea,c,n,l,q⟩=> ?_)
 subst ex
 obtain rfl:u=Value.ref a:=rx
 exact wV I1 ea c n l fun u' s2 I2 ru=>⟨v,H1,I2,ru,q⟩
theorem UG (ha:PE X o ta) (hv:PE X value tv) (hs:swapsWith value (some (.Attribute o f pos')) pos.line X.env=pure false):PS X (.Assign [.Attribute o f pos'] value pos) (gs X.K ta tv f):=by
 intro pins s σ H D I h
 refine plainObj_wpAny_Assign_Attribute (thn (hv pins s σ H _ I h) fun u s1 ⟨y,H1,I1,ry,q⟩=>thn (ha pins s1 σ H1 _ I1 q) fun ov s2 ⟨x,H2,I2,rx,a,C,dx,fs,ex,ea,c,n,l,q2⟩=> ?_) hs
 subst ex
 obtain rfl:ov=Value.ref a:=rx
 exact wW I2 ea c n l ry fun s3 I3=>⟨σ,_,I3,q2⟩
theorem yl {pl:Sem Bool} {m:Str} {apos:Pos} {args:List Expr} {pins:List (Addr×Obj)} {s:Shared} {σ:St} {H:Hp} {Q:Value->Shared->Prop} {te:TE} (he:PE X e te) (I:Inv X pins σ H s)
  (h:te σ H fun x H1=>∃ a C dx fs g,x= .ref a/\H1 a=some (.ins C dx fs)/\Cls X.K C/\Meth X.K C m g/\fs.lookup m=none/\
   ∀ s1,Inv X pins σ H1 s1->wpAny (model X.prog X.w) X.A (callWith pos (.ref g) [.ref a] (backTo pos (starEach args X.env)) (backToKw pos (keywordEach [] X.env))) Q X.xe s1)
  (ht:eval (.Call (.Attribute e m apos) args [] pos) X.env=(do
   let ov ← eval e X.env
   standAt apos.atName
   let (f,first) ← holding [ov] (getMethod ov m pl)
   callWith pos f first (backTo pos (starEach args X.env)) (backToKw pos (keywordEach [] X.env)))):
  wpAny (model X.prog X.w) X.A (eval (.Call (.Attribute e m apos) args [] pos) X.env) Q X.xe s:=by
 refine PySem.W.methodCall_KW (pl:=pl) (thn (he pins s σ H _ I h) fun u s1 ⟨x,H1,I1,rx,a,C,dx,fs,g,ex,ea,c,k,l,q⟩=> ?_) ht
 subst ex
 obtain rfl:u=Value.ref a:=rx
 exact ZA I1 ea c k l (q s1 I1)
end
section
variable {X:Cx} {pins:List (Addr×Obj)} {σ:St} {H:Hp} {s:Shared} {A:Around} {E:Value->Shared->Prop} {Q:Value->Shared->Prop} {c:Value} {b:Bool}
inductive wX (K:PySem.W.Frag) (H:Hp):V->Value->Prop where
 | non:wX K H .non (.type "NoneType")
 | bl (x:Bool):wX K H (.bl x) (.type "bool")
 | int (i:Int):wX K H (.int i) (.type "int")
 | str (x:Str):wX K H (.str x) (.type "str")
 | flt (x:UInt64):wX K H (.flt x) (.type "float")
 | lst {a:Addr} {xs:List V} (e:H a=some (.lst xs)):wX K H (.ref a) (.type "list")
 | frz {a:Addr} {o:Obj} {xs:List V} (e:H a=some (.frz o (.lst xs))):wX K H (.ref a) (.type "list")
 | tup {a:Addr} {xs:List V} (e:H a=some (.tup xs)):wX K H (.ref a) (.type "tuple")
 | dK {a:Addr} {kvs:List (Key×V)} (e:H a=some (.dK kvs)):wX K H (.ref a) (.type "dict")
 | dT {a:Addr} {kvs:List (List Key×V)} (e:H a=some (.dT kvs)):wX K H (.ref a) (.type "dict")
 | ins {a C dx:Addr} {fs:List (Str×V)} (e:H a=some (.ins C dx fs)) (cl:Cls K C) (ha:PySem.W.findIn K (.ref C) "__class__"=some (some (.builtin "object.__class__")))
   (hn:PySem.W.specialIn K (.builtin "object.__class__") "__get__"=some (some (.builtin "getset_descriptor.__get__"))) (htk:PySem.W.takesIn K (.builtin "object.__class__")=some true)
   (hm:PySem.W.mroIn K C (.type "object")=some true):wX K H (.ref a) (.ref C)
theorem WD {x:V} {u t:Value} (I:Inv X pins σ H s) (rx:zF x u) (ty:wX X.K H x t) (e:PySem.W.kitOne X.K t c=some b) (h:∀ tk,Q (.bool b) { s with toks:=tk }):
  wpAny (model X.prog X.w) A (call (.builtin "isinstance") [u,c]) Q E s:=by
 cases ty with
 | non=>cases (show u=Value.none from rx); exact PySem.W.kia_one PySem.W.kitx_none I.kIn True.intro e (fun z=>nomatch z) h
 | bl y=>cases (show u=Value.bool y from rx); exact PySem.W.kia_one PySem.W.kitx_bool I.kIn True.intro e (fun z=>nomatch z) h
 | int i=>obtain ⟨t,q⟩:=(show ∃ t,u=Value.int i t from rx); cases q; exact PySem.W.kia_one PySem.W.kitx_int I.kIn True.intro e (fun z=>nomatch z) h
 | str y=>obtain ⟨t,q⟩:=(show ∃ t,u=Value.str y t from rx); cases q; exact PySem.W.kia_one PySem.W.kitx_str I.kIn True.intro e (fun z=>nomatch z) h
 | flt y=>obtain ⟨t,q⟩:=(show ∃ t,u=Value.float y t from rx); cases q; exact PySem.W.kia_one PySem.W.kitx_float I.kIn True.intro e (fun z=>nomatch z) h
 | @lst a xs ea=>
  cases (show u=Value.ref a from rx)
  obtain ⟨_,_,n,_,h1⟩:=(show zK X.prog X.w H s.heap a (.lst xs) from I.hok a _ ea)
  exact PySem.W.kia_one PySem.W.kitx_list I.kIn ⟨_,h1,rfl⟩ e (fun z=>nomatch z) h
 | @frz a ob xs ea=>
  cases (show u=Value.ref a from rx)
  obtain ⟨_,_,_,n,_,h1⟩:=(show zK X.prog X.w H s.heap a (.frz ob (.lst xs)) from I.hok a _ ea)
  exact PySem.W.kia_one PySem.W.kitx_list I.kIn ⟨_,h1,rfl⟩ e (fun z=>nomatch z) h
 | @tup a xs ea=>
  cases (show u=Value.ref a from rx)
  obtain ⟨_,_,_,p,_⟩:=(show zK X.prog X.w H s.heap a (.tup xs) from I.hok a _ ea)
  obtain ⟨o,h1,h2,_⟩:=p
  exact PySem.W.kia_one PySem.W.kitx_tuple I.kIn ⟨o,h1,h2⟩ e (fun z=>nomatch z) h
 | @dK a kvs ea=>
  cases (show u=Value.ref a from rx)
  obtain ⟨_,_,vs,_,p⟩:=(show zK X.prog X.w H s.heap a (.dK kvs) from I.hok a _ ea)
  obtain ⟨o,es,ep,h1,h2,_⟩:=p
  exact PySem.W.kia_one PySem.W.kitx_dict I.kIn ⟨o,h1,h2.1⟩ e (fun z=>nomatch z) h
 | @dT a kvs ea=>
  cases (show u=Value.ref a from rx)
  obtain ⟨_,_,xs,_,o,es,ep,h1,h2,_⟩:=(show zK X.prog X.w H s.heap a (.dT kvs) from I.hok a _ ea)
  exact PySem.W.kia_one PySem.W.kitx_dict I.kIn ⟨o,h1,h2.1⟩ e (fun z=>nomatch z) h
 | @ins a C dx fs ea cl ha hn htk hm=>
  cases (show u=Value.ref a from rx)
  obtain ⟨mA,O,_⟩:=jO I.hok ea
  obtain ⟨od,J,_⟩:=O.look
  exact PySem.W.kia_one (PySem.W.kitx_own (cl.get _) cl.hd ha hn htk hm) I.kIn J e (fun z=>nomatch z) h
end
end L2
namespace L2
open PySem PySem.Spec PyProof.Rows
structure zQ (k:Nat) (A:Around):Prop where
 hd:A.handled=none
 dp:A.depth+3*k+5 < recursionLimit
 un:A.units+16*k+200 < cLine
 gd:A.guards=some []
theorem zQ.mono {j k:Nat} {A:Around} (r:zQ k A) (h:j<=k):zQ j A:=⟨r.hd,by have:=r.dp; omega,by have:=r.un; omega,r.gd⟩
theorem zQ.deeper {k:Nat} {A:Around} (r:zQ (k+1) A) (env:Env):zQ k (A.deeper env):=
 ⟨r.hd,by have:=r.dp; show A.depth+1+3*k+5 < _; omega,by have:=r.un; show A.units+3+16*k+200 < _; omega,r.gd⟩
theorem wY {A:Around} {C:Addr} {us:List Value} {kw:List (Str×Value)}:(A.under (.builtin "type.__call__" ⟨.ref C :: us,kw⟩)).depth=A.depth+1:=by
 first | rfl | simp [Around.under,Code.weight,Code.isCreation,Code.isGuard,Code.isCaller,Code.frames,Code.isFrame,guardIds]
theorem wZ {A:Around} {C:Addr} {us:List Value} {kw:List (Str×Value)}:(A.under (.builtin "type.__call__" ⟨.ref C :: us,kw⟩)).units=A.units+1:=by
 first | rfl | simp [Around.under,Code.cUnits,Code.frames,Code.isFrame]
theorem zQ.make {k:Nat} {A:Around} (r:zQ (k+1) A) (C:Addr) (us:List Value) (kw:List (Str×Value)):zQ k (A.under (.builtin "type.__call__" ⟨.ref C :: us,kw⟩)):=
 ⟨r.hd,by have:=r.dp; rw [wY]; omega,by have:=r.un; rw [wZ]; omega,by first | exact r.gd | simpa [Around.under,Code.guards,Code.isGuard,pushGuards,guardIds] using r.gd⟩
theorem zQ.depth {k:Nat} {A:Around} (r:zQ k A):A.depth < recursionLimit:=by have:=r.dp; omega
theorem zQ.units {k:Nat} {A:Around} (r:zQ k A):A.units+64 < cLine:=by have:=r.un; omega
def XH:TA:=fun _ H Q=>Q [] H
def Vf (ta:TE) (tr:TA):TA:=fun σ H Q=>ta σ H fun x H1=>tr σ H1 fun xs H2=>Q (x :: xs) H2
section
variable {X:Cx} {e:Expr} {es:List Expr} {te:TE} {t:TA} {pos:Pos}
theorem zw:PA X [] XH:=fun _ _ _ _ H Q I h=>Calls.spliced_nil ⟨[],H,I, .nil,h⟩
theorem zj (ha:PE X e te) (hr:PA X es t) (hs:starEach (e :: es) X.env=(false,eval e X.env) :: starEach es X.env:=by rfl):PA X (e :: es) (Vf te t):=by
 intro pos pins s σ H Q I h
 rw [hs]
 show wpAny _ _ (spliced ((false,eval e X.env) :: backTo pos (starEach es X.env))) _ _ s
 refine Calls.spliced_cons (thn (ha pins s σ H _ I h) fun u s1 ⟨x,H1,I1,r1,q1⟩=> ?_)
 exact thn (hr pos pins s1 σ H1 _ I1 q1) fun us s2 ⟨xs,H2,I2,r2,q2⟩=>⟨x :: xs,H2,I2, .cons r1 r2,q2⟩
def gv (t:TA):TE:=fun σ H Q=>t σ H fun xs H1=>xs.length<=sizeLine/\∀ p,H1 p=none->Q (.ref p) (upd H1 p (.tup xs))
def gw (t:TA):TE:=fun σ H Q=>t σ H fun xs H1=>xs.length<=sizeLine/\∀ p,H1 p=none->Q (.ref p) (upd H1 p (.lst xs))
theorem qx {x1} (h:PA X es t):PE X (.Tuple es x1 pos) (gv t):=by
 intro pins s σ H Q I hq
 refine wpAny_Tuple_spliced (thn (h pos pins s σ H _ I hq) fun us s1 ⟨xs,H1,I1,r,z,q⟩=>⟨by rw [← r.length]; exact z, ?_⟩)
 have hf:H1 s1.heap.objs.size=none:=I1.hok.fresh (Nat.le_refl _)
 refine ⟨.ref s1.heap.objs.size,upd H1 s1.heap.objs.size (.tup xs),I1.laid (t' :=s1.toks) (fun b u e=>Heap.get?_push_of_some _ e) (Nat.le_refl _) ?_,rfl,q _ hf⟩
 exact ⟨z,us,r,⟨_,Heap.get?_push_size _ rfl,rfl,_,rfl⟩, .inr ⟨_,Heap.get?_push_size _ rfl,rfl⟩⟩
theorem WF (h:PA X es t):PE X (.List es pos) (gw t):=by
 intro pins s σ H Q I hq
 refine wpAny_List_spliced (thn (h pos pins s σ H _ I hq) fun us s1 ⟨xs,H1,I1,r,z,q⟩=>⟨by rw [← r.length]; exact z, ?_⟩)
 have hf:H1 s1.heap.objs.size=none:=I1.hok.fresh (Nat.le_refl _)
 refine ⟨.ref s1.heap.objs.size,upd H1 s1.heap.objs.size (.lst xs),I1.laid (t' :=s1.toks) (fun b u e=>Heap.get?_push_of_some _ e) (Nat.le_refl _) ?_,rfl,q _ hf⟩
 exact ⟨z,us,0,r,Heap.get?_push_size _ rfl⟩
end
abbrev Sp:=List V->Hp->VK->XK->Prop
abbrev CXT:=List Env->Hp->Shared->XK->Value->Shared->Prop
structure wl (P:Program) (w:World) (K:PySem.W.Frag) (mg:Str->Option Value) (base:Heap) (A:Around) (outer:List Env) (s:Shared) (H:Hp):Prop where
 frames:A.frames=some outer
 mod:Mod K mg base
 bs:∀ b o,base.get? b=some o->s.heap.get? b=some o/\H b=none
 bsz:base.objs.size<=s.heap.objs.size
 funs:s.heap.FunFrames base outer
 frf:∀ b∈frs outer,H b=none
 hok:HOk P w H s.heap
 bare:AllBare s.gens
def CE (outer:List Env) (P:Program) (w:World) (H:Hp) (s:Shared) (Q:VK) (u:Value) (s' :Shared):Prop:=
 ∃ v H',s'.os=s.os/\AllBare s'.gens/\Un (frs outer) [] H H' s.heap s'.heap/\HOk P w H' s'.heap/\zF v u/\Q v H'
def CR (CX:CXT) (outer:List Env) (P:Program) (w:World) (H:Hp) (s:Shared) (Q:VK) (E:XK) (r:Result) (s' :Shared):Prop:=
 match r with
 | .ok (.ret u)=>CE outer P w H s Q u s'
 | .ok _=>False
 | .error e=>CX outer H s E e s'
structure zq (P:Program) (w:World) (K:PySem.W.Frag) (mg:Str->Option Value) (base:Heap) (CX:CXT) (k:Nat) (f:Addr) (fd:FuncData) (ps:List Str) (sp:Sp):Prop where
 len:∀ vs H Q E,sp vs H Q E->vs.length=ps.length
 run:∀ (A:Around) (outer:List Env) (s:Shared) (H:Hp) (args:Args) (us:List Value) (vs:List V) (Q:VK) (E:XK),zQ k A->wl P w K mg base A outer s H->BindsTo s fd args (ps.zip us)->zv vs us->sp vs H Q E->
  codeAny (model P w) A (.call (.ref f) args) (CR CX outer P w H s Q E) s
theorem wl.make {P:Program} {w:World} {K:PySem.W.Frag} {mg:Str->Option Value} {base:Heap} {A:Around} {outer:List Env} {s:Shared} {H:Hp} (e:wl P w K mg base A outer s H) (C:Addr) (us:List Value) (kw:List (Str×Value)):
  wl P w K mg base (A.under (.builtin "type.__call__" ⟨.ref C :: us,kw⟩)) outer s H:=⟨by first | exact e.frames | (simpa [Around.under,Code.envs,Code.isFrame,pushEnvs] using e.frames),e.mod,e.bs,e.bsz,e.funs,e.frf,e.hok,e.bare⟩
section
variable {X:Cx} {pins:List (Addr×Obj)} {σ:St} {H:Hp} {s s' :Shared}
theorem Inv.env0 (I:Inv X pins σ H s):wl X.prog X.w X.K X.mg X.base X.A X.stack s H:=
 ⟨I.ok.frames,I.ok.mod,I.bs,Nat.le_trans I.ok.bsz I.sz,I.stack,I.stkFree,I.hok,I.bare⟩
theorem Inv.after {Q:VK} {u:Value} (I:Inv X pins σ H s) (h:CE X.stack X.prog X.w H s Q u s'):EP X pins σ Q u s' :=by
 obtain ⟨v,H',os,bare,un,hok,r,q⟩:=h
 obtain ⟨hh,g,d,t,os'⟩:=s'
 obtain rfl:os' =s.os:=os
 exact ⟨v,H',I.call (h' :=hh) (g' :=g) (d' :=d) (t' :=t) (ch:=[]) un hok bare (fun b z=>absurd z (by simp)),r,q⟩
end
def Vg (sp:Sp) (dvs:List V) (E:XK) (t:TA):TE:=fun σ H Q=>t σ H fun vs H1=>sp (vs++dvs) H1 Q E
def qy (C:Addr) (m:Str) (sp:Sp) (dvs:List V) (E:XK) (ta:TE) (t:TA):TE:=fun σ H Q=>ta σ H fun x H1=>∃ a dx fs,x= .ref a/\H1 a=some (.ins C dx fs)/\fs.lookup m=none/\
 t σ H1 fun vs H2=>sp (x :: (vs++dvs)) H2 Q E
def Vh (C:Addr) (sp:Sp) (dvs:List V) (E:XK) (t:TA):TE:=fun σ H Q=>t σ H fun vs H1=>∀ x dx,H1 x=none->H1 dx=none->dx ≠ x->
 sp (.ref x :: (vs++dvs)) (upd (upd H1 dx (.own x)) x (.ins C dx [])) (fun v H2=>v= .non/\Q (.ref x) H2) E
def Binds (K:PySem.W.Frag) (fd:FuncData) (ps:List Str) (ds:List Value):Prop:=
 ∀ (s:Shared) (us:List Value),K.In s.heap->(us++ds).length=ps.length->BindsTo s fd ⟨us,[]⟩ (ps.zip (us++ds))
theorem Binds.all {K:PySem.W.Frag} {fd:FuncData} {ps:List Str} (h:∀ us:List Value,us.length=ps.length->bindArgs fd ⟨us,[]⟩=pure (ps.zip us)):Binds K fd ps []:=fun s us _ hl=>by
 rw [List.append_nil] at hl ⊢
 exact .of_eq (h us hl)
def zz (CX:CXT) (X:Cx) (E:XK):Prop:=∀ (pins:List (Addr×Obj)) (σ:St) (H:Hp) (s:Shared) (e:Value) (s' :Shared),Inv X pins σ H s->CX X.stack H s E e s' ->X.xe e s'
section
variable {X:Cx} {CX:CXT} {k:Nat} {f C:Addr} {fd:FuncData} {ps:List Str} {sp:Sp} {dvs:List V} {ds:List Value} {E:XK} {x m:Str} {p pos apos:Pos} {e o:Expr} {es:List Expr} {ta:TE} {t:TA}
theorem WG {pins:List (Addr×Obj)} {σ:St} {H:Hp} {s:Shared} {Q:VK} {us:List Value} {vs:List V} (F:zq X.prog X.w X.K X.mg X.base CX k f fd ps sp) (hr:zQ k X.A) (hb:Binds X.K fd ps ds) (hd:zv dvs ds) (hx:zz CX X E)
  (I:Inv X pins σ H s) (r:zv vs us) (h:sp (vs++dvs) H Q E):wpAny (model X.prog X.w) X.A (call (.ref f) us) (EP X pins σ Q) X.xe s:=by
 have r2:zv (vs++dvs) (us++ds):=r.append hd
 have hl:(us++ds).length=ps.length:=by rw [← r2.length]; exact F.len _ _ _ _ h
 refine wpAny_call (codeAny_mono (F.run X.A X.stack s H ⟨us,[]⟩ (us++ds) (vs++dvs) Q E hr I.env0 (hb s us I.kIn hl) r2 h) fun r s' hq=> ?_)
 cases r with
 | error e=>exact hx pins σ H s e s' I hq
 | ok fl=>
  cases fl with
  | ret u=>exact I.after hq
  | next=>exact False.elim hq
  | brk=>exact False.elim hq
  | cont=>exact False.elim hq
theorem WH (F:zq X.prog X.w X.K X.mg X.base CX k f fd ps sp) (hr:zQ k X.A) (hg:Gl X x) (hm:X.mg x=some (.ref f)) (hk:PySem.W.keepIn X.K (.ref f)=true) (hb:Binds X.K fd ps ds) (hd:zv dvs ds) (hx:zz CX X E)
  (ha:PA X (e :: es) t) (hdb:(x == ("__debug__":Str))=false:=by decide) (he:starEach (e :: es) X.env=(false,eval e X.env) :: starEach es X.env:=by rfl) (hpl:(backTo pos (starEach es X.env)).any (·.1)=false:=by rfl):
  PE X (.Call (.Name x p) (e :: es) [] pos) (Vg sp dvs E t):=by
 intro pins s σ H Q I h
 refine wpAny_Call_Name_kw (Zm I hg hm ?_ hdb)
 refine PySem.W.callWith_K (h₀:=X.base) I.ok.mod.kin hk (thn (ha pos pins s σ H _ I h) fun us s1 ⟨vs,H1,I1,r,q⟩=>⟨I1.kIn, ?_⟩) he hpl
 exact WG F hr hb hd hx I1 r q
theorem WI {pl:Sem Bool} (he:PE X o ta) (c:Cls X.K C) (hm:Meth X.K C m f) (F:zq X.prog X.w X.K X.mg X.base CX k f fd ps sp) (hr:zQ k X.A) (hb:Binds X.K fd ps ds) (hd:zv dvs ds) (hx:zz CX X E) (ha:PA X (e :: es) t)
  (hst:starEach (e :: es) X.env=(false,eval e X.env) :: starEach es X.env:=by rfl) (hpl:(backTo pos (starEach es X.env)).any (·.1)=false:=by rfl)
  (ht:eval (.Call (.Attribute o m apos) (e :: es) [] pos) X.env=(do
   let ov ← eval o X.env
   standAt apos.atName
   let (f,first) ← holding [ov] (getMethod ov m pl)
   callWith pos f first (backTo pos (starEach (e :: es) X.env)) (backToKw pos (keywordEach [] X.env))):=by rfl):
  PE X (.Call (.Attribute o m apos) (e :: es) [] pos) (qy C m sp dvs E ta t):=by
 intro pins s σ H Q I h
 refine PySem.W.methodCall_KW (pl:=pl) (thn (he pins s σ H _ I h) fun u s1 ⟨x,H1,I1,rx,a,dx,fs,ex,ea,l,q⟩=> ?_) ht
 subst ex
 obtain rfl:u=Value.ref a:=rx
 refine ZA I1 ea c hm l ?_
 refine PySem.W.callWith_K (first:=[.ref a]) (h₀:=X.base) I.ok.mod.kin hm.kp (thn (ha pos pins s1 σ H1 _ I1 q) fun us s2 ⟨vs,H2,I2,r,q2⟩=>⟨I2.kIn, ?_⟩) hst hpl
 exact WG (us:= .ref a :: us) (vs:= .ref a :: vs) F hr hb hd hx I2 (.cons rfl r) q2
theorem wm {pl:Sem Bool} (he:PE X o ta) (c:Cls X.K C) (hm:Meth X.K C m f) (F:zq X.prog X.w X.K X.mg X.base CX k f fd ps sp) (hr:zQ k X.A) (hb:Binds X.K fd ps ds) (hd:zv dvs ds) (hx:zz CX X E)
  (ht:eval (.Call (.Attribute o m apos) [] [] pos) X.env=(do
   let ov ← eval o X.env
   standAt apos.atName
   let (f,first) ← holding [ov] (getMethod ov m pl)
   callWith pos f first (backTo pos (starEach [] X.env)) (backToKw pos (keywordEach [] X.env))):=by rfl):
  PE X (.Call (.Attribute o m apos) [] [] pos) (qy C m sp dvs E ta XH):=by
 intro pins s σ H Q I h
 refine PySem.W.methodCall_KW (pl:=pl) (thn (he pins s σ H _ I h) fun u s1 ⟨x,H1,I1,rx,a,dx,fs,ex,ea,l,q⟩=> ?_) ht
 subst ex
 obtain rfl:u=Value.ref a:=rx
 refine ZA I1 ea c hm l ?_
 exact PySem.W.callWith_K0 (first:=[.ref a]) I1.kIn hm.kp (WG (us:=[.ref a]) (vs:=[.ref a]) F hr hb hd hx I1 (.cons rfl .nil) q)
structure Mk (K:PySem.W.Frag) (C f:Addr):Prop where
 makes:PySem.W.makesIn K C=true
 init:PySem.W.findIn K (.ref C) "__init__"=some (some (.ref f))
 fn:PySem.W.isFn K (.ref f)=true
 kp:PySem.W.keepIn K (.ref C)=true
theorem U2 {pins:List (Addr×Obj)} {σ:St} {H:Hp} {s:Shared} {Q:VK} {us:List Value} {vs:List V} (M:Mk X.K C f) (F:zq X.prog X.w X.K X.mg X.base CX k f fd ps sp) (hr:zQ (k+1) X.A) (hb:Binds X.K fd ps ds) (hd:zv dvs ds)
  (hx:zz CX X E) (I:Inv X pins σ H s) (r:zv vs us)
  (h:∀ x dx,H x=none->H dx=none->dx ≠ x->sp (.ref x :: (vs++dvs)) (upd (upd H dx (.own x)) x (.ins C dx [])) (fun v H2=>v= .non/\Q (.ref x) H2) E):
  wpAny (model X.prog X.w) X.A (call (.ref C) us) (EP X pins σ Q) X.xe s:=by
 have hq:=h (s.heap.objs.size+1) s.heap.objs.size (I.hok.fresh (Nat.le_succ _)) (I.hok.fresh (Nat.le_refl _)) (Nat.ne_of_lt (Nat.lt_succ_self _))
 have I2:=Inv.made (C:=C) I
 have r2:zv (V.ref (s.heap.objs.size+1) :: (vs++dvs)) (Value.ref (s.heap.objs.size+1) :: (us++ds)):= .cons rfl (r.append hd)
 have hl:(Value.ref (s.heap.objs.size+1) :: us++ds).length=ps.length:=by
  have e:=r2.length
  rw [F.len _ _ _ _ hq] at e
  exact e.symm
 refine wpAny_call (U1 (f:=f) I.kIn M.makes M.init (beq_iff_eq.mp M.fn) (codeAny_mono (F.run _ X.stack _ _ ⟨Value.ref (s.heap.objs.size+1) :: us,[]⟩ (Value.ref (s.heap.objs.size+1) :: (us++ds)) _ _ E (hr.make C us [])
  (I2.env0.make C us []) (hb _ (Value.ref (s.heap.objs.size+1) :: us) I2.kIn hl) r2 hq) fun r s' hq' => ?_))
 cases r with
 | error e=>exact hx pins σ _ _ e s' I2 hq'
 | ok fl=>
  cases fl with
  | ret u=>
   obtain ⟨v,H',I3,rv,ev,q3⟩:=I2.after hq'
   subst ev
   exact ⟨rv,⟨V.ref (s.heap.objs.size+1),H',I3,rfl,q3⟩⟩
  | next=>exact False.elim hq'
  | brk=>exact False.elim hq'
  | cont=>exact False.elim hq'
theorem WJ (M:Mk X.K C f) (F:zq X.prog X.w X.K X.mg X.base CX k f fd ps sp) (hr:zQ (k+1) X.A) (hg:Gl X x) (hm:X.mg x=some (.ref C)) (hb:Binds X.K fd ps ds) (hd:zv dvs ds) (hx:zz CX X E)
  (ha:PA X (e :: es) t) (hdb:(x == ("__debug__":Str))=false:=by decide) (he:starEach (e :: es) X.env=(false,eval e X.env) :: starEach es X.env:=by rfl) (hpl:(backTo pos (starEach es X.env)).any (·.1)=false:=by rfl):
  PE X (.Call (.Name x p) (e :: es) [] pos) (Vh C sp dvs E t):=by
 intro pins s σ H Q I h
 refine wpAny_Call_Name_kw (Zm I hg hm ?_ hdb)
 refine PySem.W.callWith_K (h₀:=X.base) I.ok.mod.kin M.kp (thn (ha pos pins s σ H _ I h) fun us s1 ⟨vs,H1,I1,r,q⟩=>⟨I1.kIn, ?_⟩) he hpl
 exact U2 M F hr hb hd hx I1 r q
end
section
variable {X:Cx} {CX:CXT} {k:Nat} {f C:Addr} {fd:FuncData} {ps ks:List Str} {sp:Sp} {E:XK} {x m:Str} {p pos apos kpos:Pos} {e o:Expr} {es:List Expr} {kws:List Keyword} {te ta:TE} {t tk:TA} {nm:Option Str}
variable {g:List Value->List Value->List Value} {gV:List V->List V->List V}
end
structure za (N P:List Str) (sc:Scope):Prop where
 kind:sc.kind= .function
 co:sc.isCoroutine=false
 gen:sc.isGenerator=false
 nd:N.Nodup
 pre:N.take P.length=P
 par:∀ x∈P,sc.names.lookup x=some .local\/sc.names.lookup x=some .cell
 nofree:∀ y∈sc.names,y.2 ≠ .free
theorem Jb {kindOf:Str->Option NameKind} {x:Str}:∀ {binds:List (Str×Value)} {m:Str->Option Value},(∀ v,(x,v) ∉ binds)->bindL kindOf binds m x=m x
 | [],_,_=>rfl
 | (n,v) :: r,m,h=>by
  unfold bindL
  rw [Jb fun w hw=>h w (List.mem_cons_of_mem _ hw)]
  split
  ·have:x ≠ n:=by rintro rfl; exact h v List.mem_cons_self
   simp [this]
  ·rfl
theorem Jc {kindOf:Str->Option NameKind} {x:Str}:∀ {binds:List (Str×Value)} {m:Str->Option Value},(∀ v,(x,v) ∉ binds)->bindC kindOf binds m x=m x
 | [],_,_=>rfl
 | (n,v) :: r,m,h=>by
  unfold bindC
  rw [Jc fun w hw=>h w (List.mem_cons_of_mem _ hw)]
  split
  ·rfl
  ·have:x ≠ n:=by rintro rfl; exact h v List.mem_cons_self
   simp [this]
theorem Jd {kindOf:Str->Option NameKind} {x:Str} {v:Value}:∀ {P:List Str} {vs:List Value} {i:Nat} {m:Str->Option Value},P.Nodup->P[i]? =some x->vs[i]? =some v->kindOf x=some .local->
  bindL kindOf (P.zip vs) m x=some v
 | [],_,_,_,_,h,_,_=>by simp at h
 | _ :: _,[],_,_,_,_,h,_=>by simp at h
 | p :: P,w :: vs,0,m,nd,h1,h2,hk=>by
  simp at h1 h2; subst h1; subst h2
  show bindL kindOf ((p,w) :: P.zip vs) m p=_
  unfold bindL
  rw [Jb fun v hv=>(List.nodup_cons.mp nd).1 (List.of_mem_zip hv).1,if_pos hk]
  simp
 | p :: P,w :: vs,i+1,m,nd,h1,h2,hk=>by
  show bindL kindOf ((p,w) :: P.zip vs) m x=_
  unfold bindL
  exact Jd (i:=i) (List.nodup_cons.mp nd).2 (by simpa using h1) (by simpa using h2) hk
theorem Je {kindOf:Str->Option NameKind} {x:Str} {v:Value}:∀ {P:List Str} {vs:List Value} {i:Nat} {m:Str->Option Value},P.Nodup->P[i]? =some x->vs[i]? =some v->kindOf x ≠ some .local->
  bindC kindOf (P.zip vs) m x=some v
 | [],_,_,_,_,h,_,_=>by simp at h
 | _ :: _,[],_,_,_,_,h,_=>by simp at h
 | p :: P,w :: vs,0,m,nd,h1,h2,hk=>by
  simp at h1 h2; subst h1; subst h2
  show bindC kindOf ((p,w) :: P.zip vs) m p=_
  unfold bindC
  rw [Jc fun v hv=>(List.nodup_cons.mp nd).1 (List.of_mem_zip hv).1,if_neg hk]
  simp
 | p :: P,w :: vs,i+1,m,nd,h1,h2,hk=>by
  show bindC kindOf ((p,w) :: P.zip vs) m x=_
  unfold bindC
  exact Je (i:=i) (List.nodup_cons.mp nd).2 (by simpa using h1) (by simpa using h2) hk
def start (N:List Str) (vs:List V):St:=vs.map some++List.replicate (N.length - vs.length) none
def Zr (CX:CXT) (P:Program) (w:World) (K:PySem.W.Frag) (mg:Str->Option Value) (base:Heap) (N:List Str) (qual:Str) (scope:Scope) (f:Addr) (cd:Value) (A:Around) (outer:List Env) (s:Shared) (H:Hp) (E:XK):Cx where
 prog:=P
 w:=w
 K:=K
 mg:=mg
 base:=base
 A:=A.deeper (envOfC qual scope s.heap.objs.size f cd)
 N:=N
 s₀:=s
 H₀:=H
 env:=envOfC qual scope s.heap.objs.size f cd
 outer:=outer
 stack:=envOfC qual scope s.heap.objs.size f cd :: outer
 ex:=[]
 calm:=true
 fn:=fun _=>true
 pn:=[]
 xe:=fun e s' =>wpAny (model P w) (A.deeper (envOfC qual scope s.heap.objs.size f cd)) (leaving (envOfC qual scope s.heap.objs.size f cd) e) (fun _ s'' =>CX outer H s E e s'') (fun e' s'' =>CX outer H s E e' s'') s'
theorem wn {sc:Scope} {n:Nat} {x:Str} (h:sc.names.lookup x=some .cell):∃ c,(cellsFrom n sc.names []).lookup x=some c:=by
 have q:=PySem.W.cellsFrom_some sc.names n [] (.inl h)
 exact Option.isSome_iff_exists.mp q
theorem Jf {CX:CXT} {P:Program} {w:World} {K:PySem.W.Frag} {mg:Str->Option Value} {base:Heap} {N ps:List Str} {qual:Str} {scope:Scope} {f:Addr} {cd:Value} {A:Around} {outer:List Env} {s s1:Shared} {H:Hp} {E:XK} {us:List Value} {vs:List V}
  (S:za N ps scope) (hd:A.handled=none) (e0:wl P w K mg base A outer s H) (hl:vs.length=ps.length) (r:zv vs us)
  (x:InCallC s s.heap.objs.size (bindL (envOfC qual scope s.heap.objs.size f cd).kindOf (ps.zip us) fun _=>none) (cellsFrom (s.heap.objs.size+1) scope.names []) (bindC (envOfC qual scope s.heap.objs.size f cd).kindOf (ps.zip us) fun _=>none) s1):
  Inv (Zr CX P w K mg base N qual scope f cd A outer s H E) [] (start N vs) H s1:=by
 have hpl:ps.length<=N.length:=by have:=congrArg List.length S.pre; rw [List.length_take] at this; omega
 obtain ⟨h1,tk,rfl,hk⟩:=x.done
 have noA:∀ b:Addr,b ∉ (Zr CX P w K mg base N qual scope f cd A outer s H E).ex:=fun b z=>absurd (show b∈([]:List Addr) from z) (by simp)
 refine ⟨⟨e0.mod,S.kind,rfl,rfl,Nat.le_refl _,fun y z c h1 h2=> ?_,fun y hy=> ?_,fun y c _ h=> ?_,fun _=>hd,Around.frames_deeper e0.frames, .inr ⟨rfl,rfl⟩,fun b z=>absurd z (noA b),e0.bs,e0.bsz,fun b _ _=>noA b,fun b z=>absurd z (noA b),e0.funs,e0.frf⟩,
  rfl,e0.bare,Un.kept hk,⟨_,x.toInCall.ns,fun i y v h1 h2 h3=> ?_⟩,fun y c h=>⟨_,x.cell y c h⟩,e0.hok.fresh (Nat.le_refl _),fun y c h=> ?_,fun p hp=>absurd (show p∈([]:List (Addr×Obj)) from hp) (by simp),e0.hok.kept hk, ?_⟩
 ·exact name_of_addr x.apart (PySem.mem_of_lookup h1) (PySem.mem_of_lookup h2)
 ·have hy:scope.names.lookup y=some .cell\/scope.names.lookup y=some .free:=hy
  rcases hy with hy | hy
  ·exact wn hy
  ·exact absurd rfl (S.nofree _ (PySem.mem_of_lookup hy))
 ·exact Nat.le_of_lt (x.above y c (PySem.mem_of_lookup h))
 ·have hi:i < vs.length:=by
   unfold start at h2
   by_cases hi:i < vs.length
   ·exact hi
   ·rw [List.getElem?_append_right (by simpa using hi)] at h2
    rw [List.getElem?_replicate] at h2
    split at h2 <;> cases h2
  have ha:vs[i]? =some v:=by
   unfold start at h2
   rw [List.getElem?_append_left (by simpa using hi),List.getElem?_map] at h2
   cases e:vs[i]? with
   | none=>rw [e] at h2; cases h2
   | some a=>rw [e] at h2; cases h2; rfl
  obtain ⟨u,hu,rv⟩:=r.get ha
  have hp:ps[i]? =some y:=by
   rw [← S.pre,List.getElem?_take_of_lt (by omega)]; exact h1
  have ndP:ps.Nodup:=by rw [← S.pre]; exact S.nd.sublist (List.take_sublist _ _)
  refine ⟨u,rv, ?_⟩
  rcases S.par y (List.mem_of_getElem? hp) with k | k
  ·exact .inl ⟨k,Jd ndP hp hu k⟩
  ·obtain ⟨c,e⟩:=wn (n:=s.heap.objs.size+1) k
   refine .inr ⟨.inl k,c,e, ?_⟩
   have q:=x.cell y c e
   rw [Je ndP hp hu (by show scope.names.lookup y ≠ _; rw [k]; decide)] at q
   exact q
 ·exact e0.hok.fresh (Nat.le_of_lt (x.above y c (PySem.mem_of_lookup h)))
 ·unfold start
  show _=N.length
  rw [List.length_append,List.length_map,List.length_replicate]
  omega
theorem ym {CX:CXT} {P:Program} {w:World} {K:PySem.W.Frag} {mg:Str->Option Value} {base:Heap} {k:Nat} {f:Addr} {name qual:Str} {params:Arguments} {body:List Stmt} {scope:Scope} {dV kV doc pm cdv ct oc:Value} {an od:Option Addr}
  {osl:Array (Option Value)} {N ps:List Str} {sp:Sp} (lk:K.lookup f=some ⟨oc,od, .func (PySem.W.fnOf name qual params body scope dV kV doc pm an cdv ct),osl⟩) (hcd:PySem.W.codeIn K cdv qual=true) (S:za N ps scope)
  (len:∀ vs H Q E,sp vs H Q E->vs.length=ps.length)
  (hbody:∀ (A:Around) (outer:List Env) (s:Shared) (H:Hp) (vs:List V) (Q:VK) (E:XK),zQ k (A.deeper (envOfC qual scope s.heap.objs.size f cdv))->sp vs H Q E->
   ∃ t,PSs (Zr CX P w K mg base N qual scope f cdv A outer s H E) body t/\t { nx:=fun _ H' =>Q .non H',rt:=Q } (start N vs) H):
  zq P w K mg base CX (k+1) f (PySem.W.fnOf name qual params body scope dV kV doc pm an cdv ct) ps sp:=by
 refine ⟨len,fun A outer s H args us vs Q E hr e0 hb r hsp=> ?_⟩
 have hl:=len _ _ _ _ hsp
 have KX:K.In s.heap:=e0.mod.kin.keeps fun b o e=>(e0.bs b o e).1
 have lim:s.heap.NoLimit:=e0.mod.nolimit.keeps fun b o e=>(e0.bs b o e).1
 have hkind:∀ y∈ps.zip us,scope.names.lookup y.1=some .local\/(scope.names.lookup y.1=some .cell/\((cellsFrom (s.heap.objs.size+1) scope.names []).lookup y.1).isSome=true):=fun ⟨n,v⟩ hy=>by
  rcases S.par n (List.of_mem_zip hy).1 with q | q
  ·exact .inl q
  ·exact .inr ⟨q,PySem.W.cellsFrom_some _ _ _ (.inl q)⟩
 refine codeAny_call_function hr.depth (KX _ _ lk) rfl S.co S.gen rfl (PySem.W.codeRec_of KX hcd) (hb _ _ _ _ ?_)
 refine wpAny_newFunctionEnv_cells S.kind hkind fun env he s1 x=> ?_
 subst he
 refine ⟨lim.keeps x.toInCall.keep,codeAny_func ?_⟩
 obtain ⟨t,ht,hq⟩:=hbody A outer s H vs Q E (hr.deeper _) hsp
 have I:Inv (Zr CX P w K mg base N qual scope f cdv A outer s H E) [] (start N vs) H s1:=Jf S hr.hd e0 hl r x
 refine wpAny_mono (ht [] s1 (start N vs) H _ I hq) (fun fl s' hs=> ?_) fun e s' hs=>hs
 have fin:∀ {σ' :St} {H' :Hp} {v:V} {u:Value},Inv (Zr CX P w K mg base N qual scope f cdv A outer s H E) [] σ' H' s' ->zF v u->Q v H' ->CE outer P w H s Q u s' :=
  fun {σ' H' v u} J rv q=>⟨v,H',J.os,J.bare,J.base,J.hok,rv,q⟩
 cases fl with
 | ret u=>
  obtain ⟨v,σ',H',J,rv,q⟩:=hs
  exact fin J rv q
 | next=>
  obtain ⟨σ',H',J,q⟩:=hs
  exact fin (v:=V.non) (u:=Value.none) J rfl q
 | brk=>
  obtain ⟨_,_,_,q⟩:=hs
  exact False.elim q
 | cont=>
  obtain ⟨_,_,_,q⟩:=hs
  exact False.elim q
end L2
namespace L2
open PySem PySem.Spec PyProof.Rows
section
variable {X:Cx} {x:Str} {p pos:Pos} {e:Expr} {es:List Expr} {t:TA} {id T:String} {r:List V->Hp->VK->Prop}
def tCB (r:List V->Hp->VK->Prop) (t:TA):TE:=fun σ H Q=>t σ H fun vs H1=>r vs H1 Q
theorem j0 (hc:Z4 X (.builtin id) r) (hg:Gl X x) (hm:X.mg x=none) (hv:bootBuiltins x=some (.builtin id)) (ha:PA X (e :: es) t) (hn:x ≠ "__name__":=by decide) (hdb:(x == ("__debug__":Str))=false:=by decide)
  (he:starEach (e :: es) X.env=(false,eval e X.env) :: starEach es X.env:=by rfl) (hpl:(backTo pos (starEach es X.env)).any (·.1)=false:=by rfl):PE X (.Call (.Name x p) (e :: es) [] pos) (tCB r t):=by
 intro pins s σ H Q I h
 refine wpAny_Call_Name_kw (Zi I hg hm hv ?_ hn hdb)
 exact PyProof.Rows.callWith_builtin1 (thn (ha pos pins s σ H _ I h) fun us s1 ⟨vs,H1,I1,r1,q1⟩=>hc pins s1 σ H1 vs us Q I1 r1 q1) he hpl
theorem Jg (hc:Z4 X (.type T) r) (hg:Gl X x) (hm:X.mg x=none) (hv:bootBuiltins x=some (.type T)) (ha:PA X (e :: es) t) (hn:x ≠ "__name__":=by decide) (hdb:(x == ("__debug__":Str))=false:=by decide)
  (he:starEach (e :: es) X.env=(false,eval e X.env) :: starEach es X.env:=by rfl) (hpl:(backTo pos (starEach es X.env)).any (·.1)=false:=by rfl):PE X (.Call (.Name x p) (e :: es) [] pos) (tCB r t):=by
 intro pins s σ H Q I h
 refine wpAny_Call_Name_kw (Zi I hg hm hv ?_ hn hdb)
 exact PyProof.Rows.callWith_type1 (thn (ha pos pins s σ H _ I h) fun us s1 ⟨vs,H1,I1,r1,q1⟩=>hc pins s1 σ H1 vs us Q I1 r1 q1) he hpl
end
end L2
namespace HT
open PySem PyProof.Rows
section
open PySem.SeqAt
open PySem.AutoSeq1 (wpAny_loadPart')
open PySem.MeetsSeq PySem.MeetsSeq2 PySem.MeetsSeq3
end
section
variable {prog:Program} {w:World} {A:Around} {E:Value->Shared->Prop} {s:Shared}
theorem cat_tup {t b:Addr} {vs ws:List Value} {Q:Value->Shared->Prop} (ht:IsTup s.heap t vs.toArray) (hb:IsTup s.heap b ws.toArray) (hv:vs ≠ [])
  (h1:ws=[]->Q (.ref t) s) (h2:ws ≠ []->Q (.ref s.heap.objs.size) { s with heap:=s.heap.push { cls:= .type "tuple",data:= .seq (vs++ws).toArray } })
  (hsz:vs.length+ws.length<=sizeLine):wpAny (model prog w) A (binaryOp .Add (.ref t) (.ref b)) Q E s:=by
 obtain ⟨⟨cls,dd,data,sl⟩,ho,hc,n,hd⟩:=id ht
 obtain ⟨⟨cls2,dd2,data2,sl2⟩,ho2,hc2,n2,hd2⟩:=id hb
 simp only at hc hd hc2 hd2
 subst hc hd hc2 hd2
 have e:vs.toArray++ws.toArray=(vs++ws).toArray:=by simp
 by_cases hw:ws=[]
 ·exact concat_meets ⟨_,ho,rfl⟩ ⟨_,ho2,rfl⟩ noFill_tuple_add seq_tuple_add PySem.F.slot_tuple_add PySem.F.entry_tuple_add (PySem.F.args_tuple_add_2 _ _)
   (tuple_addW1 t b vs.toArray ws.toArray n n2 dd dd2 sl sl2 (by simpa using hv) (by simp [hw])) ⟨ho,ho2,h1 hw⟩
 ·refine concat_meets ⟨_,ho,rfl⟩ ⟨_,ho2,rfl⟩ noFill_tuple_add seq_tuple_add PySem.F.slot_tuple_add PySem.F.entry_tuple_add (PySem.F.args_tuple_add_2 _ _)
   (tuple_addW2 t b vs.toArray ws.toArray n n2 dd dd2 sl sl2 (by simpa using hv) (by simpa using hw) (by rw [List.size_toArray,List.size_toArray]; exact hsz)) ⟨ho,ho2, ?_⟩
  rw [e]
  exact h2 hw
def sIx (n d:Nat):Option Int->Nat
 | none=>d
 | some v=>if v < 0 then (v+(n:Int)).toNat else min v.toNat n
theorem qz (n d:Nat) (hd:d<=n) (o:Option Int):sIx n d o<=n:=by
 cases o with
 | none=>exact hd
 | some v=>
  show (if v < 0 then (v+(n:Int)).toNat else min v.toNat n)<=n
  by_cases hv:v < 0
  ·rw [if_pos hv]; omega
  ·rw [if_neg hv]; exact Nat.min_le_right _ _
theorem WK (v:Int) (n d:Nat):(if v < 0 then max (v+(n:Int)) 0 else min v (n:Int))=((sIx n d (some v):Nat):Int):=by
 show (if v < 0 then max (v+(n:Int)) 0 else min v (n:Int))=(((if v < 0 then (v+(n:Int)).toNat else min v.toNat n):Nat):Int)
 by_cases hv:v < 0
 ·simp only [if_pos hv]; omega
 ·simp only [if_neg hv]; omega
theorem W0 (lo hi:Option Int) (n:Nat):Builtin.Slice.sliceAdjust lo hi 1 (n:Int)=(((sIx n 0 lo:Nat):Int),((sIx n n hi:Nat):Int)):=by
 have h1:¬ ((1:Int) < 0):=by omega
 unfold Builtin.Slice.sliceAdjust
 simp only [h1,if_false]
 refine Prod.ext ?_ ?_
 ·cases lo with
  | none=>rfl
  | some v=>exact WK v n 0
 ·cases hi with
  | none=>rfl
  | some v=>exact WK v n n
theorem W1 (i j:Nat):Builtin.Slice.slicePlaces (i:Int) (j:Int) 1=j - i:=by
 unfold Builtin.Slice.slicePlaces
 have h1:(1:Int) > 0:=by omega
 simp only [h1,if_true,Int.ediv_one]
 split <;> omega
theorem jA {v:Value} {o:Option Int} {Q:Option Int->Shared->Prop} (p:IsPart v o) (h:Q o s):wpAny (model prog w) A (Builtin.Slice.slicePartIndex v) Q E s:=by
 cases p with
 | none=>exact slicePart_none h
 | int i t=>exact slicePart_int h
theorem sliceApplied_gen {sl:Addr} {vl vu:Value} {lo hi:Option Int} {n:Nat} {Q:Int×Int×Nat->Shared->Prop} (hs:s.heap.IsSliceOf sl vl vu .none) (pl:IsPart vl lo) (pu:IsPart vu hi)
  (h:Q (((sIx n 0 lo:Nat):Int),1,sIx n n hi - sIx n 0 lo) s):wpAny (model prog w) A (Builtin.Slice.sliceApplied (.ref sl) (pure (n:Int))) Q E s:=by
 obtain ⟨os,hos,hcs,hds⟩:=id hs
 unfold Builtin.Slice.sliceApplied Builtin.Slice.sliceFields
 refine wpAny_bind (wpAny_bind (wpAny_field hos hds (x:=vl) rfl (wpAny_bind (wpAny_field hos hds (x:=vu) rfl (wpAny_bind (wpAny_field hos hds (x:= .none) rfl (wpAny_pure ?_)))))))
 refine wpAny_bind (slicePart_none ?_)
 show wpAny _ _ (if ((1:Int) == 0)=true then _ else _) _ _ s
 rw [if_neg (by decide)]
 refine wpAny_bind (jA pl (wpAny_bind (jA pu (wpAny_bind (wpAny_pure ?_)))))
 show wpAny _ _ (match Builtin.Slice.sliceAdjust lo hi 1 (n:Int) with | (lo,hi)=>pure (lo,(1:Int),Builtin.Slice.slicePlaces lo hi 1)) _ _ s
 rw [W0 lo hi n]
 show wpAny _ _ (pure (((sIx n 0 lo:Nat):Int),(1:Int),Builtin.Slice.slicePlaces ((sIx n 0 lo:Nat):Int) ((sIx n n hi:Nat):Int) 1)) _ _ s
 rw [W1]
 exact wpAny_pure h
theorem U3 (xs:Array Value) (i k:Nat):((List.range k).filterMap fun (m:Nat)=>xs[((i:Int)+(m:Int)*1).toNat]?).toArray=((xs.toList.drop i).take k).toArray:=by
 have e:(fun (m:Nat)=>xs[((i:Int)+(m:Int)*1).toNat]?)=fun m=>xs[i+m]? :=by
  funext m
  have:((i:Int)+(m:Int)*1).toNat=i+m:=by omega
  rw [this]
 rw [e]
 have:=pick_run xs i k
 rw [List.filterMap_map] at this
 have e2:((fun x=>xs[x]?) ∘ fun x=>i+x)=fun m=>xs[i+m]? :=rfl
 rw [e2] at this
 rw [this]
theorem getItem_tuple_cut {t sl:Addr} {items:Array Value} {vl vu:Value} {lo hi:Option Int} {Q:Value->Shared->Prop} (ht:IsTup s.heap t items) (hs:s.heap.IsSliceOf sl vl vu .none) (pl:IsPart vl lo) (pu:IsPart vu hi)
  (hw:¬ (sIx items.size 0 lo=0/\sIx items.size items.size hi=items.size))
  (h:Q (.ref s.heap.objs.size) { s with heap:=s.heap.push { cls:= .type "tuple",data:= .seq ((items.toList.drop (sIx items.size 0 lo)).take (sIx items.size items.size hi - sIx items.size 0 lo)).toArray } })
  (hsz:items.size<=sizeLine):wpAny (model prog w) A (getItem (.ref t) (.ref sl)) Q E s:=by
 have htake:sizeOk (.seq ((items.toList.drop (sIx items.size 0 lo)).take (sIx items.size items.size hi - sIx items.size 0 lo)).toArray):=by
  show ((items.toList.drop (sIx items.size 0 lo)).take (sIx items.size items.size hi - sIx items.size 0 lo)).toArray.size<=sizeLine
  rw [List.size_toArray,List.length_take,List.length_drop,Array.length_toList]
  omega
 have hj:sIx items.size items.size hi<=items.size:=qz _ _ (Nat.le_refl _) hi
 obtain ⟨os,hos,hcs,hds⟩:=id hs
 have hTs:s.TypeIs (.ref sl) "slice":=⟨os,hos,hcs⟩
 unfold getItem
 try with_reducible refine wpAny_holding ?_
 first | refine wpAny_bind (wpAny_pure ?_) | skip
 refine wpAny_bind (wpAny_sequenceKey ht.typeIs (by decide) ?_)
 refine wpAny_bind (wpAny_callSpecial?_slot (name:=Str.ofString "__getitem__") ht.typeIs PyProof.Rows.slot_tuple_getitem
  (wpAny_call_entry PyProof.Rows.slot_tuple_getitem ht.typeIs entry_tuple_getitem ?_ (args_tuple_getitem _ _)))
 show wpAny _ _ (Builtin.Tuple.tupleItemsOf (.ref t) >>= _) _ _ s
 refine wpAny_bind (tupleItemsOf_ ht ?_)
 refine wpAny_bind (wpAny_typeOf hTs ?_)
 rw [if_pos (by decide)]
 refine wpAny_bind (sliceApplied_gen hs pl pu ?_)
 have hno:¬ ((((sIx items.size 0 lo:Nat):Int) == 0 && (1:Int) == 1 && (sIx items.size items.size hi - sIx items.size 0 lo) == items.size)=true):=by
  intro q
  rw [Bool.and_eq_true,Bool.and_eq_true] at q
  have q1:((sIx items.size 0 lo:Nat):Int)=0:=eq_of_beq q.1.1
  have q2:sIx items.size items.size hi - sIx items.size 0 lo=items.size:=eq_of_beq q.2
  exact hw ⟨by omega,by omega⟩
 show wpAny _ _ (if (((sIx items.size 0 lo:Nat):Int) == 0 && (1:Int) == 1 && (sIx items.size items.size hi - sIx items.size 0 lo) == items.size)=true then _ else _) _ _ s
 rw [if_neg hno,U3]
 first
  | exact wpAny_bind (m:=Builtin.Tuple.tupleExact _) (wpAny_newObj_type (wpAny_pure ⟨_,rfl,wpAny_pure h⟩) htake)
  | exact wpAny_bind (m:=Builtin.Tuple.tupleExact _) (wpAny_newObj_type (wpAny_bind (wpAny_pure (wpAny_pure ⟨_,rfl,wpAny_pure h⟩))) htake)
  | exact wpAny_bind (wpAny_bind (m:=Builtin.Tuple.tupleExact _) (wpAny_newObj_type (wpAny_pure (wpAny_pure ⟨_,rfl,wpAny_pure h⟩)) htake))
  | exact wpAny_bind (wpAny_bind (m:=Builtin.Tuple.tupleExact _) (wpAny_newObj_type (wpAny_pure ⟨_,rfl,wpAny_pure h⟩) htake))
end
end HT
namespace L2
open PySem PySem.Spec PyProof.Rows
abbrev TO:=St->Hp->(Option Int->Hp->Prop)->Prop
def PO (X:Cx) (e:Option Expr) (t:TO):Prop:=
 ∀ (pins:List (Addr×Obj)) (s:Shared) (σ:St) (H:Hp) (Q:Option Int->Hp->Prop),Inv X pins σ H s->t σ H Q->
  wpAny (model X.prog X.w) X.A (evalPart e X.env) (fun u s' =>∃ o H',Inv X pins σ H' s' /\IsPart u o/\Q o H') X.xe s
def yn:TO:=fun _ H Q=>Q none H
def Vi (t:TE):TO:=fun σ H Q=>t σ H fun x H1=>∃ i,x= .int i/\Q (some i) H1
section
variable {X:Cx} {e:Expr} {te:TE} {lo hi:Option Expr} {tl th:TO} {pos p2:Pos}
theorem yo:PO X none yn:=by
 intro pins s σ H Q I h
 rw [evalPart_none]
 exact wpAny_pure ⟨none,H,I, .none,h⟩
theorem yq (h:PE X e te):PO X (some e) (Vi te):=by
 intro pins s σ H Q I hw
 rw [evalPart_some]
 refine thn (h pins s σ H _ I hw) fun u s1 ⟨x,H1,I1,r1,q1⟩=> ?_
 obtain ⟨i,rfl,q⟩:=q1
 obtain ⟨t,rfl⟩:=r1
 exact ⟨some i,H1,I1, .int i t,q⟩
def SlR (X:Cx) (r:V->Option Int->Option Int->Hp->VK->Prop):Prop:=
 ∀ (pins:List (Addr×Obj)) (s:Shared) (σ:St) (H:Hp) (x:V) (v vl vu:Value) (lo hi:Option Int) (sl:Addr) (Q:VK),Inv X pins σ H s->zF x v->s.heap.IsSliceOf sl vl vu .none->IsPart vl lo->IsPart vu hi->r x lo hi H Q->
  ∃ T id,typeLookup (.type T) "__getitem__"=pure (some (.builtin id))/\s.TypeIs v T/\wpAny (model X.prog X.w) X.A (getItem v (.ref sl)) (EP X pins σ Q) X.xe s
theorem SlR.or {r r' :V->Option Int->Option Int->Hp->VK->Prop} (h:SlR X r) (h' :SlR X r'):SlR X (fun x lo hi H Q=>r x lo hi H Q\/r' x lo hi H Q):=by
 intro pins s σ H x v vl vu lo hi sl Q I rx hs pl pu q
 rcases q with q | q
 ·exact h pins s σ H x v vl vu lo hi sl Q I rx hs pl pu q
 ·exact h' pins s σ H x v vl vu lo hi sl Q I rx hs pl pu q
def tSl (r:V->Option Int->Option Int->Hp->VK->Prop) (te:TE) (tl th:TO):TE:=fun σ H Q=>te σ H fun x H1=>tl σ H1 fun l H2=>th σ H2 fun u H3=>r x l u H3 Q
theorem wo {r:V->Option Int->Option Int->Hp->VK->Prop} (hr:SlR X r) (he:PE X e te) (hl:PO X lo tl) (hu:PO X hi th):PE X (.Subscript e (.Slice lo hi none p2) pos) (tSl r te tl th):=by
 intro pins s σ H Q I h
 refine Subscript_ (thn (he pins s σ H _ I h) fun v s1 ⟨x,H1,I1,r1,q1⟩=> ?_)
 refine wpAny_Slice (thn (hl pins s1 σ H1 _ I1 q1) fun vl s2 ⟨l,H2,I2,pl,q2⟩=>thn (hu pins s2 σ H2 _ I2 q2) fun vu s3 ⟨u,H3,I3,pu,q3⟩=> ?_)
 rw [evalPart_none]
 refine wpAny_pure ?_
 have I4:Inv X pins σ H3 { s3 with heap:=s3.heap.push { cls:= .type "slice",data:= .fields #[vl,vu, .none] } }:=I3.kept (t' :=s3.toks) fun b ob q=>Heap.get?_push_of_some _ q
 obtain ⟨T,id,hT,ht,hg⟩:=hr pins { s3 with heap:=s3.heap.push { cls:= .type "slice",data:= .fields #[vl,vu, .none] } } σ H3 x v vl vu l u s3.heap.objs.size Q I4 r1 (Heap.IsSliceOf.new ..) pl pu q3
 show wpAny (model X.prog X.w) X.A (subscriptTail e (.Slice lo hi none p2) v (.ref s3.heap.objs.size)) (EP X pins σ Q) X.xe { s3 with heap:=s3.heap.push { cls:= .type "slice",data:= .fields #[vl,vu, .none] } }
 exact tail_any (ops:=[.ref s3.heap.objs.size,v]) ht hT hg (by with_unfolding_all rfl)
def UH (xs:List V) (lo hi:Option Int):List V:=(xs.drop (HT.sIx xs.length 0 lo)).take (HT.sIx xs.length xs.length hi - HT.sIx xs.length 0 lo)
theorem ja (xs:List V) (lo hi:Option Int):(UH xs lo hi).length<=xs.length:=by
 unfold UH
 rw [List.length_take,List.length_drop]
 omega
def gy (K:PySem.W.Frag):V->Option Int->Option Int->Hp->VK->Prop:=fun x lo hi H Q=>∃ a xs,x= .ref a/\SqT K H a xs/\
 ¬ (HT.sIx xs.length 0 lo=0/\HT.sIx xs.length xs.length hi=xs.length)/\∀ p,H p=none->Q (.ref p) (upd H p (.tup (UH xs lo hi)))
theorem qA:SlR X (gy X.K):=by
 intro pins s σ H x v vl vu lo hi sl Q I rx hs pl pu h
 obtain ⟨a,xs,rfl,hx,hw,q⟩:=h
 cases rx
 obtain ⟨its,r,ht,hz⟩:=I.tuple hx
 have hlen:its.toArray.size=xs.length:=by rw [List.size_toArray]; exact r.length.symm
 refine ⟨"tuple",_,PyProof.Rows.slot_tuple_getitem.lookup,ht.typeIs, ?_⟩
 refine HT.getItem_tuple_cut ht hs pl pu (by rw [hlen]; exact hw) ?_ (by rw [hlen]; exact hz)
 rw [hlen]
 refine ⟨.ref s.heap.objs.size,_,I.laid (t' :=s.toks) (o:= .tup (UH xs lo hi)) (fun b ob q=>Heap.get?_push_of_some _ q) (Nat.le_refl _) ?_,rfl,q _ (I.hok.fresh (Nat.le_refl _))⟩
 exact ⟨Nat.le_trans (ja xs lo hi) hz,_,(r.drop (HT.sIx xs.length 0 lo)).take (HT.sIx xs.length xs.length hi - HT.sIx xs.length 0 lo),ITN.new _ _⟩
def Vj (K:PySem.W.Frag):R2:=fun x y H Q=>∃ a b xs ys,x= .ref a/\y= .ref b/\SqT K H a xs/\SqT K H b ys/\xs ≠ []/\xs.length+ys.length<=sizeLine/\
 (ys=[]->Q (.ref a) H)/\(ys ≠ []->∀ p,H p=none->Q (.ref p) (upd H p (.tup (xs++ys))))
theorem zv.nil_iff {xs:List V} {us:List Value} (r:zv xs us):us=[]↔xs=[]:=by
 cases r with
 | nil=>simp
 | cons _ _=>simp
theorem yr:OpR X (binaryOp .Add) (Vj X.K):=by
 intro pins s σ H x y v u Q I rx ry h
 obtain ⟨a,b,xs,ys,rfl,rfl,ha,hb,hx,hz,q1,q2⟩:=h
 cases rx
 cases ry
 obtain ⟨its,r1,p1,_⟩:=I.tuple ha
 obtain ⟨its2,r2,p2,_⟩:=I.tuple hb
 refine HT.cat_tup p1 p2 (fun z=>hx (r1.nil_iff.mp z)) (fun z=>⟨.ref a,H,I,rfl,q1 (r2.nil_iff.mp z)⟩) (fun z=> ?_) (by rw [← r1.length,← r2.length]; exact hz)
 refine ⟨.ref s.heap.objs.size,_,I.laid (t' :=s.toks) (o:= .tup (xs++ys)) (fun b ob q=>Heap.get?_push_of_some _ q) (Nat.le_refl _) ?_,rfl,q2 (fun w=>z (r2.nil_iff.mpr w)) _ (I.hok.fresh (Nat.le_refl _))⟩
 exact ⟨by rw [List.length_append]; exact hz,_,r1.append r2,ITN.new _ _⟩
end
end L2
namespace L2
open PySem PySem.Spec PyProof.Rows
def ixN (n:Nat) (i:Int):Option Nat:=if 0<=i then (if i < n then some i.toNat else none) else if -(n:Int)<=i then some (i+n).toNat else none
def atI {α:Type} (xs:List α) (i:Int):Option α:=(ixN xs.length i).bind fun j=>xs[j]?
theorem yt {n:Nat} {i:Int} {j:Nat} (h:ixN n i=some j):seqIndex? i n=some j/\j < n/\ -(n:Int)<=i/\i < n:=by
 unfold ixN at h
 by_cases h0:0<=i
 ·rw [if_pos h0] at h
  by_cases h1:i < n
  ·rw [if_pos h1] at h
   have e:i.toNat=j:=Option.some.inj h
   exact ⟨by rw [seqIndex_of h0 h1,e],by omega,by omega,h1⟩
  ·rw [if_neg h1] at h; cases h
 ·rw [if_neg h0] at h
  by_cases h1: -(n:Int)<=i
  ·rw [if_pos h1] at h
   have e:(i+n).toNat=j:=Option.some.inj h
   exact ⟨by rw [seqIndex_neg (by omega) h1,e],by omega,h1,by omega⟩
  ·rw [if_neg h1] at h; cases h
theorem JN {α:Type} {xs:List α} {i:Int} {v:α} (h:atI xs i=some v):∃ j,seqIndex? i xs.length=some j/\xs[j]? =some v/\j < xs.length/\ -(xs.length:Int)<=i/\i < xs.length:=by
 unfold atI at h
 cases e:ixN xs.length i with
 | none=>rw [e] at h; cases h
 | some j=>
  rw [e] at h
  obtain ⟨h1,h2,h3,h4⟩:=yt e
  exact ⟨j,h1,h,h2,h3,h4⟩
theorem JO {α:Type} {xs:List α} {j:Nat} {v:α} (h:xs[j]? =some v):atI xs (j:Int)=some v:=by
 have hj:j < xs.length:=(List.getElem?_eq_some_iff.mp h).1
 have e:ixN xs.length (j:Int)=some j:=by
  unfold ixN
  rw [if_pos (by omega),if_pos (by omega)]; simp
 unfold atI; rw [e]; exact h
def jP (b:Expr):Prop:=∀ o i,subscripted b false o i=operate [o,i] (getItem o i)
def IxR (X:Cx) (r:R2):Prop:=
 ∀ (value slice:Expr) (pins:List (Addr×Obj)) (s:Shared) (σ:St) (H:Hp) (x y:V) (v u:Value) (Q:VK),Inv X pins σ H s->zF x v->zF y u->r x y H Q->
  subscripted slice false v u=operate [v,u] (getItem v u)->wpAny (model X.prog X.w) X.A (subscriptTail value slice v u) (EP X pins σ Q) X.xe s
def MtR (X:Cx) (id:String) (r:V->List V->Hp->VK->Prop):Prop:=
 ∀ (pins:List (Addr×Obj)) (s:Shared) (σ:St) (H:Hp) (x:V) (xs:List V) (v:Value) (us:List Value) (Q:VK),Inv X pins σ H s->zF x v->zv xs us->r x xs H Q->
  wpAny (model X.prog X.w) X.A (call (.builtin id) (v :: us)) (EP X pins σ Q) X.xe s
section
variable {X:Cx} {a b:Expr} {ta tb:TE} {pos:Pos}
theorem IxR.or {r r' :R2} (h:IxR X r) (h' :IxR X r'):IxR X (fun x y H Q=>r x y H Q\/r' x y H Q):=by
 intro value slice pins s σ H x y v u Q I rx ry q hs
 rcases q with q | q
 ·exact h value slice pins s σ H x y v u Q I rx ry q hs
 ·exact h' value slice pins s σ H x y v u Q I rx ry q hs
theorem yu {r:R2} (hr:IxR X r) (ha:PE X a ta) (hb:PE X b tb) (hs:jP b):PE X (.Subscript a b pos) (tOp r ta tb):=by
 intro pins s σ H Q I h
 exact Subscript_ (V9 ha hb I h fun v u s2 x y H2 I2 rx ry q=>hr a b pins s2 σ H2 x y v u Q I2 rx ry q (hs _ _))
def XI (K:PySem.W.Frag):R2:=fun x y H Q=>∃ p xs i v,x= .ref p/\y= .int i/\SqL K H p xs/\atI xs i=some v/\Q v H
def XJ (K:PySem.W.Frag):R2:=fun x y H Q=>∃ p xs i v,x= .ref p/\y= .int i/\SqT K H p xs/\atI xs i=some v/\Q v H
def XL:R2:=fun x y H Q=>∃ z i c,x= .str z/\y= .int i/\z.length<=sizeLine/\atI z.cps.toList i=some c/\Q (.str ⟨#[c]⟩) H
theorem yv:IxR X (XI X.K):=by
 intro value slice pins s σ H x y v u Q I rx ry h hs
 obtain ⟨p,xs,i,z,rfl,rfl,hq,he,q⟩:=h
 cases rx
 obtain ⟨t,rfl⟩:=ry
 obtain ⟨its,r,pl,hz⟩:=I.list hq
 obtain ⟨j,h1,h2,h3,h4,h5⟩:=JN he
 obtain ⟨w,ew,rw'⟩:=r.get h2
 have hl:=r.length
 have hn:=jy
 have fin:EP X pins σ Q w s:=⟨z,H,I,rw',q⟩
 by_cases h0:0<=i
 ·have hj:i.toNat=j:=by
   rw [seqIndex_of h0 h5] at h1
   exact Option.some.inj h1
  exact item_listR pl.isList h0 (by omega) (by rw [hj]; simpa using ew) fin hs
 ·have hj:(i+(its.toArray.size:Int)).toNat=j:=by
   rw [seqIndex_neg (by omega) h4] at h1
   rw [List.size_toArray,← hl]
   exact Option.some.inj h1
  exact subscriptTail_builtinR (x:=w) pl.isList.typeIs slot_list_getitem.lookup
   (wpAny_getItem_list_neg (Q:=fun r s' =>r=w/\EP X pins σ Q r s') pl.isList (by omega) (by rw [List.size_toArray] <;> omega) (by omega) (by rw [hj]; simpa using ew) ⟨rfl,fin⟩) hs
theorem qB:IxR X (XJ X.K):=by
 intro value slice pins s σ H x y v u Q I rx ry h hs
 obtain ⟨p,xs,i,z,rfl,rfl,hq,he,q⟩:=h
 cases rx
 obtain ⟨t,rfl⟩:=ry
 obtain ⟨its,r,pl,hz⟩:=I.tuple hq
 obtain ⟨j,h1,h2,h3,h4,h5⟩:=JN he
 obtain ⟨w,ew,rw'⟩:=r.get h2
 have hl:=r.length
 have hn:=jy
 have fin:EP X pins σ Q w s:=⟨z,H,I,rw',q⟩
 exact subscriptTail_builtinR (x:=w) pl.typeIs slot_tuple_getitem.lookup
  (getItem_tuple (j:=j) (Q:=fun r s' =>r=w/\EP X pins σ Q r s') pl (by omega) (by omega) (by rw [List.size_toArray,← hl]; exact h1) (by simpa using ew) ⟨rfl,fin⟩) hs
theorem qC:IxR X XL:=by
 intro value slice pins s σ H x y v u Q I rx ry h hs
 obtain ⟨z,i,c,rfl,rfl,hz,he,q⟩:=h
 obtain ⟨t,rfl⟩:=rx
 obtain ⟨t',rfl⟩:=ry
 obtain ⟨j,h1,h2,h3,h4,h5⟩:=JN he
 have hl:z.cps.toList.length=z.length:=by simp [Str.length]
 rw [hl] at h1 h4 h5
 have hn:=jy
 exact tail_any (typeIs_str s z t) slot_str_getitem.lookup (getItem_str (c:=c) (by
  have e1:decide (i < -(2 ^ 63:Int))=false:=decide_eq_false (by omega)
  have e2:decide (i ≥ 2 ^ 63)=false:=decide_eq_false (by omega)
  rw [e1,e2,Bool.or_false]) (by rw [h1]; simpa using h2) ⟨.str ⟨#[c]⟩,H,I.tok _,⟨_,rfl⟩,q⟩) hs
def rIx (K:PySem.W.Frag):R2:=fun x y H Q=>XI K x y H Q\/XJ K x y H Q\/XL x y H Q
theorem WL:IxR X (rIx X.K):=yv.or (qB.or qC)
theorem Jh (lo hi:Option Int) (n:Nat):(sliceBounds lo hi none n).1=((HT.sIx n 0 lo:Nat):Int)/\(sliceBounds lo hi none n).2.1=((HT.sIx n n hi:Nat):Int)/\(sliceBounds lo hi none n).2.2=1:=by
 refine ⟨?_, ?_,rfl⟩
 ·cases lo with
  | none=>simp [sliceBounds,HT.sIx]
  | some i=>
   simp only [sliceBounds,HT.sIx,Option.getD_none,show (1:Int) > 0 by decide,if_true]
   by_cases h:i < 0
   ·simp only [h,if_true] <;> omega
   ·simp only [h,if_false] <;> omega
 ·cases hi with
  | none=>simp [sliceBounds,HT.sIx]
  | some i=>
   simp only [sliceBounds,HT.sIx,Option.getD_none,show (1:Int) > 0 by decide,if_true]
   by_cases h:i < 0
   ·simp only [h,if_true] <;> omega
   ·simp only [h,if_false] <;> omega
theorem jQ (its:List Value) (lo hi:Option Int):slicePick its.toArray lo hi none=((its.drop (HT.sIx its.length 0 lo)).take (HT.sIx its.length its.length hi - HT.sIx its.length 0 lo)).toArray:=by
 obtain ⟨h1,h2,h3⟩:=Jh lo hi its.toArray.size
 unfold slicePick
 rw [h1,h2,h3]
 simp only [sliceRange_one,pick_run,List.size_toArray] <;> rfl
def gz (K:PySem.W.Frag):V->Option Int->Option Int->Hp->VK->Prop:=fun x lo hi H Q=>∃ a xs,x= .ref a/\SqL K H a xs/\∀ p,H p=none->Q (.ref p) (upd H p (.lst (UH xs lo hi)))
theorem yw:SlR X (gz X.K):=by
 intro pins s σ H x v vl vu lo hi sl Q I rx hs pl pu h
 obtain ⟨a,xs,rfl,hx,q⟩:=h
 cases rx
 obtain ⟨its,r,ht,hz⟩:=I.list hx
 have hlen:=r.length
 refine ⟨"list",_,slot_list_getitem.lookup,ht.isList.typeIs, ?_⟩
 refine wpAny_getItem_list_slice ht.isList hs pl pu .none (by simp) ?_ (by rw [List.size_toArray] <;> omega)
 rw [jQ,← hlen]
 refine ⟨.ref s.heap.objs.size,_,I.laid (t' :=s.toks) (o:= .lst (UH xs lo hi)) (fun b ob q=>Heap.get?_push_of_some _ q) (Nat.le_refl _) ?_,rfl,q _ (I.hok.fresh (Nat.le_refl _))⟩
 exact ⟨Nat.le_trans (ja xs lo hi) hz,_,0,(r.drop (HT.sIx xs.length 0 lo)).take (HT.sIx xs.length xs.length hi - HT.sIx xs.length 0 lo),Heap.get?_push_size _ rfl⟩
theorem Ji:Z4 X (.builtin "len") (fun xs H Q=>∃ p ys,xs=[.ref p]/\(SqL X.K H p ys\/SqT X.K H p ys)/\Q (.int ys.length) H):=by
 intro pins s σ H xs us Q I r h
 obtain ⟨p,ys,rfl,hq,q⟩:=h
 obtain ⟨u,rfl,rx⟩:=zX r
 cases rx
 have hn:=jy
 rcases hq with hq | hq
 ·obtain ⟨its,r',pl,hz⟩:=I.list hq
  have hlen:=r'.length
  exact Calls.call_len_list pl.isList (by simp only [List.size_toArray] <;> omega) ⟨.int ys.length,H,I.tok _,⟨s.toks+1,by rw [List.size_toArray,hlen]⟩,q⟩
 ·obtain ⟨its,r',pl,hz⟩:=I.tuple hq
  have hlen:=r'.length
  exact len_tuple pl (by simp only [List.size_toArray] <;> omega) ⟨.int ys.length,H,I.tok _,⟨s.toks+1,by rw [List.size_toArray,hlen]⟩,q⟩
theorem Jj:Z4 X (.builtin "len") (fun xs H Q=>∃ z,xs=[.str z]/\z.length<=sizeLine/\Q (.int z.length) H):=by
 intro pins s σ H xs us Q I r h
 obtain ⟨z,rfl,hz,q⟩:=h
 obtain ⟨u,rfl,t,rfl⟩:=zX r
 have hn:=jy
 exact len_str (by omega) ⟨.int z.length,H,I.tok _,⟨_,rfl⟩,q⟩
theorem Z4.or {f:Value} {r r' :List V->Hp->VK->Prop} (h:Z4 X f r) (h' :Z4 X f r'):Z4 X f (fun xs H Q=>r xs H Q\/r' xs H Q):=by
 intro pins s σ H xs us Q I rs q
 rcases q with q | q
 ·exact h pins s σ H xs us Q I rs q
 ·exact h' pins s σ H xs us Q I rs q
theorem ZO:Z4 X (.type "list") (fun xs H Q=>∃ p ys,xs=[.ref p]/\(SqL X.K H p ys\/SqT X.K H p ys)/\∀ l,H l=none->Q (.ref l) (upd H l (.lst ys))):=by
 intro pins s σ H xs us Q I r h
 obtain ⟨p,ys,rfl,hq,q⟩:=h
 obtain ⟨u,rfl,rx⟩:=zX r
 cases rx
 have fin:∀ (its:List Value),zv ys its->ys.length<=sizeLine->∀ (h' :Heap) (c' :Nat),(∀ b o',s.heap.get? b=some o' ->h'.get? b=some o')->
   h'.get? s.heap.objs.size=some { cls:= .type "list",dict:=none,data:= .seq its.toArray c',slots:= #[] }->EP X pins σ Q (.ref s.heap.objs.size) { s with heap:=h' }:=fun its r' hz h' c' kp e=>
  ⟨.ref s.heap.objs.size,_,I.laid (t' :=s.toks) kp (Nat.le_refl _) (show zK X.prog X.w _ h' _ (.lst ys) from ⟨hz,its,c',r',e⟩),rfl,q _ (I.hok.fresh (Nat.le_refl _))⟩
 rcases hq with hq | hq
 ·obtain ⟨its,r',pl,hz⟩:=I.list hq
  have hlen:=r'.length
  obtain ⟨o,ho,hc,n,hd⟩:=pl.isList
  exact call_list_seq p (.inl rfl) ho hc hd (fun h' c' kp e=>fin its r' hz h' c' kp e) (by simp only [List.size_toArray] <;> omega)
 ·obtain ⟨its,r',pl,hz⟩:=I.tuple hq
  have hlen:=r'.length
  obtain ⟨o,ho,hc,n,hd⟩:=pl
  exact call_list_seq p (.inr rfl) ho hc hd (fun h' c' kp e=>fin its r' hz h' c' kp e) (by simp only [List.size_toArray] <;> omega)
theorem jR:Z4 X (.type "tuple") (fun xs H Q=>∃ p ys,xs=[.ref p]/\((SqL X.K H p ys/\∀ l,H l=none->Q (.ref l) (upd H l (.tup ys)))\/(SqT X.K H p ys/\Q (.ref p) H))):=by
 intro pins s σ H xs us Q I r h
 obtain ⟨p,ys,rfl,h⟩:=h
 obtain ⟨u,rfl,rx⟩:=zX r
 cases rx
 rcases h with ⟨hq,q⟩ | ⟨hq,q⟩
 ·obtain ⟨its,r',pl,hz⟩:=I.list hq
  have hlen:=r'.length
  refine call_tuple_list pl.isList (fun h' kp=> ?_) (by simp only [List.size_toArray] <;> omega)
  have I1:Inv X pins σ H { s with heap:=h' }:=I.kept (t' :=s.toks) kp
  have I2:Inv X pins σ (upd H h'.objs.size (.tup ys)) { s with heap:=h'.push { cls:= .type "tuple",data:= .seq its.toArray } }:=
   I1.laid (t' :=s.toks) (fun b o e=>Heap.get?_push_of_some _ e) (Nat.le_refl _) (show zK X.prog X.w _ _ _ (.tup ys) from ⟨hz,its,r',ITN.new _ _⟩)
  exact ⟨.ref h'.objs.size,_,I2,rfl,q _ (I1.hok.fresh (Nat.le_refl _))⟩
 ·obtain ⟨its,r',pl,hz⟩:=I.tuple hq
  exact call_tuple_same pl ⟨.ref p,H,I,rfl,q⟩
def tyV (K:PySem.W.Frag) (T:String) (x:V) (H:Hp):Prop:=match x with
 | .str _=>T="str"
 | .int _=>T="int"
 | .ref p=>(T="list"/\∃ xs,SqL K H p xs)\/(T="tuple"/\∃ o,K.lookup p=some o/\o.cls= .type "tuple"/\o.dict=none)\/
   (T="dict"/\((∃ kvs,H p=some (.dK kvs))\/∃ kvs,H p=some (.dT kvs)))\/(T="set"/\∃ S n,H p=some (.set S n))
 | _=>False
theorem UI {pins:List (Addr×Obj)} {σ:St} {H:Hp} {s:Shared} {T:String} {x:V} {v:Value} (I:Inv X pins σ H s) (r:zF x v) (ty:tyV X.K T x H):
  s.TypeIs v T/\∀ a,v= .ref a->∃ ob,s.heap.get? a=some ob/\ob.dict=none:=by
 cases x with
 | str z=>
  obtain ⟨t,rfl⟩:=r
  cases (show T="str" from ty)
  exact ⟨typeIs_str s z t,fun _ e=>nomatch e⟩
 | int i=>
  obtain ⟨t,rfl⟩:=r
  cases (show T="int" from ty)
  exact ⟨typeIs_int s i t,fun _ e=>nomatch e⟩
 | ref p=>
  cases r
  rcases ty with ⟨rfl,xs,hq⟩ | ⟨rfl,o,hk,hc,hd⟩ | ⟨rfl,hk⟩ | ⟨rfl,S,n,hk⟩
  ·obtain ⟨its,_,pl,_⟩:=I.list hq
   refine ⟨pl.isList.typeIs,fun a e=> ?_⟩
   cases e
   obtain ⟨o,n,e,c,hd,_⟩:=pl
   exact ⟨o,e,hd⟩
  ·refine ⟨⟨o,I.kIn p o hk,hc⟩,fun a e=> ?_⟩
   cases e
   exact ⟨o,I.kIn _ o hk,hd⟩
  ·have z:∃ o,s.heap.get? p=some o/\o.ExactDict:=by
    rcases hk with ⟨kvs,hk⟩ | ⟨kvs,hk⟩
    ·obtain ⟨_,_,_,_,o,_,_,e,ex,_⟩:=I.hok p _ hk
     exact ⟨o,e,ex⟩
    ·obtain ⟨_,_,_,_,o,_,_,e,ex,_⟩:=I.hok p _ hk
     exact ⟨o,e,ex⟩
   obtain ⟨o,e,ex⟩:=z
   refine ⟨⟨o,e,ex.1⟩,fun a e2=> ?_⟩
   cases e2
   exact ⟨o,e,ex.2.1⟩
  ·obtain ⟨o,_,_,_,e,ex,_⟩:=I.hok p _ hk
   refine ⟨⟨o,e,ex.1⟩,fun a e2=> ?_⟩
   cases e2
   exact ⟨o,e,ex.2.1⟩
 | _=>exact False.elim ty
def gA (K:PySem.W.Frag) (T:String) (r:V->List V->Hp->VK->Prop) (to:TE):TE:=fun σ H Q=>to σ H fun x H1=>tyV K T x H1/\r x [] H1 Q
def tBM (K:PySem.W.Frag) (T:String) (r:V->List V->Hp->VK->Prop) (to:TE) (t:TA):TE:=fun σ H Q=>to σ H fun x H1=>tyV K T x H1/\t σ H1 fun xs H2=>r x xs H2 Q
variable {o e:Expr} {es:List Expr} {to:TE} {t:TA} {name:Str} {apos cpos:Pos} {T id:String} {r:V->List V->Hp->VK->Prop}
theorem qD (pa:PlainAttrs T) (slot:Slot T name id) (hty:typeOf (.builtin id)=pure (.type "method_descriptor")) (hm:MtR X id r) (ho:PE X o to)
  (hbase:attributeBase o name X.env (eval o X.env)=eval o X.env:=by rfl) (hline:(apos.endLine == cpos.line)=true:=by rfl):PE X (.Call (.Attribute o name apos) [] [] cpos) (gA X.K T r to):=by
 intro pins s σ H Q I h
 refine wpAny_Call_method0_late hbase hline (thn (ho pins s σ H _ I h) fun v s1 ⟨x,H1,I1,r1,ty,q1⟩=> ?_)
 obtain ⟨h1,h2⟩:=UI I1 r1 ty
 exact ⟨T,id,pa,slot,hty,h1,h2,Calls.callWith_builtin rfl (PySem.evalArgs_none (hm pins s1 σ H1 x [] v [] Q I1 r1 .nil q1))⟩
theorem ZT (pa:PlainAttrs T) (slot:Slot T name id) (hty:typeOf (.builtin id)=pure (.type "method_descriptor")) (hm:MtR X id r) (ho:PE X o to) (ha:PA X (e :: es) t)
  (hbase:attributeBase o name X.env (eval o X.env)=eval o X.env:=by rfl)
  (hfew:((backTo cpos (starEach (e :: es) X.env)).all (fun x=> !x.1) && (backToKw cpos (keywordEach [] X.env)).all (fun x=>x.1.isSome)
   && decide ((e :: es).length+([]:List Keyword).length+(if ([]:List Keyword).isEmpty then 0 else 1) < 30))=true:=by rfl)
  (hline:(apos.endLine == cpos.line)=true:=by rfl) (hs:starEach (e :: es) X.env=(false,eval e X.env) :: starEach es X.env:=by rfl) (hplain:(backTo cpos (starEach es X.env)).any (·.1)=false:=by rfl):
  PE X (.Call (.Attribute o name apos) (e :: es) [] cpos) (tBM X.K T r to t):=by
 intro pins s σ H Q I h
 refine wpAny_Call_method_late hbase hfew hline rfl (thn (ho pins s σ H _ I h) fun v s1 ⟨x,H1,I1,r1,ty,q1⟩=> ?_)
 obtain ⟨h1,h2⟩:=UI I1 r1 ty
 refine ⟨T,id,pa,slot,hty,h1,h2, ?_⟩
 have hA:=ha cpos pins s1 σ H1 _ I1 q1
 rw [hs] at hA ⊢
 refine Calls.callWith_builtin (by show (false || (backTo cpos (starEach es X.env)).any (·.1))=false; rw [hplain] <;> rfl) (Calls.evalArgs_plain ?_)
 exact thn hA fun us s2 ⟨vs,H2,I2,r2,q2⟩=>hm pins s2 σ H2 x vs v us Q I2 r1 r2 q2
end
end L2
namespace L2
open PySem PySem.Spec PyProof.Rows
def MtM (X:Cx) (id:String) (r:V->List V->Hp->VK->Prop):Prop:=
 ∀ (pins:List (Addr×Obj)) (s:Shared) (σ:St) (H:Hp) (x:V) (xs:List V) (v:Value) (us:List Value) (Q:VK),Inv X pins σ H s->zF x v->zv xs us->r x xs H Q->
  wpAny (model X.prog X.w) X.A (call (.builtin id) (v :: us)) (EP X pins σ Q) X.xe s
theorem zv.one:∀ {x:V} {us:List Value},zv [x] us->∃ u,us=[u]/\zF x u
 | _,_, .cons r .nil=>⟨_,rfl,r⟩
theorem zv.zero:∀ {us:List Value},zv [] us->us=[]
 | _, .nil=>rfl
theorem zv.dropLast {xs:List V} {us:List Value} (h:zv xs us):zv xs.dropLast us.dropLast:=by
 induction h with
 | nil=>exact .nil
 | cons r t ih=>
  cases t with
  | nil=>exact .nil
  | cons q t' =>exact .cons r ih
theorem zv.rep {xs:List V} {us:List Value} (h:zv xs us):∀ k:Nat,zv (List.replicate k xs).flatten (List.replicate k us).flatten
 | 0=> .nil
 | k+1=>by
  rw [List.replicate_succ,List.replicate_succ,List.flatten_cons,List.flatten_cons]
  exact zv.append h (zv.rep h k)
theorem W2 {α:Type} (l:List α):l.eraseIdx (l.length - 1)=l.dropLast:=by
 induction l with
 | nil=>rfl
 | cons a r ih=>
  cases r with
  | nil=>rfl
  | cons b r=>
   have e:(a :: b :: r).length - 1=((b :: r).length - 1)+1:=by
    have h1:(a :: b :: r).length=r.length+2:=rfl
    have h2:(b :: r).length=r.length+1:=rfl
    omega
   rw [e,List.eraseIdx_cons_succ,ih]
   all_goals rfl
theorem Zt (its:List Value):∀ (k:Nat) (acc:List Value),
  List.foldl (fun x1 x2=>x1++x2) acc.toArray (List.replicate k its.toArray)=(acc++(List.replicate k its).flatten).toArray
 | 0,acc=>by simp
 | k+1,acc=>by
  have e:acc.toArray++its.toArray=(acc++its).toArray:=by simp
  have e2:(acc++its)++(List.replicate k its).flatten=acc++(List.replicate (k+1) its).flatten:=by
   rw [List.replicate_succ,List.flatten_cons,List.append_assoc]
  rw [← e2,← Zt its k (acc++its),← e,List.replicate_succ,List.foldl_cons]
section
variable {X:Cx} {pins:List (Addr×Obj)} {σ:St} {H:Hp} {s:Shared} {l b:Addr} {xs ys zs:List V}
theorem Inv.lset {its its' :List Value} {n:Nat} {f:Array Value->Array Value} {t' :Nat} (I:Inv X pins σ H s) (hH:H l=some (.lst xs))
  (e:s.heap.get? l=some { cls:= .type "list",data:= .seq its.toArray n }) (hf:f its.toArray=its'.toArray) (hv:zv ys its') (hz:ys.length<=sizeLine):
  Inv X pins σ (upd H l (.lst ys)) { s with heap:=s.heap.update l (Obj.mapSeq f),toks:=t' }:=by
 have q:=PySem.IsL.update e f
 rw [hf] at q
 refine I.write (x:=l) (e:=l) (by rw [hH]; exact trivial) (.inl rfl) (fun b' u hb hu=>(Heap.get?_update_other s.heap (Obj.mapSeq f) (Ne.symm hb)).trans hu) ⟨_,q⟩ ?_
 exact ⟨hz,its',_,hv,q⟩
theorem Inv.lnew {its:List Value} {t' :Nat} (I:Inv X pins σ H s) (hv:zv ys its) (hz:ys.length<=sizeLine):
  Inv X pins σ (upd H s.heap.objs.size (.lst ys)) { s with heap:=s.heap.push { cls:= .type "list",data:= .seq its.toArray },toks:=t' }:=
 I.laid (fun _ _ q=>Heap.get?_push_of_some _ q) (Nat.le_refl _) ⟨hz,its,0,hv,Heap.get?_push_size _ rfl⟩
theorem Inv.fresh (I:Inv X pins σ H s):H s.heap.objs.size=none:=I.hok.fresh (Nat.le_refl _)
theorem Inv.lstM (I:Inv X pins σ H s) (hH:H l=some (.lst xs)):xs.length<=sizeLine/\∃ (its:List Value) (n:Nat),zv xs its/\xs.length=its.length/\s.heap.get? l=some { cls:= .type "list",data:= .seq its.toArray n }:=by
 obtain ⟨z,its,n,r,e⟩:=I.hok l _ hH
 exact ⟨z,its,n,r,r.length,e⟩
theorem wp {n:Nat} (h:n<=sizeLine):Builtin.List.listTooLong n=false:=by
 unfold Builtin.List.listTooLong
 exact decide_eq_false (by omega)
end
section
variable {X:Cx}
def yx:V->List V->Hp->VK->Prop:=fun x vs H Q=>∃ l xs y,x= .ref l/\vs=[y]/\H l=some (.lst xs)/\xs.length < sizeLine/\Q .non (upd H l (.lst (xs++[y])))
theorem jb:MtM X "list.append" yx:=by
 intro pins s σ H x vs v us Q I rx rv h
 obtain ⟨l,xs,y,rfl,rfl,hH,hz,q⟩:=h
 cases rx
 obtain ⟨u,rfl,ru⟩:=rv.one
 obtain ⟨z,its,n,r,hl,e⟩:=I.lstM hH
 refine call_meets F.slot_list_append ⟨_,e,rfl⟩ F.entry_list_append (F.args_list_append_2 _ _) (PySem.list_append l its.toArray n u (by rw [List.size_toArray]; omega)) ⟨e, ?_⟩
 refine ⟨.non,_,I.lset (its' :=its++[u]) hH e (by simp) (r.append (.cons ru .nil)) ?_,rfl,q⟩
 rw [List.length_append,List.length_singleton]
 omega
def yy:V->List V->Hp->VK->Prop:=fun x vs H Q=>∃ l b xs zs,x= .ref l/\vs=[.ref b]/\H l=some (.lst xs)/\H b=some (.lst zs)/\xs.length+zs.length<=sizeLine/\Q .non (upd H l (.lst (xs++zs)))
theorem WM:MtM X "list.extend" yy:=by
 intro pins s σ H x vs v us Q I rx rv h
 obtain ⟨l,b,xs,zs,rfl,rfl,hH,hB,hz,q⟩:=h
 cases rx
 obtain ⟨u,rfl,ru⟩:=rv.one
 cases ru
 obtain ⟨z,its,n,r,hl,e⟩:=I.lstM hH
 obtain ⟨z2,its2,n2,r2,hl2,e2⟩:=I.lstM hB
 have hsz:its.toArray.size+its2.toArray.size<=sizeLine:=by rw [List.size_toArray,List.size_toArray]; omega
 have hlong:¬ (!its.toArray.isEmpty && Builtin.List.listTooLong (its.toArray.size+its2.toArray.size))=true:=by
  rw [wp hsz,Bool.and_false]
  exact Bool.false_ne_true
 refine call_meets F.slot_list_extend ⟨_,e,rfl⟩ F.entry_list_extend (F.args_list_extend_2 _ _)
  (AutoSeq1.list_extend_list_list_0 l its.toArray n b its2.toArray n2 hlong (by rw [List.size_toArray]; omega) (by omega)) ⟨e,e2, ?_⟩
 refine ⟨.non,_,I.lset (its' :=its++its2) hH e (by simp) (r.append r2) ?_,rfl,q⟩
 rw [List.length_append]
 omega
def gB:V->List V->Hp->VK->Prop:=fun x vs H Q=>∃ l xs y,x= .ref l/\vs=[]/\H l=some (.lst xs)/\xs[xs.length - 1]? =some y/\Q y (upd H l (.lst xs.dropLast))
theorem qE:MtM X "list.pop" gB:=by
 intro pins s σ H x vs v us Q I rx rv h
 obtain ⟨l,xs,y,rfl,rfl,hH,hy,q⟩:=h
 cases rx
 have hus:=rv.zero
 subst hus
 obtain ⟨z,its,n,r,hl,e⟩:=I.lstM hH
 obtain ⟨u,hu,ru⟩:=r.get hy
 have hy' :its.toArray[its.toArray.size - 1]? =some u:=by
  show its.toArray[its.length - 1]? =some u
  rw [← Array.getElem?_toList,← hl]
  exact hu
 refine call_meets F.slot_list_pop ⟨_,e,rfl⟩ F.entry_list_pop (F.args_list_pop_1 _) (MeetsSeq.list_pop_last l its.toArray n u hy' (by rw [List.size_toArray]; omega)) ⟨e, ?_⟩
 refine ⟨y,_,I.lset (its' :=its.dropLast) hH e ?_ r.dropLast ?_,ru,q⟩
 ·show its.toArray.eraseIdxIfInBounds (its.toArray.size - 1)=its.dropLast.toArray
  rw [List.size_toArray,List.eraseIdxIfInBounds_toArray,W2]
 ·rw [List.length_dropLast]
  omega
def gC:R2:=fun x y H Q=>∃ l b xs zs,x= .ref l/\y= .ref b/\H l=some (.lst xs)/\H b=some (.lst zs)/\xs.length+zs.length<=sizeLine/\∀ p,H p=none->Q (.ref p) (upd H p (.lst (xs++zs)))
theorem qF:OpR X (binaryOp .Add) gC:=by
 intro pins s σ H x y v u Q I rx ry h
 obtain ⟨l,b,xs,zs,rfl,rfl,hH,hB,hz,q⟩:=h
 cases rx
 cases ry
 obtain ⟨z,its,n,r,hl,e⟩:=I.lstM hH
 obtain ⟨z2,its2,n2,r2,hl2,e2⟩:=I.lstM hB
 refine PySem.P.add_list e e2 ?_ (by rw [List.size_toArray,List.size_toArray]; omega)
 have ea:its.toArray++its2.toArray=(its++its2).toArray:=by simp
 rw [ea]
 exact ⟨.ref _,_,I.lnew (t' :=s.toks) (r.append r2) (by rw [List.length_append]; omega),rfl,q _ I.fresh⟩
def gD:R2:=fun x y H Q=>∃ l k xs,x= .ref l/\y= .int k/\H l=some (.lst xs)/\ -(2 ^ 63)<=k/\k < 2 ^ 63/\xs.length*k.toNat<=sizeLine/\
 ∀ p,H p=none->Q (.ref p) (upd H p (.lst (List.replicate k.toNat xs).flatten))
theorem JP {α:Type} (xs:List α) (k:Nat):(List.replicate k xs).flatten.length=k*xs.length:=by
 induction k with
 | zero=>simp
 | succ k ih=>rw [List.replicate_succ,List.flatten_cons,List.length_append,ih,Nat.succ_mul,Nat.add_comm]
theorem qG:OpR X (binaryOp .Mult) gD:=by
 intro pins s σ H x y v u Q I rx ry h
 obtain ⟨l,k,xs,rfl,rfl,hH,h1,h2,hz,q⟩:=h
 cases rx
 obtain ⟨t,rfl⟩:=ry
 obtain ⟨z,its,n,r,hl,e⟩:=I.lstM hH
 have hlen:its.toArray.size*k.toNat<=sizeLine:=by rw [List.size_toArray,← hl]; exact hz
 have hcap:¬ its.toArray.size*k.toNat > (2 ^ 63 - 1) / 8:=by
  have:(sizeLine:Nat)<=(2 ^ 63 - 1) / 8:=by decide
  omega
 have hfit:¬ (!Builtin.List.listFitsIndex k)=true:=by
  rw [fitsIndex_both h1 h2]
  exact Bool.false_ne_true
 have hlong:¬ Builtin.List.listTooLong (its.toArray.size*k.toNat)=true:=by
  rw [wp hlen]
  exact Bool.false_ne_true
 have hnew:List.foldl (fun x1 x2=>x1++x2) #[] (List.replicate (if its.toArray.isEmpty=true then 0 else k.toNat) its.toArray)=(List.replicate k.toNat its).flatten.toArray:=by
  have f0:∀ m:Nat,List.foldl (fun x1 x2=>x1++x2) #[] (List.replicate m its.toArray)=(List.replicate m its).flatten.toArray:=fun m=>by
   have:=Zt its m []
   rw [List.nil_append] at this
   exact this
  rw [f0]
  cases its with
  | nil=>simp
  | cons a r' =>rw [if_neg (by simp)]
 refine wpAny_binaryOp_repeat_ref (T:="list") (U:="int") (by decide) ⟨_,e,rfl⟩ (fun s' =>typeIs_int s' k t) noFill_list_mul F.fills_int_mul F.slot_int_rmul repeat_list F.slot_int_index.lookup
  (call_meets F.slot_int_rmul (typeIs_int s k t) F.entry_int_rmul (F.args_int_rmul_2 _ _) (int___rmul___int_list k t l its.toArray n)
   ⟨e,rfl,⟨_,e,rfl⟩,call_meets F.slot_list_mul ⟨_,e,rfl⟩ F.entry_list_mul (F.args_list_mul_2 _ _) (AutoListH.list___mul___list_int_3 l its.toArray n k t hfit hcap hlong) ⟨e, ?_⟩⟩)
 rw [hnew]
 exact ⟨.ref _,_,I.lnew (t' :=s.toks) (r.rep k.toNat) (by rw [JP,Nat.mul_comm]; exact hz),rfl,q _ I.fresh⟩
end
section
variable {prog:Program} {w:World} {A:Around} {E:Value->Shared->Prop} {s:Shared}
end
section
variable {X:Cx}
end
end L2
namespace Att
open PySem PySem.W PySem.Calls PyProof.Rows
theorem jc {P:Params} {h:Heap}:∀ (ns:List Int) (vs:List Value),WellAll P h vs (ns.map WData.int)->IntsAre vs ns:=by
 intro ns
 induction ns with
 | nil=>
  intro vs w
  rw [List.map_nil] at w
  cases w
  exact .nil
 | cons n ns ih=>
  intro vs w
  rw [List.map_cons] at w
  cases w with
  | cons a b=>
   cases a
   exact .cons _ _ (ih _ b)
theorem WN {l:OpenLaw} {n:Nat} (hn:l.most=some n) {P:Params} {h:Heap} {args:List WData} {vals:List Value}
  (hpre:l.row.toRowW.claim.pre args=true) (hwl:WellAll P h vals args):
  ∃ a vs ns,vals=[Value.ref a]/\args=[WData.list (ns.map WData.int)]/\h.get? a=some { cls:= .type "list",data:= .seq vs.toArray }/\IntsAre vs ns/\ns.length<=n:=by
 have hsh:WShape.hasAll [] args [.list .int]=true:=(pre_splitW hpre).1
 have hc:l.pre.holds [] { args:=args }=true:=(pre_splitW hpre).2
 obtain ⟨d,r,rfl,h1,h2⟩:=hasAllW_cons hsh
 obtain rfl:=hasAllW_nil h2
 obtain ⟨xs,rfl,h3⟩:=hasW_list h1
 obtain ⟨ns,rfl⟩:=items_int h3
 have hlen:ns.length<=n:=by
  unfold OpenLaw.pre at hc
  have h4:(WTm.not (.lt (.lit (.int (n:Int))) (.len (.arg 0)))).holds [] { args:=[.list (ns.map .int)] }=true:=by
   have h4:=(holds_andW hc).1
   rw [hn] at h4
   exact h4
  have h5:=condW_of h4 (w_not (w_lt w_lit (w_len_list (w_arg rfl))))
  rw [List.length_map] at h5
  refine Nat.le_of_not_lt fun q=> ?_
  have q' :(n:Int) < ((ns.length:Nat):Int):=by omega
  first
   | (rw [decide_eq_true q'] at h5; exact absurd h5 (by decide))
   | (simp at h5; omega)
 cases hwl with
 | cons w1 w2=>
  cases w2
  cases w1 with
  | list ho hall=>exact ⟨_,_,ns,rfl,rfl,ho,jc ns _ hall,hlen⟩
theorem WO (l:OpenLaw) (args:List WData):l.row.toRowW.claim.post args (.bool true) args=true:=
 postW_of (r:=l.row.toRowW) (X:=(true == true))
  (show WShape.has [] (.bool true) .bool=true by first | rfl | decide | simp [WShape.has,WShape.arms,WShape.armsAll])
  (show (WTm.eq .res (.lit (.bool true))).value [] { args:=args,res:=some (.bool true),after:=args }=some (.bool (true == true)) from w_eq_bool (w_res rfl) w_lit) rfl
theorem attach_call {l:OpenLaw} {n:Nat} {q:Program} {loose:List Str} {XP:(Str->Option Value)->Heap->Prop} {YP:World->Heap->Prop} {d:DefRec}
  (hn:l.most=some n) (hdf:d.params.defaults=[])
  (call:∀ (w:World) (s₀ s₁:Shared) (mg mb:Str->Option Value) (fa:Addr) (o:Obj) (pm cd doc:Value) (a:Addr) (vs:List Value) (ns:List Int),
   Ground q loose [] XP w s₀ mg mb s₁.heap->YP w s₁.heap->
   s₁.heap.get? fa=some o->o.data= .func (docDef d.name d.params d.body d.scope pm cd doc)->s₁.heap.CodeRec cd d.name->mg d.name=some (.ref fa)->
   s₁.heap.get? a=some { cls:= .type "list",data:= .seq vs.toArray }->IntsAre vs ns->ns.length<=n->s₁.gens= #[]->
   codeAny (model l.prog w) callerA (.call (.ref fa) ⟨[.ref a],[]⟩) (fun r s' =>r= .ok (.ret (.bool true))/\OldK s₁.heap s'.heap/\s'.os=s₁.os/\AllBare s'.gens) s₁):
  WalkO q loose XP YP l.row.toRowW d [] (fun f vs=>PySem.call f vs):=by
 intro w s₀ s₁ mg mb G Y fa o pm cd doc dV kV ho hd hcd hD hmg hg args vals as hpre hlay hrd hwl hlo
 obtain rfl:dV= .none:=Dflts.none hD hdf
 obtain rfl:kV= .none:=Dflts.noKw hD
 obtain ⟨a,vs,ns,rfl,rfl,hobj,hints,hlen⟩:=WN hn hpre hwl
 refine enter_call (codeAny_mono (call w s₀ s₁ mg mb fa o pm cd doc a vs ns G Y ho (fd_plain hd) hcd hmg hobj hints hlen hg) fun r s' hq=> ?_)
 obtain ⟨rfl,h2,h3,h4⟩:=hq
 exact ⟨.inl ⟨.bool true, .bool true,[],rfl,fun _=>rfl, .bool true,WO l _,fun _=>⟨List.Pairwise.nil,fun _ hm=>(nomatch hm)⟩⟩,h2,h3,h4⟩
section
variable {prog:Program} {w:World} {A:Around} {E:Value->Shared->Prop} {s:Shared} {K:Frag}
end
end Att
namespace L2
open PySem PySem.Spec PyProof.Rows
theorem Jk:∀ {vs:List Value} {ns:List Int},IntsAre vs ns->zv (ns.map V.int) vs
 | _,_, .nil=> .nil
 | _,_, .cons n t h=> .cons ⟨t,rfl⟩ (Jk h)
end L2
namespace L2
open PySem PySem.Spec PyProof.Rows
end L2
namespace L2
open PySem PySem.Spec PyProof.Rows
def zP (s:Stmt):Arguments:=match s with
 | .FunctionDef _ a _ _ _ _ _ _ _ _=>a
 | _=>{ posonlyargs:=[],args:=[],vararg:=none,kwonlyargs:=[],kw_defaults:=[],kwarg:=none,defaults:=[] }
def zr (s:Stmt):List Stmt:=match s with
 | .FunctionDef _ _ b _ _ _ _ _ _ _=>b
 | _=>[]
def z9 (s:Stmt):Scope:=match s with
 | .FunctionDef _ _ _ _ _ _ sc _ _ _=>sc
 | _=>{ kind:= .function,names:=[],isGenerator:=false,isCoroutine:=false }
abbrev CX0:CXT:=fun _ _ _ _ _ _=>False
structure Fun (K:PySem.W.Frag) (x qual:Str) (st:Stmt) (f:Addr) (fd:FuncData):Prop where
 ex:∃ (oc:Value) (od:Option Addr) (kV doc pm:Value) (an:Option Addr) (cdv ct:Value) (osl:Array (Option Value)),
  fd=PySem.W.fnOf x qual (zP st) (zr st) (z9 st) .none kV doc pm an cdv ct/\K.lookup f=some ⟨oc,od, .func fd,osl⟩/\PySem.W.codeIn K cdv qual=true
 kp:PySem.W.keepIn K (.ref f)=true
section
variable {P:Program} {w:World} {K:PySem.W.Frag} {mg:Str->Option Value} {base:Heap}
theorem Fun.ok {x qual:Str} {st:Stmt} {f:Addr} {fd:FuncData} {N ps:List Str} {k:Nat} {sp:Sp} (F:Fun K x qual st f fd) (S:za N ps (z9 st)) (len:∀ vs H Q E,sp vs H Q E->vs.length=ps.length)
  (hbody:∀ (cdv:Value) (A:Around) (outer:List Env) (s:Shared) (H:Hp) (vs:List V) (Q:VK) (E:XK),zQ k (A.deeper (envOfC qual (z9 st) s.heap.objs.size f cdv))->sp vs H Q E->
   ∃ t,PSs (Zr CX0 P w K mg base N qual (z9 st) f cdv A outer s H E).nox (zr st) t/\t { nx:=fun _ H' =>Q .non H',rt:=Q } (start N vs) H):zq P w K mg base CX0 (k+1) f fd ps sp:=by
 obtain ⟨oc,od,kV,doc,pm,an,cdv,ct,osl,rfl,lk,hcd⟩:=F.ex
 refine ym lk hcd S len fun A outer s H vs Q E hr hsp=> ?_
 obtain ⟨t,h,q⟩:=hbody cdv A outer s H vs Q E hr hsp
 exact ⟨t,h.nox,q⟩
theorem Fun.binds {x qual:Str} {st:Stmt} {f:Addr} {fd:FuncData} {ps:List Str} (F:Fun K x qual st f fd)
  (h:∀ (kV doc pm:Value) (an:Option Addr) (cdv ct:Value) (us:List Value),us.length=ps.length->bindArgs (PySem.W.fnOf x qual (zP st) (zr st) (z9 st) .none kV doc pm an cdv ct) ⟨us,[]⟩=pure (ps.zip us)):Binds K fd ps []:=by
 obtain ⟨oc,od,kV,doc,pm,an,cdv,ct,osl,rfl,lk,hcd⟩:=F.ex
 exact .all (h kV doc pm an cdv ct)
theorem UJ {x qual:Str} {st:Stmt} {f:Addr} {oc:Value} {od an:Option Addr} {osl:Array (Option Value)} {kV doc pm cdv ct:Value} (l:K.lookup f=some ⟨oc,od, .func (PySem.W.fnOf x qual (zP st) (zr st) (z9 st) .none kV doc pm an cdv ct),osl⟩)
  (c:PySem.W.codeIn K cdv qual=true) (k:PySem.W.keepIn K (.ref f)=true):Fun K x qual st f (PySem.W.fnOf x qual (zP st) (zr st) (z9 st) .none kV doc pm an cdv ct):=⟨⟨oc,od,kV,doc,pm,an,cdv,ct,osl,rfl,l,c⟩,k⟩
end
section
variable {X:Cx}
theorem pv (i:Nat) {x:Str} {pos:Pos} (hN:X.N[i]? =some x:=by rfl) (hv:Vis X.env.scope x:=by first | exact Or.inl rfl | exact Or.inr (Or.inl rfl) | exact Or.inr (Or.inr rfl)) (hd:(x == ("__debug__":Str))=false:=by decide)
  (hcd:(x == ("__classdict__":Str))=false:=by decide):PE X (.Name x pos) (j5 i):=Wp hN hv hd hcd
end
def zg (H H' :Hp):Prop:=∀ b o,H b=some o->H' b=some o
theorem zg.refl (H:Hp):zg H H:=fun _ _ h=>h
theorem zg.trans {H H1 H2:Hp} (a:zg H H1) (b:zg H1 H2):zg H H2:=fun c o h=>b c o (a c o h)
theorem zg.free {H H' :Hp} (e:zg H H') {l:Addr} (h:H' l=Option.none):H l=Option.none:=by
 cases q:H l with
 | none=>rfl
 | some o=>
  rw [e l o q] at h
  cases h
end L2
namespace L2
open PySem PySem.Spec PyProof.Rows PySem.W
theorem wq {env:Env} {outer:List Env} {L:Addr} (h:env.frame=some L):frs (env :: outer)=L :: frs outer:=by
 unfold frs; rw [List.filterMap_cons,h]
structure JQ (P:Program) (w:World) (outer:List Env) (H:Hp) (s s' :Shared) (ea:Addr) (cls a0:Value) (B:Heap) (H' :Hp):Prop where
 os:s'.os=s.os
 bare:AllBare s'.gens
 fly:Heap.FlyingW B outer ea cls a0 s'.heap
 hok:HOk P w H' B
 un:Un (frs outer) [] H H' s.heap s'.heap
 inB:∀ b o,s.heap.get? b=some o->b ∉ frs outer->(H b=none->B.get? b=some o)/\∃ o',B.get? b=some o'
def CX1 (P:Program) (w:World):CXT:=fun outer H s E e s' =>∃ ea cls a0 B H',e= .ref ea/\JQ P w outer H s s' ea cls a0 B H' /\E cls none H'
section
variable {X:Cx} {pins:List (Addr×Obj)} {σ:St} {H H' :Hp} {s s' :Shared} {ea:Addr} {cls a0:Value} {B:Heap} {h' h'' :Heap}
theorem Inv.frNf (I:Inv X pins σ H s):∀ b∈frs X.stack,H b=none/\∃ o,s.heap.get? b=some o/\∀ vs,o.data ≠ .fields vs:=fun b hb=>⟨I.stkFree b hb,(I.stack.mem hb).2⟩
theorem JQ.on {P:Program} {w:World} {outer:List Env} (L:JQ P w outer H s s' ea cls a0 B H') (ff:∀ b∈frs outer,H b=none/\∃ o,s.heap.get? b=some o/\∀ vs,o.data ≠ .fields vs)
  (fl:Heap.FlyingW B outer ea cls a0 h') (sl:s'.heap.UpToSlots h'):JQ P w outer H s { s' with heap:=h' } ea cls a0 B H' where
 os:=L.os
 bare:=L.bare
 fly:=fl
 hok:=L.hok
 inB:=L.inB
 un:=by
  have slot:∀ b o,s.heap.get? b=some o->H b=none->b∈frs outer->∃ sl,h'.get? b=some { o with slots:=sl }:=fun b o e n hb=>by
   obtain ⟨sl1,e1⟩:=L.un.slot b o e n hb (by simp)
   obtain ⟨_,o2,e2,nf⟩:=ff b hb
   rw [e] at e2; cases e2
   obtain ⟨sl2,e3⟩:=sl b _ e1 nf
   exact ⟨sl2,e3⟩
  exact ⟨fun b o e n hb _=>fl.1 b o ((L.inB b o e hb).1 n),fun b o e n hb _=>slot b o e n hb,L.un.free,fun b o e _=>by
   by_cases hb:b∈frs outer
   ·obtain ⟨sl1,e1⟩:=slot b o e (ff b hb).1 hb
    exact ⟨_,e1⟩
   ·obtain ⟨o',e'⟩:=(L.inB b o e hb).2
    exact ⟨o',fl.1 b o' e'⟩,L.un.tups,L.un.frzs,L.un.tbls⟩
theorem Inv.old (I:Inv X pins σ H s) {b:Addr} {o:Obj} (hX:X.stack=X.env :: X.outer) (hf:X.env.frame=some X.env.locals) (e:X.s₀.heap.get? b=some o) (hb:b ∉ frs X.outer):b ∉ frs X.stack:=by
 rw [hX,wq hf]
 intro z
 rcases List.mem_cons.mp z with z | z
 ·exact absurd (Nat.lt_of_lt_of_le (Heap.lt_size e) I.ok.above) (by rw [z]; exact Nat.lt_irrefl _)
 ·exact hb z
theorem JR {X:Cx} (hX:X.stack=X.env :: X.outer) (hf:X.env.frame=some X.env.locals) {b:Addr} (hb:b∈frs X.outer):b∈frs X.stack:=by
 rw [hX,wq hf]; exact List.mem_cons_of_mem _ hb
theorem JQ.out (I:Inv X pins σ H s) (hX:X.stack=X.env :: X.outer) (hf:X.env.frame=some X.env.locals) (hex:X.ex=[]) (L:JQ X.prog X.w X.stack H s s' ea cls a0 B H')
  (fl:Heap.FlyingW B X.outer ea cls a0 h') (sl:s'.heap.UpToSlots h'):JQ X.prog X.w X.outer X.H₀ X.s₀ { s' with heap:=h' } ea cls a0 B H' where
 os:=L.os.trans I.os
 bare:=L.bare
 fly:=fl
 hok:=L.hok
 inB:=fun b o e hb=>by
  have nx:b ∉ X.ex:=by rw [hex]; simp
  obtain ⟨o1,e1⟩:=I.base.there b o e nx
  have hb' :=I.old hX hf e hb
  exact ⟨fun n=>(L.inB b o (I.base.keep b o e n hb nx) hb').1 (I.base.free b o e n nx),(L.inB b o1 e1 hb').2⟩
 un:=by
  have nx:∀ b,b ∉ X.ex:=fun b=>by rw [hex]; simp
  have slot:∀ b o,X.s₀.heap.get? b=some o->X.H₀ b=none->b∈frs X.outer->∃ sl,h'.get? b=some { o with slots:=sl }:=fun b o e n hb=>by
   obtain ⟨sl1,e1⟩:=I.base.slot b o e n hb (nx b)
   have n1:=I.base.free b o e n (nx b)
   obtain ⟨sl2,e2⟩:=L.un.slot b _ e1 n1 (JR hX hf hb) (by simp)
   obtain ⟨_,o3,e3,nf⟩:=I.frNf b (JR hX hf hb)
   rw [e1] at e3; cases e3
   obtain ⟨sl4,e4⟩:=sl b _ e2 nf
   exact ⟨sl4,e4⟩
  refine ⟨fun b o e n hb _=> ?_,fun b o e n hb _=>slot b o e n hb,fun b o e n _=> ?_,fun b o e _=> ?_,fun b xs e=>L.un.tups b xs (I.base.tups b xs e),fun b o xs e=>L.un.frzs b o xs (I.base.frzs b o xs e),fun b ps q e=>L.un.tbls b ps q (I.base.tbls b ps q e)⟩
  ·exact fl.1 b o ((L.inB b o (I.base.keep b o e n hb (nx b)) (I.old hX hf e hb)).1 (I.base.free b o e n (nx b)))
  ·obtain ⟨o1,e1⟩:=I.base.there b o e (nx b)
   exact L.un.free b o1 e1 (I.base.free b o e n (nx b)) (by simp)
  ·by_cases hb:b∈frs X.outer
   ·obtain ⟨sl1,e1⟩:=slot b o e (I.ok.frf b hb) hb
    exact ⟨_,e1⟩
   ·obtain ⟨o1,e1⟩:=I.base.there b o e (nx b)
    obtain ⟨o',e'⟩:=(L.inB b o1 e1 (I.old hX hf e hb)).2
    exact ⟨o',fl.1 b o' e'⟩
theorem JQ.made (I:Inv X pins σ H s) (hX:X.stack=X.env :: X.outer) (hf:X.env.frame=some X.env.locals) (hex:X.ex=[]) {vs:List Value} (hx:Heap.MadeExcOf s.heap h' ea cls vs)
  (fl:Heap.FlyingW (hideAll s.heap (frs X.stack)) X.outer ea cls a0 h'') (sl:h'.UpToSlots h''):JQ X.prog X.w X.outer X.H₀ X.s₀ { s with heap:=h'' } ea cls a0 (hideAll s.heap (frs X.stack)) H where
 os:=I.os
 bare:=I.bare
 fly:=fl
 hok:=fun a o e=>(I.hok a o e).stay (fun b u hb q=>hideAll_get _ q fun z=>by
   have:=I.stkFree b z
   rcases hb with rfl | hb
   ·rw [e] at this; cases this
   ·rw [hb] at this; cases this) (fun _ q=>q) fun _ _ q=>q
 inB:=fun b o e hb=>by
  have nx:b ∉ X.ex:=by rw [hex]; simp
  obtain ⟨o1,e1⟩:=I.base.there b o e nx
  have hb' :=I.old hX hf e hb
  exact ⟨fun n=>hideAll_get _ (I.base.keep b o e n hb nx) hb',o1,hideAll_get _ e1 hb'⟩
 un:=by
  have nx:∀ b,b ∉ X.ex:=fun b=>by rw [hex]; simp
  have slot:∀ b o,X.s₀.heap.get? b=some o->X.H₀ b=none->b∈frs X.outer->∃ sl,h''.get? b=some { o with slots:=sl }:=fun b o e n hb=>by
   obtain ⟨sl1,e1⟩:=I.base.slot b o e n hb (nx b)
   obtain ⟨_,o3,e3,nf⟩:=I.frNf b (JR hX hf hb)
   rw [e1] at e3; cases e3
   obtain ⟨sl4,e4⟩:=sl b _ (hx.keeps b _ e1) nf
   exact ⟨sl4,e4⟩
  refine ⟨fun b o e n hb _=> ?_,fun b o e n hb _=>slot b o e n hb,fun b o e n _=>I.base.free b o e n (nx b),fun b o e _=> ?_,I.base.tups,I.base.frzs,I.base.tbls⟩
  ·exact fl.1 b o (hideAll_get _ (I.base.keep b o e n hb (nx b)) (I.old hX hf e hb))
  ·by_cases hb:b∈frs X.outer
   ·obtain ⟨sl1,e1⟩:=slot b o e (I.ok.frf b hb) hb
    exact ⟨_,e1⟩
   ·obtain ⟨o1,e1⟩:=I.base.there b o e (nx b)
    exact ⟨o1,fl.1 b o1 (hideAll_get _ e1 (I.old hX hf e hb))⟩
end
section
variable {P:Program} {w:World} {K:Frag} {mg:Str->Option Value} {base:Heap} {N:List Str} {qual:Str} {scope:Scope} {f:Addr} {cd:Value} {A:Around} {outer:List Env} {s:Shared} {H:Hp} {E:XK}
theorem zL:zz (CX1 P w) (Zr (CX1 P w) P w K mg base N qual scope f cd A outer s H E) E:=by
 intro pins σ H1 s1 e s' I ⟨ea,cls,a0,B,H',he,L,hE⟩
 subst he
 exact wpAny_leaves_onW (base:=B) I.ok.frames rfl L.fly fun h' fl sl=>⟨ea,cls,a0,B,H',rfl,L.out I rfl rfl rfl fl sl,hE⟩
theorem WP {x:Str} {C:Addr} {bm bmN:List Value} {Bn Bb newId nid initId inN:String} {np cpos pos:Pos} {e:Expr} {t:TA} (O:OwnCls x C bm newId mg base) (Fn:ExcBaseFacts Bn newId inN bmN) (hBn:bm.contains (.type Bn)=true) (FB:ExcBaseFacts Bb nid initId bm)
  (hg:Gl (Zr (CX1 P w) P w K mg base N qual scope f cd A outer s H E) x) (ha:PA (Zr (CX1 P w) P w K mg base N qual scope f cd A outer s H E) [e] t)
  (he:starEach [e] (envOfC qual scope s.heap.objs.size f cd)=[(false,eval e (envOfC qual scope s.heap.objs.size f cd))]) (hd:(x == ("__debug__":Str))=false:=by decide):
  PS (Zr (CX1 P w) P w K mg base N qual scope f cd A outer s H E) (.Raise (some (.Call (.Name x np) [e] [] cpos)) none pos) (fun _ σ H1=>t σ H1 fun vs H2=>vs.length<=sizeLine/\E (.ref C) none H2):=by
 intro pins s1 σ H1 D I hw
 obtain ⟨tl,N',nm,q,bs,hdct,sn,sub,ab,col,dd,k0,k1,k2,k3,k5,mN,hC,hN,hni,T⟩:=O.obj
 have hp:(backTo cpos (starEach [e] (envOfC qual scope s.heap.objs.size f cd))).any (·.1)=false:=by rw [he]; rfl
 refine wpAny_Raise_call_subU (C:=C) (nm:=nm) (q:=q) (N:=N') (bs:=bs) (bm:=tl) (hdct:=hdct) (sn:=sn) (sub:=sub) (ab:=ab) (col:=col) (dd:=dd) (k0:=k0) (k1:=k1) (k2:=k2) (k3:=k3) (k5:=k5)
  Fn hBn FB (mN:=mN) (T.hasType FB.hasBase) (I.ok.hd rfl) hp hni (Zm I hg O.bound ⟨rfl, ?_⟩ hd)
 have h2:=ha cpos pins s1 σ H1 _ I hw
 have he' :starEach [e] (Zr (CX1 P w) P w K mg base N qual scope f cd A outer s H E).env=[(false,eval e (Zr (CX1 P w) P w K mg base N qual scope f cd A outer s H E).env)]:=he
 rw [he'] at h2 ⊢
 refine Calls.evalArgs_plain (thn h2 fun us s2 ⟨vs,H2,I2,r,hl,hE⟩=>⟨rfl,by rw [← r.length]; exact hl,I2.bk _ _ hC,hN.keeps I2.bk,T.keeps I2.bk,fun h' ea hx=> ?_⟩)
 have hin:∀ env∈(Zr (CX1 P w) P w K mg base N qual scope f cd A outer s H E).stack,∀ b,env.frame=some b->b∈frs (Zr (CX1 P w) P w K mg base N qual scope f cd A outer s H E).stack:=fun env he b hb=>List.mem_filterMap.mpr ⟨env,he,hb⟩
 exact wpAny_leaves_madeW (base:=hideAll s2.heap (frs (Zr (CX1 P w) P w K mg base N qual scope f cd A outer s H E).stack)) (h:=s2.heap) I2.ok.frames rfl (fun b o q=>of_hideAll _ q) (funFrames_hide I2.stack hin) hx fun h'' t' fl _ _ sl=>
  ⟨ea, .ref C, .ref t',_,H2,rfl,JQ.made I2 rfl rfl rfl hx fl sl,hE⟩
end
end L2
namespace L2
open PySem PySem.Spec PyProof.Rows PySem.W
theorem zK.there {P:Program} {w:World} {H:Hp} {h:Heap} {a:Addr} {o:HO} (x:zK P w H h a o):∃ ob,h.get? a=some ob:=by
 cases o with
 | lst xs=>obtain ⟨_,_,_,_,e⟩:=x; exact ⟨_,e⟩
 | tup xs=>obtain ⟨_,_,_,⟨_,e,_⟩,_⟩:=x; exact ⟨_,e⟩
 | dK kvs=>obtain ⟨_,_,_,_,o,_,_,e,_⟩:=x; exact ⟨_,e⟩
 | dT kvs=>obtain ⟨_,_,_,_,o,_,_,e,_⟩:=x; exact ⟨_,e⟩
 | set S n=>obtain ⟨o,_,_,_,e,_⟩:=x; exact ⟨_,e⟩
 | ins C dx fs=>obtain ⟨_,_,_,e,_⟩:=x; exact ⟨_,e⟩
 | own y=>obtain ⟨_,e⟩:=x; exact ⟨_,e⟩
 | xd fs=>obtain ⟨_,⟨_,_,_,e,_⟩,_⟩:=x; exact ⟨_,e⟩
 | rng lo hi=>obtain ⟨_,_,_,e⟩:=x; exact ⟨_,e⟩
 | frz ob u=>obtain ⟨e,_⟩:=x; exact ⟨_,e⟩
 | tbl ps q=>obtain ⟨_,e,_⟩:=x; exact ⟨_,e⟩
 | met f y=>exact ⟨_,(show h.get? a=some _ from x)⟩
 | ext φ=>obtain ⟨_,e,_⟩:=x; exact e
def wt (cls:Value) (a:Addr) (h:Heap):Prop:=∃ o,h.get? a=some o/\o.cls=cls
theorem wt.ok {P:Program} {w:World} {H:Hp} {h:Heap} {a:Addr} {cls:Value} (x:wt cls a h):zK P w H h a (.ext (wt cls a)):=
 ⟨x,let ⟨o,e,_⟩:=x; ⟨o,e⟩,fun _ _ ⟨o,e,c⟩ k=>⟨o,k o e,c⟩⟩
abbrev Cx.try' (X:Cx) (pn:List (Addr×Obj)) (xe:Value->Shared->Prop):Cx:={ X with pn:=pn,xe:=xe }
abbrev Cx.mark' (X:Cx) (e:Value):Cx:={ X with A:=X.A.mark (some e),calm:=false,xe:=fun _ _=>False }
section
variable {X:Cx} {pins pins' :List (Addr×Obj)} {σ:St} {H H' :Hp} {s s' :Shared} {xe:Value->Shared->Prop}
theorem Cx.Ok.try' (ok:X.Ok) {pn:List (Addr×Obj)}:(X.try' pn xe).Ok:=
 ⟨ok.mod,ok.kind,ok.glob,ok.blt,ok.above,ok.inj,ok.has,ok.cab,ok.hd,ok.frames,ok.stk,ok.exf,ok.bs,ok.bsz,ok.noex,ok.exfs,ok.funs,ok.frf⟩
theorem Cx.Ok.untry {pn:List (Addr×Obj)} (ok:(X.try' pn xe).Ok):X.Ok:=
 ⟨ok.mod,ok.kind,ok.glob,ok.blt,ok.above,ok.inj,ok.has,ok.cab,ok.hd,ok.frames,ok.stk,ok.exf,ok.bs,ok.bsz,ok.noex,ok.exfs,ok.funs,ok.frf⟩
theorem Inv.try' (I:Inv X pins σ H s) (xe:Value->Shared->Prop):Inv (X.try' (X.pn++pins) xe) [] σ H s:=
 ⟨I.ok.try',I.os,I.bare,I.base,I.loc,I.cell,I.free,I.freeC,fun p hp=>I.pin p (by simpa using hp),I.hok,I.len⟩
theorem Inv.untry (I:Inv (X.try' (X.pn++pins) xe) pins' σ H s):Inv X pins σ H s:=
 ⟨I.ok.untry,I.os,I.bare,I.base,I.loc,I.cell,I.free,I.freeC,fun p hp=>I.pin p (List.mem_append_left _ hp),I.hok,I.len⟩
theorem Inv.mark' (I:Inv X pins σ H s) (e:Value):Inv (X.mark' e) pins σ H s:=
 ⟨⟨I.ok.mod,I.ok.kind,I.ok.glob,I.ok.blt,I.ok.above,I.ok.inj,I.ok.has,I.ok.cab,fun z=>(by cases z),I.ok.frames,I.ok.stk,I.ok.exf,I.ok.bs,I.ok.bsz,I.ok.noex,I.ok.exfs,I.ok.funs,I.ok.frf⟩,I.os,I.bare,I.base,I.loc,I.cell,I.free,I.freeC,I.pin,I.hok,I.len⟩
theorem Inv.unmark {e:Value} (I:Inv (X.mark' e) pins σ H s) (hd:X.calm=true->X.A.handled=none):Inv X pins σ H s:=
 ⟨⟨I.ok.mod,I.ok.kind,I.ok.glob,I.ok.blt,I.ok.above,I.ok.inj,I.ok.has,I.ok.cab,hd,I.ok.frames,I.ok.stk,I.ok.exf,I.ok.bs,I.ok.bsz,I.ok.noex,I.ok.exfs,I.ok.funs,I.ok.frf⟩,I.os,I.bare,I.base,I.loc,I.cell,I.free,I.freeC,I.pin,I.hok,I.len⟩
theorem SP.untry {D:Wo} {f:Flow} {pins' :List (Addr×Obj)} (h:SP (X.try' (X.pn++pins) xe) pins' D f s'):SP X pins D f s' :=by
 cases f with
 | next=>obtain ⟨σ',H',I,q⟩:=h; exact ⟨σ',H',I.untry,q⟩
 | brk=>obtain ⟨σ',H',I,q⟩:=h; exact ⟨σ',H',I.untry,q⟩
 | cont=>obtain ⟨σ',H',I,q⟩:=h; exact ⟨σ',H',I.untry,q⟩
 | ret u=>obtain ⟨v,σ',H',I,r,q⟩:=h; exact ⟨v,σ',H',I.untry,r,q⟩
theorem yz {A:Around} {E:Value->Shared->Prop} {M:Model} {i:Nat} {n:Str} {pos:Pos} {Q:Unit->Shared->Prop} (I:Inv X pins σ H s) (hN:X.N.Nodup) (hi:X.N[i]? =some n) (hl:X.env.kindOf n=some .local) (h:∀ s',Inv X pins (σ.set i none) H s' ->Q () s'):
  wpAny M A (do bindName X.env n .none; unbindBehindTheSuite X.env n pos) Q E s:=by
 obtain ⟨m,hn,hlo⟩:=id I.loc
 have hcls:(X.env.scope.kind == .class || (X.env.scope.kind == .module && X.env.locals != X.env.globals))=false:=by rw [I.ok.kind]; rfl
 refine wpAny_nameGoes_keeps hl hn hcls fun h' v hn' hs=> ?_
 obtain ⟨oL,_,_,hoL,_⟩:=id hn
 refine h _ ⟨I.ok,I.os,I.bare,⟨fun b o e n hb hx=> ?_,fun b o e n hb hx=> ?_,I.base.free,fun b o e hx=> ?_,I.base.tups,I.base.frzs,I.base.tbls⟩,⟨_,hn',fun j y v' e1 e2 e3=> ?_⟩,fun y c e=> ?_,I.free,I.freeC,fun p hp=> ?_,fun b ob e=> ?_,by simpa using I.len⟩
 ·exact (hs.2 b (Nat.ne_of_lt (Nat.lt_of_lt_of_le (Heap.lt_size e) I.ok.above))).trans (I.base.keep b o e n hb hx)
 ·obtain ⟨sl,e1⟩:=I.base.slot b o e n hb hx
  exact ⟨sl,(hs.2 b (Nat.ne_of_lt (Nat.lt_of_lt_of_le (Heap.lt_size e) I.ok.above))).trans e1⟩
 ·obtain ⟨o',e1⟩:=I.base.there b o e hx
  exact ⟨o',(hs.2 b (Nat.ne_of_lt (Nat.lt_of_lt_of_le (Heap.lt_size e) I.ok.above))).trans e1⟩
 ·by_cases hj:j=i
  ·subst hj
   have hiσ:j < σ.length:=by rw [I.len]; exact (List.getElem?_eq_some_iff.mp hi).1
   rw [List.getElem?_set_self hiσ] at e2
   cases e2
  ·rw [List.getElem?_set_ne (Ne.symm hj)] at e2
   obtain ⟨u',r',q⟩:=hlo j y v' e1 e2 e3
   refine ⟨u',r', ?_⟩
   rcases q with ⟨k,e⟩ | ⟨k,c,e,z⟩
   ·refine .inl ⟨k, ?_⟩
    have:y ≠ n:=fun e=>hj (jN hN e1 (e ▸ hi))
    simp [this,e]
   ·exact .inr ⟨k,c,e,z.sameBut hs (I.cne y c e)⟩
 ·obtain ⟨w',z⟩:=I.cell y c e
  exact ⟨w',z.sameBut hs (I.cne y c e)⟩
 ·obtain ⟨e,n,ne,nf,d⟩:=I.pin p hp
  exact ⟨(hs.2 p.1 ne).trans e,n,ne,nf,d⟩
 ·refine (I.hok b ob e).stay (fun c w' hc q=>(hs.2 c ?_).trans q) (fun _ q=>q) fun _ _ q=>q
  rintro rfl
  rcases hc with rfl | hc
  ·rw [I.free] at e; cases e
  ·rw [I.free] at hc; cases hc
end
section
variable {prog:Program} {w:World} {A:Around} {E:Value->Shared->Prop} {s:Shared} {env:Env}
theorem W3 {K:Frag} {e:Addr} {cls c:Value} {t:Expr} {n:Str} {b₀:Stmt} {suite:List Stmt} {pos:Pos} {rest:List ExceptHandler} {Q:Flow->Shared->Prop} (hx:exmOne K cls c=some true)
  (h:wpAny (model prog w) (A.mark (some (.ref e))) (eval t env) (fun v s₁=>v=c/\K.In s₁.heap/\(∃ oe,s₁.heap.get? e=some oe/\oe.cls=cls)/\
   wpAny (model prog w) (A.mark (some (.ref e))) (setFlight (.ref e) none) (fun _ s₂=>
     wpAny (model prog w) (A.mark (some (.ref e))) (storeName env n (.ref e)) (fun _ s₃=>
      wpAny (model prog w) (A.mark (some (.ref e))) (execs (b₀ :: suite) env)
       (fun f s₄=>wpAny (model prog w) A (do bindName env n .none; unbindBehindTheSuite env n pos) (fun _ s₅=>Q f s₅) E s₄)
       (fun _ _=>False) s₃) (fun _ _=>False) s₂) (fun _ _=>False) s₁) (fun _ _=>False) s):
  wpAny (model prog w) A (handleBy (.ref e) env (.ExceptHandler (some t) (some n) (b₀ :: suite) pos :: rest)) Q E s:=by
 refine wpAny_handleBy_cons (codeAny_handlers_test (wpAny_mono h (fun v s₁ h₁=> ?_) fun _ _ y=>y.elim)) (by intro q; cases q)
 obtain ⟨rfl,X,⟨oe,he,hcls⟩,hk⟩:=h₁
 have LT:Looks (model prog w) s₁.heap (typeOf (.ref e)) cls:=by
  rw [← hcls]
  exact (Looks.ld he).andThen .now
 refine (exm_one X LT hx) _ _ _ _ (fun b o q=>q) (codeAny_handlers_suite_as ?_)
 exact wpAny_mono hk (fun _ s₂ h₂=>wpAny_mono h₂ (fun _ s₃ h₃=>wpAny_mono h₃ (fun _ _ y=>y) fun _ _ y=>y.elim) fun _ _ y=>y.elim) fun _ _ y=>y.elim
end
end L2
namespace L2
open PySem PySem.Spec PyProof.Rows PySem.W
section
variable {X:Cx} {pins:List (Addr×Obj)} {σ:St} {H H' :Hp} {s s' :Shared} {ea:Addr} {cls a0:Value} {B:Heap} {h3:Heap}
theorem Inv.caught (I:Inv X pins σ H s) (L:JQ X.prog X.w X.stack H s s' ea cls a0 B H') (fl:Heap.FlyingW B X.stack ea cls a0 h3) (sl:s'.heap.UpToSlots h3):Inv X pins σ H' { s' with heap:=h3 }:=
 have L3:=L.on I.frNf fl sl
 I.call' (ch:=[]) L3.os L3.un (L.hok.kept fl.1) L3.bare (fun b z=>absurd z (by simp))
theorem JQ.fresh {P:Program} {w:World} {outer:List Env} (L:JQ P w outer H s s' ea cls a0 B H'):H' ea=none:=by
 cases q:H' ea with
 | none=>rfl
 | some o=>
  obtain ⟨ob,e⟩:=(L.hok ea o q).there
  have:=L.fly.2.1
  rw [e] at this; cases this
theorem Inv.caughtX (I:Inv X pins σ H s) (L:JQ X.prog X.w X.stack H s s' ea cls a0 B H') (fl:Heap.FlyingW B X.stack ea cls a0 h3) (sl:s'.heap.UpToSlots h3):Inv X pins σ (upd H' ea (.ext (wt cls ea))) { s' with heap:=h3 }:=by
 have L3:=L.on I.frNf fl sl
 have hfree:=L.fresh
 obtain ⟨oe,vs,he,hc,hd,_⟩:=fl.first
 have hne:∀ b o,s.heap.get? b=some o->b ≠ ea:=fun b o e z=>by
  subst z
  by_cases hb:b∈frs X.stack
  ·obtain ⟨n,o2,e2,nf⟩:=I.frNf b hb
   obtain ⟨sl1,e3⟩:=L3.un.slot b o2 e2 n hb (by simp)
   have e3:h3.get? b=some { o2 with slots:=sl1 }:=e3
   rw [he] at e3; cases e3
   exact nf vs hd
  ·obtain ⟨o',e'⟩:=(L.inB b o e hb).2
   have:=L.fly.2.1
   rw [e'] at this; cases this
 have nt:∀ b u,H' b=some u->b ≠ ea:=fun b u e z=>by rw [z,hfree] at e; cases e
 refine I.call' (ch:=[]) L3.os ⟨L3.un.keep,L3.un.slot,fun b o e n hx=> ?_,L3.un.there,fun b xs e=> ?_,fun b o xs e=> ?_,fun b ps q e=> ?_⟩ ?_ L3.bare (fun b z=>absurd z (by simp))
 ·rw [zd (hne b o e)]; exact L3.un.free b o e n hx
 ·have:=L3.un.tups b xs e
  rw [zd (nt b _ this)]; exact this
 ·have:=L3.un.frzs b o xs e
  rw [zd (nt b _ this)]; exact this
 ·have:=L3.un.tbls b ps q e
  rw [zd (nt b _ this)]; exact this
 ·intro b u e
  by_cases hb:b=ea
  ·subst hb
   rw [zi] at e; cases e
   exact wt.ok ⟨oe,he,hc⟩
  ·rw [zd hb] at e
   exact ((L.hok.kept fl.1) b u e).stay (fun _ _ _ q=>q) (fun c q=>by rw [zd (nt c _ q)]; exact q) (fun c xs q=>by rw [zd (nt c _ q)]; exact q) fun c o u q=>by rw [zd (nt c _ q)]; exact q
end
end L2
namespace PySem
open PySem.W
section
variable {M:Model} {A:Around} {E:Value->Shared->Prop} {s:Shared}
end
end PySem
namespace L2
open PySem PySem.Spec PyProof.Rows PySem.W
section
variable {X:Cx} {pins:List (Addr×Obj)} {σ:St} {H H' :Hp} {s s' :Shared} {ea C:Addr} {cls a0:Value} {B:Heap} {h' :Heap}
def qH (X:Cx) (E:XK):Prop:=∀ (pins:List (Addr×Obj)) (σ:St) (H:Hp) (s:Shared) (e:Value) (s' :Shared) (C:Addr) (m:Str->Option Value) (E' :Value->Shared->Prop) (cenv:Env),Inv X pins σ H s->s.heap.Ns C m->H C=none->X.s₀.heap.objs.size<=C->C ∉ frs X.stack->cenv.frame=X.env.frame->CX1 X.prog X.w X.stack H s E e s' ->
 wpAny (model X.prog X.w) X.A (noteFrame e cenv) (fun _ s'' =>∃ m,s''.heap.Ns C m/\∀ h',Heap.SameBut C s''.heap h' ->∀ env:Env,env.locals=C->wpAny (model X.prog X.w) X.A (passOn "comprehension.variables-let-go" e env:Sem Value) (fun _ _=>False) X.xe { s'' with heap:=h' }) E' s'
theorem W4 {E:XK} (h:E=fun _ _ _=>False):qH X E:=fun pins σ H s e s' C m E' cenv I _ _ _ _ _ ⟨_,_,_,_,_,_,_,z⟩=>by subst h; exact z.elim
end
end L2
namespace L2
open PySem PySem.Spec PyProof.Rows
theorem PE.imp {X:Cx} {e:Expr} {t t' :TE} (h:PE X e t) (i:∀ σ H Q,t' σ H Q->t σ H Q):PE X e t' :=fun pins s σ H Q I q=>h pins s σ H Q I (i σ H Q q)
theorem PT.imp {X:Cx} {e:Expr} {t t' :TT} (h:PT X e t) (i:∀ σ H Q,t' σ H Q->t σ H Q):PT X e t' :=fun pins s σ H Q I q=>h pins s σ H Q I (i σ H Q q)
theorem PA.imp {X:Cx} {e:List Expr} {t t' :TA} (h:PA X e t) (i:∀ σ H Q,t' σ H Q->t σ H Q):PA X e t' :=fun pos pins s σ H Q I q=>h pos pins s σ H Q I (i σ H Q q)
theorem PS.imp {X:Cx} {e:Stmt} {t t' :TS} (h:PS X e t) (i:∀ D σ H,t' D σ H->t D σ H):PS X e t' :=fun pins s σ H D I q=>h pins s σ H D I (i D σ H q)
theorem PSs.imp {X:Cx} {e:List Stmt} {t t' :TS} (h:PSs X e t) (i:∀ D σ H,t' D σ H->t D σ H):PSs X e t' :=fun pins s σ H D I q=>h pins s σ H D I (i D σ H q)
end L2
namespace PV
open PySem
def Jl:Expr->Bool
 | .Starred _ _=>false
 | _=>true
theorem zp {e:Expr} {rest:List Expr} {env:Env} (h:Jl e=true):starEach (e :: rest) env=(false,eval e env) :: starEach rest env:=by
 cases e <;> first | rfl | cases h
theorem st2 {a b:Expr} {env:Env} (h:Jl a=true) (h' :Jl b=true):starEach [a,b] env=[(false,eval a env),(false,eval b env)]:=by
 rw [zp h,zp h']; rfl
theorem st1 {a:Expr} {env:Env} (h:Jl a=true):starEach [a] env=[(false,eval a env)]:=by
 rw [zp h]; rfl
theorem zA {pos:Pos} {env:Env}:∀ {es:List Expr},es.all Jl=true->((backTo pos (starEach es env)).any fun x=>x.fst)=false
 | [],_=>rfl
 | e :: es,h=>by
  rw [List.all_cons,Bool.and_eq_true] at h
  rw [zp h.1]
  have:=zA (pos:=pos) (env:=env) h.2
  show (false || ((backTo pos (starEach es env)).any fun x=>x.fst))=false
  rw [this]; rfl
open PySem PySem.Spec PyProof.Rows L2
abbrev Sg:=L2.St
inductive T where
 | non | bl (b:Bool) | int (i:Int) | str (x:Str) | tup (xs:List T) | lst (xs:List T) | fz (xs:List T)
inductive R (α:Type) where
 | ok (a:α) | ex (c:Nat) | bad
def R.bind {α β:Type} (r:R α) (f:α->R β):R β:=match r with
 | .ok a=>f a
 | .ex c=> .ex c
 | .bad=> .bad
mutual
inductive Rep (H:Hp):V->T->Prop where
 | non:Rep H .non .non
 | bl (b:Bool):Rep H (.bl b) (.bl b)
 | int (i:Int):Rep H (.int i) (.int i)
 | str (x:Str):Rep H (.str x) (.str x)
 | tup {a:Addr} {xs:List V} {ts:List T}:H a=some (.tup xs)->zk H xs ts->Rep H (.ref a) (.tup ts)
 | lst {a:Addr} {xs:List V} {ts:List T}:H a=some (.lst xs)->zk H xs ts->Rep H (.ref a) (.lst ts)
 | fz {a:Addr} {o:Obj} {xs:List V} {ts:List T}:H a=some (.frz o (.lst xs))->zk H xs ts->Rep H (.ref a) (.fz ts)
inductive zk (H:Hp):List V->List T->Prop where
 | nil:zk H [] []
 | cons {v:V} {t:T} {vs:List V} {ts:List T}:Rep H v t->zk H vs ts->zk H (v :: vs) (t :: ts)
end
mutual
theorem Rep.mono {H H' :Hp} (s:zg H H'):∀ {v:V} {t:T},Rep H v t->Rep H' v t
 | _,_, .non=> .non
 | _,_, .bl b=> .bl b
 | _,_, .int i=> .int i
 | _,_, .str x=> .str x
 | _,_, .tup h r=> .tup (s _ _ h) (zk.mono s r)
 | _,_, .lst h r=> .lst (s _ _ h) (zk.mono s r)
 | _,_, .fz h r=> .fz (s _ _ h) (zk.mono s r)
theorem zk.mono {H H' :Hp} (s:zg H H'):∀ {v:List V} {t:List T},zk H v t->zk H' v t
 | _,_, .nil=> .nil
 | _,_, .cons h r=> .cons (Rep.mono s h) (zk.mono s r)
end
theorem zk.length {H:Hp}:∀ {vs:List V} {ts:List T},zk H vs ts->vs.length=ts.length
 | _,_, .nil=>rfl
 | _,_, .cons _ r=>congrArg (·+1) (zk.length r)
theorem zk.get {H:Hp}:∀ {vs:List V} {ts:List T} {i:Nat} {t:T},zk H vs ts->ts[i]? =some t->∃ v,vs[i]? =some v/\Rep H v t
 | _,_,_,_, .nil,e=>by simp at e
 | _,_,0,_, .cons r _,e=>by simp at e; subst e; exact ⟨_,rfl,r⟩
 | _,_,i+1,t, .cons _ q,e=>by
  obtain ⟨v,h1,h2⟩:=zk.get (i:=i) (t:=t) q (by simpa using e)
  exact ⟨v,by simpa using h1,h2⟩
theorem zk.getV {H:Hp}:∀ {vs:List V} {ts:List T} {i:Nat} {v:V},zk H vs ts->vs[i]? =some v->∃ t,ts[i]? =some t/\Rep H v t
 | _,_,_,_, .nil,e=>by simp at e
 | _,_,0,_, .cons r _,e=>by simp at e; subst e; exact ⟨_,rfl,r⟩
 | _,_,i+1,v, .cons _ q,e=>by
  obtain ⟨t,h1,h2⟩:=zk.getV (i:=i) (v:=v) q (by simpa using e)
  exact ⟨t,by simpa using h1,h2⟩
theorem zk.append {H:Hp}:∀ {vs ws:List V} {ts us:List T},zk H vs ts->zk H ws us->zk H (vs++ws) (ts++us)
 | _,_,_,_, .nil,q=>q
 | _,_,_,_, .cons r t,q=> .cons r (zk.append t q)
theorem zk.take {H:Hp}:∀ {vs:List V} {ts:List T} (n:Nat),zk H vs ts->zk H (vs.take n) (ts.take n)
 | _,_,0,_=> .nil
 | _,_,_+1, .nil=> .nil
 | _,_,n+1, .cons r t=> .cons r (zk.take n t)
theorem zk.drop {H:Hp}:∀ {vs:List V} {ts:List T} (n:Nat),zk H vs ts->zk H (vs.drop n) (ts.drop n)
 | _,_,0,r=>r
 | _,_,_+1, .nil=> .nil
 | _,_,n+1, .cons _ t=>zk.drop n t
theorem zk.rep {H:Hp} {vs:List V} {ts:List T} (h:zk H vs ts):∀ n:Nat,zk H (List.replicate n vs).flatten (List.replicate n ts).flatten
 | 0=> .nil
 | n+1=>by
  rw [List.replicate_succ,List.replicate_succ,List.flatten_cons,List.flatten_cons]
  exact h.append (zk.rep h n)
theorem zk.nil_iff {H:Hp} {vs:List V} {ts:List T} (h:zk H vs ts):vs=[]↔ts=[]:=by
 cases h <;> simp
def zo (B H H' :Hp):Hp:=fun b=>match H b with
 | none=>H' b
 | some _=>B b
theorem zB {B H H' :Hp} {b:Addr} (h:H b=none):zo B H H' b=H' b:=by unfold zo; rw [h]
theorem zC {B H H' :Hp} {b:Addr} {o:HO} (h:H b=some o):zo B H H' b=B b:=by unfold zo; rw [h]
theorem zo.ge {B H H' :Hp} (s:zg B H) (s' :zg H H'):zg B (zo B H H'):=fun b o h=>by
 rw [zC (s b o h)]; exact h
theorem zo.le {B H H' :Hp} (s:zg B H) (s' :zg H H'):zg (zo B H H') H' :=fun b o h=>by
 cases q:H b with
 | none=>rw [zB q] at h; exact h
 | some u=>rw [zC q] at h; exact s' b o (s b o h)
theorem zo.self (B H:Hp) (s:zg B H):zo B H H=B:=by
 funext b
 cases q:H b with
 | none=>
  rw [zB q,q]
  cases z:B b with
  | none=>rfl
  | some o=>rw [s b o z] at q; cases q
 | some u=>rw [zC q]
theorem zo.trans {B H H1 H2:Hp} (s1:zg H H1) (s2:zg H1 H2):zo (zo B H H1) H1 H2=zo B H H2:=by
 funext b
 cases q:H b with
 | none=>
  rw [zB q]
  cases z:H1 b with
  | none=>rw [zB z]
  | some o=>rw [zC z,zB q,z,s2 b o z]
 | some u=>rw [zC q,zC (s1 b u q),zC q]
inductive Fd where
 | tv (t:T) | tl (ts:List T)
abbrev Ob:=Nat×List (Str×Fd)
def YF:List Str:=["kind","remaining","done","undone","first","last","answered"]
def InC (vs:List (Str×V)):Prop:=∀ f,f ∉ YF->vs.lookup f=none
inductive Sl where
 | un | vl (t:T) | ow (ts:List T) | xc (c:Nat) | ob (k n:Nat) | oc (k:Nat) | st (os:List Ob)
def Sl.isS:Sl->Bool
 | .ob _ _=>true
 | .st _=>true
 | _=>false
def Sl.isO:Sl->Bool
 | .ob _ _=>true
 | .oc _=>true
 | .st _=>true
 | _=>false
abbrev En:=List Sl
structure Fx where
 B0:Hp
 H0:Hp
 E:XK
 cl:Nat->Value
 as:List Addr
def W5 (ρ:En) (σ:Sg) (l:Addr):Prop:=∀ (j:Nat) (us:List T),ρ[j]? =some (Sl.ow us)->σ[j]? ≠ some (some (V.ref l))
def FdR (Y:Fx) (B:Hp) (ρ:En) (σ:Sg) (H:Hp) (o:Addr->Prop) (v:V):Fd->Prop
 | .tv t=>Rep B v t
 | .tl ts=>∃ l xs,v= .ref l/\B l=none/\Y.H0 l=none/\H l=some (.lst xs)/\zk B xs ts/\W5 ρ σ l/\o l
structure StI (Y:Fx) (B:Hp) (ρ:En) (σ:Sg) (H:Hp) (as:List Addr) (O:Addr->Option (Nat×Nat)):Prop where
 pre:Y.as <+:as
 len:∀ (i:Nat) (os:List Ob),ρ[i]? =some (Sl.st os)->as.length=os.length
 one:∀ (i j:Nat) (os os' :List Ob),ρ[i]? =some (Sl.st os)->ρ[j]? =some (Sl.st os')->i=j
 ob:∀ (i k n:Nat),ρ[i]? =some (Sl.ob k n)->∃ a C dx vs,as[n]? =some a/\σ[i]? =some (some (V.ref a))/\Y.cl k= .ref C/\H a=some (.ins C dx vs)/\B a=none/\Y.H0 a=none/\InC vs
 oc:∀ (i k:Nat),ρ[i]? =some (Sl.oc k)->∃ a C dx vs,σ[i]? =some (some (V.ref a))/\Y.cl k= .ref C/\Y.H0 a=some (.ins C dx vs)/\InC vs
 st:∀ (i:Nat) (os:List Ob),ρ[i]? =some (Sl.st os)->∀ (n k:Nat) (fs:List (Str×Fd)),os[n]? =some (k,fs)->∃ a C dx vs,as[n]? =some a/\Y.cl k= .ref C/\H a=some (.ins C dx vs)/\B a=none/\Y.H0 a=none/\O a=some (n,0)/\(vs.length=fs.length/\InC vs)/\
  ∀ (m:Nat) (f:Str) (d:Fd),fs[m]? =some (f,d)->∃ v,vs[m]? =some (f,v)/\FdR Y B ρ σ H (fun l=>O l=some (n,m+1)) v d
structure SI (Y:Fx) (B:Hp) (ρ:En) (σ:Sg) (H:Hp):Prop where
 s0:zg Y.B0 Y.H0
 sH:zg Y.H0 H
 sB:zg B H
 old:∀ b o,Y.H0 b=some o->B b=Y.B0 b
 len:ρ.length=σ.length
 vl:∀ (i:Nat) (t:T),ρ[i]? =some (Sl.vl t)->∃ v:V,σ[i]? =some (some v)/\Rep B v t
 ow:∀ (i:Nat) (ts:List T),ρ[i]? =some (Sl.ow ts)->∃ (a:Addr) (xs:List V),σ[i]? =some (some (V.ref a))/\B a=none/\Y.H0 a=none/\H a=some (.lst xs)/\zk B xs ts/\
  ∀ (j:Nat) (us:List T),j ≠ i->ρ[j]? =some (Sl.ow us)->σ[j]? ≠ some (some (V.ref a))
 xc:∀ (i:Nat) (c:Nat),ρ[i]? =some (Sl.xc c)->∃ a:Addr,σ[i]? =some (some (V.ref a))/\B a=some (.ext (wt (Y.cl c) a))
 st:∃ as O,StI Y B ρ σ H as O
theorem StI.on {Y Y' :Fx} {B B' :Hp} {ρ ρ' :En} {σ σ' :Sg} {H H' :Hp} {as:List Addr} {O:Addr->Option (Nat×Nat)} (x:StI Y B ρ σ H as O) (hO:∀ (i:Nat) (s:Sl),s.isO=true->ρ'[i]? =some s->ρ[i]? =some s/\σ'[i]? =σ[i]?) (hB:zg B B') (hc:Y'.cl=Y.cl) (hA:Y'.as=Y.as) (h0:zg Y.H0 Y'.H0)
  (hH:∀ b o,H b=some o->B b=none->Y.H0 b=none->((∃ C dx vs,o= .ins C dx vs)\/W5 ρ σ b)->H' b=some o/\B' b=none/\Y'.H0 b=none/\(W5 ρ σ b->W5 ρ' σ' b)):StI Y' B' ρ' σ' H' as O where
 pre:=by rw [hA]; exact x.pre
 len:=fun i os h=>x.len i os (hO i _ rfl h).1
 one:=fun i j os os' h1 h2=>x.one i j os os' (hO i _ rfl h1).1 (hO j _ rfl h2).1
 ob:=fun i k n h=>by
  obtain ⟨h1,h2⟩:=hO i _ rfl h
  obtain ⟨a,C,dx,vs,e1,e2,e3,e4,e5,e6⟩:=x.ob i k n h1
  obtain ⟨g1,g2,g3,_⟩:=hH a _ e4 e5 e6.1 (.inl ⟨_,_,_,rfl⟩)
  rw [h2,hc]; exact ⟨a,C,dx,vs,e1,e2,e3,g1,g2,g3,e6.2⟩
 oc:=fun i k h=>by
  obtain ⟨h1,h2⟩:=hO i _ rfl h
  obtain ⟨a,C,dx,vs,e1,e2,e3⟩:=x.oc i k h1
  rw [h2,hc]; exact ⟨a,C,dx,vs,e1,e2,h0 _ _ e3.1,e3.2⟩
 st:=fun i os h n k fs e=>by
  obtain ⟨a,C,dx,vs,e1,e2,e3,e4,e5,e6,e7,e8⟩:=x.st i os (hO i _ rfl h).1 n k fs e
  obtain ⟨g1,g2,g3,_⟩:=hH a _ e3 e4 e5 (.inl ⟨_,_,_,rfl⟩)
  refine ⟨a,C,dx,vs,e1,by rw [hc]; exact e2,g1,g2,g3,e6,e7,fun m f d z=> ?_⟩
  obtain ⟨v,z1,z2⟩:=e8 m f d z
  refine ⟨v,z1, ?_⟩
  cases d with
  | tv t=>exact Rep.mono hB z2
  | tl ts=>
   obtain ⟨l,xs,p1,p2,p3,p4,p5,p6,p7⟩:=z2
   obtain ⟨g1,g2,g3,g4⟩:=hH l _ p4 p2 p3 (.inr p6)
   exact ⟨l,xs,p1,g2,g3,g1,p5.mono hB,g4 p6,p7⟩
theorem StI.no {Y:Fx} {B:Hp} {ρ:En} {σ:Sg} {H:Hp} (h:∀ (i:Nat) (s:Sl),s.isO=true->ρ[i]? ≠ some s):∃ as O,StI Y B ρ σ H as O:=⟨Y.as,fun _=>none,List.prefix_refl _,fun i os e=>(h i _ rfl e).elim,fun i j os os' e=>(h i _ rfl e).elim,fun i k n e=>(h i _ rfl e).elim,fun i k e=>(h i _ rfl e).elim,fun i os e=>(h i _ rfl e).elim⟩
theorem SI.grow {Y:Fx} {B:Hp} {ρ:En} {σ:Sg} {H H' :Hp} (I:SI Y B ρ σ H) (s:zg H H'):SI Y (zo B H H') ρ σ H' where
 s0:=I.s0
 sH:=I.sH.trans s
 sB:=zo.le I.sB s
 old:=fun b o h=>by rw [zC (I.sH b o h)]; exact I.old b o h
 len:=I.len
 vl:=fun i t h=>let ⟨v,e,r⟩:=I.vl i t h; ⟨v,e,r.mono (zo.ge I.sB s)⟩
 ow:=fun i ts h=>let ⟨a,xs,e,b,h0,hh,r,d⟩:=I.ow i ts h; ⟨a,xs,e,by rw [zC hh]; exact b,h0,s _ _ hh,r.mono (zo.ge I.sB s),d⟩
 xc:=fun i c h=>let ⟨a,e,r⟩:=I.xc i c h; ⟨a,e,zo.ge I.sB s a _ r⟩
 st:=let ⟨as,O,x⟩:=I.st; ⟨as,O,x.on (fun _ _ _ h=>⟨h,rfl⟩) (zo.ge I.sB s) rfl rfl (zg.refl _) fun b o h hb h0 _=>⟨s _ _ h,by rw [zC h]; exact hb,h0,id⟩⟩
def XP (Y:Fx) (B:Hp) (c:Nat):Prop:=∀ (d:Option Addr) (H' :Hp),zg Y.H0 H' ->zg B H' ->Y.E (Y.cl c) d H'
def Po {α β:Type} (Y:Fx) (rel:Hp->Hp->β->α->Prop) (B H:Hp) (r:R α) (Q:β->Hp->Prop):Prop:=match r with
 | .ok a=>∀ b H',zg H H' ->rel (zo B H H') H' b a->Q b H'
 | .ex c=>XP Y B c
 | .bad=>False
abbrev rC:Hp->Hp->V->T->Prop:=fun B _ v t=>Rep B v t
abbrev rB:Hp->Hp->V->T->Prop:=fun _ H v t=>Rep H v t
abbrev rCs:Hp->Hp->List V->List T->Prop:=fun B _ v t=>zk B v t
abbrev rE {α:Type}:Hp->Hp->α->α->Prop:=fun _ _ a b=>a=b
def tS {α β:Type} (Y:Fx) (rel:Hp->Hp->β->α->Prop) (f:En->R α) (ρ:En):Sg->Hp->(β->Hp->Prop)->Prop:=fun σ H Q=>∃ B,SI Y B ρ σ H/\Po Y rel B H (f ρ) Q
structure Snd (X:Cx) (Y:Fx) (e:Expr) (f:En->R T):Prop where
 mk ::
 go:∀ ρ,PE X e (tS Y rC f ρ)
instance {X:Cx} {Y:Fx} {e:Expr} {f:En->R T}:CoeFun (Snd X Y e f) fun _=>∀ ρ,PE X e (tS Y rC f ρ):=⟨Snd.go⟩
structure Zf (X:Cx) (Y:Fx) (e:Expr) (f:En->R T):Prop where
 mk ::
 go:∀ ρ,PE X e (tS Y rB f ρ)
instance {X:Cx} {Y:Fx} {e:Expr} {f:En->R T}:CoeFun (Zf X Y e f) fun _=>∀ ρ,PE X e (tS Y rB f ρ):=⟨Zf.go⟩
structure Jm (X:Cx) (Y:Fx) (e:Expr) (f:En->R Bool):Prop where
 mk ::
 go:∀ ρ,PT X e (tS Y rE f ρ)
instance {X:Cx} {Y:Fx} {e:Expr} {f:En->R Bool}:CoeFun (Jm X Y e f) fun _=>∀ ρ,PT X e (tS Y rE f ρ):=⟨Jm.go⟩
structure jp (X:Cx) (Y:Fx) (es:List Expr) (f:En->R (List T)):Prop where
 mk ::
 go:∀ ρ,PA X es (tS Y rCs f ρ)
instance {X:Cx} {Y:Fx} {es:List Expr} {f:En->R (List T)}:CoeFun (jp X Y es f) fun _=>∀ ρ,PA X es (tS Y rCs f ρ):=⟨jp.go⟩
theorem step {α α' β β' :Type} {Y:Fx} {rel:Hp->Hp->β->α->Prop} {rel' :Hp->Hp->β' ->α' ->Prop} {f:En->R α} {k:α->R α'} {ρ:En} {B:Hp} {σ:Sg} {H:Hp} {Q:β' ->Hp->Prop} {K:β->Hp->Prop}
  (I:SI Y B ρ σ H) (h:Po Y rel' B H ((f ρ).bind k) Q)
  (n:∀ a b H1,f ρ= .ok a->zg H H1->rel (zo B H H1) H1 b a->SI Y (zo B H H1) ρ σ H1->Po Y rel' (zo B H H1) H1 (k a) Q->K b H1):tS Y rel f ρ σ H K:=by
 refine ⟨B,I, ?_⟩
 cases e:f ρ with
 | bad=>rw [e] at h; exact h
 | ex c=>rw [e] at h; exact h
 | ok a=>
  rw [e] at h
  intro b H1 s r
  refine n a b H1 e s r (I.grow s) ?_
  have h' :Po Y rel' B H (k a) Q:=h
  revert h'
  cases k a with
  | bad=>exact fun h' =>h'
  | ex c=>exact fun h' d H' s0 sB' =>h' d H' s0 ((zo.ge I.sB s).trans sB')
  | ok a' =>exact fun h' b' H2 s2 r2=>h' b' H2 (s.trans s2) (by rw [← zo.trans s s2]; exact r2)
theorem zT {α β:Type} {Y:Fx} {rel:Hp->Hp->β->α->Prop} {ρ:En} {B:Hp} {σ:Sg} {H:Hp} {a:α} {b:β} {Q:β->Hp->Prop} (I:SI Y B ρ σ H) (h:Po Y rel B H (.ok a) Q) (r:rel B H b a):Q b H:=h b H (zg.refl H) (by rw [zo.self B H I.sB]; exact r)
theorem Snd.b {X:Cx} {Y:Fx} {e:Expr} {f:En->R T} (h:Snd X Y e f):Zf X Y e f:= .mk fun ρ=>PE.imp (h ρ) fun σ H Q ⟨B,I,q⟩=>⟨B,I,by
 revert q
 cases f ρ with
 | bad=>exact fun q=>q
 | ex c=>exact fun q=>q
 | ok a=>exact fun q b H' s r=>q b H' s (r.mono (zo.le I.sB s))⟩
section
variable {X:Cx} {Y:Fx} {a b c:Expr} {fa fb fc:En->R T} {pos:Pos}
def vE (i:Nat):En->R T:=fun ρ=>match ρ[i]? with
 | some (.vl t)=> .ok t
 | _=> .bad
def vB (i:Nat):En->R T:=fun ρ=>match ρ[i]? with
 | some (.vl t)=> .ok t
 | some (.ow ts)=> .ok (.lst ts)
 | _=> .bad
def cE (t:T):En->R T:=fun _=> .ok t
theorem Vk (i:Nat) {x:Str} (h:PE X (.Name x pos) (j5 i)):Snd X Y (.Name x pos) (vE i):= .mk fun ρ=>PE.imp h fun σ H Q ⟨B,I,q⟩=>by
 unfold vE at q
 split at q
 ·rename_i t e
  obtain ⟨v,e1,r⟩:=I.vl i t e
  exact ⟨v,e1,zT I q r⟩
 ·exact q.elim
theorem qI (i:Nat) {x:Str} (h:PE X (.Name x pos) (j5 i)):Zf X Y (.Name x pos) (vB i):= .mk fun ρ=>PE.imp h fun σ H Q ⟨B,I,q⟩=>by
 unfold vB at q
 split at q
 ·rename_i t e
  obtain ⟨v,e1,r⟩:=I.vl i t e
  exact ⟨v,e1,zT I q (r.mono I.sB)⟩
 ·rename_i ts e
  obtain ⟨a,xs,e1,_,_,hh,r,_⟩:=I.ow i ts e
  exact ⟨.ref a,e1,zT I q (.lst hh (r.mono I.sB))⟩
 ·exact q.elim
theorem Vl {i j}:Snd X Y (.Constant (.int i) j pos) (cE (.int i)):= .mk fun ρ=>PE.imp YZ fun σ H Q ⟨B,I,q⟩=>zT I q (.int i)
theorem gE {i j}:Snd X Y (.Constant (.bool i) j pos) (cE (.bl i)):= .mk fun ρ=>PE.imp V0 fun σ H Q ⟨B,I,q⟩=>zT I q (.bl i)
theorem Vm {j}:Snd X Y (.Constant .none j pos) (cE .non):= .mk fun ρ=>PE.imp qa fun σ H Q ⟨B,I,q⟩=>zT I q .non
theorem qJ {i j}:Snd X Y (.Constant (.str i) j pos) (cE (.str i)):= .mk fun ρ=>PE.imp Wq fun σ H Q ⟨B,I,q⟩=>zT I q (.str i)
def zb:En->R (List T):=fun _=> .ok []
def z0 (f:En->R T) (g:En->R (List T)):En->R (List T):=fun ρ=>(f ρ).bind fun t=>(g ρ).bind fun ts=> .ok (t :: ts)
theorem qK:jp X Y [] zb:= .mk fun ρ=>PA.imp zw fun σ H Q ⟨B,I,q⟩=>zT I q .nil
theorem UK {es:List Expr} {g:En->R (List T)} (h:Snd X Y a fa) (hs:jp X Y es g) (hq:starEach (a :: es) X.env=(false,eval a X.env) :: starEach es X.env:=by exact zp rfl):jp X Y (a :: es) (z0 fa g):= .mk fun ρ=>
 PA.imp (zj (h ρ) (hs ρ) hq) fun σ H Q ⟨B,I,q⟩=>step I q fun t v H1 _ s1 r1 I1 q1=>step I1 q1 fun ts vs H2 _ s2 r2 I2 q2=>zT I2 q2 (.cons (r1.mono (zo.ge I1.sB s2)) r2)
theorem zg.new {H:Hp} {p:Addr} (h:H p=none) (o:HO):zg H (upd H p o):=fun b u q=>by rw [zd (zl q h)]; exact q
theorem Zn {B H:Hp} {p:Addr} (h:H p=none) (o:HO):zo B H (upd H p o) p=some o:=by rw [zB h,zi]
def bnd:Nat:=16777216
theorem zG {n:Nat} (h:n<=bnd):n<=sizeLine:=by rw [sizeLine_eq]; exact h
def zD (g:En->R (List T)):En->R T:=fun ρ=>(g ρ).bind fun ts=>if ts.length<=bnd then .ok (.tup ts) else .bad
def Jn (g:En->R (List T)):En->R T:=fun ρ=>(g ρ).bind fun ts=>if ts.length<=bnd then .ok (.lst ts) else .bad
theorem yA {ρ:En} {σ:Sg} {B H:Hp} {xs:List V} {ts:List T} (I:SI Y B ρ σ H) (r:zk B xs ts) {p:Addr} (h:H p=none):Rep (zo B H (upd H p (.tup xs))) (.ref p) (.tup ts):=
 .tup (Zn h _) (r.mono (zo.ge I.sB (zg.new h _)))
theorem yB {ρ:En} {σ:Sg} {B H:Hp} {xs:List V} {ts:List T} (I:SI Y B ρ σ H) (r:zk B xs ts) {p:Addr} (h:H p=none):Rep (zo B H (upd H p (.lst xs))) (.ref p) (.lst ts):=
 .lst (Zn h _) (r.mono (zo.ge I.sB (zg.new h _)))
theorem Vn {es:List Expr} {g:En->R (List T)} {x1} (h:jp X Y es g):Snd X Y (.Tuple es x1 pos) (zD g):= .mk fun ρ=>PE.imp (qx (h ρ)) fun σ H Q ⟨B,I,q⟩=>
 step I q fun ts vs H1 _ s1 r1 I1 q1=>by
  split at q1
  ·rename_i hb
   refine ⟨by rw [r1.length]; exact zG hb,fun p hp=>q1 _ _ (zg.new hp _) (yA I1 r1 hp)⟩
  ·exact q1.elim
theorem Vo {es:List Expr} {g:En->R (List T)} (h:jp X Y es g):Snd X Y (.List es pos) (Jn g):= .mk fun ρ=>PE.imp (WF (h ρ)) fun σ H Q ⟨B,I,q⟩=>
 step I q fun ts vs H1 _ s1 r1 I1 q1=>by
  split at q1
  ·rename_i hb
   refine ⟨by rw [r1.length]; exact zG hb,fun p hp=>q1 _ _ (zg.new hp _) (yB I1 r1 hp)⟩
  ·exact q1.elim
end
end PV
namespace PV
open PySem PySem.Spec PyProof.Rows L2
def eqL (f:T->T->Option Bool):List T->List T->Option Bool
 | [],[]=>some true
 | [],_ :: _=>some false
 | _ :: _,[]=>some false
 | x :: xs,y :: ys=>match f x y with
  | none=>none
  | some b=>match eqL f xs ys with
   | none=>none
   | some c=>some (b && c)
def b2 (b:Bool):Int:=if b then 1 else 0
def eqF:Nat->T->T->Option Bool
 | _, .non, .non=>some true
 | _, .bl a, .bl b=>some (a == b)
 | _, .bl a, .int j=>some (b2 a == j)
 | _, .int i, .bl b=>some (i == b2 b)
 | _, .int i, .int j=>some (i == j)
 | _, .str x, .str y=>some (x == y)
 | n+1, .tup xs, .tup ys=>eqL (eqF n) xs ys
 | n+1, .lst xs, .lst ys=>eqL (eqF n) xs ys
 | n+1, .fz xs, .lst ys=>eqL (eqF n) xs ys
 | n+1, .lst xs, .fz ys=>eqL (eqF n) xs ys
 | n+1, .fz xs, .fz ys=>eqL (eqF n) xs ys
 | 0, .tup _, .tup _=>none
 | 0, .lst _, .lst _=>none
 | 0, .fz _, .lst _=>none
 | 0, .lst _, .fz _=>none
 | 0, .fz _, .fz _=>none
 | _, .non,_=>some false
 | _, .bl _,_=>some false
 | _, .int _,_=>some false
 | _, .str _,_=>some false
 | _, .tup _,_=>some false
 | _, .lst _,_=>some false
 | _, .fz _,_=>some false
mutual
theorem Rep.fn {H:Hp}:∀ {v:V} {t t' :T},Rep H v t->Rep H v t' ->t=t'
 | _,_,_, .non, .non=>rfl
 | _,_,_, .bl _, .bl _=>rfl
 | _,_,_, .int _, .int _=>rfl
 | _,_,_, .str _, .str _=>rfl
 | _,_,_, .tup h r, .tup h' r' =>by
  rw [h] at h'; cases h'; rw [zk.fn r r']
 | _,_,_, .tup h r, .lst h' r' =>by rw [h] at h'; cases h'
 | _,_,_, .tup h r, .fz h' r' =>by rw [h] at h'; cases h'
 | _,_,_, .lst h r, .tup h' r' =>by rw [h] at h'; cases h'
 | _,_,_, .lst h r, .lst h' r' =>by
  rw [h] at h'; cases h'; rw [zk.fn r r']
 | _,_,_, .lst h r, .fz h' r' =>by rw [h] at h'; cases h'
 | _,_,_, .fz h r, .tup h' r' =>by rw [h] at h'; cases h'
 | _,_,_, .fz h r, .lst h' r' =>by rw [h] at h'; cases h'
 | _,_,_, .fz h r, .fz h' r' =>by
  rw [h] at h'; cases h'; rw [zk.fn r r']
theorem zk.fn {H:Hp}:∀ {v:List V} {t t' :List T},zk H v t->zk H v t' ->t=t'
 | _,_,_, .nil, .nil=>rfl
 | _,_,_, .cons h r, .cons h' r' =>by rw [Rep.fn h h',zk.fn r r']
end
theorem Ze {f:T->T->Option Bool} (hf:∀ x b,f x x=some b->b=true):∀ (xs:List T) (b:Bool),eqL f xs xs=some b->b=true
 | [],b,h=>by
  have h' :some true=some b:=h
  cases h'; rfl
 | x :: xs,b,h=>by
  unfold eqL at h
  cases e:f x x with
  | none=>rw [e] at h; cases h
  | some c=>
   rw [e] at h
   cases e' :eqL f xs xs with
   | none=>rw [e'] at h; cases h
   | some d=>
    rw [e'] at h
    cases h
    rw [hf x c e,Ze hf xs d e']
    rfl
theorem zV:∀ (n:Nat) (t:T) (b:Bool),eqF n t t=some b->b=true
 | n, .non,b,h=>by unfold eqF at h; cases h; rfl
 | n, .bl x,b,h=>by unfold eqF at h; cases h; simp
 | n, .int x,b,h=>by unfold eqF at h; cases h; simp
 | n, .str x,b,h=>by unfold eqF at h; cases h; simp
 | 0, .tup x,b,h=>by unfold eqF at h; cases h
 | 0, .lst x,b,h=>by unfold eqF at h; cases h
 | 0, .fz x,b,h=>by unfold eqF at h; cases h
 | n+1, .tup x,b,h=>by unfold eqF at h; exact Ze (zV n) x b h
 | n+1, .lst x,b,h=>by unfold eqF at h; exact Ze (zV n) x b h
 | n+1, .fz x,b,h=>by unfold eqF at h; exact Ze (zV n) x b h
theorem WQ {f:T->T->Option Bool}:∀ {xs ys:List T} {b:Bool},eqL f xs ys=some b->
  ∃ e:Nat->Bool,(∀ j x y,xs[j]? =some x->ys[j]? =some y->f x y=some (e j))/\((List.range (min xs.length ys.length)).all e && xs.length == ys.length)=b
 | [],[],b,h=>by
  have h' :some true=some b:=h
  cases h'
  exact ⟨fun _=>true,fun j x y h=>by simp at h,by simp⟩
 | [],y :: ys,b,h=>by
  have h' :some false=some b:=h
  cases h'
  exact ⟨fun _=>true,fun j x y h=>by simp at h,by simp⟩
 | x :: xs,[],b,h=>by
  have h' :some false=some b:=h
  cases h'
  exact ⟨fun _=>true,fun j x y h h' =>by simp at h',by simp⟩
 | x :: xs,y :: ys,b,h=>by
  unfold eqL at h
  cases e:f x y with
  | none=>rw [e] at h; cases h
  | some c=>
   rw [e] at h
   cases e' :eqL f xs ys with
   | none=>rw [e'] at h; cases h
   | some d=>
    rw [e'] at h
    cases h
    obtain ⟨g,h1,h2⟩:=WQ e'
    refine ⟨fun j=>match j with | 0=>c | j+1=>g j,fun j u v hu hv=> ?_, ?_⟩
    ·cases j with
     | zero=>simp at hu hv; subst hu hv; exact e
     | succ j=>exact h1 j u v (by simpa using hu) (by simpa using hv)
    ·have z:min (x :: xs).length (y :: ys).length=min xs.length ys.length+1:=by simp only [List.length_cons]; omega
     rw [z,List.range_succ_eq_map,List.all_cons,List.all_map]
     have z2:((x :: xs).length == (y :: ys).length)=(xs.length == ys.length):=by simp
     rw [z2,← h2,Bool.and_assoc]
     rfl
section
variable {X:Cx} {pins:List (Addr×Obj)} {σ:Sg} {H:Hp} {s:Shared}
theorem zY {a:Addr} {xs:List V} {ts:List T} (I:L2.Inv X pins σ H s) (h:H a=some (.tup xs)) (r:zk H xs ts):∃ its:List Value,zv xs its/\s.heap.IsTuple a its.toArray/\ts.length=its.length/\xs.length<=sizeLine:=by
 obtain ⟨its,rv,p,z⟩:=I.tuple (SqT.of h)
 exact ⟨its,rv,p,by rw [← r.length]; exact rv.length,z⟩
theorem zy {a:Addr} {xs:List V} {ts:List T} (I:L2.Inv X pins σ H s) (h:Rd H a (.lst xs)) (r:zk H xs ts):∃ its:List Value,zv xs its/\s.heap.IsList a its.toArray/\ts.length=its.length/\xs.length<=sizeLine:=by
 obtain ⟨its,rv,p,z⟩:=I.list (.inl h)
 exact ⟨its,rv,p.isList,by rw [← r.length]; exact rv.length,z⟩
end
abbrev EqN (A:Around) (s:Shared) (u u' :Value) (b:Bool):Prop:=SeqAt.EqAt A s u u' b/\SeqAt.RcAt A s u u' b/\SeqAt.RcNeAt A s u u' (!b)
section
variable {X:Cx} {pins:List (Addr×Obj)} {σ:Sg} {H:Hp} {s:Shared}
theorem WR {xs ys:List V} {ts us:List T} {its its' :List Value} {A:Around} {f:T->T->Option Bool} {e:Nat->Bool} (r:zk H xs ts) (r' :zk H ys us) (v:zv xs its) (v' :zv ys its')
  (he:∀ (j:Nat) (x y:T),ts[j]? =some x->us[j]? =some y->f x y=some (e j))
  (ih:∀ (x y:T) (b:Bool) (p q:V) (u w:Value),f x y=some b->Rep H p x->Rep H q y->zF p u->zF q w->EqN A s u w b) (j:Nat) (h1:j < its.toArray.size) (h2:j < its'.toArray.size):
  SeqAt.EqAt A s its.toArray[j] its'.toArray[j] (e j):=by
 have l1:=v.length
 have l2:=v'.length
 have m1:=r.length
 have m2:=r'.length
 have k1:j < xs.length:=by simp at h1; omega
 have k2:j < ys.length:=by simp at h2; omega
 obtain ⟨t,et,rt⟩:=r.getV (List.getElem?_eq_getElem k1)
 obtain ⟨t',et',rt'⟩:=r'.getV (List.getElem?_eq_getElem k2)
 obtain ⟨u,eu,ru⟩:=v.get (List.getElem?_eq_getElem k1)
 obtain ⟨u',eu',ru'⟩:=v'.get (List.getElem?_eq_getElem k2)
 have q1:its.toArray[j]=u:=by
  have:its[j]? =some its.toArray[j]:=by simp at h1 ⊢
  rw [eu] at this; exact (Option.some.inj this).symm
 have q2:its'.toArray[j]=u' :=by
  have:its'[j]? =some its'.toArray[j]:=by simp at h2 ⊢
  rw [eu'] at this; exact (Option.some.inj this).symm
 rw [q1,q2]
 exact (ih t t' (e j) _ _ u u' (he j t t' et et') rt rt' ru ru').1
theorem yC {A:Around} {a c:Addr} {xs ys:List V} {ts us:List T} {b:Bool} {f:T->T->Option Bool} (I:L2.Inv X pins σ H s) (hu:A.units < cLine) (ha:H a=some (.tup xs)) (hc:H c=some (.tup ys)) (r:zk H xs ts) (r' :zk H ys us)
  (hb:eqL f ts us=some b) (hr:∀ x b,f x x=some b->b=true)
  (ih:∀ (x y:T) (b:Bool) (p q:V) (u w:Value),f x y=some b->Rep H p x->Rep H q y->zF p u->zF q w->EqN A.in1 s u w b):EqN A s (.ref a) (.ref c) b:=by
 obtain ⟨its,v,p,l,_⟩:=zY I ha r
 obtain ⟨its',v',p',l',_⟩:=zY I hc r'
 obtain ⟨e,he,hb'⟩:=WQ hb
 have hp:=WR (A:=A.in1) r r' v v' he ih
 have z:((List.range (min its.toArray.size its'.toArray.size)).all e && its.toArray.size == its'.toArray.size)=b:=by
  rw [← hb']; simp [l,l']
 have R:=SeqAt.RcAt.tuples p p' hu hp
 have N:=SeqAt.RcNeAt.tuples p p' hu hp
 rw [z] at R
 have N' :SeqAt.RcNeAt A s (.ref a) (.ref c) (!b):=by
  rw [← z]; exact N
 refine ⟨?_,R,N'⟩
 by_cases hac:a=c
 ·subst hac
  rw [ha] at hc; cases hc
  have:=r.fn r'; subst this
  rw [Ze hr ts b hb]
  exact SeqAt.EqAt.same _
 ·exact SeqAt.EqAt.of_refs hac R
theorem jS {A:Around} {a c:Addr} {xs ys:List V} {ts us:List T} {b:Bool} {f:T->T->Option Bool} (I:L2.Inv X pins σ H s) (hu:A.units < cLine) (ha:Rd H a (.lst xs)) (hc:Rd H c (.lst ys)) (r:zk H xs ts) (r' :zk H ys us)
  (hb:eqL f ts us=some b) (hr:∀ x b,f x x=some b->b=true)
  (ih:∀ (x y:T) (b:Bool) (p q:V) (u w:Value),f x y=some b->Rep H p x->Rep H q y->zF p u->zF q w->EqN A.in1 s u w b):EqN A s (.ref a) (.ref c) b:=by
 obtain ⟨its,v,p,l,_⟩:=zy I ha r
 obtain ⟨its',v',p',l',_⟩:=zy I hc r'
 obtain ⟨e,he,hb'⟩:=WQ hb
 have hp:=WR (A:=A.in1) r r' v v' he ih
 have RN:SeqAt.RcAt A s (.ref a) (.ref c) b/\SeqAt.RcNeAt A s (.ref a) (.ref c) (!b):=by
  by_cases hl:its.toArray.size=its'.toArray.size
  ·have z:(List.range its.toArray.size).all e=b:=by
    rw [← hb']
    have:ts.length=us.length:=by simp at hl; omega
    rw [this]
    have k:its.toArray.size=us.length:=by simp; omega
    rw [k]; simp
   have R:=SeqAt.RcAt.lists p p' hl hu hp
   have N:=SeqAt.RcNeAt.lists p p' hl hu hp
   rw [z] at R
   refine ⟨R, ?_⟩
   rw [← z]; exact N
  ·have hl' :(its.toArray.size != its'.toArray.size)=true:=by simpa using hl
   have z:b=false:=by
    rw [← hb']
    have:¬ ts.length=us.length:=by simp at hl; omega
    simp [this]
   subst z
   exact ⟨SeqAt.RcAt.lists_lengths p p' hl' hu,SeqAt.RcNeAt.lists_lengths p p' hl' hu⟩
 refine ⟨?_,RN.1,RN.2⟩
 by_cases hac:a=c
 ·subst hac
  have hxy:xs=ys:=by
   rcases ha with ha | ⟨o,ha⟩ <;> rcases hc with hc | ⟨o',hc⟩ <;> (rw [ha] at hc; cases hc) <;> rfl
  subst hxy
  have:=r.fn r'; subst this
  rw [Ze hr ts b hb]
  exact SeqAt.EqAt.same _
 ·exact SeqAt.EqAt.of_refs hac RN.1
end
section
variable {X:Cx} {pins:List (Addr×Obj)} {σ:Sg} {H:Hp} {s:Shared}
theorem Zu {A:Around}:A.in1.units=A.units+1:=rfl
set_option maxHeartbeats 2000000 in
theorem WS (I:L2.Inv X pins σ H s):∀ (A:Around),A.units < cLine->∀ (x y:T) (b:Bool) (p q:V) (u w:Value),eqF 0 x y=some b->Rep H p x->Rep H q y->zF p u->zF q w->EqN A s u w b:=by
 intro A hu x y b p q u w h rp rq ru rw'
 have hu' :=hu
 cases rp with
 | non=>
  obtain rfl:u=Value.none:=ru
  cases rq with
  | non=>obtain rfl:w=Value.none:=rw'; unfold eqF at h; cases h; exact ⟨.same _, .none_none, .none_none⟩
  | bl c=>obtain rfl:w=Value.bool c:=rw'; unfold eqF at h; cases h; exact ⟨.none_bool _, .none_bool _, .none_bool _⟩
  | int c=>obtain ⟨t,rfl⟩:=rw'; unfold eqF at h; cases h; exact ⟨.none_int _ _, .none_int _ _, .none_int _ _⟩
  | str c=>obtain ⟨t,rfl⟩:=rw'; unfold eqF at h; cases h; exact ⟨.none_str _ _, .none_str _ _, .none_str _ _⟩
  | tup h1 r1=>obtain rfl:w=Value.ref _:=rw'; unfold eqF at h; cases h; obtain ⟨i,_,p,_⟩:=zY I h1 r1; exact ⟨.none_tuple p hu', .none_tuple p hu', .none_tuple p hu'⟩
  | lst h1 r1=>obtain rfl:w=Value.ref _:=rw'; unfold eqF at h; cases h; obtain ⟨i,_,p,_⟩:=zy I (.inl h1) r1; exact ⟨.none_list p hu', .none_list p hu', .none_list p hu'⟩
  | fz h1 r1=>obtain rfl:w=Value.ref _:=rw'; unfold eqF at h; cases h; obtain ⟨i,_,p,_⟩:=zy I (.inr ⟨_,h1⟩) r1; exact ⟨.none_list p hu', .none_list p hu', .none_list p hu'⟩
 | bl d=>
  obtain rfl:u=Value.bool d:=ru
  cases rq with
  | non=>obtain rfl:w=Value.none:=rw'; unfold eqF at h; cases h; exact ⟨.bool_none _, .bool_none _, .bool_none _⟩
  | bl c=>obtain rfl:w=Value.bool c:=rw'; unfold eqF at h; cases h; exact ⟨.bool_bool _ _, .bool_bool _ _, .bool_bool _ _⟩
  | int c=>obtain ⟨t,rfl⟩:=rw'; unfold eqF at h; cases h; exact ⟨.bool_int _ _ _, .bool_int _ _ _, .bool_int _ _ _⟩
  | str c=>obtain ⟨t,rfl⟩:=rw'; unfold eqF at h; cases h; exact ⟨.bool_str _ _ _, .bool_str _ _ _, .bool_str _ _ _⟩
  | tup h1 r1=>obtain rfl:w=Value.ref _:=rw'; unfold eqF at h; cases h; obtain ⟨i,_,p,_⟩:=zY I h1 r1; exact ⟨.bool_tuple _ p hu', .bool_tuple _ p hu', .bool_tuple _ p hu'⟩
  | lst h1 r1=>obtain rfl:w=Value.ref _:=rw'; unfold eqF at h; cases h; obtain ⟨i,_,p,_⟩:=zy I (.inl h1) r1; exact ⟨.bool_list _ p hu', .bool_list _ p hu', .bool_list _ p hu'⟩
  | fz h1 r1=>obtain rfl:w=Value.ref _:=rw'; unfold eqF at h; cases h; obtain ⟨i,_,p,_⟩:=zy I (.inr ⟨_,h1⟩) r1; exact ⟨.bool_list _ p hu', .bool_list _ p hu', .bool_list _ p hu'⟩
 | int d=>
  obtain ⟨t0,rfl⟩:=ru
  cases rq with
  | non=>obtain rfl:w=Value.none:=rw'; unfold eqF at h; cases h; exact ⟨.int_none _ _, .int_none _ _, .int_none _ _⟩
  | bl c=>obtain rfl:w=Value.bool c:=rw'; unfold eqF at h; cases h; exact ⟨.int_bool _ _ _, .int_bool _ _ _, .int_bool _ _ _⟩
  | int c=>obtain ⟨t,rfl⟩:=rw'; unfold eqF at h; cases h; exact ⟨.int_int _ _ _ _, .int_int _ _ _ _, .int_int _ _ _ _⟩
  | str c=>obtain ⟨t,rfl⟩:=rw'; unfold eqF at h; cases h; exact ⟨.int_str _ _ _ _, .int_str _ _ _ _, .int_str _ _ _ _⟩
  | tup h1 r1=>obtain rfl:w=Value.ref _:=rw'; unfold eqF at h; cases h; obtain ⟨i,_,p,_⟩:=zY I h1 r1; exact ⟨.int_tuple _ _ p hu', .int_tuple _ _ p hu', .int_tuple _ _ p hu'⟩
  | lst h1 r1=>obtain rfl:w=Value.ref _:=rw'; unfold eqF at h; cases h; obtain ⟨i,_,p,_⟩:=zy I (.inl h1) r1; exact ⟨.int_list _ _ p hu', .int_list _ _ p hu', .int_list _ _ p hu'⟩
  | fz h1 r1=>obtain rfl:w=Value.ref _:=rw'; unfold eqF at h; cases h; obtain ⟨i,_,p,_⟩:=zy I (.inr ⟨_,h1⟩) r1; exact ⟨.int_list _ _ p hu', .int_list _ _ p hu', .int_list _ _ p hu'⟩
 | str d=>
  obtain ⟨t0,rfl⟩:=ru
  cases rq with
  | non=>obtain rfl:w=Value.none:=rw'; unfold eqF at h; cases h; exact ⟨.str_none _ _, .str_none _ _, .str_none _ _⟩
  | bl c=>obtain rfl:w=Value.bool c:=rw'; unfold eqF at h; cases h; exact ⟨.str_bool _ _ _, .str_bool _ _ _, .str_bool _ _ _⟩
  | int c=>obtain ⟨t,rfl⟩:=rw'; unfold eqF at h; cases h; exact ⟨.str_int _ _ _ _, .str_int _ _ _ _, .str_int _ _ _ _⟩
  | str c=>obtain ⟨t,rfl⟩:=rw'; unfold eqF at h; cases h; exact ⟨.str_str _ _ _ _, .str_str _ _ _ _, .str_str _ _ _ _⟩
  | tup h1 r1=>obtain rfl:w=Value.ref _:=rw'; unfold eqF at h; cases h; obtain ⟨i,_,p,_⟩:=zY I h1 r1; exact ⟨.str_tuple _ _ p hu', .str_tuple _ _ p hu', .str_tuple _ _ p hu'⟩
  | lst h1 r1=>obtain rfl:w=Value.ref _:=rw'; unfold eqF at h; cases h; obtain ⟨i,_,p,_⟩:=zy I (.inl h1) r1; exact ⟨.str_list _ _ p hu', .str_list _ _ p hu', .str_list _ _ p hu'⟩
  | fz h1 r1=>obtain rfl:w=Value.ref _:=rw'; unfold eqF at h; cases h; obtain ⟨i,_,p,_⟩:=zy I (.inr ⟨_,h1⟩) r1; exact ⟨.str_list _ _ p hu', .str_list _ _ p hu', .str_list _ _ p hu'⟩
 | tup h0 r0=>
  obtain rfl:u=Value.ref _:=ru
  obtain ⟨i0,_,p0,_⟩:=zY I h0 r0
  cases rq with
  | non=>obtain rfl:w=Value.none:=rw'; unfold eqF at h; cases h; exact ⟨.tuple_none p0 hu', .tuple_none p0 hu', .tuple_none p0 hu'⟩
  | bl c=>obtain rfl:w=Value.bool c:=rw'; unfold eqF at h; cases h; exact ⟨.tuple_bool _ p0 hu', .tuple_bool _ p0 hu', .tuple_bool _ p0 hu'⟩
  | int c=>obtain ⟨t,rfl⟩:=rw'; unfold eqF at h; cases h; exact ⟨.tuple_int _ _ p0 hu', .tuple_int _ _ p0 hu', .tuple_int _ _ p0 hu'⟩
  | str c=>obtain ⟨t,rfl⟩:=rw'; unfold eqF at h; cases h; exact ⟨.tuple_str _ _ p0 hu', .tuple_str _ _ p0 hu', .tuple_str _ _ p0 hu'⟩
  | tup h1 r1=>unfold eqF at h; cases h
  | lst h1 r1=>obtain rfl:w=Value.ref _:=rw'; unfold eqF at h; cases h; obtain ⟨i,_,p,_⟩:=zy I (.inl h1) r1; exact ⟨.tuple_list p0 p hu', .tuple_list p0 p hu', .tuple_list p0 p hu'⟩
  | fz h1 r1=>obtain rfl:w=Value.ref _:=rw'; unfold eqF at h; cases h; obtain ⟨i,_,p,_⟩:=zy I (.inr ⟨_,h1⟩) r1; exact ⟨.tuple_list p0 p hu', .tuple_list p0 p hu', .tuple_list p0 p hu'⟩
 | lst h0 r0=>
  obtain rfl:u=Value.ref _:=ru
  obtain ⟨i0,_,p0,_⟩:=zy I (.inl h0) r0
  cases rq with
  | non=>obtain rfl:w=Value.none:=rw'; unfold eqF at h; cases h; exact ⟨.list_none p0 hu', .list_none p0 hu', .list_none p0 hu'⟩
  | bl c=>obtain rfl:w=Value.bool c:=rw'; unfold eqF at h; cases h; exact ⟨.list_bool _ p0 hu', .list_bool _ p0 hu', .list_bool _ p0 hu'⟩
  | int c=>obtain ⟨t,rfl⟩:=rw'; unfold eqF at h; cases h; exact ⟨.list_int _ _ p0 hu', .list_int _ _ p0 hu', .list_int _ _ p0 hu'⟩
  | str c=>obtain ⟨t,rfl⟩:=rw'; unfold eqF at h; cases h; exact ⟨.list_str _ _ p0 hu', .list_str _ _ p0 hu', .list_str _ _ p0 hu'⟩
  | tup h1 r1=>obtain rfl:w=Value.ref _:=rw'; unfold eqF at h; cases h; obtain ⟨i,_,p,_⟩:=zY I h1 r1; exact ⟨.list_tuple p0 p hu', .list_tuple p0 p hu', .list_tuple p0 p hu'⟩
  | lst h1 r1=>unfold eqF at h; cases h
  | fz h1 r1=>unfold eqF at h; cases h
 | fz h0 r0=>
  obtain rfl:u=Value.ref _:=ru
  obtain ⟨i0,_,p0,_⟩:=zy I (.inr ⟨_,h0⟩) r0
  cases rq with
  | non=>obtain rfl:w=Value.none:=rw'; unfold eqF at h; cases h; exact ⟨.list_none p0 hu', .list_none p0 hu', .list_none p0 hu'⟩
  | bl c=>obtain rfl:w=Value.bool c:=rw'; unfold eqF at h; cases h; exact ⟨.list_bool _ p0 hu', .list_bool _ p0 hu', .list_bool _ p0 hu'⟩
  | int c=>obtain ⟨t,rfl⟩:=rw'; unfold eqF at h; cases h; exact ⟨.list_int _ _ p0 hu', .list_int _ _ p0 hu', .list_int _ _ p0 hu'⟩
  | str c=>obtain ⟨t,rfl⟩:=rw'; unfold eqF at h; cases h; exact ⟨.list_str _ _ p0 hu', .list_str _ _ p0 hu', .list_str _ _ p0 hu'⟩
  | tup h1 r1=>obtain rfl:w=Value.ref _:=rw'; unfold eqF at h; cases h; obtain ⟨i,_,p,_⟩:=zY I h1 r1; exact ⟨.list_tuple p0 p hu', .list_tuple p0 p hu', .list_tuple p0 p hu'⟩
  | lst h1 r1=>unfold eqF at h; cases h
  | fz h1 r1=>unfold eqF at h; cases h
set_option maxHeartbeats 2000000 in
theorem WT (I:L2.Inv X pins σ H s):∀ (n:Nat) (A:Around),A.units+n < cLine->∀ (x y:T) (b:Bool) (p q:V) (u w:Value),eqF n x y=some b->Rep H p x->Rep H q y->zF p u->zF q w->EqN A s u w b:=by
 intro n
 induction n with
 | zero=>exact fun A hu x y b p q u w h=>WS I A (by omega) x y b p q u w h
 | succ n ih=>
  intro A hu x y b p q u w h rp rq ru rw'
  have low:eqF 0 x y=some b->EqN A s u w b:=fun h=>WS I A (by omega) x y b p q u w h rp rq ru rw'
  have hu' :A.units < cLine:=by omega
  have ih' :=ih A.in1 (by rw [Zu]; omega)
  cases rp with
  | tup h0 r0=>
   cases rq with
   | tup h1 r1=>
    obtain rfl:u=Value.ref _:=ru
    obtain rfl:w=Value.ref _:=rw'
    unfold eqF at h
    exact yC I hu' h0 h1 r0 r1 h (zV n) ih'
   | _=>exact low (by unfold eqF at h ⊢; exact h)
  | lst h0 r0=>
   cases rq with
   | lst h1 r1=>
    obtain rfl:u=Value.ref _:=ru
    obtain rfl:w=Value.ref _:=rw'
    unfold eqF at h
    exact jS I hu' (.inl h0) (.inl h1) r0 r1 h (zV n) ih'
   | fz h1 r1=>
    obtain rfl:u=Value.ref _:=ru
    obtain rfl:w=Value.ref _:=rw'
    unfold eqF at h
    exact jS I hu' (.inl h0) (.inr ⟨_,h1⟩) r0 r1 h (zV n) ih'
   | _=>exact low (by unfold eqF at h ⊢; exact h)
  | fz h0 r0=>
   cases rq with
   | lst h1 r1=>
    obtain rfl:u=Value.ref _:=ru
    obtain rfl:w=Value.ref _:=rw'
    unfold eqF at h
    exact jS I hu' (.inr ⟨_,h0⟩) (.inl h1) r0 r1 h (zV n) ih'
   | fz h1 r1=>
    obtain rfl:u=Value.ref _:=ru
    obtain rfl:w=Value.ref _:=rw'
    unfold eqF at h
    exact jS I hu' (.inr ⟨_,h0⟩) (.inr ⟨_,h1⟩) r0 r1 h (zV n) ih'
   | _=>exact low (by unfold eqF at h ⊢; exact h)
  | _=>exact low (by cases rq <;> (unfold eqF at h ⊢; exact h))
end
section
variable {X:Cx} {Y:Fx} {a b c d:Expr} {fa fb fc fd:En->R T} {pos:Pos}
def rG (Y:Fx) (g:T->T->R T):R2:=fun x y H Q=>∃ B t t',zg B H/\Rep B x t/\Rep B y t' /\Po Y rC B H (g t t') Q
def zh (g:T->T->R T) (fa fb:En->R T):En->R T:=fun ρ=>(fa ρ).bind fun x=>(fb ρ).bind fun y=>g x y
theorem WU {op:Operator} {g:T->T->R T} (ho:OpR X (binaryOp op) (rG Y g)) (ha:Snd X Y a fa) (hb:Snd X Y b fb):Snd X Y (.BinOp a op b pos) (zh g fa fb):= .mk fun ρ=>
 PE.imp (qm ho (ha ρ) (hb ρ)) fun σ H Q ⟨B,I,q⟩=>step I q fun t v H1 _ s1 r1 I1 q1=>step I1 q1 fun t' v' H2 _ s2 r2 I2 q2=>
  ⟨_,t,t',I2.sB,r1.mono (zo.ge I1.sB s2),r2,q2⟩
theorem po0 {g:R T} {B H:Hp} {Q:VK} {t:T} {v:V} (sB:zg B H) (q:Po Y rC B H g Q) (e:g= .ok t) (r:Rep B v t):Q v H:=by
 subst e
 exact q v H (zg.refl H) (by show Rep (zo B H H) v t; rw [zo.self B H sB]; exact r)
theorem yD {g:R T} {B H:Hp} {Q:VK} {ts:List T} {xs:List V} {p:Addr} (sB:zg B H) (q:Po Y rC B H g Q) (e:g= .ok (.tup ts)) (r:zk B xs ts) (h:H p=none):Q (.ref p) (upd H p (.tup xs)):=by
 subst e
 exact q _ _ (zg.new h _) (.tup (Zn h _) (r.mono (zo.ge sB (zg.new h _))))
theorem YG {g:R T} {B H:Hp} {Q:VK} {ts:List T} {xs:List V} {p:Addr} (sB:zg B H) (q:Po Y rC B H g Q) (e:g= .ok (.lst ts)) (r:zk B xs ts) (h:H p=none):Q (.ref p) (upd H p (.lst xs)):=by
 subst e
 exact q _ _ (zg.new h _) (.lst (Zn h _) (r.mono (zo.ge sB (zg.new h _))))
def zU:T->T->R T
 | .int i, .int j=> .ok (.int (i+j))
 | .bl x, .int j=> .ok (.int (b2 x+j))
 | .int i, .bl y=> .ok (.int (i+b2 y))
 | .str x, .str y=>if x.length+y.length<=bnd then .ok (.str (x++y)) else .bad
 | .tup xs, .tup ys=>if xs.length+ys.length<=bnd then .ok (.tup (xs++ys)) else .bad
 | .lst xs, .lst ys=>if xs.length+ys.length<=bnd then .ok (.lst (xs++ys)) else .bad
 | _,_=> .bad
theorem U4 {prog:Program} {w:World} {A:Around} {E:Value->Shared->Prop} {s:Shared} {t b:Addr} {vs ws:List Value} {Q:Value->Shared->Prop} (ht:IsTup s.heap t vs.toArray) (hb:IsTup s.heap b ws.toArray) (hv:vs=[])
  (h1:Q (.ref b) s):wpAny (model prog w) A (binaryOp .Add (.ref t) (.ref b)) Q E s:=by
 obtain ⟨⟨cls,dd,data,sl⟩,ho,hc,n,hd⟩:=id ht
 obtain ⟨⟨cls2,dd2,data2,sl2⟩,ho2,hc2,n2,hd2⟩:=id hb
 simp only at hc hd hc2 hd2
 subst hc hd hc2 hd2
 exact concat_meets ⟨_,ho,rfl⟩ ⟨_,ho2,rfl⟩ noFill_tuple_add seq_tuple_add PySem.F.slot_tuple_add PySem.F.entry_tuple_add (PySem.F.args_tuple_add_2 _ _)
   (tuple_addW0 t b vs.toArray ws.toArray n n2 dd dd2 sl sl2 (by simp [hv])) ⟨ho,ho2,h1⟩
theorem yE:OpR X (binaryOp .Add) (rG Y zU):=by
 intro pins s σ H x y v u Q I rx ry h
 obtain ⟨B,t,t',sB,r,r',q⟩:=h
 cases r with
 | int i=>
  cases r' with
  | int j=>exact qo pins s σ H _ _ v u Q I rx ry ⟨i,j,rfl,rfl,po0 sB q rfl (.int _)⟩
  | bl y=>exact Wy pins s σ H _ _ v u Q I rx ry ⟨i,y,rfl,rfl,po0 sB q rfl (.int _)⟩
  | _=>exact q.elim
 | bl x=>
  cases r' with
  | int j=>
   obtain rfl:v=Value.bool x:=rx
   obtain ⟨tk,rfl⟩:=ry
   exact IntBool.add_bool_int (⟨.int _,H,I.tok _,⟨_,rfl⟩,po0 sB q rfl (.int _)⟩)
  | _=>exact q.elim
 | str x=>
  cases r' with
  | str y=>
   by_cases hb:x.length+y.length<=bnd
   ·exact wU pins s σ H _ _ v u Q I rx ry ⟨x,y,rfl,rfl,zG hb,po0 sB q (if_pos hb) (.str _)⟩
   ·rw [show zU (.str x) (.str y)= .bad from if_neg hb] at q; exact q.elim
  | _=>exact q.elim
 | @tup a xs ts h1 r1=>
  cases r' with
  | @tup a' ys us h2 r2=>
   by_cases hb:ts.length+us.length<=bnd
   ·have eg:zU (.tup ts) (.tup us)= .ok (.tup (ts++us)):=if_pos hb
    have hz:xs.length+ys.length<=sizeLine:=by rw [r1.length,r2.length]; exact zG hb
    by_cases hx:xs=[]
    ·obtain rfl:v=Value.ref a:=rx
     obtain rfl:u=Value.ref a' :=ry
     obtain ⟨its,rv,p,_⟩:=I.tuple (SqT.of (sB _ _ h1))
     obtain ⟨its',rv',p',_⟩:=I.tuple (SqT.of (sB _ _ h2))
     have et:ts=[]:=r1.nil_iff.mp hx
     refine U4 p p' (rv.nil_iff.mpr hx) ⟨.ref a',H,I,rfl,po0 sB q eg ?_⟩
     rw [et]; exact .tup h2 r2
    ·refine yr pins s σ H _ _ v u Q I rx ry ⟨a,a',xs,ys,rfl,rfl,SqT.of (sB _ _ h1),SqT.of (sB _ _ h2),hx,hz,fun hy=> ?_,fun hy p hp=> ?_⟩
     ·refine po0 sB q eg ?_
      rw [r2.nil_iff.mp hy,List.append_nil]
      exact .tup h1 r1
     ·exact yD sB q eg (r1.append r2) hp
   ·rw [show zU (.tup ts) (.tup us)= .bad from if_neg hb] at q; exact q.elim
  | _=>exact q.elim
 | @lst a xs ts h1 r1=>
  cases r' with
  | @lst a' ys us h2 r2=>
   by_cases hb:ts.length+us.length<=bnd
   ·have eg:zU (.lst ts) (.lst us)= .ok (.lst (ts++us)):=if_pos hb
    have hz:xs.length+ys.length<=sizeLine:=by rw [r1.length,r2.length]; exact zG hb
    exact qF pins s σ H _ _ v u Q I rx ry ⟨a,a',xs,ys,rfl,rfl,sB _ _ h1,sB _ _ h2,hz,fun p hp=>YG sB q eg (r1.append r2) hp⟩
   ·rw [show zU (.lst ts) (.lst us)= .bad from if_neg hb] at q; exact q.elim
  | _=>exact q.elim
 | _=>cases r' <;> exact q.elim
theorem Vp (ha:Snd X Y a fa) (hb:Snd X Y b fb):Snd X Y (.BinOp a .Add b pos) (zh zU fa fb):=WU yE ha hb
def Wi:T->T->R T
 | .int i, .int j=> .ok (.int (i - j))
 | _,_=> .bad
def jq:T->T->R T
 | .int i, .int j=>if 0 < j then .ok (.int (i % j)) else .bad
 | _,_=> .bad
def JS:T->T->R T
 | .int i, .int j=>if 0 < j/\j < 1073741824 then .ok (.int (i / j)) else .bad
 | _,_=> .bad
instance (i j:Int):Decidable (J6 i j):=by unfold J6; infer_instance
def ZB:T->T->R T
 | .int i, .int j=>if J6 i j then .ok (.int (i*j)) else .bad
 | .lst xs, .int k=>if 0<=k/\k < 1000000/\xs.length*k.toNat<=bnd then .ok (.lst (List.replicate k.toNat xs).flatten) else .bad
 | .tup xs, .int k=>if 2<=k/\k < 1000000/\xs ≠ []/\xs.length*k.toNat<=bnd then .ok (.tup (List.replicate k.toNat xs).flatten) else .bad
 | _,_=> .bad
theorem yF:OpR X (binaryOp .Sub) (rG Y Wi):=by
 intro pins s σ H x y v u Q I rx ry h
 obtain ⟨B,t,t',sB,r,r',q⟩:=h
 cases r with
 | int i=>
  cases r' with
  | int j=>exact qp pins s σ H _ _ v u Q I rx ry ⟨i,j,rfl,rfl,po0 sB q rfl (.int _)⟩
  | _=>exact q.elim
 | _=>cases r' <;> exact q.elim
theorem yG:OpR X (binaryOp .Mod) (rG Y jq):=by
 intro pins s σ H x y v u Q I rx ry h
 obtain ⟨B,t,t',sB,r,r',q⟩:=h
 cases r with
 | int i=>
  cases r' with
  | int j=>
   by_cases hj:0 < j
   ·exact qr pins s σ H _ _ v u Q I rx ry ⟨i,j,rfl,rfl,hj,po0 sB q (if_pos hj) (.int _)⟩
   ·rw [show jq (.int i) (.int j)= .bad from if_neg hj] at q; exact q.elim
  | _=>exact q.elim
 | _=>cases r' <;> exact q.elim
theorem U5:OpR X (binaryOp .FloorDiv) (rG Y JS):=by
 intro pins s σ H x y v u Q I rx ry h
 obtain ⟨B,t,t',sB,r,r',q⟩:=h
 cases r with
 | int i=>
  cases r' with
  | int j=>
   by_cases hj:0 < j/\j < 1073741824
   ·exact yg pins s σ H _ _ v u Q I rx ry ⟨i,j,rfl,rfl,hj,po0 sB q (if_pos hj) (.int _)⟩
   ·rw [show JS (.int i) (.int j)= .bad from if_neg hj] at q; exact q.elim
  | _=>exact q.elim
 | _=>cases r' <;> exact q.elim
theorem W6 (l:Addr) (items:Array Value) (n:Nat) (dd:Option Addr) (sl:Array (Option Value)) (x:Int) (u:Tok) (h1:2<=x) (h2:x < 1000000) (hne:items.isEmpty=false) (hsz:items.size*x.toNat<=sizeLine):
  Meets (Builtin.«tuple.__mul__» ⟨[.ref l, .int x u],[]⟩) (fun _ R s=>s.heap.get? l=some { cls:= .type "tuple",dict:=dd,data:= .seq items n,slots:=sl }/\
   R (.ok (.ret (Value.ref s.heap.objs.size))) { s with heap:=s.heap.push { cls:=Value.type "tuple",data:=Data.seq (List.foldl (fun x1 x2=>x1++x2) #[] (List.replicate x.toNat items)) },toks:=s.toks }):=
 .of_wp fun prog w A R s h=>by
  obtain ⟨hp,g,d,tk,os⟩:=s; obtain ⟨hl,h⟩:=h
  have f1:=AutoSeq1.idx_int
  have e0:(items.size:Int)*x=((items.size*x.toNat:Nat):Int):=by
   have:x=((x.toNat:Nat):Int):=by omega
   rw [Int.natCast_mul,← this]
  have sl1:(sizeLine:Nat)=16777216:=sizeLine_eq
  have c1:¬ (decide (x < -(2 ^ 63)) || decide (x ≥ 2 ^ 63))=true:=by simp; omega
  have c2:¬ (items.isEmpty || x == 1)=true:=by simp [hne]; omega
  have c3:¬ (decide (x<=0) || items.isEmpty)=true:=by simp [hne]; omega
  have c4:¬ ((items.size:Int)*x > (2 ^ 63 - 1) / 8):=by rw [e0]; omega
  have c5:¬ Builtin.Tuple.tupleTooMany ((items.size:Int)*x)=true:=by
   unfold Builtin.Tuple.tupleTooMany
   rw [e0]
   intro z
   have:=of_decide_eq_true z
   omega
  unfold Builtin.«tuple.__mul__»
  wp_walk using wpAny_loadPart' hl
  rw [if_neg c1]
  wp_walk using wpAny_loadPart' hl
  rw [if_neg c2]
  try dsimp only
  rw [if_neg c3]
  try dsimp only
  rw [if_neg c4]
  try dsimp only
  rw [if_neg c5]
  try dsimp only
  have hsz' :sizeOk (.seq (List.foldl (fun x1 x2=>x1++x2) #[] (List.replicate x.toNat items))):=by
   show (List.foldl (fun x1 x2=>x1++x2) #[] (List.replicate x.toNat items)).size<=sizeLine
   have:=Zt items.toList x.toNat []
   rw [List.nil_append] at this
   have q:List.foldl (fun x1 x2=>x1++x2) #[] (List.replicate x.toNat items)=(List.replicate x.toNat items.toList).flatten.toArray:=by
    simpa using this
   rw [q,List.size_toArray,JP,Array.length_toList,Nat.mul_comm]
   exact hsz
  exact wpAny_bind (m:=Builtin.Tuple.tupleExact _) (wpAny_newObj_type (wpAny_pure ⟨_,rfl,h⟩) hsz')
theorem Jo:seqRepeat? (.type "tuple")=pure (some (.builtin "tuple.__mul__")):=by
 unfold seqRepeat?
 rw [PySem.seqSlot_of (T:="tuple") (name:="__mul__") (id:="tuple.__mul__") F.slot_tuple_mul.lookup (by decide+kernel),PySem.seqSlot_of (T:="tuple") (name:="__rmul__") (id:="tuple.__rmul__") F.slot_tuple_rmul.lookup (by decide+kernel)]
 rfl
theorem ZU:fillsNumberSlot (.type "tuple") "mul"=pure false:=
 PySem.fillsNumberSlot_seq (id:="tuple.__mul__") (r:=some (.builtin "tuple.__rmul__")) F.slot_tuple_mul.lookup (by decide+kernel) F.slot_tuple_rmul.lookup (by decide+kernel)
theorem jt (a:Int) (t:Tok) (l:Addr) (items:Array Value) (n:Nat) (dd:Option Addr) (sl:Array (Option Value)):
  Meets (Builtin.«int.__rmul__» ⟨[.int a t, .ref l],[]⟩) (fun _ R s=>s.heap.get? l=some { cls:= .type "tuple",dict:=dd,data:= .seq items n,slots:=sl }/\R (.ok (.ret Value.notImplemented)) s):=
 .of_wp fun prog w A R s h=>by obtain ⟨hp,g,d,tk,os⟩:=s; obtain ⟨hl,h⟩:=h; wp_walk; exact ⟨_,rfl,h⟩
theorem yH {prog:Program} {w:World} {A:Around} {E:Value->Shared->Prop} {s:Shared} {l:Addr} {its:List Value} {k:Int} {t:Tok} {Q:Value->Shared->Prop} (p:IsTup s.heap l its.toArray) (hne:its ≠ []) (h1:2<=k) (h2:k < 1000000)
  (hsz:its.length*k.toNat<=sizeLine) (q:Q (.ref s.heap.objs.size) { s with heap:=s.heap.push { cls:= .type "tuple",data:= .seq (List.replicate k.toNat its).flatten.toArray } }):
  wpAny (model prog w) A (binaryOp .Mult (.ref l) (.int k t)) Q E s:=by
 obtain ⟨⟨cls,dd,data,sl⟩,ho,hc,n,hd⟩:=id p
 simp only at hc hd
 subst hc hd
 refine wpAny_binaryOp_repeat_ref (T:="tuple") (U:="int") (by decide) ⟨_,ho,rfl⟩ (fun s' =>typeIs_int s' k t) ZU F.fills_int_mul F.slot_int_rmul Jo F.slot_int_index.lookup
  (call_meets F.slot_int_rmul (typeIs_int s k t) F.entry_int_rmul (F.args_int_rmul_2 _ _) (jt k t l its.toArray n dd sl)
   ⟨ho,rfl,⟨_,ho,rfl⟩,call_meets F.slot_tuple_mul ⟨_,ho,rfl⟩ F.entry_tuple_mul (F.args_tuple_mul_2 _ _) (W6 l its.toArray n dd sl k t h1 h2 (by simpa using hne) (by simpa using hsz)) ⟨ho, ?_⟩⟩)
 have:=Zt its k.toNat []
 rw [List.nil_append] at this
 rw [this]
 exact q
theorem yI:OpR X (binaryOp .Mult) (rG Y ZB):=by
 intro pins s σ H x y v u Q I rx ry h
 obtain ⟨B,t,t',sB,r,r',q⟩:=h
 cases r with
 | int i=>
  cases r' with
  | int j=>
   by_cases hj:J6 i j
   ·exact qq pins s σ H _ _ v u Q I rx ry ⟨i,j,rfl,rfl,hj,po0 sB q (if_pos hj) (.int _)⟩
   ·rw [show ZB (.int i) (.int j)= .bad from if_neg hj] at q; exact q.elim
  | _=>exact q.elim
 | @lst l xs ts h1 r1=>
  cases r' with
  | int k=>
   by_cases hk:0<=k/\k < 1000000/\ts.length*k.toNat<=bnd
   ·have eg:ZB (.lst ts) (.int k)= .ok (.lst (List.replicate k.toNat ts).flatten):=if_pos hk
    exact qG pins s σ H _ _ v u Q I rx ry ⟨l,k,xs,rfl,rfl,sB _ _ h1,by omega,by omega,by rw [r1.length]; exact zG hk.2.2,fun p hp=>YG sB q eg (r1.rep _) hp⟩
   ·rw [show ZB (.lst ts) (.int k)= .bad from if_neg hk] at q; exact q.elim
  | _=>exact q.elim
 | @tup l xs ts h1 r1=>
  cases r' with
  | int k=>
   by_cases hk:2<=k/\k < 1000000/\ts ≠ []/\ts.length*k.toNat<=bnd
   ·have eg:ZB (.tup ts) (.int k)= .ok (.tup (List.replicate k.toNat ts).flatten):=if_pos hk
    obtain rfl:v=Value.ref l:=rx
    obtain ⟨tk,rfl⟩:=ry
    obtain ⟨its,rv,p,_⟩:=I.tuple (SqT.of (sB _ _ h1))
    have ln:ts.length=its.length:=r1.length.symm.trans rv.length
    have hne:its ≠ []:=fun z=>hk.2.2.1 (by rw [z] at ln; exact List.length_eq_zero_iff.mp ln)
    refine yH p hne hk.1 hk.2.1 (by rw [← ln]; exact zG hk.2.2.2) ⟨.ref s.heap.objs.size,upd H s.heap.objs.size (.tup (List.replicate k.toNat xs).flatten),I.laid (t' :=s.toks) (fun b u e=>Heap.get?_push_of_some _ e) (Nat.le_refl _) ?_,rfl, ?_⟩
    ·exact ⟨by rw [JP,r1.length,Nat.mul_comm]; exact zG hk.2.2.2,(List.replicate k.toNat its).flatten,rv.rep _,⟨_,Heap.get?_push_size _ rfl,rfl,_,rfl⟩, .inr ⟨_,Heap.get?_push_size _ rfl,rfl⟩⟩
    ·exact yD sB q eg (r1.rep _) (I.hok.fresh (Nat.le_refl _))
   ·rw [show ZB (.tup ts) (.int k)= .bad from if_neg hk] at q; exact q.elim
  | _=>exact q.elim
 | _=>cases r' <;> exact q.elim
theorem Vq (ha:Snd X Y a fa) (hb:Snd X Y b fb):Snd X Y (.BinOp a .Sub b pos) (zh Wi fa fb):=WU yF ha hb
theorem Vr (ha:Snd X Y a fa) (hb:Snd X Y b fb):Snd X Y (.BinOp a .Mod b pos) (zh jq fa fb):=WU yG ha hb
theorem qM (ha:Snd X Y a fa) (hb:Snd X Y b fb):Snd X Y (.BinOp a .FloorDiv b pos) (zh JS fa fb):=WU U5 ha hb
theorem Vs (ha:Snd X Y a fa) (hb:Snd X Y b fb):Snd X Y (.BinOp a .Mult b pos) (zh ZB fa fb):=WU yI ha hb
def Wj (fa:En->R T):En->R T:=fun ρ=>(fa ρ).bind fun x=>match x with
 | .int i=> .ok (.int (-i))
 | _=> .bad
theorem Vt (ha:Snd X Y a fa):Snd X Y (.UnaryOp .USub a pos) (Wj fa):= .mk fun ρ=>PE.imp (Va qs (ha ρ)) fun σ H Q ⟨B,I,q⟩=>step I q fun t v H1 _ s1 r1 I1 q1=>by
 cases r1 with
 | int i=>exact ⟨i,rfl,po0 I1.sB q1 rfl (.int _)⟩
 | _=>exact q1.elim
def jT (g:T->T->R Bool):R2:=fun x y H Q=>∃ t t' b,Rep H x t/\Rep H y t' /\g t t' = .ok b/\Q (.bl b) H
def Jp (g:T->T->R Bool) (fa fb:En->R T):En->R T:=fun ρ=>(fa ρ).bind fun x=>(fb ρ).bind fun y=>(g x y).bind fun b=> .ok (.bl b)
def zE (g:T->T->R Bool) (fa fb:En->R T):En->R Bool:=fun ρ=>(fa ρ).bind fun x=>(fb ρ).bind fun y=>g x y
def Nx (g:T->T->R Bool):Prop:=∀ t t' c,g t t' ≠ .ex c
theorem yJ {op:CmpOp} {g:T->T->R Bool} (nx:Nx g) (ho:OpR X (compareOp op) (jT g)) (ha:Zf X Y a fa) (hb:Zf X Y b fb) (hm:behindInMarks op b=false):Snd X Y (.Compare a [op] [b] pos) (Jp g fa fb):= .mk fun ρ=>
 PE.imp (Wz ho (ha ρ) (hb ρ) hm) fun σ H Q ⟨B,I,q⟩=>step I q fun t v H1 _ s1 r1 I1 q1=>step I1 q1 fun t' v' H2 _ s2 r2 I2 q2=>by
  cases e:g t t' with
  | bad=>rw [e] at q2; exact q2.elim
  | ex c=>exact absurd e (nx _ _ _)
  | ok b=>rw [e] at q2; exact ⟨t,t',b,r1.mono s2,r2,e,zT I2 q2 (.bl b)⟩
theorem WV {op:CmpOp} {g:T->T->R Bool} (nx:Nx g) (ho:OpR X (compareOp op) (jT g)) (ha:Zf X Y a fa) (hb:Zf X Y b fb) (hm:behindInMarks op b=false):Jm X Y (.Compare a [op] [b] pos) (zE g fa fb):= .mk fun ρ=>
 PT.imp (WA ho (ha ρ) (hb ρ) hm) fun σ H Q ⟨B,I,q⟩=>step I q fun t v H1 _ s1 r1 I1 q1=>step I1 q1 fun t' v' H2 _ s2 r2 I2 q2=>by
  cases e:g t t' with
  | bad=>rw [e] at q2; exact q2.elim
  | ex c=>exact absurd e (nx _ _ _)
  | ok b=>rw [e] at q2; exact ⟨t,t',b,r1.mono s2,r2,e,b,rfl,zT I2 q2 rfl⟩
def eqC (t t' :T):R Bool:=match eqF 30 t t' with
 | some b=> .ok b
 | none=> .bad
def neC (t t' :T):R Bool:=match eqF 30 t t' with
 | some b=> .ok (!b)
 | none=> .bad
theorem yK:Nx eqC:=fun t t' c h=>by unfold eqC at h; split at h <;> cases h
theorem qN:Nx neC:=fun t t' c h=>by unfold neC at h; split at h <;> cases h
theorem WW (hu:X.A.units+64 < cLine):OpR X (compareOp .Eq) (jT eqC):=by
 intro pins s σ H x y v u Q I rx ry h
 obtain ⟨t,t',b,r,r',e,q⟩:=h
 unfold eqC at e
 split at e
 ·rename_i k ek
  have e' :k=b:=by injection e
  subst e'
  exact (WT I 30 X.A (by omega) t t' k x y v u ek r r' rx ry).2.1 _ _ _ _ ⟨.bl k,H,I,rfl,q⟩
 ·cases e
theorem UL (hu:X.A.units+64 < cLine):OpR X (compareOp .NotEq) (jT neC):=by
 intro pins s σ H x y v u Q I rx ry h
 obtain ⟨t,t',b,r,r',e,q⟩:=h
 unfold neC at e
 split at e
 ·rename_i k ek
  cases e
  exact (WT I 30 X.A (by omega) t t' k x y v u ek r r' rx ry).2.2 _ _ _ _ ⟨.bl (!k),H,I,rfl,q⟩
 ·cases e
def ltC:T->T->R Bool
 | .int i, .int j=> .ok (decide (i < j))
 | _,_=> .bad
def leC:T->T->R Bool
 | .int i, .int j=> .ok (decide (i<=j))
 | .str x, .str y=> .ok (!decide (y.cps.toList < x.cps.toList))
 | _,_=> .bad
def gtC:T->T->R Bool
 | .int i, .int j=> .ok (decide (j < i))
 | _,_=> .bad
theorem Vu:Nx ltC:=fun t t' c h=>by unfold ltC at h; split at h <;> cases h
theorem Jq:Nx leC:=fun t t' c h=>by unfold leC at h; split at h <;> cases h
theorem Vv:Nx gtC:=fun t t' c h=>by unfold gtC at h; split at h <;> cases h
theorem qO:OpR X (compareOp .Lt) (jT ltC):=by
 intro pins s σ H x y v u Q I rx ry h
 obtain ⟨t,t',b,r,r',e,q⟩:=h
 unfold ltC at e
 split at e
 ·rename_i i j; cases e; cases r; cases r'; exact Vc pins s σ H _ _ v u Q I rx ry ⟨i,j,rfl,rfl,q⟩
 ·cases e
theorem qP:OpR X (compareOp .Gt) (jT gtC):=by
 intro pins s σ H x y v u Q I rx ry h
 obtain ⟨t,t',b,r,r',e,q⟩:=h
 unfold gtC at e
 split at e
 ·rename_i i j; cases e; cases r; cases r'; exact Ve pins s σ H _ _ v u Q I rx ry ⟨i,j,rfl,rfl,q⟩
 ·cases e
theorem ZP:OpR X (compareOp .LtE) (jT leC):=by
 intro pins s σ H x y v u Q I rx ry h
 obtain ⟨t,t',b,r,r',e,q⟩:=h
 unfold leC at e
 split at e
 ·rename_i i j; cases e; cases r; cases r'; exact Vd pins s σ H _ _ v u Q I rx ry ⟨i,j,rfl,rfl,q⟩
 ·rename_i i j; cases e; cases r; cases r'
  obtain ⟨t1,rfl⟩:=rx
  obtain ⟨t2,rfl⟩:=ry
  exact PySem.P.le_str ⟨.bl _,H,I,rfl,q⟩
 ·cases e
end
section
variable {X:Cx} {Y:Fx} {a b c d:Expr} {fa fb fc fd:En->R T} {pos:Pos}
def YH (f:T->Option Bool):List T->Option Bool
 | []=>some false
 | t :: r=>match f t with
  | none=>none
  | some b=>match YH f r with
   | none=>none
   | some c=>some (b || c)
def inC (t t' :T):R Bool:=match t' with
 | .tup ys=>match YH (fun y=>eqF 30 y t) ys with | some b=> .ok b | none=> .bad
 | .lst ys=>match YH (fun y=>eqF 30 y t) ys with | some b=> .ok b | none=> .bad
 | _=> .bad
def Vw (t t' :T):R Bool:=(inC t t').bind fun b=> .ok (!b)
theorem qQ:Nx inC:=fun t t' c h=>by
 unfold inC at h
 split at h
 ·split at h <;> cases h
 ·split at h <;> cases h
 ·cases h
open Classical in
theorem JT {H:Hp} (f:T->Option Bool):∃ e:Value->Bool,∀ (v:V) (t:T) (u:Value) (b:Bool),zF v u->Rep H v t->f t=some b->e u=b:=by
 refine ⟨fun u=>decide (∃ v t,zF v u/\Rep H v t/\f t=some true),fun v t u b rv r e=> ?_⟩
 cases b with
 | true=>exact decide_eq_true ⟨v,t,rv,r,e⟩
 | false=>
  refine decide_eq_false ?_
  rintro ⟨v',t',rv',r',e'⟩
  have:=rv.inj rv'; subst this
  have:=r.fn r'; subst this
  rw [e] at e'; cases e'
theorem WX {H:Hp} {f:T->Option Bool} {e:Value->Bool} (he:∀ (v:V) (t:T) (u:Value) (b:Bool),zF v u->Rep H v t->f t=some b->e u=b):∀ {xs:List V} {ts:List T} {its:List Value} {b:Bool},
  zv xs its->zk H xs ts->YH f ts=some b->its.any e=b/\∀ u∈its,∃ v t k,zF v u/\Rep H v t/\f t=some k
 | _,_,_,b, .nil, .nil,h=>by
  have h' :some false=some b:=h
  cases h'
  exact ⟨rfl,fun u hu=>by simp at hu⟩
 | _,_,_,b, .cons rv vs, .cons r rs,h=>by
  rename_i v u vals us t ts
  unfold YH at h
  cases q:f t with
  | none=>rw [q] at h; cases h
  | some k=>
   rw [q] at h
   cases q' :YH f ts with
   | none=>rw [q'] at h; cases h
   | some k' =>
    rw [q'] at h
    cases h
    obtain ⟨h1,h2⟩:=WX he vs rs q'
    refine ⟨by rw [List.any_cons,h1,he v t u k rv r q],fun w hw=> ?_⟩
    rcases List.mem_cons.mp hw with rfl | hw
    ·exact ⟨v,t,k,rv,r,q⟩
    ·exact h2 w hw
theorem yL (hu:X.A.units+64 < cLine) (neg:Bool):OpR X (compareOp (if neg then .NotIn else .In)) (jT (if neg then Vw else inC)):=by
 intro pins s σ H x y v u Q I rx ry h
 obtain ⟨t,t',b,r,r',e,q⟩:=h
 have hs:∃ k,inC t t' = .ok k/\b=(if neg then !k else k):=by
  cases neg with
  | false=>exact ⟨b,e,rfl⟩
  | true=>
   have e' :Vw t t' = .ok b:=e
   unfold Vw at e'
   cases z:inC t t' with
   | bad=>rw [z] at e'; cases e'
   | ex k=>exact absurd z (qQ _ _ _)
   | ok k=>rw [z] at e'; cases e'; exact ⟨k,rfl,rfl⟩
 obtain ⟨k,ek,rfl⟩:=hs
 unfold inC at ek
 obtain ⟨f,hf⟩:=JT (H:=H) fun y=>eqF 30 y t
 have eqa:∀ w,(∃ v t' k,zF v w/\Rep H v t' /\eqF 30 t' t=some k)->SeqAt.EqAt X.A.in1 s w v (f w):=fun w ⟨v',t',k,rv,rr,ee⟩=>by
  rw [hf v' t' w k rv rr ee]
  exact (WT I 30 X.A.in1 (by rw [Zu]; omega) t' t k v' x w v ee rr r rv rx).1
 split at ek
 ·rename_i ys
  split at ek
  ·rename_i k' hk
   cases ek
   cases r' with
   | @tup l xs _ h1 r1=>
    obtain rfl:u=Value.ref l:=ry
    obtain ⟨its,rv,p,_⟩:=zY I h1 r1
    obtain ⟨h2,h3⟩:=WX hf rv r1 hk
    have h4:its.toArray.any f=k:=by simpa using h2
    cases neg with
    | false=>exact SeqAt.in_tupleAt f p (fun w hw=>eqa w (h3 w (by simpa using hw))) (by rw [h4]; exact ⟨.bl k,H,I,rfl,q⟩)
    | true=>exact SeqAt.notIn_tupleAt f p (fun w hw=>eqa w (h3 w (by simpa using hw))) (by rw [h4]; exact ⟨.bl (!k),H,I,rfl,q⟩)
  ·cases ek
 ·rename_i ys
  split at ek
  ·rename_i k' hk
   cases ek
   cases r' with
   | @lst l xs _ h1 r1=>
    obtain rfl:u=Value.ref l:=ry
    obtain ⟨its,rv,p,_⟩:=zy I (.inl h1) r1
    obtain ⟨h2,h3⟩:=WX hf rv r1 hk
    have h4:its.toArray.any f=k:=by simpa using h2
    cases neg with
    | false=>exact SeqAt.in_listAt f p (fun w hw=>eqa w (h3 w (by simpa using hw))) (by rw [h4]; exact ⟨.bl k,H,I,rfl,q⟩)
    | true=>exact SeqAt.notIn_listAt f p (fun w hw=>eqa w (h3 w (by simpa using hw))) (by rw [h4]; exact ⟨.bl (!k),H,I,rfl,q⟩)
  ·cases ek
 ·cases ek
theorem qR (hu:X.A.units+64 < cLine):OpR X (compareOp .In) (jT inC):=yL hu false
def isNC (t t' :T):R Bool:=match t' with
 | .non=>match t with | .non=> .ok true | _=> .ok false
 | .bl k=>match t with | .bl j=> .ok (j == k) | _=> .ok false
 | _=> .bad
def chE (g g' :T->T->R Bool) (fa fb fc:En->R T):En->R T:=fun ρ=>(fa ρ).bind fun x=>(fb ρ).bind fun y=>(g x y).bind fun k=>if k=true then (fc ρ).bind fun z=>(g' y z).bind fun k' => .ok (.bl k') else .ok (.bl false)
def chT (g g' :T->T->R Bool) (fa fb fc:En->R T):En->R Bool:=fun ρ=>(fa ρ).bind fun x=>(fb ρ).bind fun y=>(g x y).bind fun k=>if k=true then (fc ρ).bind fun z=>g' y z else .ok false
theorem yM {op op' :CmpOp} {g g' :T->T->R Bool} (nx:Nx g) (nx' :Nx g') (ho:OpR X (compareOp op) (jT g)) (ho' :OpR X (compareOp op') (jT g')) (ha:Zf X Y a fa) (hb:Zf X Y b fb) (hc:Zf X Y c fc)
  (hm:lastMarks [op,op'] [b,c]=false:=by with_unfolding_all rfl):Snd X Y (.Compare a [op,op'] [b,c] pos) (chE g g' fa fb fc):= .mk fun ρ=>
 PE.imp (uW ho ho' (ha ρ) (hb ρ) (hc ρ) hm) fun σ H Q ⟨B,I,q⟩=>step I q fun t v H1 _ s1 r1 I1 q1=>step I1 q1 fun t' v' H2 _ s2 r2 I2 q2=>by
  cases e:g t t' with
  | bad=>rw [e] at q2; exact q2.elim
  | ex c=>exact absurd e (nx _ _ _)
  | ok k=>
   rw [e] at q2
   refine ⟨t,t',k,r1.mono s2,r2,e,k,rfl, ?_⟩
   cases k with
   | false=>exact zT I2 q2 (.bl false)
   | true=>
    refine step I2 q2 fun t3 v3 H3 _ s3 r3 I3 q3=> ?_
    ·cases e:g' t' t3 with
     | bad=>rw [e] at q3; exact q3.elim
     | ex c=>exact absurd e (nx' _ _ _)
     | ok k=>rw [e] at q3; exact ⟨t',t3,k,r2.mono s3,r3,e,zT I3 q3 (.bl k)⟩
theorem yN {op op' :CmpOp} {g g' :T->T->R Bool} (nx:Nx g) (nx' :Nx g') (ho:OpR X (compareOp op) (jT g)) (ho' :OpR X (compareOp op') (jT g')) (ha:Zf X Y a fa) (hb:Zf X Y b fb) (hc:Zf X Y c fc)
  (hm:lastMarks [op,op'] [b,c]=false:=by with_unfolding_all rfl):Jm X Y (.Compare a [op,op'] [b,c] pos) (chT g g' fa fb fc):= .mk fun ρ=>
 PT.imp (uX ho ho' (ha ρ) (hb ρ) (hc ρ) hm) fun σ H Q ⟨B,I,q⟩=>step I q fun t v H1 _ s1 r1 I1 q1=>step I1 q1 fun t' v' H2 _ s2 r2 I2 q2=>by
  cases e:g t t' with
  | bad=>rw [e] at q2; exact q2.elim
  | ex c=>exact absurd e (nx _ _ _)
  | ok k=>
   rw [e] at q2
   refine ⟨t,t',k,r1.mono s2,r2,e,k,rfl, ?_⟩
   cases k with
   | false=>exact ⟨false,rfl,zT I2 q2 rfl⟩
   | true=>
    refine step I2 q2 fun t3 v3 H3 _ s3 r3 I3 q3=> ?_
    ·cases e:g' t' t3 with
     | bad=>rw [e] at q3; exact q3.elim
     | ex c=>exact absurd e (nx' _ _ _)
     | ok k=>rw [e] at q3; exact ⟨t',t3,k,r2.mono s3,r3,e,k,rfl,zT I3 q3 rfl⟩
def yO (r r' r'' :R2) (ta tb tc td:TE):TE:=fun σ H Q=>ta σ H fun x H1=>tb σ H1 fun y H2=>r x y H2 fun z H3=>∃ k,z= .bl k/\
 (if k=true then tc σ H3 fun w' H4=>r' y w' H4 fun z' H5=>∃ k',z' = .bl k' /\(if k' =true then td σ H5 fun w2 H6=>r'' w' w2 H6 Q else Q (.bl false) H5) else Q (.bl false) H3)
theorem WY {op op' op'' :CmpOp} {r r' r'' :R2} {ta tb tc td:TE} (ho:OpR X (compareOp op) r) (ho' :OpR X (compareOp op') r') (ho'' :OpR X (compareOp op'') r'') (ha:PE X a ta) (hb:PE X b tb) (hc:PE X c tc) (hd:PE X d td)
  (hm:lastMarks [op,op',op''] [b,c,d]=false:=by with_unfolding_all rfl):PE X (.Compare a [op,op',op''] [b,c,d] pos) (yO r r' r'' ta tb tc td):=by
 intro pins s σ H Q I h
 refine Compare_chain (thn (ha pins s σ H _ I h) fun v s1 ⟨x,H1,I1,r1,q1⟩=>chain_link (thn (hb pins s1 σ H1 _ I1 q1) fun u s2 ⟨y,H2,I2,r2,q2⟩=>
  thn (ho pins s2 σ H2 x y v u _ I2 r1 r2 q2) fun d' s3 ⟨z,H3,I3,r3,k,e,q3⟩=> ?_)) hm
 subst e
 cases r3
 refine wpAny_truthy_bool ?_
 cases k with
 | false=>exact ite_ff ⟨.bl false,H3,I3,rfl,q3⟩
 | true=>
  refine ite_tt (chain_link (thn (hc pins s3 σ H3 _ I3 q3) fun w' s4 ⟨z',H4,I4,r4,q4⟩=>thn (ho' pins s4 σ H4 y z' u w' _ I4 r2 r4 q4) fun d2 s5 ⟨z5,H5,I5,r5,k5,e5,q5⟩=> ?_))
  subst e5
  cases r5
  refine wpAny_truthy_bool ?_
  cases k5 with
  | false=>exact ite_ff ⟨.bl false,H5,I5,rfl,q5⟩
  | true=>exact ite_tt (chain_last (thn (hd pins s5 σ H5 _ I5 q5) fun w6 s6 ⟨z6,H6,I6,r6,q6⟩=>ho'' pins s6 σ H6 z' z6 w' w6 Q I6 r4 r6 q6))
def XM (g g' g'' :T->T->R Bool) (fa fb fc fd:En->R T):En->R T:=fun ρ=>(fa ρ).bind fun x=>(fb ρ).bind fun y=>(g x y).bind fun k=>if k=true then (fc ρ).bind fun z=>(g' y z).bind fun k' =>
 if k' =true then (fd ρ).bind fun w=>(g'' z w).bind fun k'' => .ok (.bl k'') else .ok (.bl false) else .ok (.bl false)
theorem U6 {op op' op'' :CmpOp} {g g' g'' :T->T->R Bool} (nx:Nx g) (nx' :Nx g') (nx'' :Nx g'') (ho:OpR X (compareOp op) (jT g)) (ho' :OpR X (compareOp op') (jT g')) (ho'' :OpR X (compareOp op'') (jT g''))
  (ha:Zf X Y a fa) (hb:Zf X Y b fb) (hc:Zf X Y c fc) (hd:Zf X Y d fd)
  (hm:lastMarks [op,op',op''] [b,c,d]=false:=by with_unfolding_all rfl):Snd X Y (.Compare a [op,op',op''] [b,c,d] pos) (XM g g' g'' fa fb fc fd):= .mk fun ρ=>
 PE.imp (WY ho ho' ho'' (ha ρ) (hb ρ) (hc ρ) (hd ρ) hm) fun σ H Q ⟨B,I,q⟩=>step I q fun t v H1 _ s1 r1 I1 q1=>step I1 q1 fun t' v' H2 _ s2 r2 I2 q2=>by
  cases e:g t t' with
  | bad=>rw [e] at q2; exact q2.elim
  | ex c=>exact absurd e (nx _ _ _)
  | ok k=>
   rw [e] at q2
   refine ⟨t,t',k,r1.mono s2,r2,e,k,rfl, ?_⟩
   cases k with
   | false=>exact zT I2 q2 (.bl false)
   | true=>
    refine step I2 q2 fun t3 v3 H3 _ s3 r3 I3 q3=> ?_
    ·cases e:g' t' t3 with
     | bad=>rw [e] at q3; exact q3.elim
     | ex c=>exact absurd e (nx' _ _ _)
     | ok k=>
      rw [e] at q3
      refine ⟨t',t3,k,r2.mono s3,r3,e,k,rfl, ?_⟩
      cases k with
      | false=>exact zT I3 q3 (.bl false)
      | true=>
       refine step I3 q3 fun t4 v4 H4 _ s4 r4 I4 q4=> ?_
       ·cases e:g'' t3 t4 with
        | bad=>rw [e] at q4; exact q4.elim
        | ex c=>exact absurd e (nx'' _ _ _)
        | ok k=>rw [e] at q4; exact ⟨t3,t4,k,r3.mono s4,r4,e,zT I4 q4 (.bl k)⟩
variable {rest:List Expr} {ga gb:En->R Bool}
def jU (fa fb:En->R T):En->R T:=fun ρ=>(fa ρ).bind fun x=>match x with
 | .bl true=>fb ρ
 | .bl false=> .ok (.bl false)
 | _=> .bad
def orE (fa fb:En->R T):En->R T:=fun ρ=>(fa ρ).bind fun x=>match x with
 | .bl true=> .ok (.bl true)
 | .bl false=>fb ρ
 | _=> .bad
def vJ (fa:En->R T):En->R T:=fun ρ=>(fa ρ).bind fun x=>match x with
 | .bl k=> .ok (.bl (!k))
 | _=> .bad
theorem Vx {op} (h:Snd X Y a fa):Snd X Y (.BoolOp op [a] pos) fa:= .mk fun ρ=>qf (h ρ)
theorem Vy (ha:Snd X Y a fa) (hb:Snd X Y (.BoolOp .And (b :: rest) pos) fb):Snd X Y (.BoolOp .And (a :: b :: rest) pos) (jU fa fb):= .mk fun ρ=>
 PE.imp (qg (ha ρ) (hb ρ)) fun σ H Q ⟨B,I,q⟩=>step I q fun t v H1 _ s1 r1 I1 q1=>by
  cases r1 with
  | bl k=>
   refine ⟨k,rfl, ?_⟩
   cases k with
   | true=>exact ⟨_,I1,q1⟩
   | false=>exact zT I1 q1 (.bl false)
  | _=>exact q1.elim
theorem gF (ha:Snd X Y a fa) (hb:Snd X Y (.BoolOp .Or (b :: rest) pos) fb):Snd X Y (.BoolOp .Or (a :: b :: rest) pos) (orE fa fb):= .mk fun ρ=>
 PE.imp (V3 (ha ρ) (hb ρ)) fun σ H Q ⟨B,I,q⟩=>step I q fun t v H1 _ s1 r1 I1 q1=>by
  cases r1 with
  | bl k=>
   refine ⟨k,rfl, ?_⟩
   cases k with
   | false=>exact ⟨_,I1,q1⟩
   | true=>exact zT I1 q1 (.bl true)
  | _=>exact q1.elim
theorem Vz (ha:Snd X Y a fa):Snd X Y (.UnaryOp .Not a pos) (vJ fa):= .mk fun ρ=>
 PE.imp (qh (ha ρ)) fun σ H Q ⟨B,I,q⟩=>step I q fun t v H1 _ s1 r1 I1 q1=>by
  cases r1 with
  | bl k=>exact ⟨k,rfl,zT I1 q1 (.bl (!k))⟩
  | _=>exact q1.elim
structure Wk (X:Cx) (Y:Fx) (e:Expr) (f:En->R Bool):Prop where
 mk ::
 go:∀ ρ,PW X e (tS Y rE f ρ)
instance {X:Cx} {Y:Fx} {e:Expr} {f:En->R Bool}:CoeFun (Wk X Y e f) fun _=>∀ ρ,PW X e (tS Y rE f ρ):=⟨Wk.go⟩
theorem Wk.t {e:Expr} {f:En->R Bool} (h:Wk X Y e f):Jm X Y e f:= .mk fun ρ=>(h ρ).pt
theorem PW.imp {e:Expr} {t t' :TT} (h:PW X e t) (i:∀ σ H Q,t' σ H Q->t σ H Q):PW X e t' :=fun wh pins s σ H Q I q=>h wh pins s σ H Q I (i σ H Q q)
def XN (fa fb:En->R Bool):En->R Bool:=fun ρ=>(fa ρ).bind fun x=>if x=true then fb ρ else .ok false
def orT (fa fb:En->R Bool):En->R Bool:=fun ρ=>(fa ρ).bind fun x=>if x=true then .ok true else fb ρ
def wu (fa:En->R Bool):En->R Bool:=fun ρ=>(fa ρ).bind fun x=> .ok (!x)
theorem qS (h:Jm X Y a ga):Wk X Y (.BoolOp .And [a] pos) ga:= .mk fun ρ=>yf (h ρ)
theorem VA (h:Jm X Y a ga):Wk X Y (.BoolOp .Or [a] pos) ga:= .mk fun ρ=>UE (h ρ)
theorem VB (ha:Jm X Y a ga) (hb:Wk X Y (.BoolOp .And (b :: rest) pos) gb):Wk X Y (.BoolOp .And (a :: b :: rest) pos) (XN ga gb):= .mk fun ρ=>
 PW.imp (qb (ha ρ) (hb ρ)) fun σ H Q ⟨B,I,q⟩=>step I q fun t v H1 _ s1 r1 I1 q1=>by
  have r1' :v=t:=r1
  subst r1'
  cases v with
  | true=>exact ⟨_,I1,q1⟩
  | false=>exact zT I1 q1 rfl
theorem gG (ha:Jm X Y a ga) (hb:Wk X Y (.BoolOp .Or (b :: rest) pos) gb):Wk X Y (.BoolOp .Or (a :: b :: rest) pos) (orT ga gb):= .mk fun ρ=>
 PW.imp (qd (ha ρ) (hb ρ)) fun σ H Q ⟨B,I,q⟩=>step I q fun t v H1 _ s1 r1 I1 q1=>by
  have r1' :v=t:=r1
  subst r1'
  cases v with
  | false=>exact ⟨_,I1,q1⟩
  | true=>exact zT I1 q1 rfl
theorem VC (ha:Jm X Y a ga):Jm X Y (.UnaryOp .Not a pos) (wu ga):= .mk fun ρ=>
 PT.imp (qe (ha ρ)) fun σ H Q ⟨B,I,q⟩=>step I q fun t v H1 _ s1 r1 I1 q1=>by
  have r1' :v=t:=r1
  subst r1'
  exact zT I1 q1 rfl
def tru:T->R Bool
 | .bl k=> .ok k
 | .non=> .ok false
 | .int i=> .ok (i != 0)
 | .tup xs=> .ok (!xs.isEmpty)
 | .lst xs=> .ok (!xs.isEmpty)
 | _=> .bad
def jB (fa:En->R T):En->R Bool:=fun ρ=>(fa ρ).bind tru
theorem isE {H:Hp} {xs:List V} {ts:List T} (r:zk H xs ts):(!xs.isEmpty)= !ts.isEmpty:=by cases r <;> rfl
theorem VD (ha:Zf X Y a fa) (he:∀ whole,isTrue a X.env whole=(do let v ← whole; standAt a.pos; holding [v] (truthy v)):=by intro _; rfl):Jm X Y a (jB fa):= .mk fun ρ=>
 PT.imp (uY (ha ρ) he) fun σ H Q ⟨B,I,q⟩=>step I q fun t v H1 _ s1 r1 I1 q1=>by
  cases r1 with
  | bl k=>exact ⟨k,rfl,zT I1 q1 rfl⟩
  | non=>exact ⟨false,rfl,zT I1 q1 rfl⟩
  | int i=>exact ⟨_,rfl,zT I1 q1 rfl⟩
  | tup h r=>exact ⟨_, .inr (.inl ⟨_,SqT.of h,rfl⟩),zT I1 q1 (isE r)⟩
  | lst h r=>exact ⟨_, .inl ⟨_,SqL.of h,rfl⟩,zT I1 q1 (isE r)⟩
  | _=>exact q1.elim
def ifE (g:En->R Bool) (fa fb:En->R T):En->R T:=fun ρ=>(g ρ).bind fun k=>if k=true then fa ρ else fb ρ
theorem gH (hc:Jm X Y c ga) (ha:Snd X Y a fa) (hb:Snd X Y b fb):Snd X Y (.IfExp c a b pos) (ifE ga fa fb):= .mk fun ρ=>
 PE.imp (uU (hc ρ) (ha ρ) (hb ρ)) fun σ H Q ⟨B,I,q⟩=>step I q fun t v H1 _ s1 r1 I1 q1=>by
  have r1' :v=t:=r1
  subst r1'
  cases v with
  | true=>exact ⟨_,I1,q1⟩
  | false=>exact ⟨_,I1,q1⟩
end
end PV
namespace PV
open PySem PySem.Spec PyProof.Rows L2
section
variable {X:Cx} {Y:Fx} {a b c d:Expr} {fa fb fc fd:En->R T} {pos p:Pos}
def ap1 (g:T->R T) (fa:En->R T):En->R T:=fun ρ=>(fa ρ).bind g
abbrev St1 (X:Cx) (a:Expr):Prop:=starEach [a] X.env=[(false,eval a X.env)]
theorem wv {id:String} {x:Str} {r:List V->Hp->VK->Prop} {g:T->R T} (hc:Z4 X (.builtin id) r) (hr:∀ v t B H Q,Rep H v t->zg B H->Po Y rC B H (g t) Q->r [v] H Q)
  (gl:Gl X x) (mg:X.mg x=none) (bt:bootBuiltins x=some (.builtin id)) (ha:Zf X Y a fa) (hs:St1 X a:=by exact st1 rfl) (hn:x ≠ "__name__":=by decide) (hd:(x == ("__debug__":Str))=false:=by decide):Snd X Y (.Call (.Name x p) [a] [] pos) (ap1 g fa):= .mk fun ρ=>
 PE.imp (j0 hc gl mg bt (zj (ha ρ) zw hs) hn hd hs rfl) fun σ H Q ⟨B,I,q⟩=>step I q fun t v H1 _ s1 r1 I1 q1=>hr v t _ H1 Q r1 I1.sB q1
theorem ww {id:String} {x:Str} {r:List V->Hp->VK->Prop} {g:T->R T} (hc:Z4 X (.type id) r) (hr:∀ v t B H Q,Rep B v t->zg B H->Po Y rC B H (g t) Q->r [v] H Q)
  (gl:Gl X x) (mg:X.mg x=none) (bt:bootBuiltins x=some (.type id)) (ha:Snd X Y a fa) (hs:St1 X a:=by exact st1 rfl) (hn:x ≠ "__name__":=by decide) (hd:(x == ("__debug__":Str))=false:=by decide):Snd X Y (.Call (.Name x p) [a] [] pos) (ap1 g fa):= .mk fun ρ=>
 PE.imp (Jg hc gl mg bt (zj (ha ρ) zw hs) hn hd hs rfl) fun σ H Q ⟨B,I,q⟩=>step I q fun t v H1 _ s1 r1 I1 q1=>hr v t _ H1 Q r1 I1.sB q1
def Zj:T->R T
 | .tup xs=> .ok (.int xs.length)
 | .lst xs=> .ok (.int xs.length)
 | .fz xs=> .ok (.int xs.length)
 | .str x=>if x.length<=bnd then .ok (.int x.length) else .bad
 | _=> .bad
theorem VE (v:V) (t:T) (B H:Hp) (Q:VK) (r:Rep H v t) (sB:zg B H) (q:Po Y rC B H (Zj t) Q):
  (∃ p ys,[v]=[V.ref p]/\(SqL X.K H p ys\/SqT X.K H p ys)/\Q (V.int ys.length) H)\/(∃ z,[v]=[V.str z]/\z.length<=sizeLine/\Q (V.int z.length) H):=by
 cases r with
 | tup h r=>exact .inl ⟨_,_,rfl, .inr (SqT.of h),po0 sB q rfl (by rw [r.length]; exact .int _)⟩
 | lst h r=>exact .inl ⟨_,_,rfl, .inl (SqL.of h),po0 sB q rfl (by rw [r.length]; exact .int _)⟩
 | fz h r=>exact .inl ⟨_,_,rfl, .inl (.inl (.inr ⟨_,h⟩)),po0 sB q rfl (by rw [r.length]; exact .int _)⟩
 | str x=>
  by_cases hb:x.length<=bnd
  ·exact .inr ⟨x,rfl,zG hb,po0 sB q (if_pos hb) (.int _)⟩
  ·rw [show Zj (.str x)= .bad from if_neg hb] at q; exact q.elim
 | _=>exact q.elim
theorem VF (gl:Gl X "len") (mg:X.mg "len"=none) (ha:Zf X Y a fa) (hs:St1 X a:=by exact st1 rfl):Snd X Y (.Call (.Name "len" p) [a] [] pos) (ap1 Zj fa):=
 wv (Ji.or Jj) VE gl mg PySem.boot_len ha hs
def vK:T->R T
 | .tup xs=> .ok (.tup xs)
 | .lst xs=> .ok (.tup xs)
 | _=> .bad
theorem VG (v:V) (t:T) (B H:Hp) (Q:VK) (r:Rep B v t) (sB:zg B H) (q:Po Y rC B H (vK t) Q):
  ∃ p ys,[v]=[V.ref p]/\((SqL X.K H p ys/\∀ l,H l=none->Q (.ref l) (upd H l (.tup ys)))\/(SqT X.K H p ys/\Q (.ref p) H)):=by
 cases r with
 | tup h r=>exact ⟨_,_,rfl, .inr ⟨SqT.of (sB _ _ h),po0 sB q rfl (.tup h r)⟩⟩
 | lst h r=>exact ⟨_,_,rfl, .inl ⟨SqL.of (sB _ _ h),fun l hl=>yD sB q rfl r hl⟩⟩
 | _=>exact q.elim
theorem yP (gl:Gl X "tuple") (mg:X.mg "tuple"=none) (ha:Snd X Y a fa) (hs:St1 X a:=by exact st1 rfl):Snd X Y (.Call (.Name "tuple" p) [a] [] pos) (ap1 vK fa):=
 ww jR VG gl mg (PyProof.Rows.Boot.«tuple») ha hs
def tyN:T->String
 | .non=>"NoneType"
 | .bl _=>"bool"
 | .int _=>"int"
 | .str _=>"str"
 | .tup _=>"tuple"
 | .lst _=>"list"
 | .fz _=>"list"
def isT (n:String) (t:T):Bool:=tyN t == n || (n == "int" && tyN t == "bool")
theorem VH {H:Hp} {v:V} {t:T} (K:PySem.W.Frag) (r:Rep H v t):wX K H v (.type (tyN t)):=by
 cases r with
 | non=>exact .non
 | bl b=>exact .bl b
 | int b=>exact .int b
 | str b=>exact .str b
 | tup h _=>exact .tup h
 | lst h _=>exact .lst h
 | fz h _=>exact .frz h
theorem U7:Z4 X (.builtin "isinstance") (fun xs H Q=>∃ v n t,xs=[v, .ty n]/\Rep H v t/\PySem.W.kitOne X.K (.type (tyN t)) (.type n)=some (isT n t)/\Q (.bl (isT n t)) H):=by
 intro pins s σ H xs us Q I rv h
 obtain ⟨v,n,t,rfl,r,hk,q⟩:=h
 obtain ⟨u,w,rfl,ru,rw'⟩:=uZ rv
 obtain rfl:w=Value.type n:=rw'
 exact WD I ru (VH X.K r) hk fun tk=>⟨.bl _,H,I.tok tk,rfl,q⟩
def uN (n:String) (t:T):R T:= .ok (.bl (isT n t))
theorem yQ (K:PySem.W.Frag) (t:T):PySem.W.kitOne K (.type (tyN t)) (.type "int")=some (isT "int" t):=by cases t <;> rfl
theorem U8 (K:PySem.W.Frag) (t:T):PySem.W.kitOne K (.type (tyN t)) (.type "bool")=some (isT "bool" t):=by cases t <;> rfl
theorem yR (K:PySem.W.Frag) (t:T):PySem.W.kitOne K (.type (tyN t)) (.type "str")=some (isT "str" t):=by cases t <;> rfl
theorem WZ (K:PySem.W.Frag) (t:T):PySem.W.kitOne K (.type (tyN t)) (.type "tuple")=some (isT "tuple" t):=by cases t <;> rfl
theorem U9 {n:String} {p' :Pos} (hk:∀ t,PySem.W.kitOne X.K (.type (tyN t)) (.type n)=some (isT n t)) (gl:Gl X "isinstance") (mg:X.mg "isinstance"=none) (gl' :Gl X (Str.ofString n)) (mg' :X.mg (Str.ofString n)=none) (bt:bootBuiltins (Str.ofString n)=some (.type n)) (ha:Zf X Y a fa)
  (hs:starEach [a, .Name (Str.ofString n) p'] X.env=[(false,eval a X.env),(false,eval (.Name (Str.ofString n) p') X.env)]:=by exact st2 rfl rfl) (hs2:starEach [.Name (Str.ofString n) p'] X.env=[(false,eval (.Name (Str.ofString n) p') X.env)]:=by exact st1 rfl)
  (hn:Str.ofString n ≠ "__name__":=by decide) (hd:(Str.ofString n == ("__debug__":Str))=false:=by decide) (hz:((backTo pos (starEach [.Name (Str.ofString n) p'] X.env)).any fun x=>x.fst)=false:=by exact zA rfl):
  Snd X Y (.Call (.Name "isinstance" p) [a, .Name (Str.ofString n) p'] [] pos) (ap1 (uN n) fa):= .mk fun ρ=>
 PE.imp (j0 U7 gl mg PyProof.Rows.Boot.«isinstance» (zj (ha ρ) (zj (Ws (v:= .ty n) gl' mg' bt rfl hn hd) zw hs2) (by rw [hs,hs2])) (by decide) (by decide) (by rw [hs,hs2]) hz) fun σ H Q ⟨B,I,q⟩=>
  step I q fun t v H1 _ s1 r1 I1 q1=>⟨v,n,t,rfl,r1,hk t,po0 I1.sB q1 rfl (.bl _)⟩
def atT (xs:List T) (i:Int):R T:=match atI xs i with
 | some t=> .ok t
 | none=> .bad
def ixT:T->T->R T
 | .tup xs, .int i=>atT xs i
 | .lst xs, .int i=>atT xs i
 | .fz xs, .int i=>atT xs i
 | .str z, .int i=>if z.length<=bnd then match atI z.cps.toList i with | some c=> .ok (.str ⟨#[c]⟩) | none=> .bad else .bad
 | _,_=> .bad
theorem Jr {H:Hp} {xs:List V} {ts:List T} {i:Int} {t:T} (r:zk H xs ts) (h:atI ts i=some t):∃ v,atI xs i=some v/\Rep H v t:=by
 unfold atI at h ⊢
 rw [r.length]
 cases e:ixN ts.length i with
 | none=>rw [e] at h; cases h
 | some j=>
  rw [e] at h
  obtain ⟨v,h1,h2⟩:=r.get (show ts[j]? =some t from h)
  exact ⟨v,h1,h2⟩
theorem gI (ha:Snd X Y a fa) (hb:Snd X Y b fb) (hs:jP b:=by exact fun _ _=>rfl):Snd X Y (.Subscript a b pos) (zh ixT fa fb):= .mk fun ρ=>
 PE.imp (yu WL (ha ρ) (hb ρ) hs) fun σ H Q ⟨B,I,q⟩=>step I q fun t v H1 _ s1 r1 I1 q1=>step I1 q1 fun t' v' H2 _ s2 r2 I2 q2=>by
  have r1:=r1.mono (zo.ge I1.sB s2)
  cases r2 with
  | int i=>
   cases r1 with
   | @tup _ xs ts h r=>
    have q2:Po Y rC _ H2 (atT ts i) Q:=q2
    unfold atT at q2
    split at q2
    ·rename_i t' e
     obtain ⟨w,e1,e2⟩:=Jr r e
     exact .inr (.inl ⟨_,xs,i,w,rfl,rfl,SqT.of (I2.sB _ _ h),e1,po0 I2.sB q2 rfl e2⟩)
    ·exact q2.elim
   | @lst _ xs ts h r=>
    have q2:Po Y rC _ H2 (atT ts i) Q:=q2
    unfold atT at q2
    split at q2
    ·rename_i t' e
     obtain ⟨w,e1,e2⟩:=Jr r e
     exact .inl ⟨_,xs,i,w,rfl,rfl,SqL.of (I2.sB _ _ h),e1,po0 I2.sB q2 rfl e2⟩
    ·exact q2.elim
   | @fz _ _ xs ts h r=>
    have q2:Po Y rC _ H2 (atT ts i) Q:=q2
    unfold atT at q2
    split at q2
    ·rename_i t' e
     obtain ⟨w,e1,e2⟩:=Jr r e
     exact .inl ⟨_,xs,i,w,rfl,rfl, .inl (.inr ⟨_,I2.sB _ _ h⟩),e1,po0 I2.sB q2 rfl e2⟩
    ·exact q2.elim
   | str z=>
    have q2:Po Y rC _ H2 (if z.length<=bnd then match atI z.cps.toList i with | some c=> .ok (.str ⟨#[c]⟩) | none=> .bad else .bad) Q:=q2
    split at q2
    ·rename_i hb
     split at q2
     ·rename_i c e
      exact .inr (.inr ⟨z,i,c,rfl,rfl,zG hb,e,po0 I2.sB q2 rfl (.str _)⟩)
     ·exact q2.elim
    ·exact q2.elim
   | _=>exact q2.elim
  | _=>cases r1 <;> exact q2.elim
structure Ua (X:Cx) (Y:Fx) (e:Option Expr) (f:En->R (Option Int)):Prop where
 mk ::
 go:∀ ρ,PO X e (tS Y rE f ρ)
instance {X:Cx} {Y:Fx} {e:Option Expr} {f:En->R (Option Int)}:CoeFun (Ua X Y e f) fun _=>∀ ρ,PO X e (tS Y rE f ρ):=⟨Ua.go⟩
def noO:En->R (Option Int):=fun _=> .ok none
def jd (fa:En->R T):En->R (Option Int):=fun ρ=>(fa ρ).bind fun t=>match t with
 | .int i=> .ok (some i)
 | _=> .bad
theorem PO.imp {e:Option Expr} {t t' :TO} (h:PO X e t) (i:∀ σ H Q,t' σ H Q->t σ H Q):PO X e t' :=fun pins s σ H Q I q=>h pins s σ H Q I (i σ H Q q)
theorem qT:Ua X Y none noO:= .mk fun ρ=>PO.imp yo fun σ H Q ⟨B,I,q⟩=>zT I q rfl
theorem qU (ha:Snd X Y a fa):Ua X Y (some a) (jd fa):= .mk fun ρ=>PO.imp (yq (ha ρ)) fun σ H Q ⟨B,I,q⟩=>step I q fun t v H1 _ s1 r1 I1 q1=>by
 cases r1 with
 | int i=>exact ⟨i,rfl,zT I1 q1 rfl⟩
 | _=>exact q1.elim
def cut (xs:List T) (lo hi:Option Int):List T:=(xs.drop (HT.sIx xs.length 0 lo)).take (HT.sIx xs.length xs.length hi - HT.sIx xs.length 0 lo)
def slT (t:T) (lo hi:Option Int):R T:=match t with
 | .tup xs=> .ok (.tup (cut xs lo hi))
 | .lst xs=> .ok (.lst (cut xs lo hi))
 | _=> .bad
def slE (fa:En->R T) (fl fh:En->R (Option Int)):En->R T:=fun ρ=>(fa ρ).bind fun t=>(fl ρ).bind fun lo=>(fh ρ).bind fun hi=>slT t lo hi
theorem u0 {H:Hp} {xs:List V} {ts:List T} {lo hi:Option Int} (r:zk H xs ts):zk H (UH xs lo hi) (cut ts lo hi):=by
 unfold UH cut
 rw [r.length]
 exact (r.drop _).take _
theorem ZC {prog:Program} {w:World} {A:Around} {E:Value->Shared->Prop} {s:Shared} {t sl:Addr} {items:Array Value} {vl vu:Value} {lo hi:Option Int} {Q:Value->Shared->Prop} (ht:IsTup s.heap t items) (hs:s.heap.IsSliceOf sl vl vu .none) (pl:IsPart vl lo) (pu:IsPart vu hi)
  (hw:HT.sIx items.size 0 lo=0/\HT.sIx items.size items.size hi=items.size) (h:Q (.ref t) s):wpAny (model prog w) A (getItem (.ref t) (.ref sl)) Q E s:=by
 obtain ⟨os,hos,hcs,hds⟩:=id hs
 have hTs:s.TypeIs (.ref sl) "slice":=⟨os,hos,hcs⟩
 unfold getItem
 try with_reducible refine wpAny_holding ?_
 first | refine wpAny_bind (wpAny_pure ?_) | skip
 refine wpAny_bind (wpAny_sequenceKey ht.typeIs (by decide) ?_)
 refine wpAny_bind (wpAny_callSpecial?_slot (name:=Str.ofString "__getitem__") ht.typeIs PyProof.Rows.slot_tuple_getitem
  (wpAny_call_entry PyProof.Rows.slot_tuple_getitem ht.typeIs entry_tuple_getitem ?_ (args_tuple_getitem _ _)))
 show wpAny _ _ (Builtin.Tuple.tupleItemsOf (.ref t) >>= _) _ _ s
 refine wpAny_bind (tupleItemsOf_ ht ?_)
 refine wpAny_bind (wpAny_typeOf hTs ?_)
 rw [if_pos (by decide)]
 refine wpAny_bind (HT.sliceApplied_gen hs pl pu ?_)
 have hyes:(((HT.sIx items.size 0 lo:Nat):Int) == 0 && (1:Int) == 1 && (HT.sIx items.size items.size hi - HT.sIx items.size 0 lo) == items.size)=true:=by
  rw [hw.1,hw.2]; simp
 show wpAny _ _ (if (((HT.sIx items.size 0 lo:Nat):Int) == 0 && (1:Int) == 1 && (HT.sIx items.size items.size hi - HT.sIx items.size 0 lo) == items.size)=true then _ else _) _ _ s
 rw [if_pos hyes]
 unfold Builtin.Tuple.tupleIsExact
 refine wpAny_bind (wpAny_bind (wpAny_typeOf ht.typeIs (wpAny_pure ?_)))
 rw [if_pos (by decide)]
 exact wpAny_bind (wpAny_rule (wpAny_pure ⟨_,rfl,wpAny_pure h⟩))
theorem W7:SlR X (fun x lo hi H Q=>∃ a xs,x= .ref a/\SqT X.K H a xs/\(HT.sIx xs.length 0 lo=0/\HT.sIx xs.length xs.length hi=xs.length)/\Q (.ref a) H):=by
 intro pins s σ H x v vl vu lo hi sl Q I rx hs pl pu h
 obtain ⟨a,xs,rfl,hx,hw,q⟩:=h
 obtain rfl:v=Value.ref a:=rx
 obtain ⟨its,r,ht,hz⟩:=I.tuple hx
 have hlen:its.toArray.size=xs.length:=by rw [List.size_toArray]; exact r.length.symm
 refine ⟨"tuple",_,PyProof.Rows.slot_tuple_getitem.lookup,ht.typeIs, ?_⟩
 exact ZC ht hs pl pu (by rw [hlen]; exact hw) ⟨.ref a,H,I,rfl,q⟩
theorem yS {xs:List T} {lo hi:Option Int} (h1:HT.sIx xs.length 0 lo=0) (h2:HT.sIx xs.length xs.length hi=xs.length):cut xs lo hi=xs:=by
 unfold cut
 rw [h1,h2]; simp
theorem yT {lo hi:Option Expr} {fl fh:En->R (Option Int)} {p2:Pos} (ha:Snd X Y a fa) (hl:Ua X Y lo fl) (hh:Ua X Y hi fh):Snd X Y (.Subscript a (.Slice lo hi none p2) pos) (slE fa fl fh):= .mk fun ρ=>
 PE.imp (wo (qA.or (W7.or yw)) (ha ρ) (hl ρ) (hh ρ)) fun σ H Q ⟨B,I,q⟩=>step I q fun t v H1 _ s1 r1 I1 q1=>step I1 q1 fun l l' H2 _ s2 el I2 q2=>step I2 q2 fun h h' H3 _ s3 eh I3 q3=>by
  have el' :l' =l:=el
  have eh' :h' =h:=eh
  subst el' eh'
  have r1:=r1.mono ((zo.ge I1.sB s2).trans (zo.ge I2.sB s3))
  cases r1 with
  | @tup _ xs ts hx r=>
   have q3:Po Y rC _ H3 (.ok (.tup (cut ts l' h'))) Q:=q3
   by_cases hw:HT.sIx xs.length 0 l' =0/\HT.sIx xs.length xs.length h' =xs.length
   ·refine .inr (.inl ⟨_,xs,rfl,SqT.of (I3.sB _ _ hx),hw,po0 I3.sB q3 rfl ?_⟩)
    rw [r.length] at hw
    rw [yS hw.1 hw.2]
    exact .tup hx r
   ·exact .inl ⟨_,xs,rfl,SqT.of (I3.sB _ _ hx),hw,fun p hp=>yD I3.sB q3 rfl (u0 r) hp⟩
  | @lst _ xs ts hx r=>
   have q3:Po Y rC _ H3 (.ok (.lst (cut ts l' h'))) Q:=q3
   exact .inr (.inr ⟨_,xs,rfl,SqL.of (I3.sB _ _ hx),fun p hp=>YG I3.sB q3 rfl (u0 r) hp⟩)
  | _=>exact q3.elim
def YI:List T->Option Bool
 | []=>some true
 | .bl k :: r=>match YI r with | some j=>some (k && j) | none=>none
 | _ :: _=>none
def vL:T->R T
 | .lst ts=>match YI ts with | some k=> .ok (.bl k) | none=> .bad
 | _=> .bad
theorem u4:∀ {H:Hp} {xs:List V} {ts:List T} {its:List Value} {k:Bool},zk H xs ts->zv xs its->YI ts=some k->∃ tr:Nat->Bool,(∀ i v,its[i]? =some v->v=Value.bool (tr i))/\(List.range its.length).all tr=k
 | _,_,_,_,k, .nil, .nil,h=>by
  have h' :some true=some k:=h
  cases h'
  exact ⟨fun _=>true,fun i v e=>by simp at e,rfl⟩
 | H,_,_,_,k, .cons (v:=x) (t:=t) r rs, .cons (b:=u) rv vs,h=>by
  cases r with
  | bl b=>
   unfold YI at h
   split at h
   ·rename_i j e
    cases h
    obtain ⟨tr,h1,h2⟩:=u4 rs vs e
    obtain rfl:u=Value.bool b:=rv
    refine ⟨fun i=>match i with | 0=>b | i+1=>tr i,fun i v e=> ?_, ?_⟩
    ·cases i with
     | zero=>simp at e; exact e.symm
     | succ i=>exact h1 i v (by simpa using e)
    ·rw [List.length_cons,List.range_succ_eq_map,List.all_cons,List.all_map,← h2]
     rfl
   ·cases h
  | _=>cases h
theorem u6 (hh:X.A.handled=none):Z4 X (.builtin "all") (fun vs H Q=>∃ l xs ts k,vs=[.ref l]/\H l=some (.lst xs)/\zk H xs ts/\YI ts=some k/\Q (.bl k) H):=by
 intro pins s σ H vs us Q I rv h
 obtain ⟨l,xs,ts,k,rfl,hl,r,hk,q⟩:=h
 obtain ⟨u,rfl,ru⟩:=zX rv
 obtain rfl:u=Value.ref l:=ru
 obtain ⟨its,rv,p,_⟩:=zy I (.inl hl) r
 obtain ⟨tr,h1,h2⟩:=u4 r rv hk
 refine call_all_walk (wpAny_pyIter_list p ?_)
 have hlt:l < s.heap.objs.size:=I.hok.lt hl
 have old:∀ b o,s.heap.get? b=some o->(s.heap.push { cls:= .type "list_iterator",data:= .fields #[.ref l, .int 0 0] }).get? b=some o:=fun b o e=>Heap.get?_push_of_some _ e
 refine ⟨s.heap.objs.size,_,_,_,_,_,tr,rfl,Walks.list (A:=X.A.in1) hh s.heap.objs.size l (Nat.ne_of_lt hlt) its.toArray, ?_, ?_,fun h' tk hk' => ?_⟩
 ·refine ⟨?_,p.at fun o e=>old _ o e⟩
  exact ⟨_,Heap.get?_push_size _ rfl,rfl,rfl⟩
 ·intro i v s' Q' E' hi hq
  rw [h1 i v (by simpa using hi)]
  exact wpAny_truthy_bool hq
 ·rw [List.size_toArray,h2]
  refine ⟨.bl k,H,I.kept (t' :=tk) (fun b o e=>hk' b o ?_ (old b o e)),rfl,q⟩
  simp
  exact Nat.ne_of_lt (Heap.lt_size e)
theorem VI (hh:X.A.handled=none) (gl:Gl X "all") (mg:X.mg "all"=none) (ha:Zf X Y a fa) (hs:St1 X a:=by exact st1 rfl):Snd X Y (.Call (.Name "all" p) [a] [] pos) (ap1 vL fa):=
 wv (u6 hh) (fun v t B H Q r sB q=>by
  cases r with
  | @lst l xs ts h r=>
   have q:Po Y rC B H (match YI ts with | some k=> .ok (.bl k) | none=> .bad) Q:=q
   split at q
   ·rename_i k e
    exact ⟨l,xs,ts,k,rfl,h,r,e,po0 sB q rfl (.bl k)⟩
   ·exact q.elim
  | _=>exact q.elim) gl mg PyProof.Rows.Boot.«all» ha hs
end
inductive RS where
 | nx (ρ:En) | rt (t:T) | bk (ρ:En) | ct (ρ:En) | ex (c:Nat) | bad | rf (ts:List T)
def R.s {α:Type} (r:R α) (k:α->RS):RS:=match r with
 | .ok a=>k a
 | .ex c=> .ex c
 | .bad=> .bad
def PoS (Y:Fx) (B:Hp) (r:RS) (D:Wo):Prop:=match r with
 | .nx ρ' =>∀ σ' H' B',zg B B' ->SI Y B' ρ' σ' H' ->D.nx σ' H'
 | .rt t=>∀ v H',zg Y.H0 H' ->Rep (zo Y.B0 Y.H0 H') v t->D.rt v H'
 | .bk ρ' =>∀ σ' H' B',zg B B' ->SI Y B' ρ' σ' H' ->D.bk σ' H'
 | .ct ρ' =>∀ σ' H' B',zg B B' ->SI Y B' ρ' σ' H' ->D.ct σ' H'
 | .ex c=>XP Y B c
 | .bad=>False
 | .rf ts=>∀ a xs H' B',zg Y.H0 H' ->Y.H0 a=none->H' a=some (.lst xs)->zk B' xs ts->B' a=none->zg B' (zo Y.B0 Y.H0 H')->D.rt (.ref a) H'
theorem PoS.up {Y:Fx} {B B' :Hp} {r:RS} {D:Wo} (s:zg B B') (h:PoS Y B r D):PoS Y B' r D:=by
 cases r with
 | nx ρ=>exact fun σ' H' B2 s2 I=>h σ' H' B2 (s.trans s2) I
 | bk ρ=>exact fun σ' H' B2 s2 I=>h σ' H' B2 (s.trans s2) I
 | ct ρ=>exact fun σ' H' B2 s2 I=>h σ' H' B2 (s.trans s2) I
 | rt t=>exact h
 | rf t=>exact h
 | ex c=>exact fun d H' s0 sB=>h d H' s0 (s.trans sB)
 | bad=>exact h
def tSS (Y:Fx) (f:En->RS) (ρ:En):TS:=fun D σ H=>∃ B,SI Y B ρ σ H/\PoS Y B (f ρ) D
structure ZQ (X:Cx) (Y:Fx) (e:Stmt) (f:En->RS):Prop where
 mk ::
 go:∀ ρ,PS X e (tSS Y f ρ)
instance {X:Cx} {Y:Fx} {e:Stmt} {f:En->RS}:CoeFun (ZQ X Y e f) fun _=>∀ ρ,PS X e (tSS Y f ρ):=⟨ZQ.go⟩
structure Js (X:Cx) (Y:Fx) (e:List Stmt) (f:En->RS):Prop where
 mk ::
 go:∀ ρ,PSs X e (tSS Y f ρ)
instance {X:Cx} {Y:Fx} {e:List Stmt} {f:En->RS}:CoeFun (Js X Y e f) fun _=>∀ ρ,PSs X e (tSS Y f ρ):=⟨Js.go⟩
theorem ZV {α β:Type} {Y:Fx} {rel:Hp->Hp->β->α->Prop} {f:En->R α} {k:α->RS} {ρ:En} {B:Hp} {σ:Sg} {H:Hp} {D:Wo} {K:β->Hp->Prop}
  (I:SI Y B ρ σ H) (h:PoS Y B ((f ρ).s k) D)
  (n:∀ a b H1,f ρ= .ok a->zg H H1->rel (zo B H H1) H1 b a->SI Y (zo B H H1) ρ σ H1->PoS Y (zo B H H1) (k a) D->K b H1):tS Y rel f ρ σ H K:=by
 refine ⟨B,I, ?_⟩
 cases e:f ρ with
 | bad=>rw [e] at h; exact h
 | ex c=>rw [e] at h; exact h
 | ok a=>
  rw [e] at h
  exact fun b H1 s r=>n a b H1 e s r (I.grow s) (PoS.up (zo.ge I.sB s) h)
theorem zc {α:Type} {xs:List α} {i j:Nat} {x y:α} (h:(xs.set i x)[j]? =some y):(j=i/\y=x)\/(j ≠ i/\xs[j]? =some y):=by
 by_cases e:j=i
 ·subst e
  by_cases hl:j < xs.length
  ·rw [List.getElem?_set_self hl] at h; exact .inl ⟨rfl,(Option.some.inj h).symm⟩
  ·rw [List.getElem?_eq_none (by rw [List.length_set]; omega)] at h; cases h
 ·rw [List.getElem?_set_ne (Ne.symm e)] at h; exact .inr ⟨e,h⟩
theorem wx {α:Type} {xs:List α} {i:Nat} {x y:α} (h:(xs.set i x)[i]? =some y):i < xs.length:=by
 by_cases hl:i < xs.length
 ·exact hl
 ·rw [List.getElem?_eq_none (by rw [List.length_set]; omega)] at h; cases h
theorem StI.set {Y:Fx} {B:Hp} {ρ:En} {σ:Sg} {H:Hp} {as:List Addr} {O:Addr->Option (Nat×Nat)} (x:StI Y B ρ σ H as O) (i:Nat) (s:Sl) (v:Option V) (h1:s.isO=false) (h3:∀ ts,s ≠ .ow ts):StI Y B (ρ.set i s) (σ.set i v) H as O:=
 x.on (fun j y hy h=>by
  rcases zc h with ⟨_,e⟩ | ⟨hj,h'⟩
  ·rw [e,h1] at hy; cases hy
  ·exact ⟨h',List.getElem?_set_ne (Ne.symm hj)⟩) (zg.refl _) rfl rfl (zg.refl _) fun b o hb b0 h0 _=>⟨hb,b0,h0,fun ok j us h=>by
  rcases zc h with ⟨_,e⟩ | ⟨hj,h'⟩
  ·exact absurd e.symm (h3 us)
  ·rw [List.getElem?_set_ne (Ne.symm hj)]; exact ok j us h'⟩
theorem SI.setV {Y:Fx} {B:Hp} {ρ:En} {σ:Sg} {H:Hp} (I:SI Y B ρ σ H) (i:Nat) {v:V} {t:T} (r:Rep B v t):SI Y B (ρ.set i (.vl t)) (σ.set i (some v)) H where
 s0:=I.s0
 sH:=I.sH
 sB:=I.sB
 old:=I.old
 len:=by rw [List.length_set,List.length_set]; exact I.len
 vl:=fun j u h=>by
  rcases zc h with ⟨rfl,e⟩ | ⟨hj,h'⟩
  ·cases e
   exact ⟨v,List.getElem?_set_self (by rw [← I.len]; exact wx h),r⟩
  ·obtain ⟨w,e,rr⟩:=I.vl j u h'
   exact ⟨w,by rw [List.getElem?_set_ne (Ne.symm hj)]; exact e,rr⟩
 ow:=fun j us h=>by
  rcases zc h with ⟨rfl,e⟩ | ⟨hj,h'⟩
  ·cases e
  ·obtain ⟨a,xs,e,b0,h0,hh,rr,d⟩:=I.ow j us h'
   refine ⟨a,xs,by rw [List.getElem?_set_ne (Ne.symm hj)]; exact e,b0,h0,hh,rr,fun k ws hk hw=> ?_⟩
   rcases zc hw with ⟨rfl,e'⟩ | ⟨hk',hw'⟩
   ·cases e'
   ·rw [List.getElem?_set_ne (Ne.symm hk')]; exact d k ws hk hw'
 xc:=fun j c h=>by
  rcases zc h with ⟨rfl,e⟩ | ⟨hj,h'⟩
  ·cases e
  ·obtain ⟨a,e,r⟩:=I.xc j c h'
   exact ⟨a,by rw [List.getElem?_set_ne (Ne.symm hj)]; exact e,r⟩
 st:=let ⟨as,O,x⟩:=I.st; ⟨as,O,x.set i _ _ rfl (fun _=>Sl.noConfusion)⟩
theorem SI.newO {Y:Fx} {B:Hp} {ρ:En} {σ:Sg} {H:Hp} (I:SI Y B ρ σ H) (i:Nat) {p:Addr} {xs:List V} {ts:List T} (hp:H p=none) (r:zk B xs ts):SI Y B (ρ.set i (.ow ts)) (σ.set i (some (.ref p))) (upd H p (.lst xs)) where
 s0:=I.s0
 sH:=I.sH.trans (zg.new hp _)
 sB:=I.sB.trans (zg.new hp _)
 old:=I.old
 len:=by rw [List.length_set,List.length_set]; exact I.len
 vl:=fun j u h=>by
  rcases zc h with ⟨rfl,e⟩ | ⟨hj,h'⟩
  ·cases e
  ·obtain ⟨w,e,rr⟩:=I.vl j u h'
   exact ⟨w,by rw [List.getElem?_set_ne (Ne.symm hj)]; exact e,rr⟩
 ow:=fun j us h=>by
  have op:∀ k ws a,ρ[k]? =some (Sl.ow ws)->σ[k]? =some (some (V.ref a))->a ≠ p:=fun k ws a h1 h2=>by
   obtain ⟨a',xs',e,_,_,hh,_⟩:=I.ow k ws h1
   rw [e] at h2; cases h2
   exact zl hh hp
  rcases zc h with ⟨rfl,e⟩ | ⟨hj,h'⟩
  ·cases e
   refine ⟨p,xs,List.getElem?_set_self (by rw [← I.len]; exact wx h),I.sB.free hp,I.sH.free hp,zi,r,fun k ws hk hw=> ?_⟩
   rcases zc hw with ⟨rfl,e'⟩ | ⟨hk',hw'⟩
   ·exact absurd rfl hk
   ·rw [List.getElem?_set_ne (Ne.symm hk')]
    exact fun z=>op k ws p hw' z rfl
  ·obtain ⟨a,xs',e,b0,h0,hh,rr,d⟩:=I.ow j us h'
   refine ⟨a,xs',by rw [List.getElem?_set_ne (Ne.symm hj)]; exact e,b0,h0,by rw [zd (op j us a h' e)]; exact hh,rr,fun k ws hk hw=> ?_⟩
   rcases zc hw with ⟨rfl,e'⟩ | ⟨hk',hw'⟩
   ·rw [List.getElem?_set_self (by rw [← I.len]; exact wx hw)]
    intro z
    exact op j us a h' e (by injection z with z; injection z with z; injection z with z; exact z.symm)
   ·rw [List.getElem?_set_ne (Ne.symm hk')]; exact d k ws hk hw'
 xc:=fun j c h=>by
  rcases zc h with ⟨rfl,e⟩ | ⟨hj,h'⟩
  ·cases e
  ·obtain ⟨a,e,r⟩:=I.xc j c h'
   exact ⟨a,by rw [List.getElem?_set_ne (Ne.symm hj)]; exact e,r⟩
 st:=by
  obtain ⟨as,O,x⟩:=I.st
  refine ⟨as,O,x.on (fun j y hy h=> ?_) (zg.refl _) rfl rfl (zg.refl _) fun b o hb b0 h0 _=> ?_⟩
  ·rcases zc h with ⟨_,e⟩ | ⟨hj,h'⟩
   ·subst e; cases hy
   ·exact ⟨h',List.getElem?_set_ne (Ne.symm hj)⟩
  ·have hne:b ≠ p:=zl hb hp
   refine ⟨by rw [zd hne]; exact hb,b0,h0,fun ok j us h=> ?_⟩
   rcases zc h with ⟨rfl,e⟩ | ⟨hj,h'⟩
   ·rw [List.getElem?_set_self (by rw [← I.len]; exact wx h)]
    intro z; injection z with z; injection z with z; injection z with z; exact hne z.symm
   ·rw [List.getElem?_set_ne (Ne.symm hj)]; exact ok j us h'
theorem SI.chg {Y:Fx} {B:Hp} {ρ:En} {σ:Sg} {H:Hp} (I:SI Y B ρ σ H) (i:Nat) {p:Addr} {ts us:List T} {ys:List V} (hi:ρ[i]? =some (.ow ts)) (he:σ[i]? =some (some (.ref p))) (r:zk B ys us):SI Y B (ρ.set i (.ow us)) σ (upd H p (.lst ys)):=by
 obtain ⟨p',xs,e,b0,h0,hh,rr,d⟩:=I.ow i ts hi
 rw [he] at e
 cases e
 have nb:∀ b o,B b=some o->b ≠ p:=fun b o h z=>by subst z; rw [b0] at h; cases h
 have n0:∀ b o,Y.H0 b=some o->b ≠ p:=fun b o h z=>by subst z; rw [h0] at h; cases h
 refine ⟨I.s0,fun b o h=>by rw [zd (n0 b o h)]; exact I.sH b o h,fun b o h=>by rw [zd (nb b o h)]; exact I.sB b o h,I.old,by rw [List.length_set]; exact I.len,fun j u h=> ?_,fun j ws h=> ?_,fun j c h=> ?_, ?_⟩
 rotate_right
 ·obtain ⟨as,O,x⟩:=I.st
  refine ⟨as,O,x.on (fun j y hy h=> ?_) (zg.refl _) rfl rfl (zg.refl _) fun b o hb b0' h0' cs=> ?_⟩
  ·rcases zc h with ⟨_,e⟩ | ⟨hj,h'⟩
   ·subst e; cases hy
   ·exact ⟨h',rfl⟩
  ·have hne:b ≠ p:=fun z=>by
    subst z
    rcases cs with ⟨C,dx,vs,ez⟩ | ok
    ·rw [hh] at hb; cases hb; cases ez
    ·exact ok i ts hi he
   refine ⟨by rw [zd hne]; exact hb,b0',h0',fun ok j us h=> ?_⟩
   rcases zc h with ⟨rfl,e⟩ | ⟨hj,h'⟩
   ·rw [he]; intro z; injection z with z; injection z with z; injection z with z; exact hne z.symm
   ·exact ok j us h'
 rotate_right
 ·rcases zc h with ⟨rfl,z⟩ | ⟨hj,h'⟩
  ·cases z
  ·exact I.xc j c h'
 ·rcases zc h with ⟨rfl,z⟩ | ⟨hj,h'⟩
  ·cases z
  ·exact I.vl j u h'
 ·rcases zc h with ⟨rfl,z⟩ | ⟨hj,h'⟩
  ·cases z
   refine ⟨p,ys,he,b0,h0,zi,r,fun k vs hk hw=> ?_⟩
   rcases zc hw with ⟨rfl,e'⟩ | ⟨hk',hw'⟩
   ·exact absurd rfl hk
   ·exact d k vs hk hw'
  ·obtain ⟨a,xs',e,c0,g0,gg,ss,d'⟩:=I.ow j ws h'
   have hne:a ≠ p:=fun z=>by subst z; exact d j ws hj h' e
   refine ⟨a,xs',e,c0,g0,by rw [zd hne]; exact gg,ss,fun k vs hk hw=> ?_⟩
   rcases zc hw with ⟨rfl,e'⟩ | ⟨hk',hw'⟩
   ·rw [he]; intro z; injection z with z; injection z with z; injection z with z; exact hne z.symm
   ·exact d' k vs hk hw'
def gJ:Sl->Sl
 | .ow ts=> .vl (.lst ts)
 | .ob _ _=> .un
 | .oc _=> .un
 | .st _=> .un
 | x=>x
def frz (ρ:En):En:=ρ.map gJ
theorem SI.up {Y:Fx} {B:Hp} {ρ:En} {σ:Sg} {H:Hp} (I:SI Y B ρ σ H):zg B (zo B Y.H0 H):=fun b o h=>by
 cases q:Y.H0 b with
 | none=>rw [zB q]; exact I.sB b o h
 | some u=>rw [zC q]; exact h
theorem SI.frz {Y:Fx} {B:Hp} {ρ:En} {σ:Sg} {H:Hp} (I:SI Y B ρ σ H):SI Y (zo B Y.H0 H) (PV.frz ρ) σ H:=by
 have up:zg B (zo B Y.H0 H):=fun b o h=>by
  cases q:Y.H0 b with
  | none=>rw [zB q]; exact I.sB b o h
  | some u=>rw [zC q]; exact h
 refine ⟨I.s0,I.sH,fun b o h=> ?_,fun b o h=>by rw [zC h]; exact I.old b o h,by unfold PV.frz; rw [List.length_map]; exact I.len,fun j t h=> ?_,fun j ts h=> ?_,fun j c h=> ?_,StI.no fun j y hy h=> ?_⟩
 rotate_right
 ·unfold PV.frz at h
  rw [List.getElem?_map] at h
  cases e:ρ[j]? with
  | none=>rw [e] at h; cases h
  | some x=>rw [e] at h; cases x <;> (cases h; cases hy)
 rotate_right
 ·unfold PV.frz at h
  rw [List.getElem?_map] at h
  cases e:ρ[j]? with
  | none=>rw [e] at h; cases h
  | some x=>
   rw [e] at h
   cases x with
   | xc d=>
    cases h
    obtain ⟨a,e1,r⟩:=I.xc j _ e
    exact ⟨a,e1,up a _ r⟩
   | un=>cases h
   | vl _=>cases h
   | ow _=>cases h
   | ob _ _=>cases h
   | oc _=>cases h
   | st _=>cases h
 ·cases q:Y.H0 b with
  | none=>rw [zB q] at h; exact h
  | some u=>rw [zC q] at h; exact I.sB b o h
 ·unfold PV.frz at h
  rw [List.getElem?_map] at h
  cases e:ρ[j]? with
  | none=>rw [e] at h; cases h
  | some x=>
   rw [e] at h
   cases x with
   | un=>cases h
   | vl u=>
    cases h
    obtain ⟨v,e1,r⟩:=I.vl j _ e
    exact ⟨v,e1,r.mono up⟩
   | ow us=>
    cases h
    obtain ⟨a,xs,e1,b0,h0,hh,rr,_⟩:=I.ow j us e
    exact ⟨.ref a,e1, .lst (by rw [zB h0]; exact hh) (rr.mono up)⟩
   | xc _=>cases h
   | ob _ _=>cases h
   | oc _=>cases h
   | st _=>cases h
 ·unfold PV.frz at h
  rw [List.getElem?_map] at h
  cases e:ρ[j]? with
  | none=>rw [e] at h; cases h
  | some x=>
   rw [e] at h
   cases x with
   | un=>cases h
   | vl u=>cases h
   | ow us=>cases h
   | xc _=>cases h
   | ob _ _=>cases h
   | oc _=>cases h
   | st _=>cases h
theorem UM {Y:Fx} {B H H' :Hp} (s0:zg Y.H0 H) (old:∀ b o,Y.H0 b=some o->B b=Y.B0 b) (s:zg H H') (sB:zg B H):zg (zo B H H') (zo Y.B0 Y.H0 H'):=fun b o h=>by
 cases q:H b with
 | none=>
  rw [zB q] at h
  rw [zB (s0.free q)]; exact h
 | some u=>
  rw [zC q] at h
  cases z:Y.H0 b with
  | none=>rw [zB z]; exact s b o (sB b o h)
  | some w=>rw [zC z,← old b w z]; exact h
section
variable {X:Cx} {Y:Fx} {a b c d:Expr} {fa fb fc fd:En->R T} {pos p:Pos} {st:Stmt} {sts sts' :List Stmt} {f g:En->RS}
def nxS:En->RS:=fun ρ=> .nx ρ
def zm (f g:En->RS):En->RS:=fun ρ=>match f ρ with
 | .nx ρ' =>g ρ'
 | r=>r
theorem VJ:Js X Y [] nxS:= .mk fun ρ=>PSs.imp Wt fun D σ H ⟨B,I,q⟩=>q σ H B (zg.refl B) I
theorem VL (h:ZQ X Y st f):Js X Y [st] f:= .mk fun ρ=>Zz (h ρ)
theorem qV (h1:ZQ X Y st f) (h2:Js X Y sts g):Js X Y (st :: sts) (zm f g):= .mk fun ρ=>by
 refine PSs.imp (wj (u:=fun D σ H=>∃ ρ',tSS Y g ρ' D σ H) (h1 ρ) ?_) ?_
 ·intro pins s σ H D I ⟨ρ',q⟩
  exact h2 ρ' pins s σ H D I q
 ·intro D σ H ⟨B,I,q⟩
  refine ⟨B,I, ?_⟩
  unfold zm at q
  cases e:f ρ with
  | nx ρ' =>
   rw [e] at q
   intro σ' H' B' s' I'
   exact ⟨ρ',B',I',PoS.up s' q⟩
  | rt t=>rw [e] at q; exact q
  | rf t=>rw [e] at q; exact q
  | bk ρ' =>rw [e] at q; exact q
  | ct ρ' =>rw [e] at q; exact q
  | ex c=>rw [e] at q; exact q
  | bad=>rw [e] at q; exact q
def Zk (i:Nat) (fa:En->R T):En->RS:=fun ρ=>(fa ρ).s fun t=> .nx (ρ.set i (.vl t))
theorem qW {i:Nat} {x:Str} {p' :Pos} (hN:X.N.Nodup) (hi:X.N[i]? =some x) (hx:L2.Loc X.env.scope x) (ha:Snd X Y a fa) (hs:swapsWith a (some (.Name x p')) pos.line X.env=pure false:=by rfl)
  (hf:X.fn x=true\/X.env.scope.names.lookup x=some .local:=by first | exact .inl rfl | exact .inr rfl | assumption):ZQ X Y (.Assign [.Name x p'] a pos) (Zk i fa):= .mk fun ρ=>
 PS.imp (wk hN hi hx (ha ρ) hs hf) fun D σ H ⟨B,I,q⟩=>ZV I q fun t v H1 _ s1 r1 I1 q1=>q1 _ _ _ (zg.refl _) (I1.setV i r1)
def u7 (i:Nat) (ga:En->R (List T)):En->RS:=fun ρ=>(ga ρ).s fun ts=>if ts.length<=bnd then .nx (ρ.set i (.ow ts)) else .bad
theorem qX {i:Nat} {x:Str} {p' :Pos} {es:List Expr} {ga:En->R (List T)} (hN:X.N.Nodup) (hi:X.N[i]? =some x) (hx:L2.Loc X.env.scope x) (ha:jp X Y es ga) (hs:swapsWith (.List es p) (some (.Name x p')) pos.line X.env=pure false:=by rfl)
  (hf:X.fn x=true\/X.env.scope.names.lookup x=some .local:=by first | exact .inl rfl | exact .inr rfl | assumption):ZQ X Y (.Assign [.Name x p'] (.List es p) pos) (u7 i ga):= .mk fun ρ=>
 PS.imp (wk hN hi hx (WF (ha ρ)) hs hf) fun D σ H ⟨B,I,q⟩=>ZV I q fun ts vs H1 _ s1 r1 I1 q1=>by
  split at q1
  ·rename_i hb
   exact ⟨by rw [r1.length]; exact zG hb,fun p hp=>q1 _ _ _ (zg.refl _) (I1.newO i hp r1)⟩
  ·exact q1.elim
def zu (fa:En->R T):En->RS:=fun ρ=>(fa (frz ρ)).s fun t=> .rt t
theorem VM (ha:Snd X Y a fa):ZQ X Y (.Return (some a) pos) (zu fa):= .mk fun ρ=>
 PS.imp (jw (ha (frz ρ))) fun D σ H ⟨B,I,q⟩=>by
  refine ⟨_,I.frz, ?_⟩
  unfold zu at q
  cases e:fa (frz ρ) with
  | bad=>rw [e] at q; exact q
  | ex c=>
   rw [e] at q
   exact fun d H' s0 sG=>q d H' s0 (I.up.trans sG)
  | ok t=>
   rw [e] at q
   intro v H' s r
   have J:=I.frz
   exact q v H' (I.sH.trans s) (r.mono (UM J.sH J.old s J.sB))
def ifS (g:En->R Bool) (f1 f2:En->RS):En->RS:=fun ρ=>(g ρ).s fun k=>if k=true then f1 ρ else f2 ρ
theorem VN {ga:En->R Bool} (hc:Jm X Y c ga) (h1:Js X Y sts f) (h2:Js X Y sts' g):ZQ X Y (.If c sts sts' pos) (ifS ga f g):= .mk fun ρ=>
 PS.imp (qi (hc ρ) (h1 ρ) (h2 ρ)) fun D σ H ⟨B,I,q⟩=>ZV I q fun t v H1 _ s1 r1 I1 q1=>by
  have r1' :v=t:=r1
  subst r1'
  cases v with
  | true=>exact ⟨_,I1,q1⟩
  | false=>exact ⟨_,I1,q1⟩
def Jt (fa:En->R T):En->RS:=fun ρ=>(fa ρ).s fun _=> .nx ρ
theorem qY (ha:Snd X Y a fa) (hs:swapsWith a none pos.line X.env=pure false:=by rfl):ZQ X Y (.Expr a pos) (Jt fa):= .mk fun ρ=>
 PS.imp (j6 (ha ρ) hs) fun D σ H ⟨B,I,q⟩=>ZV I q fun t v H1 _ s1 r1 I1 q1=>q1 _ _ _ (zg.refl _) I1
def uO (i:Nat) (fa:En->R T):En->RS:=fun ρ=>match ρ[i]? with
 | some (.ow ts)=>(fa ρ).s fun t=>if ts.length < bnd then .nx (ρ.set i (.ow (ts++[t]))) else .bad
 | _=> .bad
def qZ (i:Nat) (fa:En->R T):En->RS:=fun ρ=>match ρ[i]? with
 | some (.ow ts)=>(fa ρ).s fun t=>match t with
  | .lst us=>if ts.length+us.length<=bnd then .nx (ρ.set i (.ow (ts++us))) else .bad
  | _=> .bad
 | _=> .bad
theorem UN {n:Nat} (h:n < bnd):n < sizeLine:=by rw [sizeLine_eq]; exact h
theorem VO {i:Nat} {x:Str} {px pa:Pos} (hv:PE X (.Name x px) (j5 i)) (ha:Snd X Y a fa) (hb:attributeBase (.Name x px) "append" X.env (eval (.Name x px) X.env)=eval (.Name x px) X.env:=by rfl) (hs:St1 X a:=by exact st1 rfl)
  (hz:(pa.endLine == p.line)=true:=by rfl) (hw:swapsWith (.Call (.Attribute (.Name x px) "append" pa) [a] [] p) none pos.line X.env=pure false:=by rfl):ZQ X Y (.Expr (.Call (.Attribute (.Name x px) "append" pa) [a] [] p) pos) (uO i fa):= .mk fun ρ=>by
 have e1:(((((backTo p (starEach [a] X.env)).all fun x=> !x.fst) && (backToKw p (keywordEach [] X.env)).all fun x=>x.fst.isSome) && decide (([a].length+([]:List Keyword).length+if ([]:List Keyword).isEmpty=true then 0 else 1) < 30))=true):=by rw [hs]; rfl
 refine PS.imp (j6 (ZT PySem.F.plainAttrs_list PySem.F.slot_list_append PySem.F.type_list_append jb hv (zj (ha ρ) zw hs) hb e1 hz hs rfl) hw) fun D σ H ⟨B,I,q⟩=> ?_
 unfold uO at q
 split at q
 ·rename_i ts e
  obtain ⟨l,xs,e1,b0,h0,hh,rr,d⟩:=I.ow i ts e
  refine ⟨.ref l,e1, .inl ⟨rfl,_,SqL.of hh⟩, ?_⟩
  refine ZV I q fun t v H1 _ s1 r1 I1 q1=> ?_
  split at q1
  ·rename_i hb
   refine ⟨l,xs,v,rfl,rfl,s1 _ _ hh,by rw [rr.length]; exact UN hb, ?_⟩
   exact q1 _ _ _ (zg.refl _) (I1.chg i e e1 ((rr.mono (zo.ge I.sB s1)).append (.cons r1 .nil)))
  ·exact q1.elim
 ·exact q.elim
theorem VP {i:Nat} {x:Str} {px pa:Pos} (hv:PE X (.Name x px) (j5 i)) (ha:Snd X Y a fa) (hb:attributeBase (.Name x px) "extend" X.env (eval (.Name x px) X.env)=eval (.Name x px) X.env:=by rfl) (hs:St1 X a:=by exact st1 rfl)
  (hz:(pa.endLine == p.line)=true:=by rfl) (hw:swapsWith (.Call (.Attribute (.Name x px) "extend" pa) [a] [] p) none pos.line X.env=pure false:=by rfl):ZQ X Y (.Expr (.Call (.Attribute (.Name x px) "extend" pa) [a] [] p) pos) (qZ i fa):= .mk fun ρ=>by
 have e1:(((((backTo p (starEach [a] X.env)).all fun x=> !x.fst) && (backToKw p (keywordEach [] X.env)).all fun x=>x.fst.isSome) && decide (([a].length+([]:List Keyword).length+if ([]:List Keyword).isEmpty=true then 0 else 1) < 30))=true):=by rw [hs]; rfl
 refine PS.imp (j6 (ZT PySem.F.plainAttrs_list PySem.F.slot_list_extend PySem.F.type_list_extend WM hv (zj (ha ρ) zw hs) hb e1 hz hs rfl) hw) fun D σ H ⟨B,I,q⟩=> ?_
 unfold qZ at q
 split at q
 ·rename_i ts e
  obtain ⟨l,xs,e1,b0,h0,hh,rr,d⟩:=I.ow i ts e
  refine ⟨.ref l,e1, .inl ⟨rfl,_,SqL.of hh⟩, ?_⟩
  refine ZV I q fun t v H1 _ s1 r1 I1 q1=> ?_
  cases r1 with
  | @lst b zs us hb r=>
   have q1:PoS Y _ (if ts.length+us.length<=bnd then .nx (ρ.set i (.ow (ts++us))) else .bad) D:=q1
   split at q1
   ·rename_i hl
    refine ⟨l,b,xs,zs,rfl,rfl,s1 _ _ hh,I1.sB _ _ hb,by rw [rr.length,r.length]; exact zG hl, ?_⟩
    exact q1 _ _ _ (zg.refl _) (I1.chg i e e1 ((rr.mono (zo.ge I.sB s1)).append r))
   ·exact q1.elim
  | _=>exact q1.elim
 ·exact q.elim
end
def spP (cl:Nat->Value) (n:Nat) (g:List T->R T):Sp:=fun vs H Q E=>∃ B ts,ts.length=n/\zg B H/\zk B vs ts/\Po ⟨B,H,E,cl,[]⟩ rC B H (g ts) Q
theorem spP.len {cl:Nat->Value} {n:Nat} {g:List T->R T} (vs:List V) (H:Hp) (Q:VK) (E:XK) (h:spP cl n g vs H Q E):vs.length=n:=by
 obtain ⟨B,ts,hl,_,r,_⟩:=h
 rw [r.length,hl]
def zf (n:Nat) (g:List T->R T) (ga:En->R (List T)):En->R T:=fun ρ=>(ga ρ).bind fun ts=>if ts.length=n then g ts else .bad
section
variable {X:Cx} {Y:Fx} {a b c d:Expr} {fa fb fc fd:En->R T} {pos p:Pos}
theorem UO {CX:CXT} {k n:Nat} {f:Addr} {fd:FuncData} {ps:List Str} {g:List T->R T} {x:Str} {es:List Expr} {ga:En->R (List T)} (F:zq X.prog X.w X.K X.mg X.base CX k f fd ps (spP Y.cl n g)) (hr:zQ k X.A) (gl:Gl X x) (mg:X.mg x=some (.ref f))
  (kp:PySem.W.keepIn X.K (.ref f)=true) (bd:L2.Binds X.K fd ps []) (hx:zz CX X Y.E) (ha:jp X Y (a :: es) ga) (hd:(x == ("__debug__":Str))=false:=by decide)
  (hs:starEach (a :: es) X.env=(false,eval a X.env) :: starEach es X.env:=by exact zp rfl) (hz:((backTo pos (starEach es X.env)).any fun x=>x.fst)=false:=by exact zA rfl):Snd X Y (.Call (.Name x p) (a :: es) [] pos) (zf n g ga):= .mk fun ρ=>
 PE.imp (WH F hr gl mg kp bd .nil hx (ha ρ) hd hs hz) fun σ H Q ⟨B,I,q⟩=>step I q fun ts vs H1 _ s1 r1 I1 q1=>by
  split at q1
  ·rename_i hn
   rw [List.append_nil]
   refine ⟨_,ts,hn,I1.sB,r1, ?_⟩
   revert q1
   cases g ts with
   | bad=>exact fun q1=>q1
   | ex c=>exact fun q1 d H' s sB=>q1 d H' (I1.sH.trans s) sB
   | ok t=>exact fun q1=>q1
  ·exact q1.elim
end
def zn:RS->R T
 | .rt t=> .ok t
 | .rf ts=> .ok (.lst ts)
 | .nx _=> .ok .non
 | .ex c=> .ex c
 | _=> .bad
def en0 (n:Nat) (ts:List T):En:=ts.map Sl.vl++List.replicate (n - ts.length) Sl.un
theorem zk.vl {H:Hp}:∀ {vs:List V} {ts:List T} {i:Nat} {t:T} {n m:Nat},zk H vs ts->(ts.map Sl.vl++List.replicate n Sl.un)[i]? =some (Sl.vl t)->∃ v:V,(vs.map some++List.replicate m none)[i]? =some (some v)/\Rep H v t
 | _,_,i,t,n,m, .nil,h=>by
  exfalso
  simp only [List.map_nil,List.nil_append] at h
  rw [List.getElem?_replicate] at h
  split at h
  ·cases h
  ·cases h
 | _,_,0,t,n,m, .cons r _,h=>by
  simp at h; subst h; exact ⟨_,rfl,r⟩
 | _,_,i+1,t,n,m, .cons _ q,h=>by
  obtain ⟨v,h1,h2⟩:=zk.vl (i:=i) (t:=t) (n:=n) (m:=m) q (by simpa using h)
  exact ⟨v,by simpa using h1,h2⟩
theorem UP {n:Nat}:∀ {ts:List T} {i:Nat} {us:List T},(ts.map Sl.vl++List.replicate n Sl.un)[i]? =some (Sl.ow us)->False
 | [],i,us,h=>by
  simp only [List.map_nil,List.nil_append] at h
  rw [List.getElem?_replicate] at h
  split at h
  ·cases h
  ·cases h
 | t :: ts,0,us,h=>by simp at h
 | t :: ts,i+1,us,h=>UP (ts:=ts) (i:=i) (us:=us) (n:=n) (by simpa using h)
theorem UQ {n:Nat}:∀ {ts:List T} {i:Nat} {c:Nat},(ts.map Sl.vl++List.replicate n Sl.un)[i]? =some (Sl.xc c)->False
 | [],i,us,h=>by
  simp only [List.map_nil,List.nil_append] at h
  rw [List.getElem?_replicate] at h
  split at h
  ·cases h
  ·cases h
 | t :: ts,0,us,h=>by simp at h
 | t :: ts,i+1,us,h=>UQ (ts:=ts) (i:=i) (c:=us) (n:=n) (by simpa using h)
theorem JU {n:Nat} {x:Sl} (h1:∀ t,x ≠ .vl t) (h2:x ≠ .un):∀ {ts:List T} {i:Nat},(ts.map Sl.vl++List.replicate n Sl.un)[i]? =some x->False
 | [],i,h=>by
  simp only [List.map_nil,List.nil_append] at h
  rw [List.getElem?_replicate] at h
  split at h
  ·exact h2 (Option.some.inj h).symm
  ·cases h
 | t :: ts,0,h=>h1 t (Option.some.inj (by simpa using h)).symm
 | t :: ts,i+1,h=>JU (ts:=ts) (i:=i) (n:=n) h1 h2 (by simpa using h)
theorem SI.start {Y:Fx} {N:List Str} {vs:List V} {ts:List T} (s:zg Y.B0 Y.H0) (r:zk Y.B0 vs ts):SI Y Y.B0 (en0 N.length ts) (L2.start N vs) Y.H0 where
 s0:=s
 sH:=zg.refl _
 sB:=s
 old:=fun _ _ _=>rfl
 len:=by unfold en0 L2.start; simp [r.length]
 vl:=fun i t h=>r.vl h
 ow:=fun i ts h=>(UP h).elim
 xc:=fun i c h=>(UQ h).elim
 st:=StI.no fun i s hs h=>JU (fun t z=>by rw [z] at hs; cases hs) (fun z=>by rw [z] at hs; cases hs) h
section
variable {P:Program} {w:World} {K:PySem.W.Frag} {mg:Str->Option Value} {base:Heap}
theorem zH {cl:Nat->Value} {x qual:Str} {st:Stmt} {f:Addr} {fd:FuncData} {N ps:List Str} {k n:Nat} {fb:En->RS} {g:List T->R T} (F:Fun K x qual st f fd) (S:za N ps (z9 st)) (hn:n=ps.length)
  (hb:∀ (cdv:Value) (A:Around) (outer:List Env) (s:Shared) (H:Hp) (E:XK) (Y:Fx),Y.cl=cl->zQ k (A.deeper (envOfC qual (z9 st) s.heap.objs.size f cdv))->
   Js (Zr CX0 P w K mg base N qual (z9 st) f cdv A outer s H E).nox Y (zr st) fb)
  (hg:∀ ts,ts.length=n->g ts=zn (fb (en0 N.length ts))):zq P w K mg base CX0 (k+1) f fd ps (spP cl n g):=by
 subst hn
 refine F.ok S spP.len fun cdv A outer s H vs Q E hr ⟨B,ts,hl,sB,r,q⟩=> ?_
 refine ⟨_,hb cdv A outer s H E ⟨B,H,E,cl,[]⟩ rfl hr (en0 N.length ts),B,SI.start (Y:=⟨B,H,E,cl,[]⟩) sB r, ?_⟩
 rw [hg ts hl] at q
 revert q
 cases fb (en0 N.length ts) with
 | rt t=>exact fun q v H' s r=>q v H' s r
 | rf t=>exact fun q a xs H' B' s0 n e r _ l=>q (.ref a) H' s0 (.lst (by rw [zB n]; exact e) (r.mono l))
 | nx ρ=>exact fun q σ' H' B' _ I=>q .non H' I.sH .non
 | ex c=>exact fun q=>q
 | bk ρ=>exact fun q=>q.elim
 | ct ρ=>exact fun q=>q.elim
 | bad=>exact fun q=>q
end
abbrev rI:Hp->Hp->It->List T->Prop:=fun B1 _ J ts=>∀ B2 H2,zg B1 B2->zg B2 H2->(∀ i,i < ts.length->J.go i H2)/\(∀ (i:Nat) t x H3,ts[i]? =some t->J.yld i H2 x H3->zg H2 H3/\Rep (zo B2 H2 H3) x t)/\(∀ i,ts.length<=i->J.stop i H2)
structure Wl (X:Cx) (Y:Fx) (tg iter:Expr) (f:En->R (List T)):Prop where
 mk ::
 go:∀ ρ,PI X tg iter (tS Y rI f ρ)
instance {X:Cx} {Y:Fx} {tg iter:Expr} {f:En->R (List T)}:CoeFun (Wl X Y tg iter f) fun _=>∀ ρ,PI X tg iter (tS Y rI f ρ):=⟨Wl.go⟩
section
variable {X:Cx} {Y:Fx} {a b c d tg:Expr} {fa fb fc fd:En->R T} {pos p:Pos}
theorem PI.imp {e:Expr} {t t' :TI} (h:PI X tg e t) (i:∀ σ H Q,t' σ H Q->t σ H Q):PI X tg e t' :=fun pins s σ H Q I q=>h pins s σ H Q I (i σ H Q q)
theorem Q0 {K:PySem.W.Frag} {B1 H1:Hp} {a:Addr} {xs:List V} {ts:List T} (h:B1 a=some (.tup xs)) (r:zk B1 xs ts):rI B1 H1 (Itt K a) ts:=fun B2 H2 s1 s2=>by
 have h2:=s2 _ _ (s1 _ _ h)
 refine ⟨fun i hi=> ?_,fun i t x H3 e y=> ?_,fun i hi=>⟨xs,SqT.of h2,by rw [r.length]; exact hi⟩⟩
 ·obtain ⟨v,e,_⟩:=r.get (List.getElem?_eq_getElem hi)
  exact ⟨xs,v,SqT.of h2,e⟩
 ·obtain ⟨rfl,y⟩:=y
  obtain ⟨v,e1,r1⟩:=r.get e
  have:=y xs (SqT.of h2)
  rw [e1] at this; cases this
  refine ⟨zg.refl _, ?_⟩
  rw [zo.self B2 _ s2]
  exact r1.mono s1
theorem Q1 {K:PySem.W.Frag} {B1 H1:Hp} {a:Addr} {xs:List V} {ts:List T} (h:B1 a=some (.lst xs)) (r:zk B1 xs ts):rI B1 H1 (Itl K a) ts:=fun B2 H2 s1 s2=>by
 have h2:=s2 _ _ (s1 _ _ h)
 refine ⟨fun i hi=> ?_,fun i t x H3 e y=> ?_,fun i hi=>⟨xs,SqL.of h2,by rw [r.length]; exact hi⟩⟩
 ·obtain ⟨v,e,_⟩:=r.get (List.getElem?_eq_getElem hi)
  exact ⟨xs,v,SqL.of h2,e⟩
 ·obtain ⟨rfl,y⟩:=y
  obtain ⟨v,e1,r1⟩:=r.get e
  have:=y xs (SqL.of h2)
  rw [e1] at this; cases this
  refine ⟨zg.refl _, ?_⟩
  rw [zo.self B2 _ s2]
  exact r1.mono s1
def rng (lo:Int) (n:Nat):List T:=(List.range n).map fun (i:Nat)=>T.int (lo+(i:Int))
theorem Q2 {B1 H1:Hp} {lo:Int} {n:Nat}:rI B1 H1 (Itr lo n) (rng lo n):=fun B2 H2 s1 s2=>by
 have hl:(rng lo n).length=n:=by unfold rng; simp
 refine ⟨fun i hi=>by rw [hl] at hi; exact hi,fun i t x H3 e y=> ?_,fun i hi=>by rw [hl] at hi; exact hi⟩
 obtain ⟨rfl,rfl⟩:=y
 refine ⟨zg.refl _, ?_⟩
 unfold rng at e
 rw [List.getElem?_map] at e
 by_cases hi:i < n
 ·rw [List.getElem?_range hi] at e
  cases e
  exact .int _
 ·rw [List.getElem?_eq_none (by simp; omega)] at e; cases e
def Ub (fa:En->R T):En->R (List T):=fun ρ=>(fa ρ).bind fun t=>match t with
 | .int j=>if -1000000 < j/\j < 1000000 then .ok (rng 0 j.toNat) else .bad
 | _=> .bad
theorem Q3 (gl:Gl X "range") (mg:X.mg "range"=none) (ha:Snd X Y a fa) (hs:St1 X a:=by exact st1 rfl):Wl X Y tg (.Call (.Name "range" p) [a] [] pos) (Ub fa):= .mk fun ρ=>PI.imp (Ww gl mg (zj (ha ρ) zw hs) hs) fun σ H R ⟨B,I,q⟩=>step I q fun t v H1 _ s1 r1 I1 q1=>by
 cases r1 with
 | int j=>
  have q1:Po Y rI _ H1 (if -1000000 < j/\j < 1000000 then .ok (rng 0 j.toNat) else .bad) R:=q1
  split at q1
  ·rename_i hj
   exact ⟨j,rfl,by omega,by omega,zT I1 q1 Q2⟩
  ·exact q1.elim
 | _=>exact q1.elim
def vM (X:Cx) (Y:Fx) (tg:Expr) (g:T->En->R En):Prop:=∃ t:TG,PG X tg t/\∀ B ρ σ H v x Q,SI Y B ρ σ H->Rep B v x->(match g x ρ with | .ok ρ' =>∀ σ',SI Y B ρ' σ' H->Q σ' H | _=>False)->t v σ H Q
def jC (i:Nat):T->En->R En:=fun t ρ=> .ok (ρ.set i (.vl t))
theorem Q4 {i:Nat} {x:Str} (hN:X.N.Nodup) (hi:X.N[i]? =some x) (hx:L2.Loc X.env.scope x) (hf:X.fn x=true\/X.env.scope.names.lookup x=some .local:=by first | exact .inl rfl | exact .inr rfl | assumption):vM X Y (.Name x pos) (jC i):=
 ⟨J7 i,zt hN hi hx hf,fun B ρ σ H v x Q I r q=>q _ (I.setV i r)⟩
def ju (i j:Nat):T->En->R En:=fun t ρ=>match t with
 | .tup [x,y]=> .ok ((ρ.set i (.vl x)).set j (.vl y))
 | _=> .bad
theorem Q5 {i j:Nat} {x y:Str} {p' p2:Pos} {k:Nat} (hc:X.calm=true) (hN:X.N.Nodup) (hi:X.N[i]? =some x) (hj:X.N[j]? =some y) (hx:L2.Loc X.env.scope x) (hy:L2.Loc X.env.scope y)
  (hf:X.fn x=true\/X.env.scope.names.lookup x=some .local:=by first | exact .inl rfl | exact .inr rfl | assumption) (hf' :X.fn y=true\/X.env.scope.names.lookup y=some .local:=by first | exact .inl rfl | exact .inr rfl | assumption):
  vM X Y (.Tuple [.Name x pos, .Name y p'] k p2) (ju i j):=by
 refine ⟨V7 X.K 2 (Wu (J7 i) (Wu (J7 j) V6)),J8 hc (zM (zt hN hi hx hf) (zM (zt hN hj hy hf') j7)),fun B ρ σ H v t Q I r q=> ?_⟩
 cases r with
 | @tup l xs ts h r=>
  cases r with
  | nil=>exact q.elim
  | cons r1 rr=>
   cases rr with
   | nil=>exact q.elim
   | cons r2 rr=>
    cases rr with
    | cons _ _=>exact q.elim
    | nil=>
     exact ⟨l,_,rfl,SqT.of (I.sB _ _ h),rfl,_,_,rfl,_,_,rfl,rfl,q _ ((I.setV i r1).setV j r2)⟩
 | _=>exact q.elim
def uP (g:T->En->R En) (fb:En->RS):List T->En->RS
 | [],ρ=> .nx ρ
 | t :: ts,ρ=>match g t ρ with
  | .ok ρ1=>match fb ρ1 with
   | .nx ρ2=>uP g fb ts ρ2
   | .ct ρ2=>uP g fb ts ρ2
   | .bk ρ2=> .nx ρ2
   | r=>r
  | .ex c=> .bad
  | .bad=> .bad
def yU (fi:En->R (List T)) (g:T->En->R En) (fb:En->RS):En->RS:=fun ρ=>(fi ρ).s fun ts=>uP g fb ts ρ
theorem Q6 {iter:Expr} {sts:List Stmt} {fi:En->R (List T)} {g:T->En->R En} {fb:En->RS} (hp:PassesOwn (model X.prog X.w) X.A X.env X.xe) (hc:X.calm=true) (hi:Wl X Y tg iter fi) (hg:vM X Y tg g) (hb:Js X Y sts fb)
  (hs:∀ x,foldedSetIterable iter X.env x=pure x:=by intro _; rfl):ZQ X Y (.For tg iter sts [] pos) (yU fi g fb):= .mk fun ρ=>by
 obtain ⟨tG,hG,hG'⟩:=hg
 refine PS.imp (qk (tb:=fun D σ H=>∃ ρ',tSS Y fb ρ' D σ H) hp hc (hi ρ) hG (fun pins s σ H D I ⟨ρ',q⟩=>hb ρ' pins s σ H D I q) hs) fun D σ H ⟨B,I,q⟩=> ?_
 refine ZV I q fun ts J H1 _ s1 r1 I1 q1=> ?_
 refine ⟨fun i m σ' H' =>m=ts.length - i/\i<=ts.length/\∃ ρ' B',SI Y B' ρ' σ' H' /\zg (zo B H H1) B' /\PoS Y B' (uP g fb (ts.drop i) ρ') D,⟨ts.length,by simp,Nat.zero_le _,ρ,_,I1,zg.refl _,q1⟩, ?_⟩
 rintro i m σ' H' ⟨rfl,hi,ρ',B',I',sB',q'⟩
 obtain ⟨hgo,hyld,hstop⟩:=r1 B' H' sB' I'.sB
 by_cases hlt:i < ts.length
 ·refine .inr ⟨hgo i hlt,fun σ2 H2=>∃ ρ2 B2,SI Y B2 ρ2 σ2 H2/\zg (zo B H H1) B2/\PoS Y B2 (uP g fb (ts.drop (i+1)) ρ2) D,fun σ2 H2 ⟨ρ2,B2,I2,s2,q2⟩=>⟨ts.length - (i+1),by omega,rfl,hlt,ρ2,B2,I2,s2,q2⟩,fun x H2 y=> ?_⟩
  obtain ⟨s2,r2⟩:=hyld i _ x H2 (List.getElem?_eq_getElem hlt) y
  rw [List.drop_eq_getElem_cons hlt] at q'
  unfold uP at q'
  refine hG' _ ρ' σ' H2 x _ _ (I'.grow s2) r2 ?_
  cases eg:g ts[i] ρ' with
  | bad=>rw [eg] at q'; exact q'
  | ex c=>rw [eg] at q'; exact q'
  | ok ρ1=>
   rw [eg] at q'
   intro σ1 J1
   refine ⟨ρ1,_,J1, ?_⟩
   have q2:=PoS.up (zo.ge I'.sB s2) q'
   dsimp only at q2
   have s3:zg (zo B H H1) (zo B' H' H2):=sB'.trans (zo.ge I'.sB s2)
   revert q2
   cases fb ρ1 with
   | nx ρ2=>exact fun q2 σ3 H3 B3 s4 I3=>⟨ρ2,B3,I3,s3.trans s4,PoS.up s4 q2⟩
   | ct ρ2=>exact fun q2 σ3 H3 B3 s4 I3=>⟨ρ2,B3,I3,s3.trans s4,PoS.up s4 q2⟩
   | bk ρ2=>exact fun q2=>q2
   | rt t=>exact fun q2=>q2
   | rf t=>exact fun q2=>q2
   | ex c=>exact fun q2=>q2
   | bad=>exact fun q2=>q2
 ·have e:i=ts.length:=by omega
  subst e
  rw [List.drop_length] at q'
  exact .inl ⟨hstop _ (Nat.le_refl _),q' σ' H' B' (zg.refl _) I'⟩
end
theorem je {env:Env}:∀ (ns:List (Str×NameKind)) (acc:List (Str×Addr)),(∀ x∈ns,x.2=NameKind.free->∃ c,env.cells.lookup x.1=some c)->(∀ x c,acc.lookup x=some c->env.cells.lookup x=some c)->
  ∃ cl,(forIn ns acc (fun (x:Str×NameKind) (r:List (Str×Addr))=>if (x.2 == NameKind.free)=true then (do let c ← cellOf env x.1; pure (ForInStep.yield ((x.1,c) :: r))) else pure (ForInStep.yield r)):Sem _)=pure cl/\
   (∀ x c,cl.lookup x=some c->env.cells.lookup x=some c)/\(∀ x c,acc.lookup x=some c->∃ c',cl.lookup x=some c')/\(∀ x∈ns,x.2=NameKind.free->∃ c,cl.lookup x.1=some c)
 | [],acc,_,h=>⟨acc,rfl,h,fun x c e=>⟨c,e⟩,fun x hx=>by simp at hx⟩
 | (n,k) :: ns,acc,hf,h=>by
  by_cases hk:k=NameKind.free
  ·obtain ⟨c,hc⟩:=hf (n,k) List.mem_cons_self hk
   have h' :∀ x d,((n,c) :: acc).lookup x=some d->env.cells.lookup x=some d:=fun x d e=>by
    by_cases hx:x=n
    ·subst hx
     have e' :some c=some d:=by simpa [List.lookup_cons] using e
     cases e'; exact hc
    ·have e' :acc.lookup x=some d:=by
      rw [List.lookup_cons,(beq_eq_false_iff_ne.mpr hx)] at e; exact e
     exact h x d e'
   obtain ⟨cl,e,h1,h2,h3⟩:=je ns ((n,c) :: acc) (fun x hx=>hf x (List.mem_cons_of_mem _ hx)) h'
   refine ⟨cl, ?_,h1,fun x d ed=> ?_,fun x hx hxf=> ?_⟩
   ·rw [List.forIn_cons]
    subst hk
    have q:cellOf env n=pure c:=by unfold cellOf; rw [hc]
    simp only [beq_self_eq_true,if_true,q]
    exact e
   ·by_cases hx:x=n
    ·subst hx; exact h2 x c (by simp [List.lookup_cons])
    ·exact h2 x d (by rw [List.lookup_cons,(beq_eq_false_iff_ne.mpr hx)]; exact ed)
   ·rcases List.mem_cons.mp hx with rfl | hx
    ·exact h2 n c (by simp [List.lookup_cons])
    ·exact h3 x hx hxf
  ·obtain ⟨cl,e,h1,h2,h3⟩:=je ns acc (fun x hx=>hf x (List.mem_cons_of_mem _ hx)) h
   refine ⟨cl, ?_,h1,h2,fun x hx hxf=> ?_⟩
   ·rw [List.forIn_cons]
    have q:(k == NameKind.free)=false:=by simpa using hk
    simp only [q,Bool.false_eq_true,if_false]
    exact e
   ·rcases List.mem_cons.mp hx with rfl | hx
    ·exact absurd hxf hk
    ·exact h3 x hx hxf
theorem u8 {scope:Scope} {env:Env} (hf:∀ x∈scope.names,x.2=NameKind.free->∃ c,env.cells.lookup x.1=some c):
  ∃ cl,closureFor scope env=pure cl/\(∀ x c,cl.lookup x=some c->env.cells.lookup x=some c)/\(∀ x∈scope.names,x.2=NameKind.free->∃ c,cl.lookup x.1=some c):=by
 obtain ⟨cl,e,h1,_,h3⟩:=je scope.names [] hf (fun x c e=>by simp at e)
 refine ⟨cl, ?_,h1,h3⟩
 unfold closureFor
 show (do let cs ← _; pure cs)=_
 exact (by simpa using e)
def cxC (X:Cx) (scope:Scope) (N' :List Str) (cl:List (Str×Addr)) (C:Addr) (s3:Shared) (H3:Hp) (fp:List Addr) (pins:List (Addr×Obj)):Cx:=
 { X with N:=N',s₀:=s3,H₀:=H3,env:=compEnvC scope cl C X.env,outer:=X.stack,stack:=X.stack,ex:=fp,fn:=fun _=>false,pn:=X.pn++pins,xe:=fun _ _=>False }
structure CSc (X:Cx) (scope:Scope):Prop where
 kind:scope.kind= .function
 nocell:∀ x∈scope.names,x.2 ≠ .cell
 loc:∀ x∈scope.names,x.2= .local->scope.names.lookup x.1=some .local
 fre:∀ x∈scope.names,x.2= .free->X.env.kindOf x.1=some .cell\/X.env.kindOf x.1=some .free
theorem Zv {scope:Scope} {env:Env} {x:Str} {k:NameKind} (h:(relabel scope env).names.lookup x=some k) (hk:k= .cell\/k= .free) (hn:∀ x∈scope.names,x.2 ≠ NameKind.cell):∃ y∈scope.names,y.1=x/\y.2= .free:=by
 have go:∀ ns:List (Str×NameKind),(∀ x∈ns,x.2 ≠ NameKind.cell)->(ns.map fun (n,k)=>if (k == NameKind.free && env.scope.kind == .function && env.kindOf n == some .cell) then (n,NameKind.cell) else (n,k)).lookup x=some k->∃ y∈ns,y.1=x/\y.2= .free:=by
  intro ns
  induction ns with
  | nil=>intro _ h; simp at h
  | cons y ns ih=>
   intro hn h
   obtain ⟨n,k'⟩:=y
   by_cases hx:x=n
   ·subst hx
    refine ⟨(x,k'),List.mem_cons_self,rfl, ?_⟩
    rw [List.map_cons] at h
    by_cases hc:(k' == NameKind.free && env.scope.kind == .function && env.kindOf x == some .cell)=true
    ·rw [Bool.and_eq_true,Bool.and_eq_true] at hc
     exact eq_of_beq hc.1.1
    ·simp only [if_neg hc,List.lookup_cons,beq_self_eq_true] at h
     cases h
     rcases hk with rfl | rfl
     ·exact absurd rfl (hn _ List.mem_cons_self)
     ·rfl
   ·obtain ⟨z,hz,h1,h2⟩:=ih (fun z hz=>hn z (List.mem_cons_of_mem _ hz)) (by
     rw [List.map_cons] at h
     by_cases hc:(k' == NameKind.free && env.scope.kind == .function && env.kindOf n == some .cell)=true
     ·simp only [if_pos hc,List.lookup_cons,(beq_eq_false_iff_ne.mpr hx)] at h; exact h
     ·simp only [if_neg hc,List.lookup_cons,(beq_eq_false_iff_ne.mpr hx)] at h; exact h)
    exact ⟨z,List.mem_cons_of_mem _ hz,h1,h2⟩
 exact go scope.names hn h
section
variable {X:Cx} {pins:List (Addr×Obj)} {σ:Sg} {H:Hp} {s:Shared}
theorem u9 {scope:Scope} {N' :List Str} {cl:List (Str×Addr)} {fp:List Addr} {h' :Heap} {tk:Nat} {σ' :Sg} (I:L2.Inv X pins σ H s) (S:CSc X scope) (hc:X.calm=true)
  (hcl:∀ x c,cl.lookup x=some c->X.env.cells.lookup x=some c) (hcf:∀ x∈scope.names,x.2=NameKind.free->∃ c,cl.lookup x.1=some c)
  (hfp:∀ b∈fp,J9 X pins H b) (hfo:∀ b∈fp,∃ o,s.heap.get? b=some o)
  (hns:h'.Ns s.heap.objs.size (fun _=>none)) (hk:∀ b o,s.heap.get? b=some o->h'.get? b=some o)
  (hl:σ'.length=N'.length) (hσ:∀ (i:Nat) (x:Str) (v:V),N'[i]? =some x->σ'[i]? =some (some v)->∃ j:Nat,X.N[j]? =some x/\σ[j]? =some (some v)/\Vis X.env.scope x/\(scope.names.lookup x=some .free)/\(X.env.kindOf x=some .cell\/X.env.kindOf x=some .free)):
  L2.Inv (cxC X scope N' cl s.heap.objs.size s H fp pins) [] σ' H { s with heap:=h',toks:=tk }:=by
 have stk:=I.stkSub
 have hlt:∀ b∈fp,b < s.heap.objs.size:=fun b hb=>let ⟨o,e⟩:=hfo b hb; Heap.lt_size e
 have fresh:H s.heap.objs.size=none:=I.hok.fresh (Nat.le_refl _)
 refine ⟨⟨I.ok.mod,S.kind,I.ok.glob,I.ok.blt,Nat.le_refl _,fun x y c h1 h2=>I.ok.inj x y c (hcl _ _ h1) (hcl _ _ h2),fun x hx=> ?_,fun x c h _=>(Bool.false_ne_true h).elim,fun _=>I.ok.hd hc,I.ok.frames, .inl rfl,fun b hb=> ?_,I.bs,
   Nat.le_trans I.ok.bsz I.sz,fun b o e hb=> ?_,fun b hb hb' => ?_,I.stack,I.stkFree⟩,rfl,I.bare,Un.kept hk,⟨_,hns,fun i x v h1 h2 h3=> ?_⟩,fun x c e=> ?_,fresh,fun x c e=>I.freeC x c (hcl _ _ e),fun p hp=> ?_,I.hok.kept hk,hl⟩
 ·have hx' :(relabel scope X.env).names.lookup x=some .cell\/(relabel scope X.env).names.lookup x=some .free:=hx
  obtain ⟨y,hy,rfl,hyf⟩:∃ y∈scope.names,y.1=x/\y.2= .free:=by
   rcases hx' with h | h
   ·exact Zv h (.inl rfl) S.nocell
   ·exact Zv h (.inr rfl) S.nocell
  exact hcf y hy hyf
 ·refine ⟨Nat.ne_of_lt (hlt b hb),fun x c e=>(hfp b hb).2.2.2.2.1 x c (hcl _ _ e)⟩
 ·rcases (hfp b hb).2.2.2.1 with h | h
  ·exact I.ok.noex b o e h
  ·exact absurd (Nat.lt_of_lt_of_le (Heap.lt_size e) (Nat.le_trans I.ok.bsz h)) (Nat.lt_irrefl _)
 ·have q:=hfp b hb
  rcases List.mem_cons.mp (stk b hb') with z | z
  ·exact q.2.1 z
  ·exact q.2.2.1 z
 ·obtain ⟨j,e1,e2,e3,e4,e5⟩:=hσ i x v h1 h2
  obtain ⟨m,hn,hloc⟩:=I.loc
  obtain ⟨u,ru,lk⟩:=hloc j x v e1 e2 e3
  refine ⟨u,ru, .inr ⟨?_, ?_⟩⟩
  ·have h3:Vis (relabel scope X.env) x:=h3
   rcases h3 with h | h | h
   ·exfalso
    have:∀ ns:List (Str×NameKind),ns.lookup x=some .free->(ns.map fun (n,k)=>if (k == NameKind.free && X.env.scope.kind == .function && X.env.kindOf n == some .cell) then (n,NameKind.cell) else (n,k)).lookup x ≠ some .local:=by
     intro ns
     induction ns with
     | nil=>intro z; simp at z
     | cons y ns ih=>
      obtain ⟨n,k⟩:=y
      intro z w
      rw [List.map_cons] at w
      by_cases hx:x=n
      ·subst hx
       have hkf:some k=some NameKind.free:=by simpa [List.lookup_cons] using z
       by_cases hcn:(k == NameKind.free && X.env.scope.kind == .function && X.env.kindOf x == some .cell)=true
       ·simp only [if_pos hcn,List.lookup_cons,beq_self_eq_true] at w; cases w
       ·simp only [if_neg hcn,List.lookup_cons,beq_self_eq_true] at w
        rw [hkf] at w; cases w
      ·have z' :ns.lookup x=some .free:=by rw [List.lookup_cons,(beq_eq_false_iff_ne.mpr hx)] at z; exact z
       refine ih z' ?_
       by_cases hcn:(k == NameKind.free && X.env.scope.kind == .function && X.env.kindOf n == some .cell)=true
       ·simp only [if_pos hcn,List.lookup_cons,(beq_eq_false_iff_ne.mpr hx)] at w; exact w
       ·simp only [if_neg hcn,List.lookup_cons,(beq_eq_false_iff_ne.mpr hx)] at w; exact w
    exact this _ e4 h
   ·exact .inl h
   ·exact .inr h
  ·rcases lk with ⟨hk',_⟩ | ⟨_,c,hc',hcell⟩
   ·rcases e5 with z | z <;> (rw [z] at hk'; cases hk')
   ·obtain ⟨c',hc2⟩:=hcf (x, .free) (PySem.mem_of_lookup e4) rfl
    have:=hcl x c' hc2
    rw [hc'] at this; cases this
    obtain ⟨o,eo,ed⟩:=hcell
    exact ⟨c,hc2,o,hk _ _ eo,ed⟩
 ·obtain ⟨v,o,eo,ed⟩:=I.cell x c (hcl _ _ e)
  exact ⟨v,o,hk _ _ eo,ed⟩
 ·have hp' :p∈X.pn++pins:=by
   have:p∈(X.pn++pins)++[]:=hp
   rwa [List.append_nil] at this
  obtain ⟨e,n,ne,nf,dc⟩:=I.pin p hp'
  refine ⟨hk _ _ e,n,Nat.ne_of_lt (Heap.lt_size e),fun hb=> ?_,dc⟩
  rcases List.mem_cons.mp (stk _ hb) with z | z
  ·exact ne z
  ·exact nf z
end
def PIf (X:Cx) (ifs:List Expr) (t:TT):Prop:=
 ∀ (pins:List (Addr×Obj)) (s:Shared) (σ:Sg) (H:Hp) (Q:Bool->Hp->Prop),L2.Inv X pins σ H s->t σ H Q->
  wpAny (model X.prog X.w) X.A (forIn ifs true fun c r=>if r=true then do let ok ← isTrue c X.env (eval c X.env); pure (ForInStep.yield ok) else pure (ForInStep.yield r)) (TP X pins σ Q) X.xe s
theorem yV {X:Cx}:PIf X [] (fun _ H Q=>Q true H):=fun _ _ σ H _ I h=>wpAny_tests_nil ⟨H,I,h⟩
theorem yW {X:Cx} {c:Expr} {t:TT} (h:PT X c t):PIf X [c] t:=fun pins s σ H Q I q=>wpAny_tests_one (h pins s σ H Q I q)
abbrev XE (X:Cx) (xe:Value->Shared->Prop):Cx:={ X with xe:=xe }
theorem wy {X:Cx} {pins:List (Addr×Obj)} {σ:Sg} {H:Hp} {s:Shared} {xe:Value->Shared->Prop} (I:L2.Inv X pins σ H s):L2.Inv (XE X xe) pins σ H s:=
 ⟨⟨I.ok.mod,I.ok.kind,I.ok.glob,I.ok.blt,I.ok.above,I.ok.inj,I.ok.has,I.ok.cab,I.ok.hd,I.ok.frames,I.ok.stk,I.ok.exf,I.ok.bs,I.ok.bsz,I.ok.noex,I.ok.exfs,I.ok.funs,I.ok.frf⟩,I.os,I.bare,I.base,I.loc,I.cell,I.free,I.freeC,I.pin,I.hok,I.len⟩
theorem ua {X:Cx} {pins:List (Addr×Obj)} {σ:Sg} {H:Hp} {s:Shared} {xe:Value->Shared->Prop} (I:L2.Inv (XE X xe) pins σ H s):L2.Inv X pins σ H s:=(wy I:L2.Inv (XE (XE X xe) X.xe) pins σ H s)
theorem VQ {X:Cx} {e:Expr} {t:TG} {xe:Value->Shared->Prop} (hx:X.xe=fun _ _=>False) (h:PG X e t):PG (XE X xe) e t:=fun pins s σ H v u Q I r q=>wpAny_mono (h pins s σ H v u Q (ua I) r q) (fun _ s' ⟨σ',H',I',q'⟩=>⟨σ',H',wy I',q'⟩) fun e s' z=>by rw [hx] at z; exact z.elim
theorem Q7 {X:Cx} {e:List Expr} {t:TT} {xe:Value->Shared->Prop} (hx:X.xe=fun _ _=>False) (h:PIf X e t):PIf (XE X xe) e t:=fun pins s σ H Q I q=>wpAny_mono (h pins s σ H Q (ua I) q) (fun _ s' ⟨H',I',q'⟩=>⟨H',wy I',q'⟩) fun e s' z=>by rw [hx] at z; exact z.elim
theorem wz {α:Type} {M:Model} {A:Around} {m:Sem α} {Q:α->Shared->Prop} {E E' :Value->Shared->Prop} {s:Shared} (hE:∀ e s',E' e s' ->E e s') (h:wpAny M A m Q E' s):wpAny M A m Q E s:=wpAny_mono h (fun _ _ q=>q) hE
def Uc (J:It) (D:Addr) (g:TG) (tt:TT) (te:TE) (fin:Sg->Hp->Prop) (W:Nat->Nat->List V->Sg->Hp->Prop):Prop:=
 ∀ i m ys σ H,W i m ys σ H->H D=some (.lst ys)/\((J.stop i H/\fin σ H)\/(J.go i H/\∀ x H2,J.yld i H x H2->g x σ H2 fun σ3 H3=>tt σ3 H3 fun k H4=>
  if k=true then te σ3 H4 fun v H5=>H5 D=some (.lst ys)/\ys.length < sizeLine/\∃ m',m' < m/\W (i+1) m' (ys++[v]) σ3 (upd H5 D (.lst (ys++[v]))) else ∃ m',m' < m/\W (i+1) m' ys σ3 H4))
theorem ub {X:Cx} {R:Result->Shared->Prop} (hx:∀ e s',X.xe e s' ->notedBy (model X.prog X.w) X.A X.env (fun e s' =>R (.error e) s') e s') (hc:X.calm=true) {tg iter elt:Expr} {ifs:List Expr} {scope:Scope} {pos:Pos} {J:It} {fp:List Addr} {it:Addr} {tn:Nat->Heap->Prop} (TJ:Wh X.prog X.w X.K tg J fp it tn)
  {g:TG} {tt:TT} {te:TE} (hg:PG X tg g) (ht:PIf X ifs tt) (he:PE X elt te) {D:Addr} {fin:Sg->Hp->Prop} (W:Nat->Nat->List V->Sg->Hp->Prop) (turn:Uc J D g tt te fin W)
  (hR:∀ s σ H,L2.Inv X [] σ H s->fin σ H->R (.ok .next) s) {m0:Nat} {σ0:Sg} {H0:Hp} {s0:Shared} (w0:W 0 m0 [] σ0 H0) (I0:L2.Inv X [] σ0 H0 s0) (t0:tn 0 s0.heap) (f0:∀ b∈fp,J9 X [] H0 b):
  codeAny (model X.prog X.w) X.A (.compLoop (.ListComp elt [⟨tg,iter,ifs,0⟩] scope pos) 0 (.ref it) (.ref D) X.env) R s0:=by
 have stat:∀ {H' :Hp},(∀ b∈fp,H' b=none)->∀ b∈fp,J9 X [] H' b:=fun hn b hb=>⟨hn b hb,(f0 b hb).2⟩
 refine codeAny_loop rfl (fun n s' =>∃ i ys σ' H',L2.Inv X [] σ' H' s' /\tn i s'.heap/\(∀ b∈fp,H' b=none)/\W i n ys σ' H') (fun n s3 h3=> ?_) m0 ⟨0,[],σ0,H0,I0,t0,fun b hb=>(f0 b hb).1,w0⟩
 obtain ⟨i,ys,σ3,H3,I3,st3,fr3,w3⟩:=h3
 show wpAny _ X.A ((compTurn (.ListComp elt [⟨tg,iter,ifs,0⟩] scope pos) 0 (.ref it) (.ref D) X.env).onRaise (fun x=>do noteFrame x X.env; theTreesLotGoes x)) _ _ s3
 refine wpAny_noted ?_
 rw [compTurn_list]
 obtain ⟨hD,h⟩:=turn i n ys σ3 H3 w3
 rcases h with ⟨stop,qn⟩ | ⟨go,next⟩
 ·refine wpAny_bind (wpAny_standAt (wpAny_bind (thn (TJ.done X rfl rfl rfl hc i [] s3 σ3 H3 _ I3 (stat fr3) st3 stop) fun r s4 ⟨hr,I4⟩=> ?_)))
  subst hr
  exact wpAny_pure (hR s4 σ3 H3 I4 qn)
 ·refine wpAny_bind (wpAny_standAt (wpAny_bind (thn (TJ.item X rfl rfl rfl hc i [] s3 σ3 H3 _ I3 (stat fr3) st3 go) fun r s4 ⟨u,hr,h4⟩=> ?_)))
  subst hr
  refine wpAny_bind (thn h4 fun _ s5 ⟨x,H5,I5,r5,y5,st5,fr5⟩=> ?_)
  have I5' :=I5.pinned (stat fr5) (TJ.obj _ _ st5)
  refine wpAny_bind (wz hx (thn (hg _ s5 σ3 H5 x u _ I5' r5 (next x H5 y5)) fun _ s6 ⟨σ6,H6,I6,q6⟩=> ?_))
  have again:∀ {σ7:Sg} {H7:Hp} {s7:Shared} {ys' :List V},L2.Inv X ([]++Ja fp s5.heap) σ7 H7 s7->(∃ m',m' < n/\W (i+1) m' ys' σ7 H7)->∃ m,m < n/\∃ i ys σ' H',L2.Inv X [] σ' H' s7/\tn i s7.heap/\(∀ b∈fp,H' b=none)/\W i m ys σ' H' :=fun {σ7 H7 s7 ys'} I7 ⟨m',hm,w7⟩=>by
   refine ⟨m',hm,i+1,ys',σ7,H7,I7.unpinned,TJ.keep _ _ _ st5 fun b hb o e=>(I7.pin (b,o) (List.mem_append_right _ (List.mem_append_right _ (Zd hb e)))).1,fun b hb=> ?_,w7⟩
   obtain ⟨o,e,d⟩:=TJ.obj _ _ st5 b hb
   exact (I7.pin (b,o) (List.mem_append_right _ (List.mem_append_right _ (Zd hb e)))).2.1
  refine wpAny_bind (wz hx (thn (ht _ s6 σ6 H6 _ I6 q6) fun k s7 ⟨H7,I7,q7⟩=> ?_))
  cases k with
  | false=>exact wpAny_pure ⟨rfl,again I7 q7⟩
  | true=>
   refine wpAny_bind (wpAny_bind (wz hx (thn (he _ s7 σ6 H7 _ I7 q7) fun v s8 ⟨y,H8,I8,r8,hD8,hlen,q8⟩=> ?_)))
   refine wpAny_bind (wz hx (thn (jb _ s8 σ6 H8 (.ref D) [y] (.ref D) [v] (fun _ H9=>∃ m',m' < n/\W (i+1) m' (ys++[y]) σ6 H9) I8 rfl (.cons r8 .nil) ⟨D,ys,y,rfl,rfl,hD8,hlen,q8⟩) fun w s9 ⟨_,H9,I9,_,q9⟩=> ?_))
   exact wpAny_pure (wpAny_pure ⟨rfl,again I9 q9⟩)
def JK (k:Nat) (js:List Nat) (σ:Sg):Sg:=List.replicate k none++js.map fun j=>(σ[j]?).getD none
section
variable {X:Cx}
abbrev YJ (X:Cx) (scope:Scope) (N' :List Str) (P:Cx->Prop):Prop:=∀ cl C s3 H3 fp pins,P (cxC X scope N' cl C s3 H3 fp pins)
abbrev VR (X:Cx) (scope:Scope) (N' :List Str) (E:XK) (P:Cx->Prop):Prop:=∀ cl C s3 H3 fp pins xe,zz (CX1 X.prog X.w) (XE (cxC X scope N' cl C s3 H3 fp pins) xe) E->P (XE (cxC X scope N' cl C s3 H3 fp pins) xe)
structure Q8 (X:Cx) (scope:Scope) (N' :List Str) (k:Nat) (js:List Nat):Prop where
 len:N'.length=k+js.length
 cap:∀ (i j:Nat),js[i]? =some j->∃ x,N'[k+i]? =some x/\X.N[j]? =some x/\Vis X.env.scope x/\scope.names.lookup x=some .free/\(X.env.kindOf x=some .cell\/X.env.kindOf x=some .free)
theorem Ud {E:XK} (hp:qH X E) {tg iter elt:Expr} {ifs:List Expr} {scope:Scope} {pos pos' :Pos} {N' :List Str} {k:Nat} {js:List Nat} {wi:TI} {g:TG} {tt:TT} {te:TE} {use:Option (Value->Sem Unit)} (S:CSc X scope) (CP:Q8 X scope N' k js) (hc:X.calm=true)
  (hi:PI X tg iter wi) (hg:YJ X scope N' fun XC=>PG XC tg g) (ht:YJ X scope N' fun XC=>PIf XC ifs tt) (he:VR X scope N' E fun XC=>PE XC elt te) {pins:List (Addr×Obj)} {σ:Sg} {H:Hp} {s:Shared} {Q:Value->Shared->Prop} {F:Addr->Hp->Prop} (I:L2.Inv X pins σ H s)
  (h:wi σ H fun J H1=>∀ D,H1 D=none->∃ W,(∃ m,W 0 m [] (JK k js σ) (upd H1 D (.lst [])))/\Uc J D g tt te (fun _ H' =>F D H') W)
  (hQ:∀ D C H' s',L2.Inv X pins σ H' s' ->F D H' ->H' C=none->(X.s₀.heap.objs.size<=C)->C ≠ X.env.locals->(∀ x c,X.env.cells.lookup x=some c->c ≠ C)->(∀ p∈X.pn++pins,p.1 ≠ C)->(∃ m,s'.heap.Ns C m)->compPost (model X.prog X.w) X.A X.xe use Q (.ref D) C (.ok .next) s')
  (hs:∀ x,foldedSetIterable iter X.env x=pure x:=by intro _; rfl):
  wpAny (model X.prog X.w) X.A (comprehension (.ListComp elt [⟨tg,iter,ifs,0⟩] scope pos) scope X.env pos' (newList []) false (eval iter X.env) use) Q X.xe s:=by
 obtain ⟨cl,ecl,hcl,hcf⟩:=u8 (scope:=scope) (env:=X.env) fun x hx hf=>I.ok.has x.1 (S.fre x hx hf)
 refine wpAny_comprehension_free rfl hs ecl S.kind S.loc ?_
 refine thn (hi pins s σ H _ I h) fun v s1 h1=>thn h1 fun itv s2 h2=> ?_
 obtain ⟨it,fp,tn,J,H2,e,I2,TJ,st2,f2,q2⟩:=h2
 subst e
 refine wpAny_newObj_type ?_
 have hD:H2 s2.heap.objs.size=none:=I2.hok.fresh (Nat.le_refl _)
 have I3:L2.Inv X pins σ (upd H2 s2.heap.objs.size (.lst [])) { s2 with heap:=s2.heap.push { cls:= .type "list",data:= .seq ([]:List Value).toArray } }:=
  I2.laid (t' :=s2.toks) (fun b u e=>Heap.get?_push_of_some _ e) (Nat.le_refl _) ⟨Nat.zero_le _,[],_, .nil,Heap.get?_push_size _ rfl⟩
 obtain ⟨W,⟨m0,w0⟩,turn⟩:=q2 s2.heap.objs.size hD
 have f3:∀ b∈fp,J9 X pins (upd H2 s2.heap.objs.size (.lst [])) b:=fun b hb=>by
  obtain ⟨o,eo,_⟩:=TJ.obj _ _ st2 b hb
  exact ⟨by rw [zd (Nat.ne_of_lt (Heap.lt_size eo))]; exact (f2 b hb).1,(f2 b hb).2⟩
 have o3:∀ b∈fp,∃ o,(s2.heap.push { cls:= .type "list",data:= .seq ([]:List Value).toArray }).get? b=some o:=fun b hb=>by
  obtain ⟨o,eo,_⟩:=TJ.obj _ _ st2 b hb
  exact ⟨o,Heap.get?_push_of_some _ eo⟩
 refine wpAny_newFunctionEnv S.nocell (by intro y hy; simp at hy) (fun h4 hns4 hsb4=> ?_) S.kind
 generalize hG:s2.heap.push { cls:= .type "list",data:= .seq ([]:List Value).toArray }=G3 at I3 o3 hns4 hsb4 ⊢
 dsimp only at hns4 hsb4 ⊢
 have s3e:∃ s3:Shared,s3={ s2 with heap:=G3 }:=⟨_,rfl⟩
 obtain ⟨s3,es3⟩:=s3e
 have hh3:s3.heap=s2.heap.push { cls:= .type "list",data:= .seq ([]:List Value).toArray }:=by rw [es3,hG]
 have hg3:G3=s3.heap:=by rw [es3]
 rw [← es3] at I3
 have ht3:s2.toks=s3.toks:=by rw [es3]
 rw [hg3] at hns4 hsb4 o3
 have k4:∀ b o,s3.heap.get? b=some o->h4.get? b=some o:=fun b o e=>hsb4.extBut b o (Nat.ne_of_lt (Heap.lt_size e)) (Heap.get?_push_of_some _ e)
 have IC:=u9 (N' :=N') (cl:=cl) (fp:=fp) (σ' :=JK k js σ) (tk:=s3.toks+([]:List (Str×Value)).length) I3 S hc hcl hcf f3 o3 hns4 k4 (by unfold JK; simp [CP.len]) (fun i x v h1 h2=>by
  unfold JK at h2
  by_cases hik:i < k
  ·rw [List.getElem?_append_left (by simpa using hik),List.getElem?_replicate,if_pos hik] at h2
   cases h2
  ·have hk' :k<=i:=by omega
   rw [List.getElem?_append_right (by simpa using hk'),List.length_replicate,List.getElem?_map] at h2
   cases ej:js[i - k]? with
   | none=>rw [ej] at h2; cases h2
   | some j=>
    rw [ej] at h2
    obtain ⟨y,e1,e2,e3,e4,e5⟩:=CP.cap (i - k) j ej
    have:k+(i - k)=i:=by omega
    rw [this,h1] at e1
    cases e1
    refine ⟨j,e2, ?_,e3,e4,e5⟩
    have h2' :some ((σ[j]?).getD none)=some (some v):=h2
    cases ez:σ[j]? with
    | none=>rw [ez] at h2'; cases h2'
    | some z=>rw [ez] at h2'; exact congrArg some (Option.some.inj h2'))
 have TC:Wh (cxC X scope N' cl s3.heap.objs.size s3 (upd H2 s2.heap.objs.size (.lst [])) fp pins).prog (cxC X scope N' cl s3.heap.objs.size s3 (upd H2 s2.heap.objs.size (.lst [])) fp pins).w (cxC X scope N' cl s3.heap.objs.size s3 (upd H2 s2.heap.objs.size (.lst [])) fp pins).K tg J fp it tn:=TJ
 have t4:tn 0 h4:=TJ.keep _ _ _ st2 fun b hb o e=>k4 b o (by rw [hh3]; exact Heap.get?_push_of_some _ e)
 have fC:∀ b∈fp,J9 (cxC X scope N' cl s3.heap.objs.size s3 (upd H2 s2.heap.objs.size (.lst [])) fp pins) [] (upd H2 s2.heap.objs.size (.lst [])) b:=fun b hb=>by
  obtain ⟨q0,q1,q2,q3,q4,q5⟩:=f3 b hb
  obtain ⟨o,eo⟩:=o3 b hb
  refine ⟨q0,Nat.ne_of_lt (Heap.lt_size eo),fun hb' => ?_, .inl hb,fun x c e=>q4 x c (hcl _ _ e),fun p hp=> ?_⟩
  ·rcases List.mem_cons.mp (I3.stkSub b hb') with z | z
   ·exact q1 z
   ·exact q2 z
  ·exact q5 p (by
    have:p∈(X.pn++pins)++[]:=hp
    rwa [List.append_nil] at this)
 have fin:∀ (s5:Shared) (σ5:Sg) (H5:Hp),L2.Inv (cxC X scope N' cl s3.heap.objs.size s3 (upd H2 s2.heap.objs.size (.lst [])) fp pins) [] σ5 H5 s5->F s2.heap.objs.size H5->compPost (model X.prog X.w) X.A X.xe use Q (.ref s2.heap.objs.size) s3.heap.objs.size (.ok .next) s5:=fun s5 σ5 H5 I5 q5=>by
  have J5:L2.Inv X pins σ H5 s5:=I3.call' (ch:=fp) I5.os I5.base I5.hok I5.bare fun b hb=>by
   obtain ⟨q0,q1,q2,q3,q4,q5⟩:=f3 b hb
   exact ⟨q3,q1,q4,q5⟩
  refine hQ _ _ H5 s5 J5 q5 I5.free I3.sz (Nat.ne_of_gt I3.lt) (fun x c e z=> ?_) (fun p hp z=> ?_) (let ⟨m,hm,_⟩:=I5.loc; ⟨m,hm⟩)
  ·obtain ⟨v',o,eo,_⟩:=I3.cell x c e
   exact absurd (Heap.lt_size eo) (by rw [z]; exact Nat.lt_irrefl _)
  ·exact absurd (Heap.lt_size (I3.pin p hp).1) (by rw [z]; exact Nat.lt_irrefl _)
 have pass:zz (CX1 X.prog X.w) (XE (cxC X scope N' cl s3.heap.objs.size s3 (upd H2 s2.heap.objs.size (.lst [])) fp pins) (notedBy (model X.prog X.w) X.A (compEnvC scope cl s3.heap.objs.size X.env) fun e s' =>compPost (model X.prog X.w) X.A X.xe use Q (.ref s2.heap.objs.size) s3.heap.objs.size (.error e) s')) E:=by
  intro pins1 σ1 H1 s1 e s' I1 c1
  have J1:L2.Inv X pins σ H1 s1:=I3.call' (ch:=fp) I1.os I1.base I1.hok I1.bare fun b hb=>by
   obtain ⟨q0,q1,q2,q3,q4,q5⟩:=f3 b hb
   exact ⟨q3,q1,q4,q5⟩
  obtain ⟨m1,hm1,_⟩:=I1.loc
  refine thn (hp pins σ H1 s1 e s' s3.heap.objs.size m1 _ (compEnvC scope cl s3.heap.objs.size X.env) J1 hm1 I1.free I3.sz (fun z=> ?_) rfl c1) fun _ s'' q=> ?_
  ·obtain ⟨_,o,eo,_⟩:=I3.stack.mem z
   exact absurd (Heap.lt_size eo) (Nat.lt_irrefl _)
  ·cases use <;> exact q
 have loop:=ub (X:=XE (cxC X scope N' cl s3.heap.objs.size s3 (upd H2 s2.heap.objs.size (.lst [])) fp pins) (notedBy (model X.prog X.w) X.A (compEnvC scope cl s3.heap.objs.size X.env) fun e s' =>compPost (model X.prog X.w) X.A X.xe use Q (.ref s2.heap.objs.size) s3.heap.objs.size (.error e) s')) (iter:=iter) (scope:=scope) (pos:=pos) (R:=compPost (model X.prog X.w) X.A X.xe use Q (.ref s2.heap.objs.size) s3.heap.objs.size) (fun _ _ z=>z) hc TC (VQ rfl (hg _ _ _ _ _ _)) (Q7 rfl (ht _ _ _ _ _ _)) (he _ _ _ _ _ _ _ pass) W turn (fun s5 σ5 H5 I5=>fin s5 σ5 H5 (ua I5)) w0 (wy IC) t4 fC
 rw [es3] at loop
 exact codeAny_compStart_list loop (TJ.self _ _ _ _ _ t4 loop)
end
def Zg (g:T->En->R En) (ft:En->R Bool) (fe:En->R T):List T->En->R (List T)
 | [],_=> .ok []
 | t :: ts,ρ=>(g t ρ).bind fun ρ1=>(ft ρ1).bind fun k=>if k=true then (fe ρ1).bind fun v=>(Zg g ft fe ts ρ1).bind fun vs=> .ok (v :: vs) else Zg g ft fe ts ρ1
def JV:Option Sl->Sl
 | some (.vl t)=> .vl t
 | some (.ob k _)=> .oc k
 | some (.oc k)=> .oc k
 | _=> .un
def jD (k:Nat) (js:List Nat) (ρ:En):En:=List.replicate k .un++js.map fun j=>JV ρ[j]?
def quiet {α:Type}:R α->R α
 | .ok a=> .ok a
 | _=> .bad
def Q9 (g:T->En->R En) (ft:En->R Bool) (fe:En->R T) (k:Nat) (js:List Nat) (ρ:En) (ts:List T):R (List T):=if ts.length<=bnd then quiet (Zg g ft fe ts (jD k js ρ)) else .bad
def Zh (fi:En->R (List T)) (g:T->En->R En) (ft:En->R Bool) (fe:En->R T) (k:Nat) (js:List Nat):En->R T:=fun ρ=>(fi ρ).bind fun ts=>(Q9 g ft fe k js ρ ts).bind fun vs=> .ok (.lst vs)
def GOk (tG:TG) (g:T->En->R En):Prop:=∀ Y B ρ σ H v x Q,SI Y B ρ σ H->Rep B v x->(match g x ρ with | .ok ρ' =>∀ σ',SI Y B ρ' σ' H->Q σ' H | _=>False)->tG v σ H Q
theorem zI (i:Nat):GOk (J7 i) (jC i):=fun Y B ρ σ H v x Q I r q=>q _ (I.setV i r)
theorem j3 (K:PySem.W.Frag) (i j:Nat):GOk (V7 K 2 (Wu (J7 i) (Wu (J7 j) V6))) (ju i j):=fun Y B ρ σ H v t Q I r q=>by
 cases r with
 | @tup l xs ts h r=>
  cases r with
  | nil=>exact q.elim
  | cons r1 rr=>
   cases rr with
   | nil=>exact q.elim
   | cons r2 rr=>
    cases rr with
    | cons _ _=>exact q.elim
    | nil=>exact ⟨l,_,rfl,SqT.of (I.sB _ _ h),rfl,_,_,rfl,_,_,rfl,rfl,q _ ((I.setV i r1).setV j r2)⟩
 | _=>exact q.elim
theorem SI.blockS {Y:Fx} {B:Hp} {ρ:En} {σ:Sg} {H H' :Hp} (I:SI Y B ρ σ H) (k:Nat) (js:List Nat) (E:XK) (s:zg H H'):SI ⟨B,H,E,Y.cl,[]⟩ B (jD k js ρ) (JK k js σ) H' where
 s0:=I.sB
 sH:=s
 sB:=I.sB.trans s
 old:=fun _ _ _=>rfl
 len:=by unfold jD JK; simp
 vl:=fun i t h=>by
  unfold jD at h
  unfold JK
  by_cases hik:i < k
  ·rw [List.getElem?_append_left (by simpa using hik),List.getElem?_replicate,if_pos hik] at h; cases h
  ·have hk' :k<=i:=by omega
   rw [List.getElem?_append_right (by simpa using hk'),List.length_replicate,List.getElem?_map] at h ⊢
   cases ej:js[i - k]? with
   | none=>rw [ej] at h; cases h
   | some j=>
    rw [ej] at h
    have h' :JV ρ[j]? = .vl t:=Option.some.inj h
    unfold JV at h'
    split at h'
    ·rename_i u e
     cases h'
     obtain ⟨v,e1,r⟩:=I.vl j _ e
     exact ⟨v,by show some ((σ[j]?).getD none)=_; rw [e1]; rfl,r⟩
    all_goals cases h'
 ow:=fun i ts h=>by
  exfalso
  unfold jD at h
  by_cases hik:i < k
  ·rw [List.getElem?_append_left (by simpa using hik),List.getElem?_replicate,if_pos hik] at h; cases h
  ·have hk' :k<=i:=by omega
   rw [List.getElem?_append_right (by simpa using hk'),List.length_replicate,List.getElem?_map] at h
   cases ej:js[i - k]? with
   | none=>rw [ej] at h; cases h
   | some j=>
    rw [ej] at h
    have h' :JV ρ[j]? = .ow ts:=Option.some.inj h
    unfold JV at h'
    split at h' <;> cases h'
 xc:=fun i c h=>by
  exfalso
  unfold jD at h
  by_cases hik:i < k
  ·rw [List.getElem?_append_left (by simpa using hik),List.getElem?_replicate,if_pos hik] at h; cases h
  ·have hk' :k<=i:=by omega
   rw [List.getElem?_append_right (by simpa using hk'),List.length_replicate,List.getElem?_map] at h
   cases ej:js[i - k]? with
   | none=>rw [ej] at h; cases h
   | some j=>
    rw [ej] at h
    have h' :JV ρ[j]? = .xc c:=Option.some.inj h
    unfold JV at h'
    split at h' <;> cases h'
 st:=by
  have get:∀ (i:Nat) (x:Sl),x.isO=true->(jD k js ρ)[i]? =some x->∃ j,js[i - k]? =some j/\k<=i/\JV ρ[j]? =x:=fun i x hx h=>by
   unfold jD at h
   by_cases hik:i < k
   ·rw [List.getElem?_append_left (by simpa using hik),List.getElem?_replicate,if_pos hik] at h
    cases h; cases hx
   ·have hk' :k<=i:=by omega
    rw [List.getElem?_append_right (by simpa using hk'),List.length_replicate,List.getElem?_map] at h
    cases ej:js[i - k]? with
    | none=>rw [ej] at h; cases h
    | some j=>
     rw [ej] at h
     exact ⟨j,rfl,hk',Option.some.inj h⟩
  refine ⟨[],fun _=>none,List.prefix_refl _,fun i os h=> ?_,fun i _ os _ h=> ?_,fun i k' n h=> ?_,fun i k' h=> ?_,fun i os h=> ?_⟩
  ·obtain ⟨j,_,_,e⟩:=get i _ rfl h
   unfold JV at e
   split at e <;> cases e
  ·obtain ⟨j,_,_,e⟩:=get i _ rfl h
   unfold JV at e
   split at e <;> cases e
  ·obtain ⟨j,_,_,e⟩:=get i _ rfl h
   unfold JV at e
   split at e <;> cases e
  ·obtain ⟨j,ej,hk',e⟩:=get i _ rfl h
   have sg:(JK k js σ)[i]? =some ((σ[j]?).getD none):=by
    unfold JK
    rw [List.getElem?_append_right (by simpa using hk'),List.length_replicate,List.getElem?_map,ej]; rfl
   obtain ⟨as,O,x⟩:=I.st
   unfold JV at e
   split at e
   ·cases e
   ·rename_i k2 n2 e2
    cases e
    obtain ⟨a,C,dx,vs,_,e3,e4,e5,_,_,e6⟩:=x.ob j _ _ e2
    exact ⟨a,C,dx,vs,by rw [sg,e3]; rfl,e4,e5,e6⟩
   ·rename_i k2 e2
    cases e
    obtain ⟨a,C,dx,vs,e3,e4,e5⟩:=x.oc j _ e2
    exact ⟨a,C,dx,vs,by rw [sg,e3]; rfl,e4,I.sH _ _ e5.1,e5.2⟩
   ·cases e
  ·obtain ⟨j,_,_,e⟩:=get i _ rfl h
   unfold JV at e
   split at e <;> cases e
theorem SI.block {Y:Fx} {B:Hp} {ρ:En} {σ:Sg} {H H3:Hp} {D:Addr} (I:SI Y B ρ σ H) (k:Nat) (js:List Nat) (E:XK) (hD:H D=none) (o:HO):SI ⟨B,H,E,Y.cl,[]⟩ B (jD k js ρ) (JK k js σ) (upd H D o):=I.blockS k js E (zg.new hD _)
theorem SI.acc {Y:Fx} {B:Hp} {ρ:En} {σ:Sg} {H:Hp} {D:Addr} (I:SI Y B ρ σ H) (hb:B D=none) (h0:Y.H0 D=none) (ho:∀ (i:Nat) (ts:List T),ρ[i]? =some (Sl.ow ts)->σ[i]? ≠ some (some (V.ref D))) (hso:∀ (i:Nat) (x:Sl),ρ[i]? =some x->Sl.isS x=true->False) (o:HO):SI Y B ρ σ (upd H D o) where
 s0:=I.s0
 sH:=fun b u h=>by
  rw [zd (fun z=>by subst z; rw [h0] at h; cases h)]; exact I.sH b u h
 sB:=fun b u h=>by
  rw [zd (fun z=>by subst z; rw [hb] at h; cases h)]; exact I.sB b u h
 old:=I.old
 len:=I.len
 vl:=I.vl
 ow:=fun i ts h=>by
  obtain ⟨a,xs,e,b0,h0',hh,r,d⟩:=I.ow i ts h
  refine ⟨a,xs,e,b0,h0', ?_,r,d⟩
  rw [zd (fun z=>ho i ts h (by rw [e,z]))]; exact hh
 xc:=I.xc
 st:=let ⟨as,O,x⟩:=I.st; ⟨as,O,x.pre,fun i os h=>hso i _ h rfl |>.elim,fun i j os os' h=>hso i _ h rfl |>.elim,fun i k n h=>hso i _ h rfl |>.elim,x.oc,fun i os h=>hso i _ h rfl |>.elim⟩
def yX (ρ:En):Prop:=∀ (i:Nat) (x:Sl),ρ[i]? =some x->(∀ ts,x ≠ Sl.ow ts)/\(x.isS=true->False)
theorem Ue (k:Nat) (js:List Nat) (ρ:En):yX (jD k js ρ):=fun i x h=>by
 unfold jD at h
 by_cases hik:i < k
 ·rw [List.getElem?_append_left (by simpa using hik),List.getElem?_replicate,if_pos hik] at h
  cases h; exact ⟨fun _=>Sl.noConfusion,Bool.false_ne_true⟩
 ·have hk' :k<=i:=by omega
  rw [List.getElem?_append_right (by simpa using hk'),List.length_replicate,List.getElem?_map] at h
  cases ej:js[i - k]? with
  | none=>rw [ej] at h; cases h
  | some j=>
   rw [ej] at h
   have h' :JV ρ[j]? =x:=Option.some.inj h
   unfold JV at h'
   split at h' <;> (subst h'; exact ⟨fun _=>Sl.noConfusion,Bool.false_ne_true⟩)
theorem jV {ρ:En} {i:Nat} {t:T} (h:yX ρ):yX (ρ.set i (.vl t)):=fun j x e=>by
 rcases zc e with ⟨_,z⟩ | ⟨_,z⟩
 ·subst z; exact ⟨fun _=>Sl.noConfusion,Bool.false_ne_true⟩
 ·exact h j x z
def GNo (g:T->En->R En):Prop:=(∀ t ρ ρ',yX ρ->g t ρ= .ok ρ' ->yX ρ')/\∀ t ρ c,g t ρ ≠ .ex c
theorem zJ (i:Nat):GNo (jC i):=⟨fun t ρ ρ' h e=>by
 cases e; exact jV h,fun t ρ c e=>by cases e⟩
theorem j4 (i j:Nat):GNo (ju i j):=⟨fun t ρ ρ' h e=>(by
 unfold ju at e
 split at e
 ·cases e; exact jV (jV h)
 ·cases e),fun t ρ c e=>by unfold ju at e; split at e <;> cases e⟩
section
variable {X:Cx} {Y:Fx} {tg iter elt:Expr} {ifs:List Expr} {scope:Scope} {pos pos' :Pos} {N' :List Str} {k:Nat} {js:List Nat} {fi:En->R (List T)} {tG:TG} {g:T->En->R En} {ft:En->R Bool} {fe:En->R T}
structure JW (X:Cx) (Y:Fx) (ifs:List Expr) (f:En->R Bool):Prop where
 mk ::
 go:∀ ρ,PIf X ifs (tS Y rE f ρ)
instance {X:Cx} {Y:Fx} {ifs:List Expr} {f:En->R Bool}:CoeFun (JW X Y ifs f) fun _=>∀ ρ,PIf X ifs (tS Y rE f ρ):=⟨JW.go⟩
theorem PIf.imp {X:Cx} {e:List Expr} {t t' :TT} (h:PIf X e t) (i:∀ σ H Q,t' σ H Q->t σ H Q):PIf X e t' :=fun pins s σ H Q I q=>h pins s σ H Q I (i σ H Q q)
def wA:En->R Bool:=fun _=> .ok true
theorem Qa {X:Cx}:JW X Y [] wA:= .mk fun ρ=>PIf.imp yV fun σ H Q ⟨B,I,q⟩=>zT I q rfl
theorem Qb {X:Cx} {c:Expr} (h:Jm X Y c ft):JW X Y [c] ft:= .mk fun ρ=>yW (h ρ)
def gK (r:R (List T)) (P:List T->Prop) (Z:Nat->Prop):Prop:=match r with
 | .ok vs=>P vs
 | .ex c=>Z c
 | .bad=>False
theorem W8 {B1 H1:Hp} {σ:Sg} {ρ:En} {J:It} {ts:List T} {r:R (List T)} {D:Addr} {E0:XK} (hG:GOk tG g) (hN:GNo g) (I:SI Y B1 ρ σ H1) (rI' :rI B1 H1 J ts) (hl:ts.length<=bnd) (ev:Zg g ft fe ts (jD k js ρ)=r) (hD:H1 D=none) {F:Hp->Prop}
  (hF:gK r (fun vs=>∀ H' xs B',zg H1 H' ->H' D=some (.lst xs)->zk B' xs vs->zg B' (zo B1 H1 H')->B' D=none->zg B1 B' ->F H') fun c=>∀ d H',zg H1 H' ->zg B1 H' ->E0 (Y.cl c) d H'):
  ∃ W,(∃ m,W 0 m [] (JK k js σ) (upd H1 D (.lst [])))/\Uc J D tG (fun σ H Q=>∃ Y' ρ',Y'.cl=Y.cl/\tS Y' rE ft ρ' σ H Q) (fun σ H Q=>∃ Y' ρ',Y'.cl=Y.cl/\Y'.E=E0/\tS Y' rC fe ρ' σ H Q) (fun _ H' =>F H') W:=by
 refine ⟨fun i m ys σ' H' =>m=ts.length - i/\i<=ts.length/\ys.length<=i/\H' D=some (.lst ys)/\∃ ρ' B' us,SI ⟨B1,H1,E0,Y.cl,[]⟩ B' ρ' σ' H' /\yX ρ' /\zg B1 B' /\B' D=none/\zk B' ys us/\((Zg g ft fe (ts.drop i) ρ').bind fun ws=> .ok (us++ws))=r,
  ⟨ts.length,by simp,Nat.zero_le _,Nat.zero_le _,zi,_,B1,[],I.block (H3:=H1) k js _ hD _,Ue k js ρ,zg.refl _,I.sB.free hD, .nil,by rw [List.drop_zero,ev]; cases r <;> rfl⟩, ?_⟩
 rintro i m ys σ' H' ⟨rfl,hi,hyl,hDl,ρ',B',us,I',no',s1',bD,r',ew⟩
 refine ⟨hDl, ?_⟩
 obtain ⟨hgo,hyld,hstop⟩:=rI' B' H' s1' I'.sB
 have tD:∀ H2,zg H' H2->zo B' H' H2 D=none:=fun H2 s=>by rw [zC hDl]; exact bD
 by_cases hlt:i < ts.length
 ·refine .inr ⟨hgo i hlt,fun x H2 y=> ?_⟩
  obtain ⟨s2,r2⟩:=hyld i _ x H2 (List.getElem?_eq_getElem hlt) y
  rw [List.drop_eq_getElem_cons hlt] at ew
  unfold Zg at ew
  have I2:=I'.grow s2
  refine hG _ _ ρ' σ' H2 x _ _ I2 r2 ?_
  cases eg:g ts[i] ρ' with
  | bad=>rw [eg] at ew; subst ew; exact hF
  | ex c=>exact (hN.2 _ _ _ eg).elim
  | ok ρ1=>
   rw [eg] at ew
   have no1:yX ρ1:=hN.1 _ _ _ no' eg
   intro σ1 J1
   refine ⟨⟨B1,H1,E0,Y.cl,[]⟩,ρ1,rfl,_,J1, ?_⟩
   have ew1:((ft ρ1).bind (fun k=>if k=true then (fe ρ1).bind fun v=>(Zg g ft fe (ts.drop (i+1)) ρ1).bind fun vs=> .ok (v :: vs) else Zg g ft fe (ts.drop (i+1)) ρ1)).bind (fun ws=> .ok (us++ws))=r:=ew
   cases ef:ft ρ1 with
   | bad=>rw [ef] at ew1; subst ew1; exact hF
   | ex c=>
    rw [ef] at ew1; subst ew1
    exact fun d H' a b=>hF d H' a ((s1'.trans (zo.ge I'.sB s2)).trans b)
   | ok kk=>
    rw [ef] at ew1
    intro b H3 s3 eb
    have eb' :b=kk:=eb
    subst eb'
    have ew2:(if b=true then (fe ρ1).bind fun v=>(Zg g ft fe (ts.drop (i+1)) ρ1).bind fun vs=> .ok (v :: vs) else Zg g ft fe (ts.drop (i+1)) ρ1).bind (fun ws=> .ok (us++ws))=r:=ew1
    have J2:=J1.grow s3
    have hD3:H3 D=some (.lst ys):=s3 _ _ (s2 _ _ hDl)
    have bD3:zo (zo B' H' H2) H2 H3 D=none:=by rw [zC (s2 _ _ hDl)]; exact tD H2 s2
    have sB3:zg B' (zo (zo B' H' H2) H2 H3):=(zo.ge I'.sB s2).trans (zo.ge I2.sB s3)
    cases b with
    | false=>exact ⟨ts.length - (i+1),by omega,rfl,hlt,by omega,hD3,ρ1,_,us,J2,no1,s1'.trans sB3,bD3,r'.mono sB3,ew2⟩
    | true=>
     refine ⟨⟨B1,H1,E0,Y.cl,[]⟩,ρ1,rfl,rfl,_,J2, ?_⟩
     have ew3:((fe ρ1).bind (fun v=>(Zg g ft fe (ts.drop (i+1)) ρ1).bind fun vs=> .ok (v :: vs))).bind (fun ws=> .ok (us++ws))=r:=ew2
     cases ee:fe ρ1 with
     | bad=>rw [ee] at ew3; subst ew3; exact hF
     | ex c=>
      rw [ee] at ew3; subst ew3
      exact fun d H' a b=>hF d H' a ((s1'.trans sB3).trans b)
     | ok v=>
      rw [ee] at ew3
      have ew4:((Zg g ft fe (ts.drop (i+1)) ρ1).bind (fun vs=> .ok (v :: vs))).bind (fun ws=> .ok (us++ws))=r:=ew3
      have ew5:(Zg g ft fe (ts.drop (i+1)) ρ1).bind (fun ws=> .ok ((us++[v])++ws))=r:=by
       rw [← ew4]
       cases Zg g ft fe (ts.drop (i+1)) ρ1 with
       | ok ws=>show R.ok _=R.ok _; rw [List.append_assoc]; rfl
       | _=>rfl
      intro w H4 s4 rw4
      have hD4:H4 D=some (.lst ys):=s4 _ _ hD3
      have J3:=J2.grow s4
      have bD4:zo (zo (zo B' H' H2) H2 H3) H3 H4 D=none:=by rw [zC hD3]; exact bD3
      have sB4:=sB3.trans (zo.ge J2.sB s4)
      refine ⟨hD4,Nat.lt_of_lt_of_le (Nat.lt_of_le_of_lt hyl hlt) (zG hl),ts.length - (i+1),by omega,rfl,hlt,by rw [List.length_append,List.length_singleton]; omega,zi,ρ1,_,us++[v], ?_,no1,s1'.trans sB4,bD4,(r'.mono sB4).append (.cons rw4 .nil),ew5⟩
      exact J3.acc bD4 hD (fun j ts' e=>((no1 j _ e).1 ts' rfl).elim) (fun j x e=>(no1 j x e).2) _
 ·have e:i=ts.length:=by omega
  subst e
  refine .inl ⟨hstop _ (Nat.le_refl _), ?_⟩
  rw [List.drop_length] at ew
  have ew' :R.ok (us++[])=r:=ew
  rw [List.append_nil] at ew'
  subst ew'
  refine hF H' ys B' I'.sH hDl r' (fun b o h=> ?_) bD s1'
  cases q:H1 b with
  | none=>rw [zB q]; exact I'.sB b o h
  | some u=>
   rw [zC q]
   have z:B' b=B1 b:=I'.old b u q
   rw [← z]; exact h
theorem uc {B1 H1:Hp} {σ:Sg} {ρ:En} {J:It} {ts vs:List T} {D:Addr} (hG:GOk tG g) (hN:GNo g) (I:SI Y B1 ρ σ H1) (rI' :rI B1 H1 J ts) (hl:ts.length<=bnd) (ev:Zg g ft fe ts (jD k js ρ)= .ok vs) (hD:H1 D=none) {F:Hp->Prop}
  (hF:∀ H' xs B',zg H1 H' ->H' D=some (.lst xs)->zk B' xs vs->zg B' (zo B1 H1 H')->B' D=none->zg B1 B' ->F H'):
  ∃ W,(∃ m,W 0 m [] (JK k js σ) (upd H1 D (.lst [])))/\Uc J D tG (fun σ H Q=>∃ Y' ρ',Y'.cl=Y.cl/\tS Y' rE ft ρ' σ H Q) (fun σ H Q=>∃ Y' ρ',Y'.cl=Y.cl/\(Y'.E=fun _ _ _=>False)/\tS Y' rC fe ρ' σ H Q) (fun _ H' =>F H') W:=W8 hG hN I rI' hl ev hD hF
structure UR (X:Cx) (Y:Fx) (tg iter elt:Expr) (ifs:List Expr) (scope:Scope) (N' :List Str) (k:Nat) (js:List Nat) (fi:En->R (List T)) (tG:TG) (g:T->En->R En) (ft:En->R Bool) (fe:En->R T):Prop where
 sc:CSc X scope
 cp:Q8 X scope N' k js
 cm:X.calm=true
 it:Wl X Y tg iter fi
 gt:YJ X scope N' fun XC=>PG XC tg tG
 gk:GOk tG g
 gn:GNo g
 tt:∀ Y',Y'.cl=Y.cl->YJ X scope N' fun XC=>JW XC Y' ifs ft
 el:∀ Y',Y'.cl=Y.cl->VR X scope N' Y'.E fun XC=>Snd XC Y' elt fe
 hs:∀ x,foldedSetIterable iter X.env x=pure x
theorem zR (C:UR X Y tg iter elt ifs scope N' k js fi tG g ft fe):Snd X Y (.ListComp elt [⟨tg,iter,ifs,0⟩] scope pos) (Zh fi g ft fe k js):= .mk fun ρ=>by
 intro pins s σ H Q I ⟨B,J,q⟩
 rw [eval_ListComp]
 refine Ud (W4 rfl) (use:=none) (Q:=EP X pins σ Q) (F:=fun D H' =>Q (.ref D) H') (te:=fun σ H Q=>∃ Y' ρ',Y'.cl=Y.cl/\(Y'.E=fun _ _ _=>False)/\tS Y' rC fe ρ' σ H Q) (tt:=fun σ H Q=>∃ Y' ρ',Y'.cl=Y.cl/\tS Y' rE ft ρ' σ H Q) C.sc C.cp C.cm (C.it ρ) C.gt
  (fun cl Cx' s3 H3 fp pins pins' s σ H Q I ⟨Y',ρ',ey,q⟩=>C.tt Y' ey cl Cx' s3 H3 fp pins ρ' pins' s σ H Q I q) (fun cl Cx' s3 H3 fp pins xe hp pins' s σ H Q I ⟨Y',ρ',ey,eE,q⟩=>C.el Y' ey cl Cx' s3 H3 fp pins xe (eE ▸ hp) ρ' pins' s σ H Q I q) I ?_ ?_ C.hs
 ·refine step J q fun ts it' H1 _ s1 r1 J1 q1=> ?_
  intro D hD
  unfold Q9 at q1
  split at q1
  ·rename_i hl
   cases ev:Zg g ft fe ts (jD k js ρ) with
   | bad=>rw [ev] at q1; exact q1.elim
   | ex c=>rw [ev] at q1; exact q1.elim
   | ok vs=>
    rw [ev] at q1
    refine uc C.gk C.gn J1 r1 hl ev hD fun H' xs B' s' e' r' l' b' sb' => ?_
    refine (show Po Y rC _ H1 (.ok (.lst vs)) Q from q1) (.ref D) H' s' ?_
    exact .lst (by rw [zB hD]; exact e') (r'.mono l')
  ·exact q1.elim
 ·intro D Cc H' s' I' q' hC h0 hL hcell hpin hns
  obtain ⟨m,hm⟩:=hns
  refine ⟨m,hm,fun h' hsb=>⟨.ref D,H', ?_,rfl,q'⟩⟩
  exact I'.turned (t' :=s'.toks) (fun b o hb e=>hsb.extBut b o hb e) hC (Ne.symm hL).symm (.inr h0) hcell hpin
end
section
variable {X:Cx} {Y:Fx} {tg iter elt:Expr} {ifs:List Expr} {scope:Scope} {pos pos' :Pos} {N' :List Str} {k:Nat} {js:List Nat} {fi:En->R (List T)} {tG:TG} {g:T->En->R En} {ft:En->R Bool} {fe:En->R T}
end
def Itc (x:Str):It:=⟨fun i _=>i < x.cps.size,fun i H v H' =>H' =H/\∃ c,x.cps[i]? =some c/\v= .str ⟨#[c]⟩,fun i _=>x.cps.size<=i⟩
theorem jE {P:Program} {w:World} {K:PySem.W.Frag} {tg:Expr} {x:Str} {t:Tok} {ty:String} (it:Addr) (hty:ty="str_ascii_iterator"\/ty="str_iterator"):Wh P w K tg (Itc x) [it] it (fun i h=>h.IsStrIter it ty x t i):=by
 have W:∀ A:Around,A.handled=none->Walks P w A it [it] [it] x.cps.size (SignAt x) (fun i h=>h.IsStrIter it ty x t i):=fun A hA=>by
  rcases hty with rfl | rfl
  ·exact Walks.strAscii hA it x t
  ·exact Walks.strWide hA it x t
 have hn:["enumerate","zip","dict_itemiterator","dict_reverseitemiterator","odict_iterator","itertools.zip_longest","itertools.pairwise"].contains ty=false:=by rcases hty with rfl | rfl <;> decide
 refine ⟨by simp,fun i h st b hb=> ?_,fun i h h' st k=> ?_, ?_, ?_,fun A i s Q E st h=> ?_⟩
 ·have e:b=it:=by simpa using hb
  subst e
  obtain ⟨o,e,c,d⟩:=st
  exact ⟨o,e,fun v z=>by rw [d] at z; cases z⟩
 ·obtain ⟨o,e,r⟩:=st
  exact ⟨o,k it (by simp) o e,r⟩
 ·intro X hP hw hK hc i pins s σ H E I hf st hg
  subst hP hw hK
  obtain ⟨f0,f1,f2,f3,f4,f5⟩:=hf it (by simp)
  refine (W X.A (I.ok.hd hc)).item i s _ _ hg st fun v h' tk hv st' kk=> ?_
  obtain ⟨c,u,hc',rfl⟩:=hv
  have I1:L2.Inv X pins σ H { s with heap:=h',toks:=tk }:=I.turned (fun b o hb e=>kk b o (by simpa using hb) e) f0 f1 f3 f4 f5
  obtain ⟨o,e,cl,d⟩:=id st'
  exact ⟨_,rfl,wQ (s:={ s with heap:=h',toks:=tk }) e cl d hn ⟨.str ⟨#[c]⟩,H,I1,⟨u,rfl⟩,⟨rfl,c,hc',rfl⟩,st',fun b hb=>(hf b hb).1⟩⟩
 ·intro X hP hw hK hc i pins s σ H E I hf st hg
  subst hP hw hK
  obtain ⟨f0,f1,f2,f3,f4,f5⟩:=hf it (by simp)
  have hx:x.cps[i]? =none:=Array.getElem?_eq_none hg
  rcases hty with rfl | rfl
  ·exact wpAny_pyNext_ascii_end (I.ok.hd hc) st hx fun h' eb=>⟨rfl,I.turned (t' :=s.toks) (fun b o hb e=>eb b o hb e) f0 f1 f3 f4 f5⟩
  ·exact wpAny_pyNext_wide_end (I.ok.hd hc) st hx fun h' eb=>⟨rfl,I.turned (t' :=s.toks) (fun b o hb e=>eb b o hb e) f0 f1 f3 f4 f5⟩
 ·rcases hty with rfl | rfl
  ·exact wpAny_pyIter_striter_ascii st h
  ·exact wpAny_pyIter_striter_wide st h
def ZW (x:Str):List T:=x.cps.toList.map fun c=>T.str ⟨#[c]⟩
theorem Uf {B1 H1:Hp} {x:Str}:rI B1 H1 (Itc x) (ZW x):=fun B2 H2 s1 s2=>by
 have hl:(ZW x).length=x.cps.size:=by unfold ZW; simp
 refine ⟨fun i hi=>by rw [hl] at hi; exact hi,fun i t v H3 e y=> ?_,fun i hi=>by rw [hl] at hi; exact hi⟩
 obtain ⟨rfl,c,hc,rfl⟩:=y
 refine ⟨zg.refl _, ?_⟩
 unfold ZW at e
 rw [List.getElem?_map] at e
 have hc' :x.cps.toList[i]? =some c:=by simpa using hc
 rw [hc'] at e
 cases e
 exact .str _
section
variable {X:Cx} {Y:Fx} {a b c d tg:Expr} {fa fb fc fd:En->R T} {pos p:Pos}
theorem Qc {l:Expr} {tl:TE} (hl:PE X l tl):PI X tg l (fun σ H R=>tl σ H fun x H1=>(∃ a,x= .ref a/\(((∃ xs,SqL X.K H1 a xs)/\R (Itl X.K a) H1)\/((∃ xs,SqT X.K H1 a xs)/\R (Itt X.K a) H1)))\/(∃ z,x= .str z/\R (Itc z) H1)):=by
 intro pins s σ H R I h
 refine thn (hl pins s σ H _ I h) fun v s1 ⟨x,H1,I1,r1,q1⟩=> ?_
 have ok:∀ b∈[s1.heap.objs.size],J9 X pins H1 b:=fun b hb=>by
  have e:b=s1.heap.objs.size:=by simpa using hb
  subst e
  exact I1.fpOk (Nat.le_refl _) (I1.hok.fresh (Nat.le_refl _))
 rcases q1 with ⟨a,e,q⟩ | ⟨z,e,q⟩
 ·subst e
  obtain rfl:v=Value.ref a:=r1
  rcases q with ⟨⟨xs,hq⟩,q⟩ | ⟨⟨xs,hq⟩,q⟩
  ·obtain ⟨its,rv,p,hz⟩:=I1.list hq
   exact wpAny_pyIter_list p.isList ⟨s1.heap.objs.size,[s1.heap.objs.size],_,_,H1,rfl,I1.kept (t' :=s1.toks) fun b o e=>Heap.get?_push_of_some _ e,Wv a _,⟨_,Heap.get?_push_size _ rfl,rfl,rfl⟩,ok,q⟩
  ·obtain ⟨its,rv,p,hz⟩:=I1.tuple hq
   exact wpAny_pyIter_tuple (show s1.heap.IsTuple a its.toArray from p) ⟨s1.heap.objs.size,[s1.heap.objs.size],_,_,H1,rfl,I1.kept (t' :=s1.toks) fun b o e=>Heap.get?_push_of_some _ e,wR a _,⟨_,Heap.get?_push_size _ rfl,rfl,rfl⟩,ok,q⟩
 ·subst e
  obtain ⟨t,rfl⟩:=r1
  cases ha:z.cps.all (· < 128)
  ·exact wpAny_pyIter_wide ha ⟨s1.heap.objs.size,[s1.heap.objs.size],_,_,H1,rfl,I1.kept (t' :=s1.toks) fun b o e=>Heap.get?_push_of_some _ e,jE _ (.inr rfl),⟨_,Heap.get?_push_size _ rfl,rfl,rfl⟩,ok,q⟩
  ·exact wpAny_pyIter_ascii ha ⟨s1.heap.objs.size,[s1.heap.objs.size],_,_,H1,rfl,I1.kept (t' :=s1.toks) fun b o e=>Heap.get?_push_of_some _ e,jE _ (.inl rfl),⟨_,Heap.get?_push_size _ rfl,rfl,rfl⟩,ok,q⟩
def Qd:T->R (List T)
 | .lst xs=> .ok xs
 | .tup xs=> .ok xs
 | .str x=> .ok (ZW x)
 | _=> .bad
def JX (fa:En->R T):En->R (List T):=fun ρ=>(fa ρ).bind Qd
theorem VS (ha:Snd X Y a fa):Wl X Y tg a (JX fa):= .mk fun ρ=>PI.imp (Qc (ha ρ)) fun σ H R ⟨B,I,q⟩=>step I q fun t v H1 _ s1 r1 I1 q1=>by
 cases r1 with
 | @tup l xs ts h r=>
  exact .inl ⟨l,rfl, .inr ⟨⟨xs,SqT.of (I1.sB _ _ h)⟩,zT I1 (show Po Y rI _ H1 (.ok ts) R from q1) (Q0 h r)⟩⟩
 | @lst l xs ts h r=>
  exact .inl ⟨l,rfl, .inl ⟨⟨xs,SqL.of (I1.sB _ _ h)⟩,zT I1 (show Po Y rI _ H1 (.ok ts) R from q1) (Q1 h r)⟩⟩
 | str z=>exact .inr ⟨z,rfl,zT I1 (show Po Y rI _ H1 (.ok (ZW z)) R from q1) Uf⟩
 | _=>exact q1.elim
end
theorem Inv.laidT {X:Cx} {pins:List (Addr×Obj)} {σ:Sg} {H:Hp} {s:Shared} {h' :Heap} {tk:Nat} {ch:List Addr} {a:Addr} {xs:List V} (I:L2.Inv X pins σ H s) (hf:∀ b∈ch,J9 X pins H b) (k:∀ b o,b ∉ ch->s.heap.get? b=some o->h'.get? b=some o)
  (th:∀ b o,b∈ch->s.heap.get? b=some o->∃ o',h'.get? b=some o') (ha:s.heap.objs.size<=a) (new:zK X.prog X.w (upd H a (.tup xs)) h' a (.tup xs)):L2.Inv X pins σ (upd H a (.tup xs)) { s with heap:=h',toks:=tk }:=by
 have hn:H a=none:=I.hok.fresh ha
 have nch:∀ b u,H b=some u->b ∉ ch:=fun b u e hb=>by rw [(hf b hb).1] at e; cases e
 refine I.call' (s' :={ s with heap:=h',toks:=tk }) (ch:=ch) rfl ⟨fun b o e n _ hc=>k b o hc e,fun b o e n _ hc=>⟨o.slots,k b o hc e⟩,fun b o e n _=>by rw [zd (Nat.ne_of_lt (Nat.lt_of_lt_of_le (Heap.lt_size e) ha))]; exact n,fun b o e hc=>⟨o,k b o hc e⟩,
  fun b ys e=>by rw [zd (zl e hn)]; exact e,fun b o u e=>by rw [zd (zl e hn)]; exact e,fun b ps q e=>by rw [zd (zl e hn)]; exact e⟩ (fun b u e=> ?_) I.bare fun b hb=> ?_
 ·by_cases hb:b=a
  ·subst hb; rw [zi] at e; cases e; exact new
  ·rw [zd hb] at e
   refine (I.hok b u e).stay (fun c v hc q=> ?_) (fun c q=>by rw [zd (zl q hn)]; exact q) (fun c ys q=>by rw [zd (zl q hn)]; exact q) fun c o u q=>by rw [zd (zl q hn)]; exact q
   rcases hc with rfl | hc
   ·exact k c v (nch c u e) q
   ·exact k c v (nch c _ hc) q
 ·obtain ⟨f0,f1,f2,f3,f4,f5⟩:=hf b hb
  exact ⟨f3,f1,f4,f5⟩
def ZX (xs:List T):List T:=(xs.zipIdx).map fun p=>T.tup [.int (p.2:Nat),p.1]
theorem Ju {xs:List T} {i:Nat} {t:T} (h:(ZX xs)[i]? =some t):∃ x,xs[i]? =some x/\t= .tup [.int (i:Nat),x]:=by
 unfold ZX at h
 rw [List.getElem?_map,List.getElem?_zipIdx] at h
 cases e:xs[i]? with
 | none=>rw [e] at h; cases h
 | some x=>rw [e] at h; cases h; exact ⟨x,rfl,by simp⟩
theorem ZR (xs:List T):(ZX xs).length=xs.length:=by unfold ZX; simp
section
variable {X:Cx} {Y:Fx} {a:Expr} {fa:En->R T} {pos p pt:Pos} {elts:List Expr} {kk:Nat}
def enumI (fa:En->R T):En->R (List T):=fun ρ=>(fa ρ).bind fun t=>match t with
 | .lst xs=> .ok (ZX xs)
 | _=> .bad
def YK:List T->Option (List Str)
 | []=>some []
 | .str x :: r=>match YK r with | some ys=>some (x :: ys) | none=>none
 | _ :: _=>none
def W9 (sep:Str):T->R T
 | .lst ts=>match YK ts with
  | some ys=>if (ys.map (·.length)).sum+ys.length*sep.length<=16777216 then .ok (.str (Txt.join sep ys)) else .bad
  | none=> .bad
 | _=> .bad
theorem wB {H:Hp}:∀ {xs:List V} {ts:List T} {its:List Value} {ys:List Str},zk H xs ts->zv xs its->YK ts=some ys->StrsAre its ys
 | _,_,_,ys, .nil, .nil,h=>by
  have h' :some []=some ys:=h
  cases h'; exact .nil
 | _,_,_,ys, .cons (t:=t) r rs, .cons (b:=u) rv vs,h=>by
  cases r with
  | str x=>
   unfold YK at h
   split at h
   ·rename_i zs e
    cases h
    obtain ⟨tk,rfl⟩:=rv
    exact .cons x tk (wB rs vs e)
   ·cases h
  | _=>cases h
theorem yY:MtR X "str.join" (fun x xs H Q=>∃ z l zs ts ys,x= .str z/\xs=[.ref l]/\H l=some (.lst zs)/\zk H zs ts/\YK ts=some ys/\(ys.map (·.length)).sum+ys.length*z.length<=16777216/\Q (.str (Txt.join z ys)) H):=by
 intro pins s σ H x xs v us Q I rx rv h
 obtain ⟨z,l,zs,ts,ys,rfl,rfl,hl,r,e,hb,q⟩:=h
 obtain ⟨t,rfl⟩:=rx
 obtain ⟨u,rfl,ru⟩:=zX rv
 obtain rfl:u=Value.ref l:=ru
 obtain ⟨its,rv,p,_⟩:=zy I (.inl hl) r
 exact join_list p (by simpa using wB r rv e) hb fun t' k=>⟨.str _,H,I.tok k,⟨t',rfl⟩,q⟩
theorem Qe {z:Str} {kc:Nat} {pz pa:Pos} (ha:Zf X Y a fa) (hb:attributeBase (.Constant (.str z) kc pz) "join" X.env (eval (.Constant (.str z) kc pz) X.env)=eval (.Constant (.str z) kc pz) X.env:=by rfl) (hs:St1 X a:=by exact st1 rfl)
  (hz:(pa.endLine == p.line)=true:=by rfl):Snd X Y (.Call (.Attribute (.Constant (.str z) kc pz) "join" pa) [a] [] p) (ap1 (W9 z) fa):= .mk fun ρ=>by
 have e1:(((((backTo p (starEach [a] X.env)).all fun x=> !x.fst) && (backToKw p (keywordEach [] X.env)).all fun x=>x.fst.isSome) && decide (([a].length+([]:List Keyword).length+if ([]:List Keyword).isEmpty=true then 0 else 1) < 30))=true):=by rw [hs]; rfl
 refine PE.imp (ZT PySem.F.plainAttrs_str PySem.F.slot_str_join PySem.F.type_str_join yY Wq (zj (ha ρ) zw hs) hb e1 hz hs rfl) fun σ H Q ⟨B,I,q⟩=> ?_
 refine ⟨rfl,step I q fun t v H1 _ s1 r1 I1 q1=> ?_⟩
 cases r1 with
 | @lst l xs ts h r=>
  have q1:Po Y rC _ H1 (match YK ts with | some ys=>if (ys.map (·.length)).sum+ys.length*z.length<=16777216 then .ok (.str (Txt.join z ys)) else .bad | none=> .bad) Q:=q1
  split at q1
  ·rename_i ys e
   split at q1
   ·rename_i hl
    exact ⟨z,l,xs,ts,ys,rfl,rfl,h,r,e,hl,po0 I1.sB q1 rfl (.str _)⟩
   ·exact q1.elim
  ·exact q1.elim
 | _=>exact q1.elim
end
section
variable {prog:Program} {w:World} {A:Around} {R:Result->Shared->Prop} {I:Addr} {fp wr:List Addr} {n:Nat} {P:Nat->Value->Prop} {St:Nat->Heap->Prop}
end
section
variable {prog:Program} {w:World} {A:Around} {E:Value->Shared->Prop} {s:Shared}
end
section
variable {X:Cx} {Y:Fx} {a b:Expr} {fa fb:En->R T} {pos pos' p p' :Pos}
def vN (i j:Nat) (ga:En->R (List T)):En->RS:=fun ρ=>(ga ρ).s fun ts=>match ts with
 | [x,y]=> .nx ((ρ.set i (.vl x)).set j (.vl y))
 | _=> .bad
theorem VT {i j:Nat} {x y:Str} {ga:En->R (List T)} {px py pt pt2:Pos} {kt k2:Nat} (hc:X.calm=true) (hN:X.N.Nodup) (hi:X.N[i]? =some x) (hj:X.N[j]? =some y) (hij:i ≠ j) (hx:X.env.scope.names.lookup x=some .local) (hy:X.env.scope.names.lookup y=some .local)
  (ha:jp X Y [a,b] ga) (hs:swappedStores [.Tuple [.Name x px, .Name y py] kt pt] (.Tuple [a,b] k2 pt2) X.env=pure (some [x,y])) (hw:swapsWithSole [.Tuple [.Name x px, .Name y py] kt pt] (.Tuple [a,b] k2 pt2) pos.line X.env=pure false:=by rfl):
  ZQ X Y (.Assign [.Tuple [.Name x px, .Name y py] kt pt] (.Tuple [a,b] k2 pt2) pos) (vN i j ga):= .mk fun ρ=>
 PS.imp (qj hc hN hi hj hij hx hy (ha ρ) hs hw) fun D σ H ⟨B,I,q⟩=>ZV I q fun ts vs H1 _ s1 r1 I1 q1=>by
  cases r1 with
  | nil=>exact q1.elim
  | cons r rr=>
   cases rr with
   | nil=>exact q1.elim
   | cons r' rr=>
    cases rr with
    | cons _ _=>exact q1.elim
    | nil=>exact ⟨_,_,rfl,q1 _ _ _ (zg.refl _) ((I1.setV i r).setV j r')⟩
end
theorem Qf {X:Cx} {E:XK}:zz CX0 X E:=fun _ _ _ _ _ _ _ h=>h.elim
section
variable {X:Cx} {Y:Fx} {a b:Expr} {fa fb:En->R T} {pos pos' p p' :Pos}
theorem yZ {cl:Nat->Value} {k j n:Nat} {f:Addr} {fd:FuncData} {ps:List Str} {g:List T->R T} {x:Str} {es:List Expr} {ga:En->R (List T)} (hy:Y.cl=cl) (F:zq X.prog X.w X.K X.mg X.base CX0 j f fd ps (spP cl n g)) (hr:zQ k X.A) (hj:j<=k) (gl:Gl X x)
  (mg:X.mg x=some (.ref f)) (kp:PySem.W.keepIn X.K (.ref f)=true) (bd:L2.Binds X.K fd ps []) (ha:jp X Y (a :: es) ga) (hd:(x == ("__debug__":Str))=false:=by decide)
  (hs:starEach (a :: es) X.env=(false,eval a X.env) :: starEach es X.env:=by exact zp rfl) (hz:((backTo pos (starEach es X.env)).any fun x=>x.fst)=false:=by exact zA rfl):Snd X Y (.Call (.Name x p) (a :: es) [] pos) (zf n g ga):=by
 subst hy
 exact UO F (hr.mono hj) gl mg kp bd Qf ha hd hs hz
theorem jf {x:Str} {i:Int} {u:Value} (gl:Gl X x) (mg:X.mg x=some u) (hu:∃ t,u=Value.int i t) (hd:(x == ("__debug__":Str))=false:=by decide):Snd X Y (.Name x pos) (cE (.int i)):= .mk fun ρ=>
 PE.imp (Wr (v:= .int i) gl mg hu hd) fun σ H Q ⟨B,I,q⟩=>zT I q (.int i)
end
def vO (scope sc0:Scope):Bool:=(scope.kind == .function) && scope.names.all (fun x=>x.2 != .cell) && scope.names.all (fun x=>x.2 != .local || scope.names.lookup x.1 == some .local) &&
 scope.names.all (fun x=>x.2 != .free || sc0.names.lookup x.1 == some .cell || sc0.names.lookup x.1 == some .free)
theorem US {X:Cx} {scope:Scope} (sc0:Scope) (h0:X.env.scope=sc0) (h:vO scope sc0=true):CSc X scope:=by
 unfold vO at h
 simp only [Bool.and_eq_true,List.all_eq_true] at h
 obtain ⟨⟨⟨h1,h2⟩,h3⟩,h4⟩:=h
 refine ⟨eq_of_beq h1,fun x hx=>by simpa using h2 x hx,fun x hx hl=> ?_,fun x hx hf=> ?_⟩
 ·have:=h3 x hx
  rw [hl] at this
  simpa using this
 ·have:=h4 x hx
  rw [hf] at this
  show X.env.scope.names.lookup x.1=_\/X.env.scope.names.lookup x.1=_
  rw [h0]
  simpa using this
def vP (N N' :List Str) (scope sc0:Scope) (k:Nat) (js:List Nat):Bool:=(N'.length == k+js.length) && (List.range js.length).all fun i=>match js[i]? with
 | none=>true
 | some j=>match N'[k+i]?,N[j]? with
  | some x,some y=>(x == y) && (sc0.names.lookup x == some .cell || sc0.names.lookup x == some .free) && (scope.names.lookup x == some .free)
  | _,_=>false
theorem ud {X:Cx} {scope:Scope} {N' :List Str} {k:Nat} {js:List Nat} (N:List Str) (sc0:Scope) (hN:X.N=N) (h0:X.env.scope=sc0) (h:vP N N' scope sc0 k js=true):Q8 X scope N' k js:=by
 unfold vP at h
 simp only [Bool.and_eq_true,List.all_eq_true] at h
 obtain ⟨h1,h2⟩:=h
 refine ⟨eq_of_beq h1,fun i j e=> ?_⟩
 have hi:i < js.length:=(List.getElem?_eq_some_iff.mp e).1
 have q:=h2 i (List.mem_range.mpr hi)
 rw [e] at q
 dsimp only at q
 split at q
 ·rename_i x y e1 e2
  simp only [Bool.and_eq_true,Bool.or_eq_true,beq_iff_eq] at q
  obtain ⟨⟨rfl,q2⟩,q3⟩:=q
  refine ⟨x,e1,by rw [hN]; exact e2, ?_,q3, ?_⟩
  ·unfold Vis
   rw [h0]
   exact .inr q2
  ·show X.env.scope.names.lookup x=_\/X.env.scope.names.lookup x=_
   rw [h0]
   exact q2
 ·cases q
theorem zS {X:Cx} {Y:Fx} {tg iter elt:Expr} {ifs:List Expr} {scope:Scope} {k:Nat} {js:List Nat} {fi:En->R (List T)} {tG:TG} {g:T->En->R En} {ft:En->R Bool} {fe:En->R T} (N' :List Str) (N:List Str) (sc0:Scope) (hN:X.N=N) (h0:X.env.scope=sc0)
  (h:(vO scope sc0 && vP N N' scope sc0 k js)=true) (cm:X.calm=true) (it:Wl X Y tg iter fi) (gt:YJ X scope N' fun XC=>PG XC tg tG) (gk:GOk tG g) (gn:GNo g) (tt:∀ Y',Y'.cl=Y.cl->YJ X scope N' fun XC=>JW XC Y' ifs ft)
  (el:∀ Y',Y'.cl=Y.cl->VR X scope N' Y'.E fun XC=>Snd XC Y' elt fe) (hs:∀ x,foldedSetIterable iter X.env x=pure x:=by intro _; rfl):UR X Y tg iter elt ifs scope N' k js fi tG g ft fe:=by
 rw [Bool.and_eq_true] at h
 exact ⟨US sc0 h0 h.1,ud N sc0 hN h0 h.2,cm,it,gt,gk,gn,tt,el,hs⟩
end PV
namespace PV
open PySem PySem.Spec PyProof.Rows L2 PySem.W
section
variable {X:Cx} {Y:Fx} {a b:Expr} {fa fb:En->R T} {pos pos' p p' :Pos}
theorem Y0 {cl:Nat->Value} {k j n:Nat} {f:Addr} {fd:FuncData} {ps:List Str} {g:List T->R T} {x:Str} {es:List Expr} {ga:En->R (List T)} (hy:Y.cl=cl) (hp:zz (CX1 X.prog X.w) X Y.E) (F:zq X.prog X.w X.K X.mg X.base (CX1 X.prog X.w) j f fd ps (spP cl n g)) (hr:zQ k X.A) (hj:j<=k) (gl:Gl X x)
  (mg:X.mg x=some (.ref f)) (kp:PySem.W.keepIn X.K (.ref f)=true) (bd:L2.Binds X.K fd ps []) (ha:jp X Y (a :: es) ga) (hd:(x == ("__debug__":Str))=false:=by decide)
  (hs:starEach (a :: es) X.env=(false,eval a X.env) :: starEach es X.env:=by exact zp rfl) (hz:((backTo pos (starEach es X.env)).any fun x=>x.fst)=false:=by exact zA rfl):Snd X Y (.Call (.Name x p) (a :: es) [] pos) (zf n g ga):=by
 subst hy
 exact UO F (hr.mono hj) gl mg kp bd hp ha hd hs hz
end
def zW (c:Nat):En->RS:=fun _=> .ex c
section
variable {P:Program} {w:World} {K:PySem.W.Frag} {mg:Str->Option Value} {base:Heap} {N:List Str} {qual:Str} {scope:Scope} {f:Addr} {cd:Value} {A:Around} {outer:List Env} {s:Shared} {H:Hp} {E:XK} {Y:Fx}
theorem jg {x m:Str} {C:Addr} {bm bmN:List Value} {Bn Bb newId nid initId inN:String} {np cpos pos ap:Pos} {j c:Nat} (O:OwnCls x C bm newId mg base) (Fn:ExcBaseFacts Bn newId inN bmN) (hBn:bm.contains (.type Bn)=true) (FB:ExcBaseFacts Bb nid initId bm)
  (hY:Y.E=E) (hc:Y.cl c= .ref C) (hg:Gl (Zr (CX1 P w) P w K mg base N qual scope f cd A outer s H E) x) (hd:(x == ("__debug__":Str))=false:=by decide):
  ZQ (Zr (CX1 P w) P w K mg base N qual scope f cd A outer s H E) Y (.Raise (some (.Call (.Name x np) [.Constant (.str m) j ap] [] cpos)) none pos) (zW c):= .mk fun ρ=>by
 subst hY
 refine PS.imp (WP O Fn hBn FB hg ((UK qJ qK:jp (Zr (CX1 P w) P w K mg base N qual scope f cd A outer s H Y.E) Y [.Constant (.str m) j ap] _) ρ) (zp rfl) hd) fun D σ H1 ⟨B,I,q⟩=>⟨B,I,fun vs H2 s2 r2=> ?_⟩
 have q:XP Y B c:=q
 refine ⟨?_, ?_⟩
 ·rw [r2.length]; exact (by decide:1<=sizeLine)
 ·have:=q none H2 (I.sH.trans s2) (I.sB.trans s2)
  rw [hc] at this
  exact this
theorem Fun.okX {x qual:Str} {st:Stmt} {f:Addr} {fd:FuncData} {N ps:List Str} {k:Nat} {sp:Sp} (F:Fun K x qual st f fd) (S:za N ps (z9 st)) (len:∀ vs H Q E,sp vs H Q E->vs.length=ps.length)
  (hbody:∀ (cdv:Value) (A:Around) (outer:List Env) (s:Shared) (H:Hp) (vs:List V) (Q:VK) (E:XK),zQ k (A.deeper (envOfC qual (z9 st) s.heap.objs.size f cdv))->sp vs H Q E->
   ∃ t,PSs (Zr (CX1 P w) P w K mg base N qual (z9 st) f cdv A outer s H E) (zr st) t/\t { nx:=fun _ H' =>Q .non H',rt:=Q } (start N vs) H):zq P w K mg base (CX1 P w) (k+1) f fd ps sp:=by
 obtain ⟨oc,od,kV,doc,pm,an,cdv,ct,osl,rfl,lk,hcd⟩:=F.ex
 exact ym lk hcd S len fun A outer s H vs Q E hr hsp=>hbody cdv A outer s H vs Q E hr hsp
theorem Z3 {cl:Nat->Value} {x qual:Str} {st:Stmt} {f:Addr} {fd:FuncData} {N ps:List Str} {k n:Nat} {fb:En->RS} {g:List T->R T} (F:Fun K x qual st f fd) (S:za N ps (z9 st)) (hn:n=ps.length)
  (hb:∀ (cdv:Value) (A:Around) (outer:List Env) (s:Shared) (H:Hp) (E:XK) (Y:Fx),Y.cl=cl->Y.E=E->zQ k (A.deeper (envOfC qual (z9 st) s.heap.objs.size f cdv))->
   Js (Zr (CX1 P w) P w K mg base N qual (z9 st) f cdv A outer s H E) Y (zr st) fb)
  (hg:∀ ts,ts.length=n->g ts=zn (fb (en0 N.length ts))):zq P w K mg base (CX1 P w) (k+1) f fd ps (spP cl n g):=by
 subst hn
 refine Fun.okX F S spP.len fun cdv A outer s H vs Q E hr ⟨B,ts,hl,sB,r,q⟩=> ?_
 refine ⟨_,hb cdv A outer s H E ⟨B,H,E,cl,[]⟩ rfl rfl hr (en0 N.length ts),B,SI.start (Y:=⟨B,H,E,cl,[]⟩) sB r, ?_⟩
 rw [hg ts hl] at q
 revert q
 cases fb (en0 N.length ts) with
 | rt t=>exact fun q v H' s r=>q v H' s r
 | rf t=>exact fun q a xs H' B' s0 n e r _ l=>q (.ref a) H' s0 (.lst (by rw [zB n]; exact e) (r.mono l))
 | nx ρ=>exact fun q σ' H' B' s' I' =>q _ H' I'.sH .non
 | bk ρ=>exact fun q=>q.elim
 | ct ρ=>exact fun q=>q.elim
 | ex c=>exact fun q=>q
 | bad=>exact fun q=>q
end
end PV
namespace PySem.W
open PySem PySem.Calls PyProof.Rows PySem.Spec Builtin Builtin.ObjectAttr Builtin.Getset_descriptor
section
variable {prog:Program} {w:World} {A:Around} {E:Value->Shared->Prop} {s:Shared} {K:Frag} {x C:Addr}
theorem Jv {tp:Value} {R:Result->Shared->Prop} (X:K.In s.heap) (L0:Looks (model prog w) s.heap (typeOf (.ref x)) (.ref C)) (hm:mroIn K C (.type "object")=some true)
  (h:R (.ok (.ret (.ref C))) s):codeAny (model prog w) A (.call (.builtin "getset_descriptor.__get__") ⟨[.builtin "object.__class__", .ref x,tp],[]⟩) R s:=by
 obtain ⟨hh,g,dr,t,os⟩:=s
 have L1:=looks_mroIn (M:=model prog w) X hm
 refine codeAny_call_builtin KF.slot_gs.plain KF.entry_gs (KF.slot_gs.check _ _ _ _ _ _ _ _ KF.type_class (KF.args_gs _ _ _) ?_)
 unfold Builtin.«getset_descriptor.__get__» descrGet
 rw [dga_obj]
 refine wpAny_bind (wpAny_pure ?_)
 unfold descrGetter descrCheckInstance descrNameAndClass isInstance
 simp only [KF.owner_class]
 repeat lk
 refine ⟨Code.quiet_builtin _ (by decide+kernel),codeAny_builtin KF.entry_class ?_⟩
 unfold Builtin.«object.__class__» shownTypeOf
 repeat lk
 exact h
theorem Y1 {M:Model} {h:Heap} (X:K.In h) (ha:findIn K (.ref C) "__class__"=some (some (.builtin "object.__class__"))) (hn:specialIn K (.builtin "object.__class__") "__get__"=some (some (.builtin "getset_descriptor.__get__")))
  (htk:takesIn K (.builtin "object.__class__")=some true):Looks M h (find (.ref x) (.ref C) "__class__") (.bind (.builtin "getset_descriptor.__get__") (.builtin "object.__class__")):=by
 have L1:=looks_findIn (M:=M) X ha
 have L2:Looks M h (getOf (some (.builtin "object.__class__"))) (some (.builtin "getset_descriptor.__get__")):=looks_specialIn X hn
 have L3:=looks_takesIn (M:=M) X htk
 refine L1.andThen (L2.andThen ?_)
 exact (show Looks M h (dataDescriptor? (some (.builtin "object.__class__")) (some (.builtin "getset_descriptor.__get__"))) (some (.builtin "getset_descriptor.__get__", .builtin "object.__class__")) from L3.andThen .now).andThen (Looks.tag .now)
theorem Ug {M:Model} {nameV:Value} {Q:Unit->Shared->Prop} (L0:Looks M s.heap (typeOf (.ref x)) (.ref C)) (L1:Looks M s.heap (isSubtype (.ref C) (.type "BaseException")) true) (hq:Q () s):wpAny M A (checkBuiltinCall "BaseException.__getattribute__" ⟨[.ref x,nameV],[]⟩) Q E s:=by
 have hk:builtinKind "BaseException.__getattribute__"=some .slot:=by decide+kernel
 have hsplit:splitId "BaseException.__getattribute__"=some ("BaseException","__getattribute__"):=by decide+kernel
 have ha:=PySem.F.args_bexc_ga (.ref x) nameV
 obtain ⟨hh,g,d,t,os⟩:=s
 simp only [checkBuiltinCall,hk,hsplit]
 refine wpAny_bind ?_
 unfold isInstance
 repeat (first | lk | wp_step)
 exact hq
end
end PySem.W
namespace PySem.W
open PySem PySem.Calls PyProof.Rows PySem.Spec Builtin Builtin.ObjectAttr Builtin.Getset_descriptor
section
variable {prog:Program} {w:World} {A:Around} {E:Value->Shared->Prop} {s:Shared} {K:Frag} {x C:Addr}
structure XCls (K:Frag) (C:Addr):Prop where
 ga:findIn K (.ref C) "__getattribute__"=some (some (.builtin "BaseException.__getattribute__"))
 gt:findIn K (.ref C) "__getattr__"=some none
 ca:findIn K (.ref C) "__class__"=some (some (.builtin "object.__class__"))
 sp:specialIn K (.builtin "object.__class__") "__get__"=some (some (.builtin "getset_descriptor.__get__"))
 tk:takesIn K (.builtin "object.__class__")=some true
 ob:mroIn K C (.type "object")=some true
 be:mroIn K C (.type "BaseException")=some true
 cl:(clsIn K C).isSome=true
theorem Uh {tk:Tok} {Q:Fin->Shared->Prop} (X:K.In s.heap) (c:XCls K C) (L0:Looks (model prog w) s.heap (typeOf (.ref x)) (.ref C)) (hq:Q (.done (.ret (.ref C))) s):
  wpAny (model prog w) A (Builtin.«object.__getattribute__» ⟨[.ref x, .str "__class__" tk],[]⟩) Q E s:=by
 obtain ⟨hh,g,d,t,os⟩:=s
 have L1:=Y1 (M:=model prog w) (x:=x) X c.ca c.sp c.tk
 refine wpAny_bind (wpAny_pure (wpAny_bind (wpAny_pure (wpAny_bind (L0.at (wpAny_bind (L1.at ?_)))))))
 show wpAny _ _ (bindTo _ _ _ _) _ _ _
 unfold bindTo
 refine wpAny_bind (wpAny_call (Jv X L0 c.ob ?_))
 exact wpAny_pure hq
end
end PySem.W
namespace PySem.W
open PySem PySem.Calls PyProof.Rows PySem.Spec Builtin Builtin.ObjectAttr Builtin.Getset_descriptor
section
variable {prog:Program} {w:World} {A:Around} {E:Value->Shared->Prop} {s:Shared} {K:Frag} {x C:Addr}
theorem Ui {Q:Option Value->Shared->Prop} (X:K.In s.heap) (c:XCls K C) (L0:Looks (model prog w) s.heap (typeOf (.ref x)) (.ref C)) (h:Q (some (.ref C)) { s with toks:=s.toks+1 }):wpAny (model prog w) A (getAttr? (.ref x) "__class__") Q E s:=by
 obtain ⟨hh,g,d,t,os⟩:=s
 have L1:=looks_findIn (M:=model prog w) X c.ga
 have L2:=looks_findIn (M:=model prog w) X c.gt
 have L3:=looks_mroIn (M:=model prog w) X c.be
 have fb:=PySem.F.attr_ValueError.ga.bind (.ref x)
 unfold getAttr? getAttrBy? getAttrBy
 refine wpAny_bind (wpAny_mkText (wpAny_bind (wpAny_attempt (wpAny_holding (wpAny_bind (L0.at (wpAny_bind (L1.at ?_))))))))
 dsimp only
 have hx2:(Value.builtin "BaseException.__getattribute__" == Value.builtin "object.__getattribute__")=false:=by decide+kernel
 rw [if_neg (by rw [hx2]; simp)]
 unfold getAttrByItsOwn hookBefore
 refine wpAny_bind ?_
 rw [if_pos (by rfl)]
 refine L2.at ?_
 refine wpAny_bind (wpAny_attempt (wpAny_holding ?_))
 unfold callGetattribute
 rw [if_neg (by simp)]
 unfold boundAndCalled
 rw [fb]
 refine wpAny_bind (wpAny_pure ?_)
 refine wpAny_call (codeAny_call_builtin PySem.F.attr_ValueError.ga.plain PySem.F.entry_bexc_ga (Ug (s:=⟨hh,g,d,t+1,os⟩) L0 L3 (Uh (s:=⟨hh,g,d,t+1,os⟩) X c L0 ?_)))
 exact handed_on rfl (wpAny_pure h)
theorem Y2 (c:XCls K C):KitX K (.ref x) (.ref C) (fun h=>∃ o,h.get? x=some o/\o.cls= .ref C) where
 ty:=fun M h _ ⟨o,h1,h2⟩=>h2 ▸ (Looks.ld h1).andThen .now
 it:=fun _ _ X _=>by
  obtain ⟨cdD,hcD⟩:=Option.isSome_iff_exists.mp c.cl
  unfold clsIn at hcD
  split at hcD
  ·rename_i c' d' cd' sl' ho
   intro A' Q' E' s' k q
   unfold isType loadHead
   exact wpAny_bind (wpAny_loadPart (k _ _ (X _ _ ho)) (wpAny_pure q))
  ·cases hcD
 ne:=fun h tp dd its n sl X htp=>by
  obtain ⟨cdD,hcD⟩:=Option.isSome_iff_exists.mp c.cl
  refine Bool.eq_false_iff.mpr fun q=> ?_
  have e:C=tp:=Value.ref.inj (beq_iff_eq.mp q)
  subst e
  unfold clsIn at hcD
  split at hcD
  ·rename_i c' d' cd' sl' ho
   have z:=(X _ _ ho).symm.trans htp
   cases z
  ·cases hcD
 ca:=fun {prog w A E Q s} X ⟨o,h1,h2⟩ k=>Ui X c (h2 ▸ (Looks.ld h1).andThen .now) k
end
end PySem.W
namespace PV
open PySem PySem.Spec PyProof.Rows L2 PySem.W
section
variable {X:Cx} {Y:Fx} {a b:Expr} {fa fb:En->R T} {pos pos' p p' :Pos}
def ZY (i:Nat) (ok tab:Nat->Bool):En->R T:=fun ρ=>match ρ[i]? with
 | some (.xc c)=>if ok c=true then .ok (.bl (tab c)) else .bad
 | _=> .bad
theorem Jw:Z4 X (.builtin "isinstance") (fun xs H Q=>∃ a C v b,xs=[.ref a,v]/\H a=some (.ext (wt (.ref C) a))/\XCls X.K C/\(∀ u,zF v u->kitOne X.K (.ref C) u=some b)/\Q (.bl b) H):=by
 intro pins s σ H xs us Q I rv h
 obtain ⟨a,C,v,b,rfl,e,c,hk,q⟩:=h
 obtain ⟨u,w,rfl,ru,rw'⟩:=uZ rv
 obtain rfl:u=Value.ref a:=ru
 obtain ⟨hx,_,_⟩:=(show zK X.prog X.w H s.heap a (.ext (wt (.ref C) a)) from I.hok a _ e)
 exact kia_one (Y2 c) I.kIn hx (hk w rw') (fun z=>nomatch z) fun tk=>⟨.bl _,H,I.tok tk,rfl,q⟩
structure XK1 (K:Frag) (cl:Nat->Value) (ok:Nat->Bool):Prop where
 at_:∀ c,ok c=true->∃ C,cl c= .ref C/\XCls K C
theorem Zo {i:Nat} {ok tab:Nat->Bool} {y cn:Str} {C:Addr} {yp cp:Pos} (hK:XK1 X.K Y.cl ok) (ht:∀ c,ok c=true->kitOne X.K (Y.cl c) (.ref C)=some (tab c)) (gl:Gl X "isinstance") (mg:X.mg "isinstance"=none) (hv:PE X (.Name y yp) (j5 i)) (gl' :Gl X cn) (mg' :X.mg cn=some (.ref C))
  (hd:(cn == ("__debug__":Str))=false:=by decide):Snd X Y (.Call (.Name "isinstance" p) [.Name y yp, .Name cn cp] [] pos) (ZY i ok tab):= .mk fun ρ=>
 PE.imp (j0 Jw gl mg PyProof.Rows.Boot.«isinstance» (zj hv (zj (Wr (v:= .ref C) gl' mg' rfl hd) zw (st1 rfl)) (st2 rfl rfl)) (by decide) (by decide) (by rw [st2 rfl rfl,st1 rfl]) (zA rfl)) fun σ H Q ⟨B,I,q⟩=>by
  unfold ZY at q
  split at q
  ·rename_i c e
   split at q
   ·rename_i hc
    obtain ⟨a,e1,r⟩:=I.xc i c e
    obtain ⟨Cc,e2,xc⟩:=hK.at_ c hc
    have ht' :=ht c hc
    rw [e2] at r ht'
    exact ⟨_,e1,a,Cc,_,_,rfl,I.sB a _ r,xc,fun u ru=>by obtain rfl:u=Value.ref C:=ru; exact ht',zT I q (.bl _)⟩
   ·exact q.elim
  ·exact q.elim
theorem Y3 {i:Nat} {ok tab:Nat->Bool} {y:Str} {n:String} {yp cp:Pos} (hK:XK1 X.K Y.cl ok) (ht:∀ c,ok c=true->kitOne X.K (Y.cl c) (.type n)=some (tab c)) (gl:Gl X "isinstance") (mg:X.mg "isinstance"=none) (hv:PE X (.Name y yp) (j5 i)) (gl' :Gl X (Str.ofString n)) (mg' :X.mg (Str.ofString n)=none)
  (bt:bootBuiltins (Str.ofString n)=some (.type n)) (hn:Str.ofString n ≠ "__name__":=by decide) (hd:(Str.ofString n == ("__debug__":Str))=false:=by decide):Snd X Y (.Call (.Name "isinstance" p) [.Name y yp, .Name (Str.ofString n) cp] [] pos) (ZY i ok tab):= .mk fun ρ=>
 PE.imp (j0 Jw gl mg PyProof.Rows.Boot.«isinstance» (zj hv (zj (Ws (v:= .ty n) gl' mg' bt rfl hn hd) zw (st1 rfl)) (st2 rfl rfl)) (by decide) (by decide) (by rw [st2 rfl rfl,st1 rfl]) (zA rfl)) fun σ H Q ⟨B,I,q⟩=>by
  unfold ZY at q
  split at q
  ·rename_i c e
   split at q
   ·rename_i hc
    obtain ⟨a,e1,r⟩:=I.xc i c e
    obtain ⟨Cc,e2,xc⟩:=hK.at_ c hc
    have ht' :=ht c hc
    rw [e2] at r ht'
    exact ⟨_,e1,a,Cc,_,_,rfl,I.sB a _ r,xc,fun u ru=>by obtain rfl:u=Value.type n:=ru; exact ht',zT I q (.bl _)⟩
   ·exact q.elim
  ·exact q.elim
def spC (cl:Nat->Value) (gx:Nat->R T):Sp:=fun vs H Q E=>∃ B a c,vs=[V.ref a]/\zg B H/\B a=some (.ext (wt (cl c) a))/\Po ⟨B,H,E,cl,[]⟩ rC B H (gx c) Q
end
section
variable {P:Program} {w:World} {K:PySem.W.Frag} {mg:Str->Option Value} {base:Heap}
def enC (n c:Nat):En:= .xc c :: List.replicate (n - 1) .un
theorem SI.startC {Y:Fx} {N:List Str} {a:Addr} {c:Nat} (s:zg Y.B0 Y.H0) (hN:1<=N.length) (r:Y.B0 a=some (.ext (wt (Y.cl c) a))):SI Y Y.B0 (enC N.length c) (L2.start N [V.ref a]) Y.H0 where
 s0:=s
 sH:=zg.refl _
 sB:=s
 old:=fun _ _ _=>rfl
 len:=by unfold enC L2.start; simp
 vl:=fun i t h=>by
  unfold enC at h
  cases i with
  | zero=>cases h
  | succ i=>rw [List.getElem?_cons_succ,List.getElem?_replicate] at h; split at h <;> cases h
 ow:=fun i t h=>by
  unfold enC at h
  cases i with
  | zero=>cases h
  | succ i=>rw [List.getElem?_cons_succ,List.getElem?_replicate] at h; split at h <;> cases h
 xc:=fun i d h=>by
  unfold enC at h
  cases i with
  | zero=>
   cases h
   exact ⟨a,by unfold L2.start; rfl,r⟩
  | succ i=>rw [List.getElem?_cons_succ,List.getElem?_replicate] at h; split at h <;> cases h
 st:=StI.no fun i y hy h=>by
  unfold enC at h
  cases i with
  | zero=>cases h; cases hy
  | succ i=>
   rw [List.getElem?_cons_succ,List.getElem?_replicate] at h
   split at h
   ·cases h; cases hy
   ·cases h
end
end PV
namespace PySem.ZG
open PySem PySem.Spec PySem.Builtin.SmallTypes
structure JY (i:Addr) (fp:List Addr) (v:Nat->Option Value) (St:Nat->Heap->Prop):Prop where
 mem:i∈fp
 item:∀ {prog:Program} {w:World} {A:Around} {E:Value->Shared->Prop} {s:Shared} {Q:Value->Shared->Prop} {k:Nat} {x:Value},St k s.heap->v k=some x->(∀ h',St (k+1) h' ->Heap.SameBut i s.heap h' ->Q x { s with heap:=h' })->wpAny (model prog w) A (nextOf (.ref i)) Q E s
 stop:∀ {prog:Program} {w:World} {A:Around} {E:Value->Shared->Prop} {s:Shared} {Q:Value->Shared->Prop} {k:Nat},A.handled=none->St k s.heap->v k=none->(∀ h' e,Heap.ExtBut i s.heap h' ->(∃ o,h'.get? e=some o/\o.cls= .type "StopIteration")->E (.ref e) { s with heap:=h' })->wpAny (model prog w) A (nextOf (.ref i)) Q E s
 keep:∀ {k:Nat} {h h' :Heap},St k h->(∀ b∈fp,∀ o,h.get? b=some o->h'.get? b=some o)->St k h'
 there:∀ {k:Nat} {h:Heap},St k h->∀ b∈fp,∃ o,h.get? b=some o
theorem JY.but {i:Addr} {fp:List Addr} {v:Nat->Option Value} {St:Nat->Heap->Prop} (N:JY i fp v St) {k:Nat} {h h' :Heap} {b:Addr} (x:St k h) (e:Heap.ExtBut b h h') (n:b ∉ fp):St k h' :=
 N.keep x fun c hc o q=>e c o (fun z=>n (z ▸ hc)) q
theorem Y4 {i l:Addr} (hil:l ≠ i) (xs:Array Value):JY i [i,l] (fun k=>xs[k]?) (fun k h=>h.IsListIter i l k/\h.IsList l xs) where
 mem:= .head _
 item:=fun st hx h=>wpAny_nextOf_list_item st.1 st.2 hx fun h' a b=>h h' ⟨a,st.2.extBut b.extBut hil⟩ b
 stop:=fun hh st hx h=>wpAny_nextOf_list_end hh st.1 st.2 hx h
 keep:=fun st k=>⟨st.1.at fun o e=>k i (.head _) o e,st.2.at fun o e=>k l (.tail _ (.head _)) o e⟩
 there:=fun st b hb=>by
  obtain ⟨⟨o,e,_⟩,o2,e2,_⟩:=st
  rcases List.mem_cons.mp hb with z | hb
  ·exact ⟨o,z ▸ e⟩
  ·exact ⟨o2,(List.mem_singleton.mp hb) ▸ e2⟩
end PySem.ZG
namespace PySem.ZG
open PySem PySem.Spec PySem.Builtin.SmallTypes
section
variable {prog:Program} {w:World} {A:Around} {E:Value->Shared->Prop} {s:Shared} {it l:Addr} {k:Nat} {xs:Array Value} {Q:Value->Shared->Prop}
theorem wC (hit:s.heap.IsTupleIter it l k) (h:wpAny (model prog w) A.in1 (Builtin.«tuple_iterator.__next__» ⟨[.ref it],[]⟩) (fun fin s' =>∃ v,fin= .done (.ret v)/\Q v s') E s):wpAny (model prog w) A (nextOf (.ref it)) Q E s:=by
 unfold nextOf
 exact wpAny_bind (wpAny_callSpecial?_slot (name:=Str.ofString "__next__") hit.typeIs PySem.F.slot_tuple_iterator_next (wpAny_call_entry PySem.F.slot_tuple_iterator_next hit.typeIs PySem.F.entry_tuple_iterator_next
  (wpAny_mono h (fun fin s' ⟨v,e,q⟩=>⟨v,e,wpAny_pure q⟩) fun _ _ z=>z) (PySem.F.args_tuple_iterator_next_1 _)))
theorem tup_item (hit:s.heap.IsTupleIter it l k) (ht:s.heap.IsTuple l xs) {x:Value} (hx:xs[k]? =some x) (h:∀ h',h'.IsTupleIter it l (k+1)->Heap.SameBut it s.heap h' ->Q x { s with heap:=h' }):wpAny (model prog w) A (nextOf (.ref it)) Q E s:=by
 refine wC hit ?_
 obtain ⟨o,ho,hc,hd⟩:=id hit
 obtain ⟨ol,hol,_,nl,hdl⟩:=ht
 refine wpAny_bind (m:=field (.ref it) 0) (wpAny_field ho hd (x:= .ref l) rfl ?_)
 rw [if_neg (show ¬((Value.ref l == Value.none)=true) by exact Bool.false_ne_true)]
 refine wpAny_bind (m:=field (.ref it) 1) (wpAny_field ho hd (x:= .int k 0) rfl (wpAny_bind (m:=seqItems? (.ref l)) (wpAny_seqItems hol hdl ?_)))
 simp only [Int.toNat_natCast,hx]
 have g:=Heap.get?_update_self (Obj.mapFields (·.setIfInBounds 1 (rawInt (k+1:Nat)))) ho (Obj.isFreed_of_fields (Obj.data_mapFields hd _))
 refine wpAny_bind (wpAny_setField ho hd (by simp) (wpAny_pure ⟨x,rfl,h _ ⟨_,g,(Obj.cls_mapFields ..).trans hc, ?_⟩ (Heap.SameBut.update ..)⟩))
 rw [Obj.data_mapFields hd]; simp [rawInt]
theorem tup_stop (hh:A.handled=none) (hit:s.heap.IsTupleIter it l k) (ht:s.heap.IsTuple l xs) (hx:xs[k]? =none)
  (h:∀ h' e,Heap.ExtBut it s.heap h' ->(∃ o,h'.get? e=some o/\o.cls= .type "StopIteration")->E (.ref e) { s with heap:=h' }):wpAny (model prog w) A (nextOf (.ref it)) Q E s:=by
 refine wC hit ?_
 obtain ⟨o,ho,hc,hd⟩:=id hit
 obtain ⟨ol,hol,_,nl,hdl⟩:=ht
 refine wpAny_bind (m:=field (.ref it) 0) (wpAny_field ho hd (x:= .ref l) rfl ?_)
 rw [if_neg (show ¬((Value.ref l == Value.none)=true) by exact Bool.false_ne_true)]
 refine wpAny_bind (m:=field (.ref it) 1) (wpAny_field ho hd (x:= .int k 0) rfl (wpAny_bind (m:=seqItems? (.ref l)) (wpAny_seqItems hol hdl ?_)))
 simp only [Int.toNat_natCast,hx]
 refine wpAny_bind (wpAny_rule (wpAny_bind (wpAny_setField ho hd (by simp) (wpAny_bind (m:=newExc (.type "StopIteration") []) ?_))))
 simp only [newExc,newTuple]
 refine wpAny_bind (wpAny_newObj_type (wpAny_bind (m:=firstArgMember _ _) (wpAny_of_eq (a:=Value.none) (by first | rfl | (simp only [firstArgMember]; rfl)) (wpAny_newObj_type ?_ (by size_fits)))) (by size_fits))
 simp only [raiseNew]
 refine wpAny_bind (wpAny_handled ?_)
 rw [show A.in1.handled=none from hh]
 exact wpAny_bind (wpAny_pure (wpAny_throw (h _ _ (((Heap.SameBut.update ..).extBut.push _).push _) ⟨_,Heap.get?_push_size _ rfl,rfl⟩)))
end
theorem nx_tup {i l:Addr} (hil:l ≠ i) (xs:Array Value):JY i [i,l] (fun k=>xs[k]?) (fun k h=>h.IsTupleIter i l k/\h.IsTuple l xs) where
 mem:= .head _
 item:=fun st hx h=>tup_item st.1 st.2 hx fun h' a b=>h h' ⟨a,st.2.extBut b.extBut hil⟩ b
 stop:=fun hh st hx h=>tup_stop hh st.1 st.2 hx h
 keep:=fun st k=>by
  obtain ⟨⟨o,e,r⟩,o2,e2,r2⟩:=st
  exact ⟨⟨o,k i (.head _) o e,r⟩,o2,k l (.tail _ (.head _)) o2 e2,r2⟩
 there:=fun st b hb=>by
  obtain ⟨⟨o,e,_⟩,o2,e2,_⟩:=st
  rcases List.mem_cons.mp hb with z | hb
  ·exact ⟨o,z ▸ e⟩
  ·exact ⟨o2,(List.mem_singleton.mp hb) ▸ e2⟩
end PySem.ZG
namespace PySem.ZG
open PySem PySem.Spec PySem.Builtin.SmallTypes
structure Ap (z TI TO i1 i2:Addr) (fp1 fp2:List Addr):Prop where
 Iz:TI ≠ z
 Oz:TO ≠ z
 IO:TI ≠ TO
 I1:TI ≠ i1
 I2:TI ≠ i2
 z1:z ∉ fp1
 z2:z ∉ fp2
 O1:TO ∉ fp1
 O2:TO ∉ fp2
 a:i1 ∉ fp2
 b:i2 ∉ fp1
section
variable {prog:Program} {w:World} {A:Around} {E:Value->Shared->Prop} {s:Shared} {z TI TO i1 i2:Addr} {fp1 fp2:List Addr} {v1 v2:Nat->Option Value} {S1 S2:Nat->Heap->Prop} {k:Nat} {x y a b:Value}
theorem Ap.ne1 (D:Ap z TI TO i1 i2 fp1 fp2) (N1:JY i1 fp1 v1 S1):i1 ≠ z/\i1 ≠ TO:=⟨fun e=>D.z1 (e ▸ N1.mem),fun e=>D.O1 (e ▸ N1.mem)⟩
theorem Ap.ne2 (D:Ap z TI TO i1 i2 fp1 fp2) (N2:JY i2 fp2 v2 S2):i2 ≠ z/\i2 ≠ TO:=⟨fun e=>D.z2 (e ▸ N2.mem),fun e=>D.O2 (e ▸ N2.mem)⟩
theorem Y5 {Q:Value->Shared->Prop} (N1:JY i1 fp1 v1 S1) (N2:JY i2 fp2 v2 S2) (D:Ap z TI TO i1 i2 fp1 fp2) (hz:IsZip s.heap z TI TO .none) (hTI:IsPair s.heap TI (.ref i1) (.ref i2)) (hTO:IsPair s.heap TO a b) (p1:S1 k s.heap) (p2:S2 k s.heap) (hx:v1 k=some x) (hy:v2 k=some y)
  (hQ:∀ h',IsZip h' z TI TO (rawInt s.heap.objs.size)->IsPair h' TO x y->S1 (k+1) h' ->S2 (k+1) h' ->IsPair h' s.heap.objs.size x y->
   (∀ c o,c ≠ z->c ≠ TO->c ≠ i1->c ≠ i2->s.heap.get? c=some o->h'.get? c=some o)->Q (.ref s.heap.objs.size) { s with heap:=h' }):
  wpAny (model prog w) A (Builtin.«zip.__next__» ⟨[.ref z],[]⟩) (fun fin s' =>∃ v,fin= .done (.ret v)/\Q v s') E s:=by
 refine wpAny_bind (m:=field (.ref z) 2) (wpAny_field hz rfl (x:= .bool false) rfl (wpAny_bind (m:=field (.ref z) 3) (wpAny_field hz rfl (x:= .ref TI) rfl (wpAny_bind (wpAny_seqItems hTI rfl ?_)))))
 refine wpAny_bind (m:=ownedTupleIsFree (.ref z)) ?_
 unfold ownedTupleIsFree
 refine wpAny_bind (wpAny_field hz rfl (x:= .none) rfl (wpAny_pure ?_))
 simp only [if_true]
 refine wpAny_bind (wpAny_rule (wpAny_bind (wpAny_field hz rfl (x:= .ref TO) rfl (wpAny_bind (wpAny_setField_rec hz (by simp) fun g1 z1 e1=> ?_)))))
 replace z1:IsZip g1 z TI TO .ellipsis:=z1
 refine wpAny_bind ?_
 simp only [List.zipIdx_cons,List.zipIdx_nil,List.forIn_cons,List.forIn_nil]
 refine wpAny_bind (wpAny_bind (wpAny_onRaise (wpAny_bind (m:=nextOf (.ref i1)) (N1.item (N1.but p1 e1.extBut D.z1) hx fun g2 q1 e2=>wpAny_pure ?_))))
 have t2:IsPair g2 TO a b:=e2.extBut _ _ (D.ne1 N1).2.symm (e1.extBut _ _ D.Oz hTO)
 refine wpAny_bind (wpAny_seqItems t2 rfl (wpAny_bind (wpAny_updateSeq_pair t2 fun g3 t3 e3=> ?_)))
 replace t3:IsPair g3 TO x b:=t3
 refine wpAny_bind (wpAny_letGo (wpAny_pure ?_))
 refine wpAny_bind (wpAny_bind (wpAny_onRaise (wpAny_bind (m:=nextOf (.ref i2)) (N2.item (N2.but (N2.but (N2.but p2 e1.extBut D.z2) e2.extBut D.a) e3.extBut D.O2) hy fun g4 q2 e4=>wpAny_pure ?_))))
 have t4:IsPair g4 TO x b:=e4.extBut _ _ (D.ne2 N2).2.symm t3
 refine wpAny_bind (wpAny_seqItems t4 rfl (wpAny_bind (wpAny_updateSeq_pair t4 fun g5 t5 e5=> ?_)))
 replace t5:IsPair g5 TO x y:=t5
 refine wpAny_bind (wpAny_letGo (wpAny_pure (wpAny_pure ?_)))
 refine wpAny_bind (wpAny_seqItems t5 rfl (wpAny_bind (wpAny_newTuple ?_)))
 have sz:g5.objs.size=s.heap.objs.size:=by rw [e5.1,e4.1,e3.1,e2.1,e1.1]
 have z5:IsZip g5 z TI TO .ellipsis:=e5.extBut _ _ D.Oz.symm (e4.extBut _ _ (D.ne2 N2).1.symm (e3.extBut _ _ D.Oz.symm (e2.extBut _ _ (D.ne1 N1).1.symm z1)))
 have k5:∀ c o,c ≠ z->c ≠ TO->c ≠ i1->c ≠ i2->s.heap.get? c=some o->g5.get? c=some o:=fun c o c1 c2 c3 c4 e=>
  e5.extBut _ _ c2 (e4.extBut _ _ c4 (e3.extBut _ _ c2 (e2.extBut _ _ c3 (e1.extBut _ _ c1 e))))
 have r1:S1 (k+1) g5:=N1.but (N1.but (N1.but q1 e3.extBut D.O1) e4.extBut D.b) e5.extBut D.O1
 have r2:S2 (k+1) g5:=N2.but q2 e5.extBut D.O2
 refine wpAny_bind (m:=ownedTupleHandOut (.ref z) (.ref g5.objs.size)) ?_
 unfold ownedTupleHandOut
 have z6:IsZip (g5.push { cls:= .type "tuple",data:= .seq #[x,y] }) z TI TO .ellipsis:=Heap.get?_push_of_some _ z5
 refine wpAny_bind (wpAny_setField_rec z6 (by simp) fun g7 z7 e7=> ?_)
 replace z7:IsZip g7 z TI TO (rawInt g5.objs.size):=z7
 refine wpAny_setField_rec z7 (by simp) fun g8 z8 e8=> ?_
 replace z8:IsZip g8 z TI TO (rawInt g5.objs.size):=z8
 have up:∀ c o,c ≠ z->g5.get? c=some o->g8.get? c=some o:=fun c o c1 e=>e8.extBut _ _ c1 (e7.extBut _ _ c1 (Heap.get?_push_of_some _ e))
 have hn:g5.objs.size ≠ z:=Nat.ne_of_gt (Heap.lt_size z5)
 have t8:IsPair g8 g5.objs.size x y:=e8.extBut _ _ hn (e7.extBut _ _ hn (Heap.get?_push_size _ rfl))
 rw [sz] at z8 t8
 refine wpAny_pure ⟨_,rfl, ?_⟩
 show Q (.ref g5.objs.size) _
 rw [sz]
 exact hQ g8 z8 (up _ _ D.Oz t5) (N1.keep r1 fun c hc o e=>up c o (fun q=>D.z1 (q ▸ hc)) e) (N2.keep r2 fun c hc o e=>up c o (fun q=>D.z2 (q ▸ hc)) e) t8 fun c o c1 c2 c3 c4 e=>up c o c1 (k5 c o c1 c2 c3 c4 e)
theorem Y6 {Q:Fin->Shared->Prop} (hh:A.handled=none) (N1:JY i1 fp1 v1 S1) (N2:JY i2 fp2 v2 S2) (D:Ap z TI TO i1 i2 fp1 fp2) (hz:IsZip s.heap z TI TO .none) (hTI:IsPair s.heap TI (.ref i1) (.ref i2)) (hTO:IsPair s.heap TO a b) (p1:S1 k s.heap) (p2:S2 k s.heap) (hend:v1 k=none\/v2 k=none)
  (hE:∀ h' e,(∀ c o,c ≠ z->c ≠ TO->c ≠ i1->c ≠ i2->s.heap.get? c=some o->h'.get? c=some o)->(∃ o,h'.get? e=some o/\o.cls= .type "StopIteration")->E (.ref e) { s with heap:=h' }):
  wpAny (model prog w) A (Builtin.«zip.__next__» ⟨[.ref z],[]⟩) Q E s:=by
 refine wpAny_bind (m:=field (.ref z) 2) (wpAny_field hz rfl (x:= .bool false) rfl (wpAny_bind (m:=field (.ref z) 3) (wpAny_field hz rfl (x:= .ref TI) rfl (wpAny_bind (wpAny_seqItems hTI rfl ?_)))))
 refine wpAny_bind (m:=ownedTupleIsFree (.ref z)) ?_
 unfold ownedTupleIsFree
 refine wpAny_bind (wpAny_field hz rfl (x:= .none) rfl (wpAny_pure ?_))
 simp only [if_true]
 refine wpAny_bind (wpAny_rule (wpAny_bind (wpAny_field hz rfl (x:= .ref TO) rfl (wpAny_bind (wpAny_setField_rec hz (by simp) fun g1 z1 e1=> ?_)))))
 replace z1:IsZip g1 z TI TO .ellipsis:=z1
 refine wpAny_bind ?_
 simp only [List.zipIdx_cons,List.zipIdx_nil,List.forIn_cons,List.forIn_nil]
 have off:∀ {g:Heap} {e:Addr} {oe:Obj},IsZip g z TI TO .ellipsis->g.get? e=some oe->oe.cls= .type "StopIteration"->e ≠ z:=fun hg he hc q=>by
  subst q; rw [hg] at he; cases he; simp at hc
 cases hx:v1 k with
 | none=>
  refine wpAny_bind (wpAny_bind (wpAny_onRaise (wpAny_bind (m:=nextOf (.ref i1)) (N1.stop hh (N1.but p1 e1.extBut D.z1) hx fun g2 e e2 he=> ?_))))
  obtain ⟨oe,ho,hc⟩:=he
  have z2:IsZip g2 z TI TO .ellipsis:=e2 _ _ (D.ne1 N1).1.symm z1
  exact wpAny_setField_rec z2 (by simp) fun g3 _ e3=>hE g3 e (fun c o c1 _ c3 _ q=>e3.extBut _ _ c1 (e2 _ _ c3 (e1.extBut _ _ c1 q))) ⟨oe,e3.extBut _ _ (off z2 ho hc) ho,hc⟩
 | some x=>
  have hy:v2 k=none:=by
   rcases hend with q | q
   ·rw [hx] at q; cases q
   ·exact q
  refine wpAny_bind (wpAny_bind (wpAny_onRaise (wpAny_bind (m:=nextOf (.ref i1)) (N1.item (N1.but p1 e1.extBut D.z1) hx fun g2 q1 e2=>wpAny_pure ?_))))
  have t2:IsPair g2 TO a b:=e2.extBut _ _ (D.ne1 N1).2.symm (e1.extBut _ _ D.Oz hTO)
  refine wpAny_bind (wpAny_seqItems t2 rfl (wpAny_bind (wpAny_updateSeq_pair t2 fun g3 t3 e3=>wpAny_bind (wpAny_letGo (wpAny_pure ?_)))))
  refine wpAny_bind (wpAny_bind (wpAny_onRaise (wpAny_bind (m:=nextOf (.ref i2)) (N2.stop hh (N2.but (N2.but (N2.but p2 e1.extBut D.z2) e2.extBut D.a) e3.extBut D.O2) hy fun g4 e e4 he=> ?_))))
  obtain ⟨oe,ho,hc⟩:=he
  have z4:IsZip g4 z TI TO .ellipsis:=e4 _ _ (D.ne2 N2).1.symm (e3.extBut _ _ D.Oz.symm (e2.extBut _ _ (D.ne1 N1).1.symm z1))
  exact wpAny_setField_rec z4 (by simp) fun g5 _ e5=>hE g5 e (fun c o c1 c2 c3 c4 q=>e5.extBut _ _ c1 (e4 _ _ c4 (e3.extBut _ _ c2 (e2.extBut _ _ c3 (e1.extBut _ _ c1 q))))) ⟨oe,e5.extBut _ _ (off z4 ho hc) ho,hc⟩
theorem Y7 {Q:Option Value->Shared->Prop} (N1:JY i1 fp1 v1 S1) (N2:JY i2 fp2 v2 S2) (D:Ap z TI TO i1 i2 fp1 fp2) (hz:IsZip s.heap z TI TO .none) (hTI:IsPair s.heap TI (.ref i1) (.ref i2)) (hTO:IsPair s.heap TO a b) (p1:S1 k s.heap) (p2:S2 k s.heap) (hx:v1 k=some x) (hy:v2 k=some y)
  (hQ:∀ h',IsZip h' z TI TO (rawInt s.heap.objs.size)->IsPair h' TO x y->S1 (k+1) h' ->S2 (k+1) h' ->IsPair h' s.heap.objs.size x y->
   (∀ c o,c ≠ z->c ≠ TO->c ≠ i1->c ≠ i2->s.heap.get? c=some o->h'.get? c=some o)->Q (some (.ref s.heap.objs.size)) { s with heap:=h' }):wpAny (model prog w) A (pyNext (.ref z)) Q E s:=by
 have ty:s.TypeIs (.ref z) "zip":=⟨_,hz,rfl⟩
 unfold pyNext
 exact wpAny_bind (wpAny_attempt (wpAny_callSpecial?_slot (name:=Str.ofString "__next__") ty PySem.F.slot_zip_next (wpAny_call_entry PySem.F.slot_zip_next ty PySem.F.entry_zip_next
  (Y5 N1 N2 D hz hTI hTO p1 p2 hx hy fun h' a1 a2 a3 a4 a5 a6=>wpAny_pure (hQ h' a1 a2 a3 a4 a5 a6)) (PySem.F.args_zip_next_1 _))))
theorem Y8 {Q:Option Value->Shared->Prop} (hh:A.handled=none) (N1:JY i1 fp1 v1 S1) (N2:JY i2 fp2 v2 S2) (D:Ap z TI TO i1 i2 fp1 fp2) (hz:IsZip s.heap z TI TO .none) (hTI:IsPair s.heap TI (.ref i1) (.ref i2)) (hTO:IsPair s.heap TO a b) (p1:S1 k s.heap) (p2:S2 k s.heap) (hend:v1 k=none\/v2 k=none)
  (hQ:∀ h',(∀ c o,c ≠ z->c ≠ TO->c ≠ i1->c ≠ i2->s.heap.get? c=some o->h'.get? c=some o)->Q none { s with heap:=h' }):wpAny (model prog w) A (pyNext (.ref z)) Q E s:=by
 have ty:s.TypeIs (.ref z) "zip":=⟨_,hz,rfl⟩
 unfold pyNext
 refine wpAny_bind (wpAny_attempt (wpAny_callSpecial?_slot (name:=Str.ofString "__next__") ty PySem.F.slot_zip_next (wpAny_call_entry PySem.F.slot_zip_next ty PySem.F.entry_zip_next
  (Y6 hh N1 N2 D hz hTI hTO p1 p2 hend fun h' e kp he=> ?_) (PySem.F.args_zip_next_1 _))))
 obtain ⟨o,ho,hc⟩:=he
 exact wpAny_bind (wpAny_isInstance (T:="StopIteration") (b:=true) ⟨o,ho,hc⟩ isSubtype_stop (wpAny_pure (hQ _ kp)))
end
end PySem.ZG
namespace PySem.ZG
open PySem PySem.Spec PySem.Builtin.SmallTypes
structure Y9 (l:Addr) (o:Obj) (P:Heap->Prop):Prop where
 go:∀ {prog:Program} {w:World} {A:Around} {E:Value->Shared->Prop} {s:Shared} {Q:Value->Shared->Prop},P s.heap->Q (.ref s.heap.objs.size) { s with heap:=s.heap.push o }->wpAny (model prog w) A (pyIter (.ref l)) Q E s
 push:∀ {h:Heap} (o' :Obj),P h->P (h.push o')
 fresh:o.isFreed=false
abbrev oL (l:Addr):Obj:={ cls:= .type "list_iterator",data:= .fields #[.ref l, .int 0 0] }
abbrev oT (l:Addr):Obj:={ cls:= .type "tuple_iterator",data:= .fields #[.ref l, .int 0 0] }
theorem Ya (l:Addr) (xs:Array Value):Y9 l (oL l) (fun h=>h.IsList l xs):=⟨fun p q=>wpAny_pyIter_list p q,fun o p=>Heap.IsList.push p o,rfl⟩
theorem Qg (l:Addr) (xs:Array Value):Y9 l (oT l) (fun h=>h.IsTuple l xs):=⟨fun p q=>wpAny_pyIter_tuple p q,fun o p=>Heap.IsTuple.push p o,rfl⟩
abbrev zh2 (h:Heap) (o1 o2:Obj):Heap:=(h.push o1).push o2
abbrev zh3 (h:Heap) (o1 o2:Obj):Heap:=(zh2 h o1 o2).push { cls:= .type "tuple",data:= .seq #[.ref h.objs.size, .ref (h.push o1).objs.size] }
abbrev zh4 (h:Heap) (o1 o2:Obj):Heap:=(zh3 h o1 o2).push { cls:= .type "tuple",data:= .seq #[.none, .none] }
abbrev zh5 (h:Heap) (o1 o2:Obj):Heap:=(zh4 h o1 o2).push { cls:= .type "zip",data:= .fields #[.none, .bool false, .bool false, .ref (zh2 h o1 o2).objs.size, .ref (zh3 h o1 o2).objs.size] }
theorem Qh {l1 l2:Addr} {o1 o2:Obj} {P1 P2:Heap->Prop} (J1:Y9 l1 o1 P1) (J2:Y9 l2 o2 P2):
  Meets (Builtin.«zip.__new__» ⟨[.type "zip", .ref l1, .ref l2],[]⟩) (fun _ R s=>P1 s.heap/\P2 s.heap/\R (.ok (.ret (.ref (zh4 s.heap o1 o2).objs.size))) { s with heap:=zh5 s.heap o1 o2 }):=
 .of_wp fun prog w A R s h=>by
  obtain ⟨hp,g,d,tk,os⟩:=s
  obtain ⟨q1,q2,h⟩:=h
  have hsub:=sub_zip
  have c1:P1 (Shared.heap ⟨hp,g,d,tk,os⟩):=q1
  have c2:P2 (Shared.heap ⟨hp.push o1,g,d,tk,os⟩):=J2.push o1 q2
  wp_walk using J1.go c1,J2.go c2
  exact ⟨_,rfl,h⟩
end PySem.ZG
namespace PySem.ZG
open PySem PySem.Spec PySem.Builtin.SmallTypes
theorem Yb {prog:Program} {w:World} {A:Around} {E:Value->Shared->Prop} {s:Shared} {l1 l2:Addr} {o1 o2:Obj} {P1 P2:Heap->Prop} {Q:Value->Shared->Prop} (J1:Y9 l1 o1 P1) (J2:Y9 l2 o2 P2) (q1:P1 s.heap) (q2:P2 s.heap)
  (h:∀ h' n,n=s.heap.objs.size->IsZip h' (n+4) (n+2) (n+3) .none->IsPair h' (n+2) (.ref n) (.ref (n+1))->IsPair h' (n+3) .none .none->h'.get? n=some o1->h'.get? (n+1)=some o2->
   (∀ c o,s.heap.get? c=some o->h'.get? c=some o)->Q (.ref (n+4)) { s with heap:=h' }):wpAny (model prog w) A (call (.type "zip") [.ref l1, .ref l2]) Q E s:=by
 refine callType_new PySem.F.called_zip (by decide) (PySem.F.typeCall_zip_2 _ _) (PySem.F.newCall_zip_2 _ _) (fun obj=>PySem.F.args_object_init_3 obj _ _) PySem.F.entry_zip_new (Qh J1 J2) ⟨q1,q2, ?_⟩
 have n1:(s.heap.push o1).objs.size=s.heap.objs.size+1:=Heap.size_push ..
 have n2:(zh2 s.heap o1 o2).objs.size=s.heap.objs.size+2:=by rw [Heap.size_push,n1]
 have n3:(zh3 s.heap o1 o2).objs.size=s.heap.objs.size+3:=by rw [Heap.size_push,n2]
 have n4:(zh4 s.heap o1 o2).objs.size=s.heap.objs.size+4:=by rw [Heap.size_push,n3]
 have up:∀ {h:Heap} {c:Addr} {o:Obj} (o' :Obj),h.get? c=some o->(h.push o').get? c=some o:=fun o' e=>Heap.get?_push_of_some o' e
 have e5:(zh5 s.heap o1 o2).get? (zh4 s.heap o1 o2).objs.size=some _:=Heap.get?_push_size _ rfl
 have e4:(zh5 s.heap o1 o2).get? (zh3 s.heap o1 o2).objs.size=some _:=up _ (Heap.get?_push_size _ rfl)
 have e3:(zh5 s.heap o1 o2).get? (zh2 s.heap o1 o2).objs.size=some _:=up _ (up _ (Heap.get?_push_size _ rfl))
 have e2:(zh5 s.heap o1 o2).get? (s.heap.push o1).objs.size=some _:=up _ (up _ (up _ (Heap.get?_push_size _ J2.fresh)))
 have e1:(zh5 s.heap o1 o2).get? s.heap.objs.size=some _:=up _ (up _ (up _ (up _ (Heap.get?_push_size _ J1.fresh))))
 show _/\_
 rw [n2,n3,n4] at e5
 rw [n1,n2] at e3
 rw [n3] at e4
 rw [n1] at e2
 rw [n4]
 exact ⟨⟨_,e5,rfl⟩,h _ _ rfl e5 e3 e4 e1 e2 fun c o q=>up _ (up _ (up _ (up _ (up _ q))))⟩
end PySem.ZG
namespace PV
open PySem PySem.Spec PyProof.Rows L2 PySem.ZG
inductive SK where
 | l | t
def SK.it:SK->Heap->Addr->Addr->Nat->Prop
 | .l=>fun h i l k=>h.IsListIter i l k
 | .t=>fun h i l k=>h.IsTupleIter i l k
def SK.has:SK->Heap->Addr->Array Value->Prop
 | .l=>fun h l xs=>h.IsList l xs
 | .t=>fun h l xs=>h.IsTuple l xs
def SK.sq (K:PySem.W.Frag):SK->Hp->Addr->List V->Prop
 | .l=>fun H a xs=>SqL K H a xs
 | .t=>fun H a xs=>SqT K H a xs
def SK.tr:SK->List V->HO
 | .l=> .lst
 | .t=> .tup
def SK.ob:SK->Addr->Obj
 | .l=>oL
 | .t=>oT
theorem SK.nx (k:SK) {i l:Addr} (h:l ≠ i) (xs:Array Value):JY i [i,l] (fun n=>xs[n]?) (fun n hp=>k.it hp i l n/\k.has hp l xs):=by
 cases k with
 | l=>exact Y4 h xs
 | t=>exact nx_tup h xs
theorem SK.of (k:SK) (l:Addr) (xs:Array Value):Y9 l (k.ob l) (fun h=>k.has h l xs):=by
 cases k with
 | l=>exact Ya l xs
 | t=>exact Qg l xs
theorem SK.start (k:SK) {h:Heap} {i l:Addr} (e:h.get? i=some (k.ob l)):k.it h i l 0:=by
 cases k with
 | l=>exact ⟨_,e,rfl,rfl⟩
 | t=>exact ⟨_,e,rfl,rfl⟩
theorem SK.obj {k:SK} {h:Heap} {i l:Addr} {n:Nat} (x:k.it h i l n):∃ o,h.get? i=some o/\∀ v,o.data ≠ .cell v:=by
 cases k with
 | l=>obtain ⟨o,e,_,d⟩:=x; exact ⟨o,e,fun v z=>by rw [d] at z; cases z⟩
 | t=>obtain ⟨o,e,_,d⟩:=x; exact ⟨o,e,fun v z=>by rw [d] at z; cases z⟩
theorem SK.at_ {k:SK} {h h' :Heap} {i l:Addr} {n:Nat} (x:k.it h i l n) (q:∀ o,h.get? i=some o->h'.get? i=some o):k.it h' i l n:=by
 cases k with
 | l=>obtain ⟨o,e,r⟩:=x; exact ⟨o,q o e,r⟩
 | t=>obtain ⟨o,e,r⟩:=x; exact ⟨o,q o e,r⟩
theorem SK.sqOf {K:PySem.W.Frag} (k:SK) {H:Hp} {a:Addr} {xs:List V} (e:H a=some (k.tr xs)):k.sq K H a xs:=by
 cases k with
 | l=>exact SqL.of e
 | t=>exact SqT.of e
theorem Inv.seq {X:Cx} {pins:List (Addr×Obj)} {σ:Sg} {H:Hp} {s:Shared} (I:L2.Inv X pins σ H s) (k:SK) {a:Addr} {xs:List V} (h:k.sq X.K H a xs):∃ its:List Value,zv xs its/\k.has s.heap a its.toArray/\∃ o,s.heap.get? a=some o:=by
 cases k with
 | l=>
  obtain ⟨its,r,p,_⟩:=I.list h
  obtain ⟨o,_,e,_⟩:=id p
  exact ⟨its,r,p.isList,o,e⟩
 | t=>
  obtain ⟨its,r,p,_⟩:=I.tuple h
  obtain ⟨o,e,_⟩:=id p
  exact ⟨its,r,p,o,e⟩
def Itz (K:PySem.W.Frag) (k1 k2:SK) (l1 l2:Addr):It:=
 ⟨fun i H=>∃ xs ys x y,k1.sq K H l1 xs/\k2.sq K H l2 ys/\xs[i]? =some x/\ys[i]? =some y,fun i H v H' =>∃ p x y,H p=none/\v= .ref p/\(∀ xs,k1.sq K H l1 xs->xs[i]? =some x)/\(∀ ys,k2.sq K H l2 ys->ys[i]? =some y)/\H' =upd H p (.tup [x,y]),
  fun i H=>∃ xs ys,k1.sq K H l1 xs/\k2.sq K H l2 ys/\(xs.length<=i\/ys.length<=i)⟩
theorem Inv.seq_inj {X:Cx} {pins:List (Addr×Obj)} {σ:Sg} {H:Hp} {s:Shared} (I:L2.Inv X pins σ H s) (k:SK) {a:Addr} {xs ys:List V} (h:k.sq X.K H a xs) (h' :k.sq X.K H a ys):xs=ys:=by
 cases k with
 | l=>exact I.list_inj h h'
 | t=>exact I.tuple_inj h h'
theorem nN {a b:Nat} (h:a ≠ b): @Ne Addr a b:=h
theorem nM {a b c:Nat} (h:a ≠ b) (h' :a ≠ c):¬ @Membership.mem Addr (List Addr) _ [b,c] a:=fun q=>by
 rcases List.mem_cons.mp q with z | z
 ·exact h z
 ·exact h' (List.mem_singleton.mp z)
theorem Uj {P:Program} {w:World} {K:PySem.W.Frag} {elts:List Expr} {kk:Nat} {pt:Pos} (k1 k2:SK) {n l1 l2:Nat} (h1:l1 < n) (h2:l2 < n):
  Wh P w K (.Tuple elts kk pt) (Itz K k1 k2 l1 l2) [n+4,n+2,n+3,n,n+1] (n+4)
   (fun i h=>IsZip h (n+4) (n+2) (n+3) .none/\IsPair h (n+2) (.ref n) (.ref (n+1))/\(∃ a b,IsPair h (n+3) a b)/\k1.it h n l1 i/\k2.it h (n+1) l2 i):=by
 have D:Ap (n+4) (n+2) (n+3) n (n+1) [n,l1] [n+1,l2]:=by
  refine ⟨nN (by omega),nN (by omega),nN (by omega),nN (by omega),nN (by omega),nM (by omega) (by omega),nM (by omega) (by omega),nM (by omega) (by omega),nM (by omega) (by omega),nM (by omega) (by omega),nM (by omega) (by omega)⟩
 refine ⟨by simp,fun i h st b hb=> ?_,fun i h h' st k=> ?_, ?_, ?_, ?_⟩
 ·obtain ⟨hz,hI,⟨a,c,hO⟩,p1,p2⟩:=st
  simp only [List.mem_cons,List.not_mem_nil,or_false] at hb
  rcases hb with rfl | rfl | rfl | rfl | rfl
  ·exact ⟨_,hz,fun v z=>nomatch z⟩
  ·exact ⟨_,hI,fun v z=>nomatch z⟩
  ·exact ⟨_,hO,fun v z=>nomatch z⟩
  ·exact SK.obj p1
  ·exact SK.obj p2
 ·obtain ⟨hz,hI,⟨a,c,hO⟩,p1,p2⟩:=st
  exact ⟨k _ (by simp) _ hz,k _ (by simp) _ hI,⟨a,c,k _ (by simp) _ hO⟩,SK.at_ p1 fun o e=>k n (by simp) o e,SK.at_ p2 fun o e=>k (n+1) (by simp) o e⟩
 ·intro X hP hw hK hc i pins s σ H E I hf st hg
  subst hP hw hK
  obtain ⟨xs,ys,x,y,s1,s2,hx,hy⟩:=hg
  obtain ⟨hz,hI,⟨a,c,hO⟩,p1,p2⟩:=st
  obtain ⟨its1,r1,b1,_⟩:=Inv.seq I k1 s1
  obtain ⟨its2,r2,b2,_⟩:=Inv.seq I k2 s2
  obtain ⟨u,hu,ru⟩:=r1.get hx
  obtain ⟨v,hv,rv⟩:=r2.get hy
  refine Y7 (k1.nx (Nat.ne_of_lt h1) its1.toArray) (k2.nx (i:=n+1) (nN (by omega)) its2.toArray) D hz hI hO ⟨p1,b1⟩ ⟨p2,b2⟩ (x:=u) (y:=v) (by simpa using hu) (by simpa using hv) fun g a1 a2 a3 a4 a5 kp=>⟨_,rfl, ?_⟩
  refine wpAny_letOwnedTupleGo_zip a1 fun g2 z2 e2=> ?_
  have hlt:n+4 < s.heap.objs.size:=Heap.lt_size hz
  have ne:∀ b:Nat,b<=n+4->s.heap.objs.size ≠ b:=fun b hb=>by
   have hlt:n+4 < s.heap.objs.size:=hlt
   omega
  have kp2:∀ b o,b ∉ [n+4,n+2,n+3,n,n+1]->s.heap.get? b=some o->g2.get? b=some o:=fun b o hb e=>by
   simp only [List.mem_cons,List.not_mem_nil,or_false,not_or] at hb
   exact e2.extBut _ _ hb.1 (kp b o hb.1 hb.2.2.1 hb.2.2.2.1 hb.2.2.2.2 e)
  have g2P:IsPair g2 s.heap.objs.size u v:=e2.extBut _ _ (ne _ (Nat.le_refl _)) a5
  have g2I:IsPair g2 (n+2) (.ref n) (.ref (n+1)):=e2.extBut _ _ D.Iz (kp _ _ D.Iz D.IO D.I1 D.I2 hI)
  have g2O:IsPair g2 (n+3) u v:=e2.extBut _ _ D.Oz a2
  have q1:k1.it g2 n l1 (i+1):=SK.at_ a3.1 fun o e=>e2.extBut _ _ (nN (by omega)) e
  have q2:k2.it g2 (n+1) l2 (i+1):=SK.at_ a4.1 fun o e=>e2.extBut _ _ (nN (by omega)) e
  have hfr:H s.heap.objs.size=none:=I.hok.fresh (Nat.le_refl _)
  refine ⟨.ref s.heap.objs.size,upd H s.heap.objs.size (.tup [x,y]),Inv.laidT (s:=s) (h' :=g2) (ch:=[n+4,n+2,n+3,n,n+1]) (tk:=s.toks) I hf kp2 (fun b o hb _=> ?_) (Nat.le_refl _)
   ⟨by rw [sizeLine_eq]; show 2<=16777216; decide,[u,v], .cons ru (.cons rv .nil),⟨_,g2P,rfl,_,rfl⟩, .inr ⟨_,g2P,rfl⟩⟩,rfl,⟨_,x,y,hfr,rfl,fun zs hq=>by rw [← Inv.seq_inj I k1 s1 hq]; exact hx,fun zs hq=>by rw [← Inv.seq_inj I k2 s2 hq]; exact hy,rfl⟩,⟨z2,g2I,⟨u,v,g2O⟩,q1,q2⟩,fun b hb=> ?_⟩
  ·simp only [List.mem_cons,List.not_mem_nil,or_false] at hb
   rcases hb with rfl | rfl | rfl | rfl | rfl
   ·exact ⟨_,z2⟩
   ·exact ⟨_,g2I⟩
   ·exact ⟨_,g2O⟩
   ·obtain ⟨o',e',_⟩:=SK.obj q1; exact ⟨o',e'⟩
   ·obtain ⟨o',e',_⟩:=SK.obj q2; exact ⟨o',e'⟩
  ·have hb2:(b:Nat)<=n+4:=by
    have hb:b=n+4\/b=n+2\/b=n+3\/b=n\/b=n+1:=by simpa using hb
    rcases hb with rfl | rfl | rfl | rfl | rfl
    ·exact Nat.le_refl _
    ·exact Nat.add_le_add_left (by decide) n
    ·exact Nat.add_le_add_left (by decide) n
    ·exact Nat.le_add_right _ _
    ·exact Nat.add_le_add_left (by decide) n
   rw [zd fun z=>ne b hb2 z.symm]
   exact (hf b hb).1
 ·intro X hP hw hK hc i pins s σ H E I hf st hg
  subst hP hw hK
  obtain ⟨xs,ys,s1,s2,hend⟩:=hg
  obtain ⟨hz,hI,⟨a,c,hO⟩,p1,p2⟩:=st
  obtain ⟨its1,r1,b1,_⟩:=Inv.seq I k1 s1
  obtain ⟨its2,r2,b2,_⟩:=Inv.seq I k2 s2
  have l1' :=r1.length
  have l2' :=r2.length
  refine Y8 (I.ok.hd hc) (k1.nx (Nat.ne_of_lt h1) its1.toArray) (k2.nx (i:=n+1) (nN (by omega)) its2.toArray) D hz hI hO ⟨p1,b1⟩ ⟨p2,b2⟩ (k:=i) ?_ fun g kp=>⟨rfl, ?_⟩
  ·rcases hend with q | q
   ·exact .inl (Array.getElem?_eq_none (by rw [List.size_toArray,← l1']; exact q))
   ·exact .inr (Array.getElem?_eq_none (by rw [List.size_toArray,← l2']; exact q))
  ·have kp2:∀ b o,b ∉ [n+4,n+3,n,n+1]->s.heap.get? b=some o->g.get? b=some o:=fun b o hb e=>by
    simp only [List.mem_cons,List.not_mem_nil,or_false,not_or] at hb
    exact kp b o hb.1 hb.2.1 hb.2.2.1 hb.2.2.2 e
   have nch:∀ b u,H b=some u->b ∉ [n+4,n+3,n,n+1]:=fun b u e hb=>by
    have hb' :b∈[n+4,n+2,n+3,n,n+1]:=by
     simp only [List.mem_cons,List.not_mem_nil,or_false] at hb ⊢
     rcases hb with q | q | q | q
     ·exact .inl q
     ·exact .inr (.inr (.inl q))
     ·exact .inr (.inr (.inr (.inl q)))
     ·exact .inr (.inr (.inr (.inr q)))
    rw [(hf b hb').1] at e; cases e
   refine I.call' (s' :={ s with heap:=g }) (ch:=[n+4,n+3,n,n+1]) rfl ⟨fun b o e _ _ hc=>kp2 b o hc e,fun b o e _ _ hc=>⟨o.slots,kp2 b o hc e⟩,fun b o e q _=>q,fun b o e hc=>⟨o,kp2 b o hc e⟩,fun b ys e=>e,fun b o u e=>e,fun _ _ _ e=>e⟩ (fun b u e=> ?_) I.bare fun b hb=> ?_
   ·refine (I.hok b u e).stay (fun c v hc q=>kp2 c v ?_ q) (fun _ q=>q) fun _ _ q=>q
    rcases hc with rfl | hc
    ·exact nch c u e
    ·exact nch c _ hc
   ·have hb' :b∈[n+4,n+2,n+3,n,n+1]:=by
     simp only [List.mem_cons,List.not_mem_nil,or_false] at hb ⊢
     rcases hb with q | q | q | q
     ·exact .inl q
     ·exact .inr (.inr (.inl q))
     ·exact .inr (.inr (.inr (.inl q)))
     ·exact .inr (.inr (.inr (.inr q)))
    obtain ⟨f0,f1,f2,f3,f4,f5⟩:=hf b hb'
    exact ⟨f3,f1,f4,f5⟩
 ·intro A i s Q E st h
  exact wpAny_pyIter_zip st.1 h
def Yc (xs ys:List T):List T:=(xs.zip ys).map fun p=>T.tup [p.1,p.2]
theorem Uk {xs ys:List T} {i:Nat} {t:T} (h:(Yc xs ys)[i]? =some t):∃ x y,xs[i]? =some x/\ys[i]? =some y/\t= .tup [x,y]:=by
 unfold Yc at h
 rw [List.getElem?_map] at h
 cases e:(xs.zip ys)[i]? with
 | none=>rw [e] at h; cases h
 | some p=>
  rw [e] at h
  cases h
  have:=List.getElem?_zip_eq_some.mp e
  exact ⟨p.1,p.2,this.1,this.2,rfl⟩
theorem JZ (xs ys:List T):(Yc xs ys).length=min xs.length ys.length:=by unfold Yc; simp
theorem Qi {K:PySem.W.Frag} {B1 H1:Hp} {k1 k2:SK} {a b:Addr} {xs ys:List V} {ts us:List T} (ha:B1 a=some (k1.tr xs)) (hb:B1 b=some (k2.tr ys)) (ra:zk B1 xs ts) (rb:zk B1 ys us):rI B1 H1 (Itz K k1 k2 a b) (Yc ts us):=fun B2 H2 s1 s2=>by
 have a2:=k1.sqOf (K:=K) (s2 _ _ (s1 _ _ ha))
 have b2:=k2.sqOf (K:=K) (s2 _ _ (s1 _ _ hb))
 rw [JZ]
 refine ⟨fun i hi=> ?_,fun i t x H3 e y=> ?_,fun i hi=>⟨xs,ys,a2,b2, ?_⟩⟩
 ·obtain ⟨v,e1,_⟩:=ra.get (List.getElem?_eq_getElem (show i < ts.length by omega))
  obtain ⟨u,e2,_⟩:=rb.get (List.getElem?_eq_getElem (show i < us.length by omega))
  exact ⟨xs,ys,v,u,a2,b2,e1,e2⟩
 ·obtain ⟨p,v,u,hp,rfl,y1,y2,rfl⟩:=y
  obtain ⟨t1,t2,et,eu,rfl⟩:=Uk e
  obtain ⟨v',e1,r1⟩:=ra.get et
  obtain ⟨u',e2,r2⟩:=rb.get eu
  have q1:=y1 xs a2
  have q2:=y2 ys b2
  rw [e1] at q1; cases q1
  rw [e2] at q2; cases q2
  have up:=zo.ge s2 (zg.new hp (.tup [v,u]))
  exact ⟨zg.new hp _, .tup (Zn hp _) (.cons ((r1.mono s1).mono up) (.cons ((r2.mono s1).mono up) .nil))⟩
 ·rw [ra.length,rb.length]; omega
section
variable {X:Cx} {Y:Fx} {a b:Expr} {fa fb:En->R T} {pos p pt:Pos} {elts:List Expr} {kk:Nat}
theorem Qj {ta:TA} (hg:Gl X "zip") (hm:X.mg "zip"=none) (ha:PA X [a,b] ta) (hs:starEach [a,b] X.env=[(false,eval a X.env),(false,eval b X.env)]) (hs2:starEach [b] X.env=[(false,eval b X.env)]):
  PI X (.Tuple elts kk pt) (.Call (.Name "zip" p) [a,b] [] pos) (fun σ H R=>ta σ H fun vs H1=>∃ k1 k2 l1 l2 xs ys,vs=[.ref l1, .ref l2]/\H1 l1=some (SK.tr k1 xs)/\H1 l2=some (SK.tr k2 ys)/\R (Itz X.K k1 k2 l1 l2) H1):=by
 intro pins s σ H R I h
 refine Call_ (Zi I hg hm PyProof.Rows.Boot.«zip» (PyProof.Rows.callWith_type1 (thn (ha pos pins s σ H _ I h) fun us s1 ⟨vs,H1,I1,r1,q1⟩=> ?_) (by rw [hs,hs2]) (by rw [hs2]; rfl)))
 obtain ⟨k1,k2,l1,l2,xs,ys,e,h1,h2,q⟩:=q1
 subst e
 obtain ⟨u,v,rfl,ru,rv⟩:=uZ r1
 obtain rfl:u=Value.ref l1:=ru
 obtain rfl:v=Value.ref l2:=rv
 obtain ⟨its1,_,b1,o1,e1⟩:=Inv.seq I1 k1 (k1.sqOf h1)
 obtain ⟨its2,_,b2,o2,e2⟩:=Inv.seq I1 k2 (k2.sqOf h2)
 refine Yb (k1.of l1 its1.toArray) (k2.of l2 its2.toArray) b1 b2 fun g n hn z1 z2 z3 z4 z5 kp=>wpAny_pyIter_zip z1 ?_
 subst hn
 have f:∀ b∈[s1.heap.objs.size+4,s1.heap.objs.size+2,s1.heap.objs.size+3,s1.heap.objs.size,s1.heap.objs.size+1],J9 X pins H1 b:=fun b hb=>by
  have hb' :s1.heap.objs.size<=b:=by
   simp only [List.mem_cons,List.not_mem_nil,or_false] at hb
   rcases hb with rfl | rfl | rfl | rfl | rfl
   ·exact Nat.le_add_right _ _
   ·exact Nat.le_add_right _ _
   ·exact Nat.le_add_right _ _
   ·exact Nat.le_refl _
   ·exact Nat.le_add_right _ _
  exact I1.fpOk hb' (I1.hok.fresh hb')
 exact ⟨s1.heap.objs.size+4,_,_,_,H1,rfl,I1.kept (t' :=s1.toks) kp,Uj k1 k2 (Heap.lt_size e1) (Heap.lt_size e2),⟨z1,z2,⟨_,_,z3⟩,SK.start k1 z4,SK.start k2 z5⟩,f,q⟩
def w8:T->R (List T)
 | .lst xs=> .ok xs
 | .tup xs=> .ok xs
 | _=> .bad
def XO (fa fb:En->R T):En->R (List T):=fun ρ=>(fa ρ).bind fun t=>(fb ρ).bind fun u=>(w8 t).bind fun xs=>(w8 u).bind fun ys=> .ok (Yc xs ys)
theorem ue {B:Hp} {v:V} {t:T} {xs:List T} (r:Rep B v t) (e:w8 t= .ok xs):∃ (k:SK) (a:Addr) (vs:List V),v= .ref a/\B a=some (k.tr vs)/\zk B vs xs:=by
 cases r with
 | lst h r=>cases e; exact ⟨.l,_,_,rfl,h,r⟩
 | tup h r=>cases e; exact ⟨.t,_,_,rfl,h,r⟩
 | _=>cases e
theorem wD (t:T) (c:Nat):w8 t ≠ .ex c:=by cases t <;> exact fun z=>nomatch z
theorem VU (hg:Gl X "zip") (hm:X.mg "zip"=none) (ha:Snd X Y a fa) (hb:Snd X Y b fb) (hs:starEach [a,b] X.env=[(false,eval a X.env),(false,eval b X.env)]:=by exact st2 rfl rfl) (hs2:starEach [b] X.env=[(false,eval b X.env)]:=by exact st1 rfl):
  Wl X Y (.Tuple elts kk pt) (.Call (.Name "zip" p) [a,b] [] pos) (XO fa fb):= .mk fun ρ=>
 PI.imp (Qj hg hm (zj (ha ρ) (zj (hb ρ) zw hs2) (by rw [hs,hs2])) hs hs2) fun σ H R ⟨B,I,q⟩=>step I q fun t v H1 _ s1 r1 I1 q1=>step I1 q1 fun u v' H2 _ s2 r2 I2 q2=>by
  cases e1:w8 t with
  | bad=>rw [e1] at q2; exact q2.elim
  | ex c=>exact absurd e1 (wD _ _)
  | ok xs=>
   rw [e1] at q2
   cases e2:w8 u with
   | bad=>rw [e2] at q2; exact q2.elim
   | ex c=>exact absurd e2 (wD _ _)
   | ok ys=>
    rw [e2] at q2
    obtain ⟨k1,a1,vs1,rfl,h1,w1⟩:=ue (r1.mono (zo.ge I1.sB s2)) e1
    obtain ⟨k2,a2,vs2,rfl,h2,w2⟩:=ue r2 e2
    exact ⟨k1,k2,a1,a2,vs1,vs2,rfl,I2.sB _ _ h1,I2.sB _ _ h2,zT I2 (show Po Y rI _ H2 (.ok (Yc xs ys)) R from q2) (Qi h1 h2 w1 w2)⟩
end
end PV
namespace PV
open PySem PySem.Spec PyProof.Rows L2
section
variable {X:Cx} {Y:Fx} {a b:Expr} {fa fb:En->R T} {pos p p' pos' :Pos}
end
def eqs (y:T):List T->Option (List Bool)
 | []=>some []
 | t :: ts=>match eqF 30 t y with
  | none=>none
  | some b=>match eqs y ts with
   | none=>none
   | some bs=>some (b :: bs)
def VV (y:T) (ts:List T):R T:=match eqs y ts with
 | some bs=> .ok (.int (bs.count true))
 | none=> .bad
def VW (y:T) (ts:List T):R T:=match eqs y ts with
 | some bs=>if true∈bs then .ok (.int (bs.idxOf true)) else .bad
 | none=> .bad
def vQ (g:T->List T->R T) (fa fb:En->R T):En->R T:=fun ρ=>(fa ρ).bind fun t=>match t with
 | .lst ts=>(fb ρ).bind fun u=>g u ts
 | _=> .bad
theorem uf {H:Hp} {y:T} {e:Value->Bool} (he:∀ (v:V) (t:T) (u:Value) (b:Bool),zF v u->Rep H v t->eqF 30 t y=some b->e u=b):∀ {xs:List V} {ts:List T} {its:List Value} {bs:List Bool},
  zv xs its->zk H xs ts->eqs y ts=some bs->its.map e=bs/\∀ u∈its,∃ v t k,zF v u/\Rep H v t/\eqF 30 t y=some k
 | _,_,_,_, .nil, .nil,h=>by
  cases h
  exact ⟨rfl,fun u hu=>by simp at hu⟩
 | _,_,_,_, .cons rv vs, .cons r rs,h=>by
  rename_i v u vals us t ts
  unfold eqs at h
  cases q:eqF 30 t y with
  | none=>rw [q] at h; cases h
  | some k=>
   rw [q] at h
   cases q' :eqs y ts with
   | none=>rw [q'] at h; cases h
   | some k' =>
    rw [q'] at h
    cases h
    obtain ⟨h1,h2⟩:=uf he vs rs q'
    refine ⟨by rw [List.map_cons,h1,he v t u k rv r q],fun w hw=> ?_⟩
    rcases List.mem_cons.mp hw with z | hw
    ·exact ⟨v,t,k,z ▸ rv,r,q⟩
    ·exact h2 w hw
section
variable {X:Cx} {Y:Fx} {a b:Expr} {fa fb:En->R T} {pos p p' pos' :Pos}
theorem ug {e:Value->Bool}:∀ its:List Value,List.countP e its=(its.map e).count true
 | []=>rfl
 | u :: us=>by
  rw [List.countP_cons,List.map_cons,List.count_cons,ug us]
  cases e u <;> rfl
theorem Ul (hu:X.A.units+64 < cLine):MtR X "list.count" (fun x xs H Q=>∃ l ys ts v t bs,x= .ref l/\xs=[v]/\H l=some (.lst ys)/\zk H ys ts/\Rep H v t/\eqs t ts=some bs/\Q (.int (bs.count true)) H):=by
 intro pins s σ H x xs v0 us Q I rx rv h
 obtain ⟨l,ys,ts,v,t,bs,rfl,rfl,hl,r,rt,e,q⟩:=h
 obtain rfl:v0=Value.ref l:=rx
 obtain ⟨u,rfl,ru⟩:=zX rv
 obtain ⟨hz,its,n,ri,eo⟩:=(show zK X.prog X.w H s.heap l (.lst ys) from I.hok l _ hl)
 obtain ⟨f,hf⟩:=JT (H:=H) fun z=>eqF 30 z t
 obtain ⟨h2,h3⟩:=uf hf ri r e
 refine call_meets PySem.F.slot_list_count ⟨_,eo,rfl⟩ PySem.F.entry_list_count (PySem.F.args_list_count_2 _ _) (SeqAt.list_countAt l its.toArray n none #[] u f) ⟨eo,fun w hw=> ?_, ?_⟩
 ·obtain ⟨v',t',k,rv',rr,ee⟩:=h3 w (by simpa using hw)
  rw [hf v' t' w k rv' rr ee]
  exact (WT I 30 X.A.in1 (by rw [Zu]; omega) t' t k v' v w u ee rr rt rv' ru).1
 ·rw [show its.toArray.toList=its from rfl,ug,h2]
  exact ⟨.int _,H,I.tok _,⟨_,rfl⟩,q⟩
theorem Um (hu:X.A.units+64 < cLine):MtR X "list.index" (fun x xs H Q=>∃ l ys ts v t bs,x= .ref l/\xs=[v]/\H l=some (.lst ys)/\zk H ys ts/\Rep H v t/\eqs t ts=some bs/\true∈bs/\Q (.int (bs.idxOf true)) H):=by
 intro pins s σ H x xs v0 us Q I rx rv h
 obtain ⟨l,ys,ts,v,t,bs,rfl,rfl,hl,r,rt,e,hm,q⟩:=h
 obtain rfl:v0=Value.ref l:=rx
 obtain ⟨u,rfl,ru⟩:=zX rv
 obtain ⟨hz,its,n,ri,eo⟩:=(show zK X.prog X.w H s.heap l (.lst ys) from I.hok l _ hl)
 obtain ⟨f,hf⟩:=JT (H:=H) fun z=>eqF 30 z t
 obtain ⟨h2,h3⟩:=uf hf ri r e
 have hj:bs.idxOf true < bs.length:=List.idxOf_lt_length_iff.mpr hm
 have hlen:bs.length=its.length:=by rw [← h2,List.length_map]
 have hri:=ri.length
 rw [sizeLine_eq] at hz
 have hat:∀ m (hm:m < its.length),f its[m]=bs[m]'(by rw [hlen]; exact hm):=fun m hm=>by
  have:(its.map f)[m]'(by rw [List.length_map]; exact hm)=bs[m]'(by rw [hlen]; exact hm):=by simp only [h2]
  rw [← this,List.getElem_map]
 refine call_meets PySem.F.slot_list_index ⟨_,eo,rfl⟩ PySem.F.entry_list_index (PySem.F.args_list_index_2 _ _) (SeqAt.list_indexAt l its.toArray n none #[] u f (bs.idxOf true) (by rw [List.size_toArray,← hlen]; exact hj) (by omega) ?_ ?_) ⟨eo,fun w hw=> ?_, ?_⟩
 ·rw [List.getElem_toArray,hat]
  exact List.getElem_idxOf hj
 ·intro m hm hlt
  rw [List.getElem_toArray,hat m (by simpa using hm)]
  have:=List.not_of_lt_findIdx (p:=(· == true)) (xs:=bs) (i:=m) hlt
  simpa using this
 ·obtain ⟨v',t',k,rv',rr,ee⟩:=h3 w (by simpa using hw)
  rw [hf v' t' w k rv' rr ee]
  exact (WT I 30 X.A.in1 (by rw [Zu]; omega) t' t k v' v w u ee rr rt rv' ru).1
 ·exact ⟨.int _,H,I.tok _,⟨_,rfl⟩,q⟩
theorem Yd {pa:Pos} (hu:X.A.units+64 < cLine) (ha:Zf X Y a fa) (hb:Zf X Y b fb) (hb1:attributeBase a "count" X.env (eval a X.env)=eval a X.env:=by rfl) (hs:St1 X b:=by exact st1 rfl) (hz:(pa.endLine == p.line)=true:=by rfl):
  Snd X Y (.Call (.Attribute a "count" pa) [b] [] p) (vQ VV fa fb):= .mk fun ρ=>by
 have e1:(((((backTo p (starEach [b] X.env)).all fun x=> !x.fst) && (backToKw p (keywordEach [] X.env)).all fun x=>x.fst.isSome) && decide (([b].length+([]:List Keyword).length+if ([]:List Keyword).isEmpty=true then 0 else 1) < 30))=true):=by rw [hs]; rfl
 refine PE.imp (ZT PySem.F.plainAttrs_list PySem.F.slot_list_count PySem.F.type_list_count (Ul hu) (ha ρ) (zj (hb ρ) zw hs) hb1 e1 hz hs rfl) fun σ H Q ⟨B,I,q⟩=>step I q fun t v H1 _ s1 r1 I1 q1=> ?_
 cases t with
 | lst ts=>
  cases r1 with
  | @lst l xs _ h r=>
   refine ⟨.inl ⟨rfl,_,SqL.of h⟩,step I1 q1 fun u v' H2 _ s2 r2 I2 q2=> ?_⟩
   unfold VV at q2
   split at q2
   ·rename_i bs e
    exact ⟨l,xs,ts,v',u,bs,rfl,rfl,s2 _ _ h,r.mono s2,r2,e,zT I2 q2 (.int _)⟩
   ·exact q2.elim
 | _=>exact q1.elim
theorem Ye {pa:Pos} (hu:X.A.units+64 < cLine) (ha:Zf X Y a fa) (hb:Zf X Y b fb) (hb1:attributeBase a "index" X.env (eval a X.env)=eval a X.env:=by rfl) (hs:St1 X b:=by exact st1 rfl) (hz:(pa.endLine == p.line)=true:=by rfl):
  Snd X Y (.Call (.Attribute a "index" pa) [b] [] p) (vQ VW fa fb):= .mk fun ρ=>by
 have e1:(((((backTo p (starEach [b] X.env)).all fun x=> !x.fst) && (backToKw p (keywordEach [] X.env)).all fun x=>x.fst.isSome) && decide (([b].length+([]:List Keyword).length+if ([]:List Keyword).isEmpty=true then 0 else 1) < 30))=true):=by rw [hs]; rfl
 refine PE.imp (ZT PySem.F.plainAttrs_list PySem.F.slot_list_index PySem.F.type_list_index (Um hu) (ha ρ) (zj (hb ρ) zw hs) hb1 e1 hz hs rfl) fun σ H Q ⟨B,I,q⟩=>step I q fun t v H1 _ s1 r1 I1 q1=> ?_
 cases t with
 | lst ts=>
  cases r1 with
  | @lst l xs _ h r=>
   refine ⟨.inl ⟨rfl,_,SqL.of h⟩,step I1 q1 fun u v' H2 _ s2 r2 I2 q2=> ?_⟩
   unfold VW at q2
   split at q2
   ·rename_i bs e
    split at q2
    ·rename_i hm
     exact ⟨l,xs,ts,v',u,bs,rfl,rfl,s2 _ _ h,r.mono s2,r2,e,hm,zT I2 q2 (.int _)⟩
    ·exact q2.elim
   ·exact q2.elim
 | _=>exact q1.elim
end
def jF:List T->Option (List Int)
 | []=>some []
 | .int i :: r=>match jF r with | some l=>some (i :: l) | none=>none
 | _ :: _=>none
def XQ:T->R T
 | .lst ts=>match jF ts with | some l=> .ok (.int l.sum) | none=> .bad
 | _=> .bad
def vR:En->RS:=fun _=> .bad
def nex (g:List T->R T):List T->R T:=fun ts=>quiet (g ts)
theorem VX {X:Cx} {Y:Fx} {st:Stmt}:ZQ X Y st vR:= .mk fun ρ=>fun pins s σ H D I ⟨B,J,q⟩=>q.elim
theorem noex {P:Program} {w:World} {K:PySem.W.Frag} {mg:Str->Option Value} {base:Heap} {cl:Nat->Value} {k n:Nat} {f:Addr} {fd:FuncData} {ps:List Str} {g:List T->R T} (F:zq P w K mg base (CX1 P w) k f fd ps (spP cl n g)):zq P w K mg base CX0 k f fd ps (spP cl n (nex g)):=by
 have key:∀ vs H Q E,spP cl n (nex g) vs H Q E->spP cl n g vs H Q (fun _ _ _=>False):=fun vs H Q E ⟨B,ts,hl,sB,r,q⟩=>⟨B,ts,hl,sB,r,by
  unfold nex at q
  revert q
  cases g ts with
  | ok t=>exact fun q=>q
  | ex c=>exact fun q=>q.elim
  | bad=>exact fun q=>q.elim⟩
 refine ⟨fun vs H Q E h=>F.len vs H Q _ (key vs H Q E h),fun A outer s H args us vs Q E hr he hb hv h=> ?_⟩
 refine codeAny_mono (F.run A outer s H args us vs Q _ hr he hb hv (key vs H Q E h)) fun r s' z=> ?_
 cases r with
 | ok fl=>cases fl <;> exact z
 | error e=>
  obtain ⟨_,_,_,_,_,_,_,z⟩:=(show CX1 P w outer H s (fun _ _ _=>False) e s' from z)
  exact z.elim
theorem uh:∀ {H:Hp} {xs:List V} {ts:List T} {its:List Value} {is:List Int},zk H xs ts->zv xs its->jF ts=some is->∃ ps:List (Int×Tok),its=ps.map (fun p=>Value.int p.1 p.2)/\ps.map (·.1)=is
 | _,_,_,_,is, .nil, .nil,h=>by
  have h' :some []=some is:=h
  cases h'
  exact ⟨[],rfl,rfl⟩
 | H,_,_,_,is, .cons (v:=x) (t:=t) r rs, .cons (b:=u) rv vs,h=>by
  cases r with
  | int i=>
   unfold jF at h
   split at h
   ·rename_i l e
    cases h
    obtain ⟨ps,h1,h2⟩:=uh rs vs e
    obtain ⟨tk,rfl⟩:=rv
    exact ⟨(i,tk) :: ps,by rw [h1]; rfl,by rw [List.map_cons,h2]⟩
   ·cases h
  | _=>cases h
section
variable {X:Cx} {Y:Fx} {a b:Expr} {fa fb:En->R T} {pos p p' pos' :Pos}
theorem ui (hh:X.A.handled=none):Z4 X (.builtin "sum") (fun vs H Q=>∃ l xs ts is,vs=[.ref l]/\H l=some (.lst xs)/\zk H xs ts/\jF ts=some is/\Q (.int is.sum) H):=by
 intro pins s σ H vs us Q I rv h
 obtain ⟨l,xs,ts,is,rfl,hl,r,hk,q⟩:=h
 obtain ⟨u,rfl,ru⟩:=zX rv
 obtain rfl:u=Value.ref l:=ru
 obtain ⟨its,rv,p,_⟩:=zy I (.inl hl) r
 obtain ⟨ps,h1,h2⟩:=uh r rv hk
 have e:its.toArray=intItems ps.toArray:=by rw [h1]; simp [intItems]
 rw [e] at p
 refine sum_intListG hh p fun h' tk t' kp=> ?_
 have e2:preSum (numAt ps.toArray) ps.toArray.size=is.sum:=by
  rw [preSum_eq,List.take_of_length_le (by simp),← h2]
 rw [e2]
 exact ⟨.int is.sum,H,I.kept (t' :=tk) kp,⟨t',rfl⟩,q⟩
theorem VY (hh:X.A.handled=none) (gl:Gl X "sum") (mg:X.mg "sum"=none) (ha:Zf X Y a fa) (hs:St1 X a:=by exact st1 rfl):Snd X Y (.Call (.Name "sum" p) [a] [] pos) (ap1 XQ fa):=
 wv (ui hh) (fun v t B H Q r sB q=>by
  cases r with
  | @lst l xs ts h r=>
   have q:Po Y rC B H (match jF ts with | some k=> .ok (.int k.sum) | none=> .bad) Q:=q
   split at q
   ·rename_i k e
    exact ⟨l,xs,ts,k,rfl,h,r,e,po0 sB q rfl (.int _)⟩
   ·exact q.elim
  | _=>exact q.elim) gl mg boot_sum ha hs
end
section
variable {X:Cx} {Y:Fx} {a b:Expr} {fa fb:En->R T} {pos p p' pos' :Pos}
end
section
variable {X:Cx} {Y:Fx} {tg iter elt:Expr} {ifs:List Expr} {scope:Scope} {pos pos' :Pos} {N' :List Str} {k:Nat} {js:List Nat} {fi:En->R (List T)} {tG:TG} {g:T->En->R En} {ft:En->R Bool} {fe:En->R T}
end
section
variable {P:Program} {w:World} {K:PySem.W.Frag} {mg:Str->Option Value} {base:Heap}
end
end PV
namespace PySem.RV
open PySem PySem.Spec PyProof.Rows PySem.Builtin.SmallTypes
theorem wE:Manifest.owners.lookup (String.ofList "desrever".toList.reverse)=some Manifest.sig_reversed:=by kernel_rfl
theorem Z6:Slot "reversed" "__next__" "reversed.__next__":=
 .of (owner:="reversed") (n:="__next__") (by rw [typeLookup_type,builtinLookup_eq_fast]; kernel_rfl) (by decide+kernel) (by decide+kernel) (by decide+kernel)
  (by first | exact .inl (by decide+kernel) | exact .inr (by decide+kernel)) (by rw [isSubtype_type]; kernel_rfl)
theorem jG:entryFor table "reversed.__next__"=some Builtin.«reversed.__next__»:=entryFor_of_tree (by kernel_rfl)
theorem Jx (a:Value):argsOk "reversed.__next__" ⟨[a],[]⟩:=by
 unfold argsOk; rw [signature?_of (id:="reversed.__next__") (n:="__txen__".toList) (o:="desrever".toList) (by kernel_rfl) wE]; kernel_rfl
theorem Jy:Slot "reversed" "__iter__" "reversed.__iter__":=
 .of (owner:="reversed") (n:="__iter__") (by rw [typeLookup_type,builtinLookup_eq_fast]; kernel_rfl) (by decide+kernel) (by decide+kernel) (by decide+kernel)
  (by first | exact .inl (by decide+kernel) | exact .inr (by decide+kernel)) (by rw [isSubtype_type]; kernel_rfl)
theorem uj (a:Value):argsOk "reversed.__iter__" ⟨[a],[]⟩:=by
 unfold argsOk; rw [signature?_of (id:="reversed.__iter__") (n:="__reti__".toList) (o:="desrever".toList) (by kernel_rfl) wE]; kernel_rfl
theorem Wa:entryFor table "reversed.__iter__"=some Builtin.«dict_keyiterator.__iter__»:=
 entryFor_alias (id' :="dict_keyiterator.__iter__") (by kernel_rfl) (by first | rfl | decide+kernel | (unfold String.splitOn; simp+decide [String.splitOnAux])) (by decide+kernel) (by kernel_rfl)
theorem Qk:typeLookup (.type "tuple") "__reversed__"=pure none:=by rw [typeLookup_type,builtinLookup_eq_fast]; kernel_rfl
theorem Ql:isSubtype (.type "tuple") (.type "dict")=pure false:=by rw [isSubtype_type]; kernel_rfl
abbrev IsRv (h:Heap) (it:Addr) (v:Value) (i:Int):Prop:=h.get? it=some { cls:= .type "reversed",data:= .fields #[v,rawInt i] }
section
variable {prog:Program} {w:World} {A:Around} {E:Value->Shared->Prop} {s:Shared} {it l:Addr} {xs:Array Value}
theorem w9 {v:Value} {i:Int} (x:IsRv s.heap it v i):s.TypeIs (.ref it) "reversed":=⟨_,x,rfl⟩
theorem next_item {i:Nat} {x:Value} {Q:Option Value->Shared->Prop} (hit:IsRv s.heap it (.ref l) (i:Int)) (ht:IsTup s.heap l xs) (hf:(xs.size:Int) < 2 ^ 63) (hx:xs[i]? =some x)
  (hQ:∀ h' tk,IsRv h' it (.ref l) ((i:Int) - 1)->Heap.SameBut it s.heap h' ->Q (some x) { s with heap:=h',toks:=tk }):wpAny (model prog w) A (pyNext (.ref it)) Q E s:=by
 unfold pyNext
 refine wpAny_bind (wpAny_attempt (wpAny_callSpecial?_slot (name:=Str.ofString "__next__") (w9 hit) Z6 (wpAny_call_entry Z6 (w9 hit) jG ?_ (Jx _))))
 unfold Builtin.«reversed.__next__»
 refine wpAny_bind (wpAny_of_eq (a:=(Value.ref it,[])) rfl ?_)
 dsimp only
 refine wpAny_bind (wpAny_field hit rfl (x:= .ref l) rfl ?_)
 refine wpAny_bind (wpAny_field hit rfl (x:=rawInt (i:Int)) rfl ?_)
 show wpAny _ _ (if (i:Int) < 0 then _ else _) _ _ s
 rw [if_neg (by omega)]
 have hi:i < xs.size:=(Array.getElem?_eq_some_iff.mp hx).1
 have hT:=ht.typeIs (s:=s)
 refine wpAny_bind (wpAny_specialOf hT slot_tuple_getitem.lookup ?_)
 show wpAny _ _ (if (some _:Option Value).isNone=true then _ else _) _ _ s
 rw [if_neg (by simp)]
 refine wpAny_bind (wpAny_mkInt ?_)
 refine wpAny_bind (wpAny_attempt (getItem_tuple (s:={ s with toks:=s.toks+1 }) ht (by omega) (by omega) (seqIndex_of (by omega) (by omega)) (by simpa using hx) ?_))
 dsimp only
 refine wpAny_bind (wpAny_field (s:={ s with toks:=s.toks+1 }) hit rfl (x:=rawInt (i:Int)) rfl ?_)
 show wpAny _ _ (setField (.ref it) 1 (rawInt ((i:Int) - 1)) >>= _) _ _ _
 refine wpAny_bind (wpAny_setField_rec (s:={ s with toks:=s.toks+1 }) hit (by simp) fun g1 z1 e1=> ?_)
 exact wpAny_pure ⟨x,rfl,wpAny_pure (hQ g1 _ z1 e1)⟩
theorem next_end {Q:Option Value->Shared->Prop} (hh:A.handled=none) (hit:IsRv s.heap it (.ref l) (-1))
  (hQ:∀ h',Heap.ExtBut it s.heap h' ->Q none { s with heap:=h' }):wpAny (model prog w) A (pyNext (.ref it)) Q E s:=by
 unfold pyNext
 refine wpAny_bind (wpAny_attempt (wpAny_callSpecial?_slot (name:=Str.ofString "__next__") (w9 hit) Z6 (wpAny_call_entry Z6 (w9 hit) jG ?_ (Jx _))))
 unfold Builtin.«reversed.__next__»
 refine wpAny_bind (wpAny_of_eq (a:=(Value.ref it,[])) rfl ?_)
 dsimp only
 refine wpAny_bind (wpAny_field hit rfl (x:= .ref l) rfl ?_)
 refine wpAny_bind (wpAny_field hit rfl (x:=rawInt (-1)) rfl ?_)
 show wpAny _ _ (if (-1:Int) < 0 then _ else _) _ _ s
 rw [if_pos (by decide)]
 refine wpAny_bind (wpAny_rule ?_)
 refine wpAny_bind (show wpAny _ _ (do setField (.ref it) 1 (rawInt (-1)); setField (.ref it) 0 .none) _ _ _ from ?_)
 refine wpAny_bind (wpAny_setField_rec hit (by simp) fun g1 z1 e1=> ?_)
 refine wpAny_setField_rec (s:={ s with heap:=g1 }) z1 (by simp) fun g2 z2 e2=> ?_
 refine wpAny_bind (show wpAny _ _ (newExc (.type "StopIteration") [] >>= fun e=>raiseNew e) _ _ _ from ?_)
 refine wpAny_bind ?_
 simp only [newExc,newTuple]
 refine wpAny_bind (wpAny_newObj_type (wpAny_bind (m:=firstArgMember _ _) (wpAny_of_eq (a:=Value.none) (by first | rfl | (simp only [firstArgMember]; rfl)) (wpAny_newObj_type ?_ (by size_fits)))) (by size_fits))
 simp only [raiseNew]
 refine wpAny_bind (wpAny_handled ?_)
 rw [show A.in1.handled=none from hh]
 refine wpAny_bind (wpAny_pure (wpAny_throw ?_))
 refine wpAny_bind (wpAny_isInstance (T:="StopIteration") (b:=true) ⟨_,Heap.get?_push_size _ rfl,rfl⟩ isSubtype_stop ?_)
 exact wpAny_pure (hQ _ (((e1.extBut.trans e2.extBut).push _).push _))
theorem iter_rv {v:Value} {i:Int} {Q:Value->Shared->Prop} (hit:IsRv s.heap it v i) (h:Q (.ref it) s):wpAny (model prog w) A (pyIter (.ref it)) Q E s:=by
 refine wpAny_pyIter_slot (w9 hit) Jy (wpAny_call_entry Jy (w9 hit) Wa ?_ (uj _))
 show wpAny _ _ (ret (.ref it)) _ _ s
 exact wpAny_pure ⟨_,rfl,"reversed",_,w9 hit,Z6.lookup,h⟩
theorem UT:mroOf (.type "reversed")=pure [.type "reversed", .type "object"]:=by rw [mroOf_type]; kernel_rfl
theorem Qm:typeLookup (.type "reversed") "__new__"=pure (some (.builtin "reversed.__new__")):=by rw [typeLookup_type,builtinLookup_eq_fast]; kernel_rfl
theorem Yf:Bind.madeBy (.type "reversed")=pure (some "reversed.__new__"):=madeBy_type UT Qm (by decide+kernel)
theorem Qn:isSubtype (.type "reversed") (.type "reversed")=pure true:=by rw [isSubtype_type]; kernel_rfl
theorem Qo (a:Value):newClass "reversed" ⟨[.type "reversed",a],[]⟩=pure (.type "reversed",[a]):=by
 unfold newClass
 simp only [isType,Qn,pure_bind,Bool.not_true,Bool.false_eq_true,if_false]
theorem uk:entryFor table "reversed.__new__"=some Builtin.«reversed.__new__»:=entryFor_of_tree (by kernel_rfl)
theorem Uo {Q:Fin->Shared->Prop} (ht:IsTup s.heap l xs) (hf:(xs.size:Int) < 2 ^ 63)
  (h:∀ tk,Q (.done (.ret (.ref s.heap.objs.size))) { s with heap:=s.heap.push { cls:= .type "reversed",data:= .fields #[.ref l,rawInt ((xs.size:Int) - 1)] },toks:=tk }):
  wpAny (model prog w) A (Builtin.«reversed.__new__» ⟨[.type "reversed", .ref l],[]⟩) Q E s:=by
 have hT:=ht.typeIs (s:=s)
 unfold Builtin.«reversed.__new__»
 refine wpAny_bind (wpAny_of_eq (Qo _) ?_)
 try dsimp only
 refine wpAny_bind (wpAny_of_eq (a:=()) (by first | rfl | kernel_rfl) ?_)
 refine wpAny_bind (wpAny_of_eq (a:=()) (by first | rfl | kernel_rfl) ?_)
 try dsimp only
 refine wpAny_bind (wpAny_specialOf hT Qk ?_)
 try dsimp only
 refine wpAny_bind (m:=(do
   if ← isInstance (.ref l) (.type "dict") then return false
   match ← specialOf (.ref l) "__getitem__" with
   | none=>return false
   | some (.builtin id)=>
    if ["tuple.__getitem__","str.__getitem__","bytes.__getitem__","bytearray.__getitem__","memoryview.__getitem__","numpy.ndarray.__getitem__","sqlite3.Row.__getitem__"].contains id then return true
    if id == "sqlite3.Blob.__getitem__" then return false
    unsupported "reversed.__new__:is-it-a-sequence"
   | some _=>return true)) ?_
 refine wpAny_bind (wpAny_isInstance hT Ql ?_); rw [if_neg (by simp)]
 refine wpAny_bind (wpAny_specialOf hT slot_tuple_getitem.lookup ?_)
 dsimp only
 rw [if_pos (by decide)]
 refine wpAny_pure ?_
 rw [if_neg (by simp)]
 refine wpAny_bind (len_tuple ht hf ?_)
 refine wpAny_bind (wpAny_of_eq (a:=some (xs.size:Int)) rfl ?_)
 dsimp only
 refine wpAny_bind (show wpAny _ _ (newObj (.type "reversed") (.fields #[.ref l,rawInt ((xs.size:Int) - 1)])) _ _ _ from ?_)
 exact wpAny_newObj_type (wpAny_pure (h _)) (by size_fits)
theorem ul:Slot "reversed" "__init__" "object.__init__":=
 .of (owner:="object") (n:="__init__") (by rw [typeLookup_type,builtinLookup_eq_fast]; kernel_rfl) (by decide+kernel) (by decide+kernel) (by decide+kernel)
  (by first | exact .inl (by decide+kernel) | exact .inr (by decide+kernel)) (by rw [isSubtype_type]; kernel_rfl)
theorem um:TypeCalled "reversed" "reversed.__new__" "object.__init__":=
 ⟨by decide+kernel,by decide+kernel,⟨_,_,UT⟩,Yf,by decide+kernel,by rw [isSubtype_type]; kernel_rfl,ul⟩
theorem Up (a:Value):checkTypeCall "reversed" ⟨[a],[]⟩=pure ():=by kernel_rfl
theorem Uq (a:Value):checkBuiltinCall "reversed.__new__" ⟨[.type "reversed",a],[]⟩=pure ():=by kernel_rfl
theorem call_rvT {Q:Value->Shared->Prop} (ht:IsTup s.heap l xs) (hf:(xs.size:Int) < 2 ^ 63)
  (h:∀ tk,Q (.ref s.heap.objs.size) { s with heap:=s.heap.push { cls:= .type "reversed",data:= .fields #[.ref l,rawInt ((xs.size:Int) - 1)] },toks:=tk }):wpAny (model prog w) A (call (.type "reversed") [.ref l]) Q E s:=by
 refine callType_new (S:=fun _ R s=>(∃ xs,IsTup s.heap l xs/\(xs.size:Int) < 2 ^ 63/\∀ tk,R (.ok (.ret (.ref s.heap.objs.size))) { s with heap:=s.heap.push { cls:= .type "reversed",data:= .fields #[.ref l,rawInt ((xs.size:Int) - 1)] },toks:=tk })) um (by decide) (Up _) (Uq _) (fun obj=>PySem.F.args_object_init_2 obj _) uk (.of_wp fun prog w A R s h=> ?_) ⟨xs,ht,hf,fun tk=> ?_⟩
 ·obtain ⟨xs,h1,h2,h3⟩:=h
  exact Uo h1 h2 fun tk=>⟨_,rfl,h3 tk⟩
 ·exact ⟨⟨_,Heap.get?_push_size _ rfl,rfl⟩,h tk⟩
end
end PySem.RV
namespace PySem.RV
open PySem PySem.Spec PyProof.Rows
theorem Ur:typeLookup (.type "list_reverseiterator") "__len__"=pure none:=by rw [typeLookup_type,builtinLookup_eq_fast]; kernel_rfl
theorem Yg:typeLookup (.type "list_reverseiterator") "__length_hint__"=pure (some (.builtin "list_reverseiterator.__length_hint__")):=by rw [typeLookup_type,builtinLookup_eq_fast]; kernel_rfl
section
variable {prog:Program} {w:World} {A:Around} {E:Value->Shared->Prop} {s:Shared} {I:Addr} {fp wr:List Addr} {G:Array GenState->Array GenState->Prop} {n:Nat} {P:Nat->Value->Prop} {St:Nat->Shared->Prop}
theorem Wb {Q:List Value->Shared->Prop} (W:WalksS prog w A.in1 I fp wr G n P St) (hT:∀ i s,St i s->s.TypeIs (.ref I) "list_reverseiterator") (hst:St 0 s) (hfp:∀ b∈fp,b < s.heap.objs.size) (hI:I∈fp)
  (hQ:∀ s' acc,Moved wr G s s' ->ItemsOf P acc n->Q acc.toList s') (hn:n<=sizeLine):wpAny (model prog w) A (collect (.ref I)) Q E s:=by
 have nf:s.heap.objs.size ∉ fp:=fun z=>Nat.lt_irrefl _ (hfp _ z)
 have nI:s.heap.objs.size ≠ I:=fun z=>nf (z ▸ hI)
 unfold collect
 refine wpAny_bind (wpAny_runValue (codeAny_builtin F.entry_proto_collect ?_))
 rw [Around.under_plainId F.plain_proto_collect _]
 refine (show wpAny _ A.in1 (newList [] >>= fun l=>again (.builtin "list.__iadd__" ⟨[l, .ref I],[]⟩)) _ _ s from ?_)
 refine wpAny_bind (wpAny_newObj_type (wpAny_pure ⟨plainId_quiet F.plain_list_iadd _,codeAny_builtin F.entry_list_iadd ?_⟩))
 rw [Around.under_plainId F.plain_list_iadd _]
 have g0:=W.frame 0 s (s.heap.push { cls:= .type "list",data:= .seq ([]:List Value).toArray }) s.toks hst (Nat.le_refl _) fun b _ o e=>Heap.get?_push_of_some _ e
 have g1:(s.heap.push { cls:= .type "list",data:= .seq ([]:List Value).toArray }).get? s.heap.objs.size=some { cls:= .type "list",data:= .seq ([]:List Value).toArray }:=Heap.get?_push_size _ rfl
 have g2:Builtin.List.listSameRef (.ref s.heap.objs.size) (.ref I)=false:=by simp [Builtin.List.listSameRef,nI]
 refine (show wpAny _ A.in1 (Builtin.List.listExtendWith (.ref s.heap.objs.size) (.ref I) (.ref s.heap.objs.size)) _ _ _ from ?_)
 unfold Builtin.List.listExtendWith
 refine wpAny_bind (wpAny_typeOf (hT 0 _ g0) ?_)
 rw [if_neg (by rw [g2]; decide)]
 refine wpAny_bind (W.self 0 _ _ _ g0 (wpAny_bind (wpAny_holding ?_)))
 unfold Builtin.List.listLengthHint
 refine wpAny_bind (wpAny_specialOf (hT 0 _ g0) Ur ?_)
 refine (show wpAny _ A.in1 (specialOf (Value.ref I) (Str.ofString "__length_hint__") >>= _) _ _ _ from ?_)
 refine wpAny_bind (wpAny_specialOf (hT 0 _ g0) Yg ?_)
 generalize hid:("list_reverseiterator.__length_hint__":String)=id0
 wp_delta
 rw [show splitId id0=some ("list_reverseiterator","__length_hint__") from by subst hid; decide+kernel]
 subst hid
 refine wpAny_bind (wpAny_isInstance (b:=true) (hT 0 _ g0) (by rw [isSubtype_type]; kernel_rfl) ?_)
 refine wpAny_pure ?_
 rw [if_neg (by decide)]
 refine wpAny_pure ⟨plainId_quiet F.plain_extend_loop _,codeAny_extend_loopS W hn _ nf _ n 0 _ _ _ rfl (Nat.zero_le _) g0 g1 (ItemsOf.nil P) fun s' acc' c' hm hS' hacc=> ?_⟩
 refine (show wpAny _ A (load s.heap.objs.size >>= _) _ _ s' from ?_)
 exact wpAny_bind (wpAny_load hS' (wpAny_pure (hQ s' acc' (Moved.drop_new (o:={ cls:= .type "list",data:= .seq ([]:List Value).toArray }) (tk:=s.toks) hm (Nat.le_refl _)) hacc)))
theorem Qp {Q₁:Value->Shared->Prop} (W:WalksS prog w A.in1.in1 I fp wr G n P St) (hT:∀ i s,St i s->s.TypeIs (.ref I) "list_reverseiterator") (hst:St 0 s) (hfp:∀ b∈fp,b < s.heap.objs.size) (hI:I∈fp)
  (h:∀ s' acc,Moved wr G s s' ->ItemsOf P acc n->Q₁ (.ref s'.heap.objs.size) { s' with heap:=s'.heap.push { cls:= .type "tuple",data:= .seq acc } }) (hsz:n<=sizeLine):
  codeAny (model prog w) A (.call (.builtin "tuple.__new__") ⟨[.type "tuple", .ref I],[]⟩) (wants Q₁ E) s:=by
 refine codeAny_of_tree ?_
 refine (show wpAny _ A.in1 (do checkBuiltinCall "tuple.__new__" ⟨[.type "tuple", .ref I],[]⟩; again (.builtin "tuple.__new__" ⟨[.type "tuple", .ref I],[]⟩)) _ _ s from ?_)
 refine wpAny_bind (wpAny_of_eq (F.newCall_tuple_1 _) (wpAny_pure ⟨plainId_quiet F.plain_tuple_new _,codeAny_builtin F.entry_tuple_new ?_⟩))
 rw [Around.under_plainId F.plain_tuple_new _]
 have hsub:=sub_tuple_self
 have hinit:=init_tuple_lookup
 have hmh:=madeHere_tuple
 have ty:=hT 0 s hst
 wp_walk using wpAny_typeOf ty,Wb (hn:=hsz) W hT hst hfp hI
 intro s' acc hm hacc
 have e:acc.toList.toArray=acc:=by simp
 refine (show wpAny _ _ (Builtin.Tuple.tupleExact acc.toList.toArray >>= fun v=>ret v) _ _ _ from ?_)
 unfold Builtin.Tuple.tupleExact
 refine wpAny_bind (wpAny_newObj_type (wpAny_pure ?_) (by rw [e]; show acc.size<=sizeLine; rw [hacc.1]; exact hsz))
 rw [e]
 exact h s' acc hm hacc
theorem tuple_lr {Q:Value->Shared->Prop} (W:WalksS prog w A.in1.in1.in1 I fp wr G n P St) (hT:∀ i s,St i s->s.TypeIs (.ref I) "list_reverseiterator") (hst:St 0 s) (hfp:∀ b∈fp,b < s.heap.objs.size) (hI:I∈fp)
  (hQ:∀ s' acc,Moved wr G s s' ->ItemsOf P acc n->Q (.ref s'.heap.objs.size) { s' with heap:=s'.heap.push { cls:= .type "tuple",data:= .seq acc } }) (hsz:n<=sizeLine):
  wpAny (model prog w) A (call (.type "tuple") [.ref I]) Q E s:=
 callType_codes (Q₁:=fun obj s₁=>s₁.TypeIs obj "tuple"/\Q obj s₁) F.called_tuple (F.typeCall_tuple_1 _) F.entry_object_init
  (Qp (hsz:=hsz) W hT hst hfp hI fun s' acc hm hacc=>⟨⟨_,Heap.get?_push_size _ rfl,rfl⟩,hQ s' acc hm hacc⟩) fun obj s₁ h₁=>
   ⟨h₁.1,F.args_object_init_2 obj _,object_init_meets F.called_tuple.init.lookup F.called_tuple.made (by decide) prog w A.in1 _ s₁ ⟨h₁.1,rfl,h₁.2⟩⟩
end
end PySem.RV
namespace PV
open PySem PySem.Spec PyProof.Rows L2
def VZ (K:PySem.W.Frag) (a:Addr) (n:Nat):It:=
 ⟨fun i H=>∃ xs x,SqT K H a xs/\xs.length=n/\xs.reverse[i]? =some x,fun i H x H' =>H' =H/\∀ xs,SqT K H a xs->xs.reverse[i]? =some x,fun i H=>∃ xs,SqT K H a xs/\xs.length=n/\n<=i⟩
def x0 (K:PySem.W.Frag) (a:Addr) (n:Nat):It:=
 ⟨fun i H=>∃ xs x,SqL K H a xs/\xs.length=n/\xs.reverse[i]? =some x,fun i H x H' =>H' =H/\∀ xs,SqL K H a xs->xs.reverse[i]? =some x,fun i H=>∃ xs,SqL K H a xs/\xs.length=n/\n<=i⟩
theorem UU {α:Type} {xs:List α} {i:Nat} {x:α} (h:xs.reverse[i]? =some x):i < xs.length/\xs[xs.length - 1 - i]? =some x:=by
 have hi:=(List.getElem?_eq_some_iff.mp h).1
 rw [List.length_reverse] at hi
 rw [List.getElem?_reverse hi] at h
 exact ⟨hi,h⟩
theorem Us {P:Program} {w:World} {K:PySem.W.Frag} {tg:Expr} (a it:Addr) (n:Nat):Wh P w K tg (VZ K a n) [it] it (fun i h=>i<=n/\RV.IsRv h it (.ref a) ((n:Int) - 1 - (i:Int))) where
 mem:=by simp
 obj:=fun i h st b hb=>by
  have e:b=it:=by simpa using hb
  subst e
  exact ⟨_,st.2,fun v z=>nomatch z⟩
 keep:=fun i h h' st k=>⟨st.1,k it (by simp) _ st.2⟩
 item:=by
  intro X hP hw hK hc i pins s σ H E I hf st hg
  subst hP hw hK
  obtain ⟨xs,x,hq,hn,hx⟩:=hg
  obtain ⟨its,rv,p,hz⟩:=I.tuple hq
  obtain ⟨hi,hx'⟩:=UU hx
  obtain ⟨u,hu,ru⟩:=rv.get hx'
  obtain ⟨f0,f1,f2,f3,f4,f5⟩:=hf it (by simp)
  have hl:=rv.length
  have e:(n:Int) - 1 - (i:Int)=((xs.length - 1 - i:Nat):Int):=by omega
  have hit:=st.2
  rw [e] at hit
  have hb:(its.toArray.size:Int) < 2 ^ 63:=by
   rw [sizeLine_eq] at hz
   simp; omega
  refine RV.next_item hit p hb (x:=u) (by simpa using hu) fun h' tk st' sb=> ?_
  have I1:Inv X pins σ H { s with heap:=h',toks:=tk }:=I.turned (t' :=tk) (fun b o hb e=>(sb.2 b hb).trans e) f0 f1 f3 f4 f5
  have e2:((xs.length - 1 - i:Nat):Int) - 1=(n:Int) - 1 - ((i+1:Nat):Int):=by omega
  rw [e2] at st'
  exact ⟨u,rfl,wQ (s:={ s with heap:=h',toks:=tk }) st' rfl rfl (by decide) ⟨x,H,I1,ru,⟨rfl,fun ys hy=>by rw [I.tuple_inj hy hq]; exact hx⟩,⟨by omega,st'⟩,fun b hb=>(hf b hb).1⟩⟩
 done:=by
  intro X hP hw hK hc i pins s σ H E I hf st hg
  subst hP hw hK
  obtain ⟨xs,hq,hn,hx⟩:=hg
  obtain ⟨f0,f1,f2,f3,f4,f5⟩:=hf it (by simp)
  have hit:=st.2
  have h1:=st.1
  rw [show (n:Int) - 1 - (i:Int)= -1 by omega] at hit
  exact RV.next_end (I.ok.hd hc) hit fun h' eb=>⟨rfl,I.turned (t' :=s.toks) (fun b o hb e=>eb b o hb e) f0 f1 f3 f4 f5⟩
 self:=fun _ _ _ _ _ st h=>RV.iter_rv st.2 h
theorem Ut {P:Program} {w:World} {K:PySem.W.Frag} {tg:Expr} (a it:Addr) (n:Nat):Wh P w K tg (x0 K a n) [it] it (fun i h=>i<=n/\h.IsRevIter it a ((n:Int) - 1 - (i:Int))) where
 mem:=by simp
 obj:=fun i h st b hb=>by
  have e:b=it:=by simpa using hb
  subst e
  obtain ⟨o,e,c,d⟩:=st.2
  exact ⟨o,e,fun v z=>by rw [d] at z; cases z⟩
 keep:=fun i h h' st k=>⟨st.1,st.2.at fun o e=>k it (by simp) o e⟩
 item:=by
  intro X hP hw hK hc i pins s σ H E I hf st hg
  subst hP hw hK
  obtain ⟨xs,x,hq,hn,hx⟩:=hg
  obtain ⟨its,rv,p,hz⟩:=I.list hq
  obtain ⟨hi,hx'⟩:=UU hx
  obtain ⟨u,hu,ru⟩:=rv.get hx'
  obtain ⟨f0,f1,f2,f3,f4,f5⟩:=hf it (by simp)
  have e:(n:Int) - 1 - (i:Int)=((xs.length - 1 - i:Nat):Int):=by omega
  have hit:=st.2
  rw [e] at hit
  refine wpAny_pyNext_rev_item hit p.isList (x:=u) (by simpa using hu) fun h' st' sb=> ?_
  have I1:Inv X pins σ H { s with heap:=h' }:=I.turned (t' :=s.toks) (fun b o hb e=>(sb.2 b hb).trans e) f0 f1 f3 f4 f5
  have e2:((xs.length - 1 - i:Nat):Int) - 1=(n:Int) - 1 - ((i+1:Nat):Int):=by omega
  rw [e2] at st'
  obtain ⟨o,e,c,d⟩:=id st'
  exact ⟨u,rfl,wQ (s:={ s with heap:=h' }) e c d (by decide) ⟨x,H,I1,ru,⟨rfl,fun ys hy=>by rw [I.list_inj hy hq]; exact hx⟩,⟨by omega,st'⟩,fun b hb=>(hf b hb).1⟩⟩
 done:=by
  intro X hP hw hK hc i pins s σ H E I hf st hg
  subst hP hw hK
  obtain ⟨xs,hq,hn,hx⟩:=hg
  obtain ⟨f0,f1,f2,f3,f4,f5⟩:=hf it (by simp)
  have hit:=st.2
  have h1:=st.1
  rw [show (n:Int) - 1 - (i:Int)= -1 by omega] at hit
  exact wpAny_pyNext_rev_end (I.ok.hd hc) hit fun h' eb=>⟨rfl,I.turned (t' :=s.toks) (fun b o hb e=>eb b o hb e) f0 f1 f3 f4 f5⟩
 self:=fun _ _ _ _ _ st h=>wpAny_pyIter_revIter st.2 h
theorem zk.rev {H:Hp}:∀ {vs:List V} {ts:List T},zk H vs ts->zk H vs.reverse ts.reverse
 | _,_, .nil=> .nil
 | _,_, .cons r t=>by rw [List.reverse_cons,List.reverse_cons]; exact (zk.rev t).append (.cons r .nil)
theorem Qq {K:PySem.W.Frag} {B1 H1:Hp} {a:Addr} {xs:List V} {ts:List T} (h:B1 a=some (.tup xs)) (r:zk B1 xs ts):rI B1 H1 (VZ K a xs.length) ts.reverse:=fun B2 H2 s1 s2=>by
 have h2:=s2 _ _ (s1 _ _ h)
 have hr:=r.rev
 refine ⟨fun i hi=> ?_,fun i t x H3 e y=> ?_,fun i hi=>⟨xs,SqT.of h2,rfl,by rw [List.length_reverse] at hi; rw [r.length]; exact hi⟩⟩
 ·obtain ⟨v,e,_⟩:=hr.get (List.getElem?_eq_getElem hi)
  exact ⟨xs,v,SqT.of h2,rfl,e⟩
 ·obtain ⟨rfl,y⟩:=y
  obtain ⟨v,e1,r1⟩:=hr.get e
  have:=y xs (SqT.of h2)
  rw [e1] at this; cases this
  refine ⟨zg.refl _, ?_⟩
  rw [zo.self B2 _ s2]
  exact r1.mono s1
theorem Qr {K:PySem.W.Frag} {B1 H1:Hp} {a:Addr} {xs:List V} {ts:List T} (h:B1 a=some (.lst xs)) (r:zk B1 xs ts):rI B1 H1 (x0 K a xs.length) ts.reverse:=fun B2 H2 s1 s2=>by
 have h2:=s2 _ _ (s1 _ _ h)
 have hr:=r.rev
 refine ⟨fun i hi=> ?_,fun i t x H3 e y=> ?_,fun i hi=>⟨xs,SqL.of h2,rfl,by rw [List.length_reverse] at hi; rw [r.length]; exact hi⟩⟩
 ·obtain ⟨v,e,_⟩:=hr.get (List.getElem?_eq_getElem hi)
  exact ⟨xs,v,SqL.of h2,rfl,e⟩
 ·obtain ⟨rfl,y⟩:=y
  obtain ⟨v,e1,r1⟩:=hr.get e
  have:=y xs (SqL.of h2)
  rw [e1] at this; cases this
  refine ⟨zg.refl _, ?_⟩
  rw [zo.self B2 _ s2]
  exact r1.mono s1
def XR (fa:En->R T):En->R (List T):=fun ρ=>(fa ρ).bind fun t=>(w8 t).bind fun xs=> .ok xs.reverse
def Qs:T->R T
 | .lst xs=>if xs.length<=bnd then .ok (.tup xs.reverse) else .bad
 | _=> .bad
section
variable {X:Cx} {Y:Fx} {a b tg:Expr} {fa fb:En->R T} {pos p p' pos' :Pos}
theorem Qt {ta:TA} (hg:Gl X "reversed") (hm:X.mg "reversed"=none) (ha:PA X [a] ta) (hs:St1 X a:=by exact st1 rfl):
  PI X tg (.Call (.Name "reversed" p) [a] [] pos) (fun σ H R=>ta σ H fun vs H1=>∃ l xs,vs=[.ref l]/\((H1 l=some (.lst xs)/\R (x0 X.K l xs.length) H1)\/(H1 l=some (.tup xs)/\R (VZ X.K l xs.length) H1))):=by
 intro pins s σ H R I h
 refine Call_ (Zi I hg hm boot_reversed (PyProof.Rows.callWith_type1 (thn (ha pos pins s σ H _ I h) fun us s1 ⟨vs,H1,I1,r1,q1⟩=> ?_) hs rfl))
 obtain ⟨l,xs,e,q⟩:=q1
 subst e
 obtain ⟨u,rfl,ru⟩:=zX r1
 obtain rfl:u=Value.ref l:=ru
 have ok:∀ b∈[s1.heap.objs.size],J9 X pins H1 b:=fun b hb=>by
  have e:b=s1.heap.objs.size:=by simpa using hb
  subst e
  exact I1.fpOk (Nat.le_refl _) (I1.hok.fresh (Nat.le_refl _))
 rcases q with ⟨hl,q⟩ | ⟨hl,q⟩
 ·obtain ⟨its,rv,p,hz⟩:=I1.list (SqL.of hl)
  have e:((its.toArray.size:Nat):Int) - 1=(xs.length:Int) - 1 - ((0:Nat):Int):=by have:=rv.length; simp; omega
  refine call_reversed_list p.isList ?_
  rw [e]
  have st:(s1.heap.push (revObj l ((xs.length:Int) - 1 - ((0:Nat):Int)))).IsRevIter s1.heap.objs.size l ((xs.length:Int) - 1 - ((0:Nat):Int)):=⟨_,Heap.get?_push_size _ rfl,rfl,rfl⟩
  refine wpAny_pyIter_revIter (s:={ s1 with heap:=s1.heap.push (revObj l ((xs.length:Int) - 1 - ((0:Nat):Int))) }) st ?_
  exact ⟨s1.heap.objs.size,[s1.heap.objs.size],_,_,H1,rfl,I1.kept (t' :=s1.toks) (fun b o e=>Heap.get?_push_of_some _ e),Ut l _ xs.length,⟨Nat.zero_le _,st⟩,ok,q⟩
 ·obtain ⟨its,rv,p,hz⟩:=I1.tuple (SqT.of hl)
  have hlen:=rv.length
  have e:((its.toArray.size:Nat):Int) - 1=(xs.length:Int) - 1 - ((0:Nat):Int):=by simp; omega
  refine RV.call_rvT p (by rw [sizeLine_eq] at hz; simp; omega) fun tk=> ?_
  rw [e]
  refine RV.iter_rv (s:={ s1 with heap:=_,toks:=tk }) (Heap.get?_push_size _ rfl) ?_
  exact ⟨s1.heap.objs.size,[s1.heap.objs.size],_,_,H1,rfl,I1.kept (t' :=tk) (fun b o e=>Heap.get?_push_of_some _ e),Us l _ xs.length,⟨Nat.zero_le _,Heap.get?_push_size _ rfl⟩,ok,q⟩
theorem x3 (hg:Gl X "reversed") (hm:X.mg "reversed"=none) (ha:Snd X Y a fa) (hs:St1 X a:=by exact st1 rfl):Wl X Y tg (.Call (.Name "reversed" p) [a] [] pos) (XR fa):= .mk fun ρ=>
 PI.imp (Qt hg hm (zj (ha ρ) zw hs) hs) fun σ H R ⟨B,I,q⟩=>step I q fun t v H1 _ s1 r1 I1 q1=>by
  cases r1 with
  | @tup l xs ts h r=>exact ⟨l,xs,rfl, .inr ⟨I1.sB _ _ h,zT I1 (show Po Y rI _ H1 (.ok ts.reverse) R from q1) (Qq h r)⟩⟩
  | @lst l xs ts h r=>exact ⟨l,xs,rfl, .inl ⟨I1.sB _ _ h,zT I1 (show Po Y rI _ H1 (.ok ts.reverse) R from q1) (Qr h r)⟩⟩
  | _=>exact q1.elim
theorem wF:∀ {xs ys:List V} {us ws:List Value},zv xs us->zv ys ws->zv (xs++ys) (us++ws)
 | _,_,_,_, .nil,q=>q
 | _,_,_,_, .cons r t,q=> .cons r (wF t q)
theorem wG:∀ {xs:List V} {us:List Value},zv xs us->zv xs.reverse us.reverse
 | _,_, .nil=> .nil
 | _,_, .cons r t=>by rw [List.reverse_cons,List.reverse_cons]; exact wF (wG t) (.cons r .nil)
theorem Yh {its:List Value} {acc:Array Value} (h:ItemsOf (fun i v=>its.toArray[its.toArray.size - 1 - i]? =some v) acc its.toArray.size):acc.toList=its.reverse:=by
 have h1:acc.size=its.length:=by
  have:=h.1
  simpa using this
 have h2:=h.2
 refine List.ext_getElem? fun i=> ?_
 by_cases hi:i < its.length
 ·have hlt:i < acc.toList.length:=by simp; omega
  have e:=List.getElem?_eq_getElem hlt
  have:=h2 i _ (by rw [← Array.getElem?_toList]; exact e)
  rw [List.getElem?_reverse hi,e,← this]
  simp
 ·rw [List.getElem?_eq_none (by simp; omega),List.getElem?_eq_none (by simp; omega)]
theorem Qu (hh:X.A.handled=none) (gl:Gl X "tuple") (mg:X.mg "tuple"=none) (gl' :Gl X "reversed") (mg' :X.mg "reversed"=none) (ha:Snd X Y a fa) (hs:St1 X a:=by exact st1 rfl) (hs' :St1 X (.Call (.Name "reversed" p') [a] [] pos'):=by exact st1 rfl):
  Snd X Y (.Call (.Name "tuple" p) [.Call (.Name "reversed" p') [a] [] pos'] [] pos) (ap1 Qs fa):= .mk fun ρ=>by
 intro pins s σ H Q I ⟨B,J,q⟩
 have hq:tS Y rC fa ρ σ H (fun v H1=>∃ l xs,v= .ref l/\H1 l=some (.lst xs)/\xs.length<=sizeLine/\∀ t,H1 t=none->Q (.ref t) (upd H1 t (.tup xs.reverse))):=by
  refine step J q fun t v H1 _ s1 r1 I1 q1=> ?_
  cases r1 with
  | @lst l xs ts h r=>
   have q1:Po Y rC _ H1 (if ts.length<=bnd then .ok (.tup ts.reverse) else .bad) Q:=q1
   split at q1
   ·rename_i hb
    exact ⟨l,xs,rfl,I1.sB _ _ h,by rw [r.length]; exact zG hb,fun t ht=>yD I1.sB q1 rfl r.rev ht⟩
   ·exact q1.elim
  | _=>exact q1.elim
 refine wpAny_Call_Name_kw (Zi I gl mg PyProof.Rows.Boot.«tuple» (PyProof.Rows.callWith_type1 (e:= .Call (.Name "reversed" p') [a] [] pos') (rest:=[]) ?_ hs' rfl))
 rw [hs']
 show wpAny _ _ (spliced [(false,eval (.Call (.Name "reversed" p') [a] [] pos') X.env)]) _ _ s
 refine Calls.spliced_cons (wpAny_Call_Name_kw (Zi I gl' mg' boot_reversed (PyProof.Rows.callWith_type1 (e:=a) (rest:=[]) ?_ hs rfl)))
 refine thn ((zj (ha ρ) zw hs) pos' pins s σ H (fun vs H1=>∃ l xs,vs=[.ref l]/\H1 l=some (.lst xs)/\xs.length<=sizeLine/\∀ t,H1 t=none->Q (.ref t) (upd H1 t (.tup xs.reverse))) I ?_) fun us s1 ⟨vs,H1,I1,r1,l,xs,e,hl,hz,q1⟩=> ?_
 ·obtain ⟨B',J',q'⟩:=hq
  refine ⟨B',J', ?_⟩
  revert q'
  cases fa ρ with
  | bad=>exact fun q' =>q'
  | ex c=>exact fun q' =>q'
  | ok t=>
   intro q' v H1 s1 r1
   obtain ⟨l,xs,rfl,h⟩:=q' v H1 s1 r1
   exact ⟨l,xs,rfl,h⟩
 subst e
 obtain ⟨u,rfl,ru⟩:=zX r1
 obtain rfl:u=Value.ref l:=ru
 obtain ⟨its,rv,pl,_⟩:=I1.list (SqL.of hl)
 have hlt:l < s1.heap.objs.size:=I1.hok.lt hl
 refine call_reversed_list pl.isList (Calls.spliced_nil ?_)
 have e0:((its.toArray.size:Nat):Int) - 1 - ((0:Nat):Int)=((its.toArray.size:Nat):Int) - 1:=by omega
 refine RV.tuple_lr (s:={ s1 with heap:=s1.heap.push (revObj l ((its.toArray.size:Int) - 1)) }) (Walks.listRev (A:=X.A.in1.in1.in1) hh s1.heap.objs.size l (Nat.ne_of_lt hlt) its.toArray).toS (fun i s st=>st.2.1.typeIs) ⟨Nat.zero_le _,⟨_,Heap.get?_push_size _ rfl,rfl,by rw [e0]; rfl⟩,pl.isList.push _⟩ (fun b hb=> ?_) (by simp) (fun s' acc hm hacc=> ?_) (by rw [List.size_toArray,← rv.length]; exact hz)
 ·have hb:b=s1.heap.objs.size\/b=l:=by simpa using hb
  rcases hb with rfl | rfl
  ·rw [Heap.size_push]; exact Nat.lt_succ_self _
  ·rw [Heap.size_push]; exact Nat.lt_succ_of_lt hlt
 obtain ⟨h',g',d',tk',os'⟩:=s'
 have e1:g' =s1.gens:=hm.gens
 have e2:d' =s1.drawn:=hm.drawn
 have e3:os' =s1.os:=hm.os
 subst e1 e2 e3
 have kp:∀ b o,s1.heap.get? b=some o->h'.get? b=some o:=fun b o e=>hm.heap b o (fun z=>by
  have z:b=s1.heap.objs.size:=by simpa using z
  have:=Heap.lt_size e
  rw [z] at this
  exact Nat.lt_irrefl _ this) (Heap.get?_push_of_some _ e)
 have I2:Inv X pins σ H1 { s1 with heap:=h',toks:=tk' }:=I1.kept (t' :=tk') kp
 have ea:acc=its.reverse.toArray:=by rw [← Yh hacc]
 rw [ea]
 refine ⟨.ref h'.objs.size,upd H1 h'.objs.size (.tup xs.reverse),I2.laid (t' :=tk') (fun b u e=>Heap.get?_push_of_some _ e) (Nat.le_refl _) ⟨by rw [List.length_reverse]; exact hz,its.reverse,wG rv,⟨_,Heap.get?_push_size _ rfl,rfl,_,rfl⟩, .inr ⟨_,Heap.get?_push_size _ rfl,rfl⟩⟩,rfl,q1 _ (I2.hok.fresh (Nat.le_refl _))⟩
end
def Wc:List T->Option Bool
 | []=>some false
 | .bl k :: r=>match Wc r with | some j=>some (k || j) | none=>none
 | _ :: _=>none
def XS:T->R T
 | .lst ts=>match Wc ts with | some k=> .ok (.bl k) | none=> .bad
 | _=> .bad
theorem uo:∀ {H:Hp} {xs:List V} {ts:List T} {its:List Value} {k:Bool},zk H xs ts->zv xs its->Wc ts=some k->∃ tr:Nat->Bool,(∀ i v,its[i]? =some v->v=Value.bool (tr i))/\(List.range its.length).any tr=k
 | _,_,_,_,k, .nil, .nil,h=>by
  have h' :some false=some k:=h
  cases h'
  exact ⟨fun _=>true,fun i v e=>by simp at e,rfl⟩
 | H,_,_,_,k, .cons (v:=x) (t:=t) r rs, .cons (b:=u) rv vs,h=>by
  cases r with
  | bl b=>
   unfold Wc at h
   split at h
   ·rename_i j e
    cases h
    obtain ⟨tr,h1,h2⟩:=uo rs vs e
    obtain rfl:u=Value.bool b:=rv
    refine ⟨fun i=>match i with | 0=>b | i+1=>tr i,fun i v e=> ?_, ?_⟩
    ·cases i with
     | zero=>simp at e; exact e.symm
     | succ i=>exact h1 i v (by simpa using e)
    ·rw [List.length_cons,List.range_succ_eq_map,List.any_cons,List.any_map,← h2]
     rfl
   ·cases h
  | _=>cases h
section
variable {X:Cx} {Y:Fx} {a b:Expr} {fa fb:En->R T} {pos p p' pos' pt:Pos} {elts:List Expr} {kk:Nat}
theorem uq (hh:X.A.handled=none):Z4 X (.builtin "any") (fun vs H Q=>∃ l xs ts k,vs=[.ref l]/\H l=some (.lst xs)/\zk H xs ts/\Wc ts=some k/\Q (.bl k) H):=by
 intro pins s σ H vs us Q I rv h
 obtain ⟨l,xs,ts,k,rfl,hl,r,hk,q⟩:=h
 obtain ⟨u,rfl,ru⟩:=zX rv
 obtain rfl:u=Value.ref l:=ru
 obtain ⟨its,rv,p,_⟩:=zy I (.inl hl) r
 obtain ⟨tr,h1,h2⟩:=uo r rv hk
 refine call_any_walk (wpAny_pyIter_list p ?_)
 have hlt:l < s.heap.objs.size:=I.hok.lt hl
 have old:∀ b o,s.heap.get? b=some o->(s.heap.push { cls:= .type "list_iterator",data:= .fields #[.ref l, .int 0 0] }).get? b=some o:=fun b o e=>Heap.get?_push_of_some _ e
 refine ⟨s.heap.objs.size,_,_,_,_,_,tr,rfl,Walks.list (A:=X.A.in1) hh s.heap.objs.size l (Nat.ne_of_lt hlt) its.toArray, ?_, ?_,fun h' tk hk' => ?_⟩
 ·refine ⟨?_,p.at fun o e=>old _ o e⟩
  exact ⟨_,Heap.get?_push_size _ rfl,rfl,rfl⟩
 ·intro i v s' Q' E' hi hq
  rw [h1 i v (by simpa using hi)]
  exact wpAny_truthy_bool hq
 ·rw [List.size_toArray,h2]
  refine ⟨.bl k,H,I.kept (t' :=tk) (fun b o e=>hk' b o ?_ (old b o e)),rfl,q⟩
  simp
  exact Nat.ne_of_lt (Heap.lt_size e)
theorem x4 (hh:X.A.handled=none) (gl:Gl X "any") (mg:X.mg "any"=none) (ha:Zf X Y a fa) (hs:St1 X a:=by exact st1 rfl):Snd X Y (.Call (.Name "any" p) [a] [] pos) (ap1 XS fa):=
 wv (uq hh) (fun v t B H Q r sB q=>by
  cases r with
  | @lst l xs ts h r=>
   have q:Po Y rC B H (match Wc ts with | some k=> .ok (.bl k) | none=> .bad) Q:=q
   split at q
   ·rename_i k e
    exact ⟨l,xs,ts,k,rfl,h,r,e,po0 sB q rfl (.bl k)⟩
   ·exact q.elim
  | _=>exact q.elim) gl mg PyProof.Rows.Boot.«any» ha hs
end
section
variable {X:Cx} {Y:Fx} {a b:Expr} {fa fb:En->R T} {pos p p' pos' pt:Pos} {elts:List Expr} {kk:Nat}
end
end PV
namespace PySem.RV
open PySem PySem.Spec PyProof.Rows PySem.Builtin.SmallTypes
theorem draws_tup {prog:Program} {w:World} {A:Around} (hh:A.handled=none) (it l:Addr) (hne:l ≠ it) (items:Array Value):Draws prog w A it [it,l] items.size (fun i v=>items[i]? =some v) (fun i h=>h.IsTupleIter it l i/\h.IsTuple l items) where
 live:=fun i h st=>(ZG.nx_tup hne items).there st it (.head _)
 frame:=fun i h h' st hk=>(ZG.nx_tup hne items).keep st hk
 item:=fun i s Q E hi st hQ=>ZG.tup_item st.1 st.2 (x:=items[i]) (by simp [hi]) fun h' a b=>hQ _ h' s.toks (by simp [hi]) ⟨a,st.2.extBut b.extBut hne⟩ b
 done:=fun s Q E st hE=>ZG.tup_stop hh st.1 st.2 (by simp) hE
abbrev eOb (i:Addr):Obj:={ cls:= .type "enumerate",data:= .fields #[.none, .bool false, .ref i,rawInt 0, .none, .none] }
theorem ur (l:Addr) (items:Array Value) (n:Nat) (dct:Option Addr) (sl:Array (Option Value)):
  Meets (Builtin.«enumerate.__new__» ⟨[.type "enumerate", .ref l],[]⟩) (fun _ R s=>s.heap.get? l=some { cls:= .type "tuple",dict:=dct,data:= .seq items n,slots:=sl }/\
   R (.ok (.ret (.ref (s.heap.push (ZG.oT l)).objs.size))) { s with heap:=(s.heap.push (ZG.oT l)).push (eOb s.heap.objs.size) }):=
 .of_wp fun prog w A R s h=>by
  obtain ⟨hp,g,d,tk,os⟩:=s
  obtain ⟨hl,h⟩:=h
  have hsub:=sub_enumerate
  have hL:Heap.IsTuple (Shared.heap ⟨hp,g,d,tk,os⟩) l items:=⟨_,hl,rfl,n,rfl⟩
  wp_walk using PySem.AutoSeq1.wpAny_loadPart' hl
  refine wpAny_stack_any fun st=>wpAny_pure ?_
  split
  ·rename_i c _ _ _ _ _
   cases (c == Value.type "enumerate") <;> (wp_walk using PySem.AutoSeq1.wpAny_loadPart' hl,wpAny_pyIter_tuple hL; exact ⟨_,rfl,h⟩)
  ·wp_walk using PySem.AutoSeq1.wpAny_loadPart' hl,wpAny_pyIter_tuple hL
   exact ⟨_,rfl,h⟩
theorem enum_callT {prog:Program} {w:World} {A:Around} {E:Value->Shared->Prop} {s:Shared} {l:Addr} {items:Array Value} {Q:Value->Shared->Prop} (hL:s.heap.IsTuple l items)
  (h:∀ h',IsEnum h' (s.heap.objs.size+1) s.heap.objs.size 0 .none->h'.IsTupleIter s.heap.objs.size l 0->(∀ b o,s.heap.get? b=some o->h'.get? b=some o)->Q (.ref (s.heap.objs.size+1)) { s with heap:=h' }):
  wpAny (model prog w) A (call (.type "enumerate") [.ref l]) Q E s:=by
 obtain ⟨⟨c,dct,dt,sl⟩,hl,hc,n,hd⟩:=hL
 obtain rfl:c= .type "tuple":=hc
 obtain rfl:dt= .seq items n:=hd
 refine callType_new F.called_enumerate (by decide) (F.typeCall_enumerate_1 _) (F.newCall_enumerate_1 _) (fun obj=>F.args_object_init_2 obj _) F.entry_enumerate_new (ur l items n dct sl) ⟨hl, ?_⟩
 have hz:(s.heap.push (ZG.oT l)).objs.size=s.heap.objs.size+1:=Heap.size_push ..
 have e1:((s.heap.push (ZG.oT l)).push (eOb s.heap.objs.size)).get? (s.heap.push (ZG.oT l)).objs.size=some _:=Heap.get?_push_size _ rfl
 rw [hz] at e1
 refine (show _/\_ from ?_)
 rw [hz]
 exact ⟨⟨_,e1,rfl⟩,h _ e1 ⟨_,Heap.get?_push_of_some _ (Heap.get?_push_size _ rfl),rfl,rfl⟩ fun b o x=>Heap.get?_push_of_some _ (Heap.get?_push_of_some _ x)⟩
end PySem.RV
namespace PV
open PySem PySem.Spec PyProof.Rows L2
def x5 (K:PySem.W.Frag) (l:Addr) (n:Nat):It:=
 ⟨fun i H=>∃ xs x,SqT K H l xs/\xs.length=n/\xs[i]? =some x,fun i H v H' =>∃ p x,H p=none/\v= .ref p/\(∀ xs,SqT K H l xs->xs[i]? =some x)/\H' =upd H p (.tup [.int i,x]),fun i H=>∃ xs,SqT K H l xs/\xs.length=n/\n<=i⟩
theorem Wd {P:Program} {w:World} {K:PySem.W.Frag} {elts:List Expr} {kk:Nat} {pt:Pos} (e it l:Addr) (n:Nat) (hei:e ≠ it) (hle:l ≠ e) (hli:l ≠ it):
  Wh P w K (.Tuple elts kk pt) (x5 K l n) [e,it] e (fun i h=>i<=n/\(∃ old,IsEnum h e it i old)/\h.IsTupleIter it l i) where
 mem:=by simp
 obj:=fun i h st b hb=>by
  obtain ⟨_,⟨old,he⟩,o,e1,c,d⟩:=st
  rcases List.mem_cons.mp hb with rfl | hb
  ·exact ⟨_,he,fun v z=>nomatch z⟩
  ·have z:b=it:=by simpa using hb
   subst z
   exact ⟨o,e1,fun v z=>by rw [d] at z; cases z⟩
 keep:=fun i h h' st k=>by
  obtain ⟨hn,⟨old,he⟩,o,e1,r⟩:=st
  exact ⟨hn,⟨old,k e (by simp) _ he⟩,o,k it (by simp) o e1,r⟩
 item:=by
  intro X hP hw hK hc i pins s σ H E I hf st hg
  subst hP hw hK
  obtain ⟨xs,x,hq,hxn,hx⟩:=hg
  obtain ⟨its,rv,p,hz⟩:=I.tuple hq
  obtain ⟨u,hu,ru⟩:=rv.get hx
  obtain ⟨hin,⟨old,he⟩,hit⟩:=st
  have hi:i < its.toArray.size:=by
   have:=(List.getElem?_eq_some_iff.mp hu).1
   simpa using this
  have D:=RV.draws_tup (prog:=X.prog) (w:=X.w) (A:=X.A.in1) (I.ok.hd hc) it l hli its.toArray
  have hef:e ∉ [it,l]:=fun z=>by
   rcases List.mem_cons.mp z with z | z
   ·exact hei z
   ·exact hle (List.mem_singleton.mp z).symm
  have WE:=WalksT.enumerateD D e hei hef (.head _)
  refine WE.item i s _ _ hi ⟨⟨old,he⟩,hit,p⟩ fun T vals h' tk hP hT hTup hM hk=> ?_
  obtain ⟨t,y,hy,rfl⟩:=hP
  have hyu:y=u:=by
   have:its[i]? =some y:=by simpa using hy
   rw [hu] at this; exact (Option.some.inj this).symm
  subst hyu
  refine ⟨.ref T,rfl, ?_⟩
  refine WE.go elts kk pt i T _ _ _ hM fun h2 hst2 hk2=> ?_
  have hTn:H T=none:=I.hok.fresh hT
  have hTne:∀ b∈[e,it],b ≠ T:=fun b hb z=>by
   obtain ⟨_,_,h3,h4⟩:=hM
   rcases List.mem_cons.mp hb with rfl | hb
   ·exact h3 z.symm
   ·have:b=it:=by simpa using hb
    subst this; exact h4 z.symm
  have tup2:IsTup h2 T #[.int i t,y]:=by
   obtain ⟨o,eo,r⟩:=hTup
   exact ⟨o,hk2 T o (fun hb=>hTne T hb rfl) eo,r⟩
  refine ⟨.ref T,upd H T (.tup [.int i,x]),Inv.laidT (s:=s) (h' :=h2) (ch:=[e,it]) (tk:=tk) I hf (fun b o hb e=>hk2 b o hb (hk b o hb e)) (fun b o hb _=> ?_) hT ⟨by rw [sizeLine_eq]; show 2<=16777216; decide,[.int i t,y], .cons ⟨t,rfl⟩ (.cons ru .nil),tup2, .inl ⟨_,_,rfl⟩⟩,rfl,⟨T,x,hTn,rfl,fun ys hy=>by rw [I.tuple_inj hy hq]; exact hx,rfl⟩,⟨by have:=(List.getElem?_eq_some_iff.mp hx).1; omega,hst2.1,hst2.2.1⟩,fun b hb=> ?_⟩
  ·obtain ⟨⟨old2,he2⟩,⟨o2,eo2,_⟩,_⟩:=hst2
   rcases List.mem_cons.mp hb with rfl | hb
   ·exact ⟨_,he2⟩
   ·have:b=it:=by simpa using hb
    subst this; exact ⟨o2,eo2⟩
  ·rw [zd (hTne b hb)]; exact (hf b hb).1
 done:=by
  intro X hP hw hK hc i pins s σ H E I hf st hg
  subst hP hw hK
  obtain ⟨xs,hq,hxn,hx⟩:=hg
  obtain ⟨its,rv,p,hz⟩:=I.tuple hq
  obtain ⟨hin,⟨old,he⟩,hit⟩:=st
  have hl:=rv.length
  have D:=RV.draws_tup (prog:=X.prog) (w:=X.w) (A:=X.A.in1) (I.ok.hd hc) it l hli its.toArray
  have hn:its.toArray.size=i:=by simp; omega
  refine wpAny_pyNext_enum_endD D he (by rw [hn]; exact ⟨hit,p⟩) fun h' hk=>⟨rfl, ?_⟩
  obtain ⟨f0,f1,f2,f3,f4,f5⟩:=hf it (by simp)
  exact I.turned (t' :=s.toks) (fun b o hb e=>hk b o hb e) f0 f1 f3 f4 f5
 self:=fun _ _ _ _ _ st h=>let ⟨_,⟨_,he⟩,_⟩:=st; wpAny_pyIter_enum he h
theorem Uu {K:PySem.W.Frag} {B1 H1:Hp} {a:Addr} {xs:List V} {ts:List T} (h:B1 a=some (.tup xs)) (r:zk B1 xs ts):rI B1 H1 (x5 K a xs.length) (ZX ts):=fun B2 H2 s1 s2=>by
 have h2:=s2 _ _ (s1 _ _ h)
 rw [ZR]
 refine ⟨fun i hi=> ?_,fun i t x H3 e y=> ?_,fun i hi=>⟨xs,SqT.of h2,rfl,by rw [r.length]; exact hi⟩⟩
 ·obtain ⟨v,e,_⟩:=r.get (List.getElem?_eq_getElem hi)
  exact ⟨xs,v,SqT.of h2,rfl,e⟩
 ·obtain ⟨p,v,hp,rfl,y,rfl⟩:=y
  obtain ⟨t',et,rfl⟩:=Ju e
  obtain ⟨v',e1,r1⟩:=r.get et
  have:=y xs (SqT.of h2)
  rw [e1] at this; cases this
  refine ⟨zg.new hp _, .tup (Zn hp _) (.cons (.int _) (.cons ?_ .nil))⟩
  exact (r1.mono s1).mono (zo.ge s2 (zg.new hp _))
def UV (fa:En->R T):En->R (List T):=fun ρ=>(fa ρ).bind fun t=>match t with
 | .tup xs=> .ok (ZX xs)
 | _=> .bad
section
variable {X:Cx} {Y:Fx} {a:Expr} {fa:En->R T} {pos p pt:Pos} {elts:List Expr} {kk:Nat}
theorem Uv {ta:TA} (hg:Gl X "enumerate") (hm:X.mg "enumerate"=none) (ha:PA X [a] ta) (hs:St1 X a:=by exact st1 rfl):
  PI X (.Tuple elts kk pt) (.Call (.Name "enumerate" p) [a] [] pos) (fun σ H R=>ta σ H fun vs H1=>∃ l xs,vs=[.ref l]/\H1 l=some (.tup xs)/\R (x5 X.K l xs.length) H1):=by
 intro pins s σ H R I h
 refine Call_ (Zi I hg hm PyProof.Rows.Boot.«enumerate» (PyProof.Rows.callWith_type1 (thn (ha pos pins s σ H _ I h) fun us s1 ⟨vs,H1,I1,r1,q1⟩=> ?_) hs rfl))
 obtain ⟨l,xs,e,hl,q⟩:=q1
 subst e
 obtain ⟨u,rfl,ru⟩:=zX r1
 obtain rfl:u=Value.ref l:=ru
 obtain ⟨its,rv,pl,hz⟩:=I1.tuple (SqT.of hl)
 have hlt:l < s1.heap.objs.size:=I1.hok.lt hl
 refine RV.enum_callT (show s1.heap.IsTuple l its.toArray from pl) fun h' he hit hk=>wpAny_pyIter_enum he ?_
 have f:∀ b∈[s1.heap.objs.size+1,s1.heap.objs.size],J9 X pins H1 b:=fun b hb=>by
  rcases List.mem_cons.mp hb with rfl | hb
  ·exact I1.fpOk (Nat.le_succ _) (I1.hok.fresh (Nat.le_succ _))
  ·have z:b=s1.heap.objs.size:=by simpa using hb
   subst z
   exact I1.fpOk (Nat.le_refl _) (I1.hok.fresh (Nat.le_refl _))
 exact ⟨s1.heap.objs.size+1,[s1.heap.objs.size+1,s1.heap.objs.size],_,_,H1,rfl,I1.kept (t' :=s1.toks) hk,Wd _ _ l xs.length (Nat.succ_ne_self _) (Nat.ne_of_lt (Nat.lt_succ_of_lt hlt)) (Nat.ne_of_lt hlt),⟨Nat.zero_le _,⟨_,he⟩,hit⟩,f,q⟩
theorem Yi (hg:Gl X "enumerate") (hm:X.mg "enumerate"=none) (ha:Snd X Y a fa) (hs:St1 X a:=by exact st1 rfl):Wl X Y (.Tuple elts kk pt) (.Call (.Name "enumerate" p) [a] [] pos) (UV fa):= .mk fun ρ=>
 PI.imp (Uv hg hm (zj (ha ρ) zw hs) hs) fun σ H R ⟨B,I,q⟩=>step I q fun t v H1 _ s1 r1 I1 q1=>by
  cases r1 with
  | @tup l xs ts h r=>exact ⟨l,xs,rfl,I1.sB _ _ h,zT I1 (show Po Y rI _ H1 (.ok (ZX ts)) R from q1) (Uu h r)⟩
  | _=>exact q1.elim
end
end PV
namespace PySem.RW37
open PySem PySem.Spec PyProof.Rows L2
section
variable {X:Cx} {pos:Pos}
end
end PySem.RW37
namespace PV
open PySem PySem.Spec PyProof.Rows L2 PySem.RW37
section
variable {X:Cx} {Y:Fx} {pos:Pos} {a b c:Expr}
end
end PV
namespace PV
open PySem PySem.Spec PyProof.Rows L2
section
variable {X:Cx} {Y:Fx} {a b:Expr} {fa fb:En->R T} {pos p p' pos' pt:Pos} {elts:List Expr} {kk:Nat}
end
section
variable {X:Cx} {Y:Fx} {tg iter elt:Expr} {ifs:List Expr} {scope:Scope} {pos pos' :Pos} {N' :List Str} {k:Nat} {js:List Nat} {fi:En->R (List T)} {tG:TG} {g:T->En->R En} {ft:En->R Bool} {fe:En->R T}
end
section
variable {prog:Program} {w:World} {A:Around} {R:Result->Shared->Prop} {I:Addr} {fp wr:List Addr} {n:Nat} {P:Nat->Value->Prop} {St:Nat->Heap->Prop}
end
section
variable {prog:Program} {w:World} {A:Around} {E:Value->Shared->Prop} {s:Shared} {l:Addr} {xs:Array (Int×Tok)}
end
section
variable {X:Cx} {Y:Fx} {a b:Expr} {fa fb:En->R T} {pos p p' pos' pt kp:Pos} {elts:List Expr} {kk:Nat}
end
section
variable {prog:Program} {w:World} {K:Type} [DecidableEq K] {knd:KeyKind prog w K} {A:Around} {E:Value->Shared->Prop} {s:Shared}
end
section
variable {prog:Program} {w:World} {A:Around} {E:Value->Shared->Prop} {s:Shared} {I S:Addr} {i ep j:Nat} {o:Obj} {es:Array (Int×Value)} {t:SetTable}
end
section
variable {prog:Program} {w:World} {A:Around} {E:Value->Shared->Prop} {s:Shared} {I S P:Addr} {i ep j:Nat} {es:Array (Int×Value)} {t:SetTable}
end
section
variable {prog:Program} {w:World} {A:Around} {E:Value->Shared->Prop} {s:Shared} {S:Addr} {ep:Nat} {es:Array (Int×Value)} {t:SetTable}
end
section
variable {prog:Program} {w:World} {A:Around} {E:Value->Shared->Prop} {s:Shared} {S:Addr}
end
section
variable {prog:Program} {w:World} {A:Around} {R:Result->Shared->Prop} {I:Addr} {fp wr:List Addr} {n:Nat} {P:Nat->Value->Prop} {St:Nat->Heap->Prop}
end
section
variable {prog:Program} {w:World} {A:Around} {E:Value->Shared->Prop} {s:Shared}
end
section
variable {prog:Program} {w:World} {A:Around} {E:Value->Shared->Prop} {s:Shared} {S:Addr}
end
section
variable {X:Cx} {Y:Fx} {a b:Expr} {fa fb:En->R T} {pos pos' p p' :Pos}
end
section
variable {X:Cx} {Y:Fx} {a b:Expr} {fa fb:En->R T} {pos:Pos}
end
section
variable {X:Cx} {Y:Fx} {a b:Expr} {fa fb:En->R T} {pos:Pos}
end
section
variable {prog:Program} {w:World} {A:Around} {E:Value->Shared->Prop} {s:Shared}
end
section
variable {prog:Program} {w:World} {A:Around} {E:Value->Shared->Prop} {s:Shared}
end
section
variable {prog:Program} {w:World} {A:Around} {R:Result->Shared->Prop} {I:Addr} {fp wr:List Addr} {n:Nat} {P:Nat->Value->Prop} {St:Nat->Heap->Prop}
end
section
variable {prog:Program} {w:World} {A:Around} {E:Value->Shared->Prop} {s:Shared}
end
section
variable {X:Cx} {Y:Fx} {a b:Expr} {fa fb:En->R T} {pos pos' p p' :Pos}
end
section
variable {X:Cx} {Y:Fx} {a:Expr} {fa:En->R T} {pos pos' p p' :Pos}
end
section
variable {X:Cx} {Y:Fx} {a b:Expr} {fa fb:En->R T} {pos:Pos}
end
section
variable {X:Cx} {Y:Fx} {a:Expr} {fa:En->R T} {pos p2 p3 p4:Pos} {kc:Nat}
end
end PV
namespace PySem.RV
open PySem PySem.Spec PyProof.Rows PySem.Builtin.SmallTypes
section
variable {prog:Program} {w:World} {A:Around} {E:Value->Shared->Prop} {s:Shared} {I l:Addr} {xs:Array Value}
end
end PySem.RV
namespace PV
open PySem PySem.Spec PyProof.Rows L2
section
variable {X:Cx} {Y:Fx} {a:Expr} {fa:En->R T} {pos p p' pos' :Pos}
end
def YL (t t' :T):R Bool:=match t,t' with
 | .str x, .str y=> .ok (Txt.contains y x)
 | _,_=> .bad
theorem Qv:Nx YL:=fun t t' c h=>by
 unfold YL at h
 split at h <;> cases h
section
variable {X:Cx} {Y:Fx} {a b c:Expr} {fa fb fc:En->R T} {pos p:Pos}
theorem Yj:OpR X (compareOp .In) (jT YL):=by
 intro pins s σ H x y v u Q I rx ry h
 obtain ⟨t,t',k,r,r',e,q⟩:=h
 unfold YL at e
 split at e
 ·cases e
  cases r; cases r'
  obtain ⟨t1,rfl⟩:=rx
  obtain ⟨t2,rfl⟩:=ry
  exact P.in_str ⟨.bl _,H,I,rfl,q⟩
 ·cases e
def smE (g:Str->T->R T) (fa fb:En->R T):En->R T:=fun ρ=>(fa ρ).bind fun t=>match t with
 | .str x=>(fb ρ).bind fun u=>g x u
 | _=> .bad
def Qw (x:Str):T->R T
 | .str y=> .ok (.bl (Txt.startswith x y))
 | _=> .bad
def x6 (x:Str):T->R T
 | .str y=> .ok (.bl (Txt.endswith x y))
 | _=> .bad
def XT (x:Str):T->R T
 | .str y=>if x.length<=bnd/\(y.length == 0)=false then .ok (.tup [.str (Txt.partition x y).1, .str (Txt.partition x y).2.1, .str (Txt.partition x y).2.2]) else .bad
 | _=> .bad
def XU (x:Str):T->R T
 | .str y=>if x.length<=bnd/\(y.length == 0)=false then .ok (.tup [.str (Txt.rpartition x y).1, .str (Txt.rpartition x y).2.1, .str (Txt.rpartition x y).2.2]) else .bad
 | _=> .bad
def x8 (x:Str):T->R T
 | .str y=>if x.length<=1000/\(y.length == 0)=false then .ok (.lst ((Txt.split x y).map T.str)) else .bad
 | _=> .bad
def Qx (fa fb fc:En->R T):En->R T:=fun ρ=>(fa ρ).bind fun t=>match t with
 | .str x=>(fb ρ).bind fun u=>(fc ρ).bind fun w=>match u,w with
  | .str y, .int i=> .ok (.bl (Txt.startswith3 x y i))
  | _,_=> .bad
 | _=> .bad
theorem UW:MtR X "str.startswith" (fun x xs H Q=>(∃ z y,x= .str z/\xs=[.str y]/\Q (.bl (Txt.startswith z y)) H)\/∃ z y i,x= .str z/\xs=[.str y, .int i]/\Q (.bl (Txt.startswith3 z y i)) H):=by
 intro pins s σ H x xs v us Q I rx rv h
 rcases h with ⟨z,y,rfl,rfl,q⟩ | ⟨z,y,i,rfl,rfl,q⟩
 ·obtain ⟨t,rfl⟩:=rx
  obtain ⟨u,rfl,ru⟩:=zX rv
  obtain ⟨t2,rfl⟩:=ru
  exact call_gives F.slot_str_startswith (typeIs_str _ _ _) F.entry_str_startswith (F.args_str_startswith_2 _ _) (gives_str_startswith z y t t2) ⟨.bl _,H,I,rfl,q⟩
 ·obtain ⟨t,rfl⟩:=rx
  obtain ⟨u,u3,rfl,ru,r3⟩:=uZ rv
  obtain ⟨t2,rfl⟩:=ru
  obtain ⟨t3,rfl⟩:=r3
  refine SC.startswith3 ?_
  exact ⟨.bl _,H,I,rfl,q⟩
theorem Qy:MtR X "str.endswith" (fun x xs H Q=>∃ z y,x= .str z/\xs=[.str y]/\Q (.bl (Txt.endswith z y)) H):=by
 intro pins s σ H x xs v us Q I rx rv h
 obtain ⟨z,y,rfl,rfl,q⟩:=h
 obtain ⟨t,rfl⟩:=rx
 obtain ⟨u,rfl,ru⟩:=zX rv
 obtain ⟨t2,rfl⟩:=ru
 exact call_gives F.slot_str_endswith (typeIs_str _ _ _) F.entry_str_endswith (F.args_str_endswith_2 _ _) (gives_str_endswith z y t t2) ⟨.bl _,H,I,rfl,q⟩
theorem Zw {pins:List (Addr×Obj)} {s:Shared} {σ:L2.St} {H:Hp} (I:Inv X pins σ H s) (x y z:Str) (t1 t2 t3:Tok) (k:Nat) {Q:VK} (q:∀ p,H p=none->Q (.ref p) (upd H p (.tup [.str x, .str y, .str z]))):
  EP X pins σ Q (.ref s.heap.objs.size) { s with heap:=s.heap.push { cls:= .type "tuple",data:= .seq [.str x t1, .str y t2, .str z t3].toArray },toks:=k }:=
 ⟨.ref s.heap.objs.size,upd H s.heap.objs.size (.tup [.str x, .str y, .str z]),I.laid (t' :=k) (fun b u e=>Heap.get?_push_of_some _ e) (Nat.le_refl _) ⟨by rw [sizeLine_eq]; show 3<=16777216; decide,[.str x t1, .str y t2, .str z t3], .cons ⟨_,rfl⟩ (.cons ⟨_,rfl⟩ (.cons ⟨_,rfl⟩ .nil)),⟨_,Heap.get?_push_size _ rfl,rfl,_,rfl⟩, .inr ⟨_,Heap.get?_push_size _ rfl,rfl⟩⟩,rfl,q _ (I.hok.fresh (Nat.le_refl _))⟩
theorem Qz:MtR X "str.partition" (fun x xs H Q=>∃ z y,x= .str z/\xs=[.str y]/\z.length<=bnd/\(y.length == 0)=false/\∀ p,H p=none->Q (.ref p) (upd H p (.tup [.str (Txt.partition z y).1, .str (Txt.partition z y).2.1, .str (Txt.partition z y).2.2]))):=by
 intro pins s σ H x xs v us Q I rx rv h
 obtain ⟨z,y,rfl,rfl,hz,hy,q⟩:=h
 obtain ⟨t,rfl⟩:=rx
 obtain ⟨u,rfl,ru⟩:=zX rv
 obtain ⟨t2,rfl⟩:=ru
 refine call_meets F.slot_str_partition (typeIs_str _ _ _) F.entry_str_partition (F.args_str_partition_2 _ _) (meets_str_partition z y t t2 hy (zG hz)) ?_
 unfold Txt.partition at q
 revert q
 cases Builtin.Str.occurrences z y 0 z.length 1 with
 | nil=>exact fun q=>Zw I _ _ _ _ _ _ _ q
 | cons i r=>exact fun q=>Zw I _ _ _ _ _ _ _ q
theorem QA:MtR X "str.rpartition" (fun x xs H Q=>∃ z y,x= .str z/\xs=[.str y]/\z.length<=bnd/\(y.length == 0)=false/\∀ p,H p=none->Q (.ref p) (upd H p (.tup [.str (Txt.rpartition z y).1, .str (Txt.rpartition z y).2.1, .str (Txt.rpartition z y).2.2]))):=by
 intro pins s σ H x xs v us Q I rx rv h
 obtain ⟨z,y,rfl,rfl,hz,hy,q⟩:=h
 obtain ⟨t,rfl⟩:=rx
 obtain ⟨u,rfl,ru⟩:=zX rv
 obtain ⟨t2,rfl⟩:=ru
 refine call_meets F.slot_str_rpartition (typeIs_str _ _ _) F.entry_str_rpartition (F.args_str_rpartition_2 _ _) (meets_str_rpartition z y t t2 hy (zG hz)) ?_
 unfold Txt.rpartition at q
 revert q
 cases Builtin.Str.lastOccurrence z y 0 z.length with
 | none=>exact fun q=>Zw I _ _ _ _ _ _ _ q
 | some i=>exact fun q=>Zw I _ _ _ _ _ _ _ q
theorem Jz:∀ l:List (Str×Tok),zv (l.map fun p=>V.str p.1) (strValues l)
 | []=> .nil
 | (x,t) :: r=> .cons ⟨t,rfl⟩ (Jz r)
theorem jW {pins:List (Addr×Obj)} {s:Shared} {σ:L2.St} {H:Hp} (I:Inv X pins σ H s) (l:List (Str×Tok)) (k:Nat) {ys:List Str} (hl:l.map (·.1)=ys) (hz:ys.length<=sizeLine) {Q:VK} (q:∀ p,H p=none->Q (.ref p) (upd H p (.lst (ys.map V.str)))):
  EP X pins σ Q (.ref s.heap.objs.size) { s with heap:=s.heap.push { cls:= .type "list",data:= .seq (strValues l).toArray },toks:=k }:=by
 subst hl
 have e:(l.map (·.1)).map V.str=l.map fun p=>V.str p.1:=by rw [List.map_map]; rfl
 rw [e] at q
 refine ⟨.ref s.heap.objs.size,upd H s.heap.objs.size (.lst (l.map fun p=>V.str p.1)),I.laid (t' :=k) (fun b u e=>Heap.get?_push_of_some _ e) (Nat.le_refl _) ⟨?_,strValues l,0,Jz l,Heap.get?_push_size _ rfl⟩,rfl,q _ (I.hok.fresh (Nat.le_refl _))⟩
 rw [List.length_map] at hz ⊢
 exact hz
theorem ut (x y:Str):(Txt.split x y).length<=x.length+2:=by
 unfold Txt.split
 have e1:=StrLaws.occ_length_le x y 0 x.length (x.length+1)
 split
 ·simp
 ·split
  ·simp
  ·rw [length_partsBetween]; omega
theorem QB:MtR X "str.split" (fun x xs H Q=>∃ z y,x= .str z/\xs=[.str y]/\z.length<=1000/\(y.length == 0)=false/\∀ p,H p=none->Q (.ref p) (upd H p (.lst ((Txt.split z y).map V.str)))):=by
 intro pins s σ H x xs v us Q I rx rv h
 obtain ⟨z,y,rfl,rfl,hz,hy,q⟩:=h
 obtain ⟨t,rfl⟩:=rx
 obtain ⟨u,rfl,ru⟩:=zX rv
 obtain ⟨t2,rfl⟩:=ru
 have hs:(Txt.split z y).length<=sizeLine:=by
  have:=ut z y
  rw [sizeLine_eq]; omega
 have hn:(Builtin.Str.partsBetween z (Builtin.Str.occurrences z y 0 z.length (z.length+1)) y.length).length<=sizeLine:=by
  have e1:=StrLaws.occ_length_le z y 0 z.length (z.length+1)
  rw [length_partsBetween,sizeLine_eq]; omega
 cases h1:(decide (z.length < y.length) || decide (Builtin.Str.strKind z < Builtin.Str.strKind y))
 ·cases hf:(Builtin.Str.occurrences z y 0 z.length (z.length+1)).isEmpty
  ·refine call_meets F.slot_str_split (typeIs_str _ _ _) F.entry_str_split (F.args_str_split_2 _ _) (meets_str_split_sep z y t t2 h1 hy hf (by rw [sizeLine_eq]; omega) hn) ?_
   refine (show wants (EP X pins σ Q) X.xe _ { s with toks:=_,heap:=s.heap.push { cls:= .type "list",data:= .seq (strsFrom s.toks (Builtin.Str.partsBetween z (Builtin.Str.occurrences z y 0 z.length (z.length+1)) y.length)).toArray } } from ?_)
   rw [strsFrom_eq]
   exact jW I _ _ ((numbered_texts _ _).trans ((if_neg (ne_true_of_eq_false h1)).trans (if_neg (ne_true_of_eq_false hf))).symm) hs q
  ·refine call_meets F.slot_str_split (typeIs_str _ _ _) F.entry_str_split (F.args_str_split_2 _ _) (meets_str_split_not_found z y t t2 h1 hy hf) ?_
   exact jW I [(z,t)] s.toks ((if_neg (ne_true_of_eq_false h1)).trans (if_pos hf)).symm hs q
 ·refine call_meets F.slot_str_split (typeIs_str _ _ _) F.entry_str_split (F.args_str_split_2 _ _) (meets_str_split_cannot_occur z y t t2 h1) ?_
  exact jW I [(z,t)] s.toks (if_pos h1).symm hs q
section
variable {pa:Pos}
theorem QC {b:Expr} {p:Pos} (hs:St1 X b):(((((backTo p (starEach [b] X.env)).all fun x=> !x.fst) && (backToKw p (keywordEach [] X.env)).all fun x=>x.fst.isSome) && decide (([b].length+([]:List Keyword).length+if ([]:List Keyword).isEmpty=true then 0 else 1) < 30))=true):=by rw [hs]; rfl
theorem x9 (ha:Snd X Y a fa) (hb:Snd X Y b fb) (hb1:attributeBase a "startswith" X.env (eval a X.env)=eval a X.env:=by rfl) (hs:St1 X b:=by exact st1 rfl) (hz:(pa.endLine == p.line)=true:=by rfl):
  Snd X Y (.Call (.Attribute a "startswith" pa) [b] [] p) (smE Qw fa fb):= .mk fun ρ=>
 PE.imp (ZT PySem.F.plainAttrs_str PySem.F.slot_str_startswith PySem.F.type_str_startswith UW (ha ρ) (zj (hb ρ) zw hs) hb1 (QC hs) hz hs rfl) fun σ H Q ⟨B,I,q⟩=>step I q fun t v H1 _ s1 r1 I1 q1=>by
  cases r1 with
  | str x=>
   refine ⟨rfl,step I1 q1 fun u v' H2 _ s2 r2 I2 q2=> ?_⟩
   cases r2 with
   | str y=>exact .inl ⟨x,y,rfl,rfl,po0 I2.sB q2 rfl (.bl _)⟩
   | _=>exact q2.elim
  | _=>exact q1.elim
theorem QD (ha:Snd X Y a fa) (hb:Snd X Y b fb) (hc:Snd X Y c fc) (hb1:attributeBase a "startswith" X.env (eval a X.env)=eval a X.env:=by rfl) (hs:starEach [b,c] X.env=[(false,eval b X.env),(false,eval c X.env)]:=by exact st2 rfl rfl) (hs2:St1 X c:=by exact st1 rfl) (hz:(pa.endLine == p.line)=true:=by rfl):
  Snd X Y (.Call (.Attribute a "startswith" pa) [b,c] [] p) (Qx fa fb fc):= .mk fun ρ=>
 PE.imp (ZT PySem.F.plainAttrs_str PySem.F.slot_str_startswith PySem.F.type_str_startswith UW (ha ρ) (zj (hb ρ) (zj (hc ρ) zw hs2) (by rw [hs,hs2])) hb1 (by rw [hs]; rfl) hz (by rw [hs,hs2]) (by rw [hs2]; rfl)) fun σ H Q ⟨B,I,q⟩=>step I q fun t v H1 _ s1 r1 I1 q1=>by
  cases r1 with
  | str x=>
   refine ⟨rfl,step I1 q1 fun u v' H2 _ s2 r2 I2 q2=>step I2 q2 fun w v3 H3 _ s3 r3 I3 q3=> ?_⟩
   cases r2 with
   | str y=>
    cases r3 with
    | int i=>exact .inr ⟨x,y,i,rfl,rfl,po0 I3.sB q3 rfl (.bl _)⟩
    | _=>exact q3.elim
   | _=>cases r3 <;> exact q3.elim
  | _=>exact q1.elim
theorem xa (ha:Snd X Y a fa) (hb:Snd X Y b fb) (hb1:attributeBase a "endswith" X.env (eval a X.env)=eval a X.env:=by rfl) (hs:St1 X b:=by exact st1 rfl) (hz:(pa.endLine == p.line)=true:=by rfl):
  Snd X Y (.Call (.Attribute a "endswith" pa) [b] [] p) (smE x6 fa fb):= .mk fun ρ=>
 PE.imp (ZT PySem.F.plainAttrs_str PySem.F.slot_str_endswith PySem.F.type_str_endswith Qy (ha ρ) (zj (hb ρ) zw hs) hb1 (QC hs) hz hs rfl) fun σ H Q ⟨B,I,q⟩=>step I q fun t v H1 _ s1 r1 I1 q1=>by
  cases r1 with
  | str x=>
   refine ⟨rfl,step I1 q1 fun u v' H2 _ s2 r2 I2 q2=> ?_⟩
   cases r2 with
   | str y=>exact ⟨x,y,rfl,rfl,po0 I2.sB q2 rfl (.bl _)⟩
   | _=>exact q2.elim
  | _=>exact q1.elim
theorem QE {H:Hp} (x y z:Str):zk H [V.str x, .str y, .str z] [T.str x, .str y, .str z]:= .cons (.str _) (.cons (.str _) (.cons (.str _) .nil))
theorem QF {H:Hp}:∀ ys:List Str,zk H (ys.map V.str) (ys.map T.str)
 | []=> .nil
 | _ :: r=> .cons (.str _) (QF r)
theorem xb (ha:Snd X Y a fa) (hb:Snd X Y b fb) (hb1:attributeBase a "partition" X.env (eval a X.env)=eval a X.env:=by rfl) (hs:St1 X b:=by exact st1 rfl) (hz:(pa.endLine == p.line)=true:=by rfl):
  Snd X Y (.Call (.Attribute a "partition" pa) [b] [] p) (smE XT fa fb):= .mk fun ρ=>
 PE.imp (ZT PySem.F.plainAttrs_str PySem.F.slot_str_partition PySem.F.type_str_partition Qz (ha ρ) (zj (hb ρ) zw hs) hb1 (QC hs) hz hs rfl) fun σ H Q ⟨B,I,q⟩=>step I q fun t v H1 _ s1 r1 I1 q1=>by
  cases r1 with
  | str x=>
   refine ⟨rfl,step I1 q1 fun u v' H2 _ s2 r2 I2 q2=> ?_⟩
   cases r2 with
   | str y=>
    have q2:Po Y rC _ H2 (if x.length<=bnd/\(y.length == 0)=false then .ok (.tup [.str (Txt.partition x y).1, .str (Txt.partition x y).2.1, .str (Txt.partition x y).2.2]) else .bad) Q:=q2
    split at q2
    ·rename_i hc
     exact ⟨x,y,rfl,rfl,hc.1,hc.2,fun z hz=>yD I2.sB q2 rfl (QE _ _ _) hz⟩
    ·exact q2.elim
   | _=>exact q2.elim
  | _=>exact q1.elim
theorem xf (ha:Snd X Y a fa) (hb:Snd X Y b fb) (hb1:attributeBase a "rpartition" X.env (eval a X.env)=eval a X.env:=by rfl) (hs:St1 X b:=by exact st1 rfl) (hz:(pa.endLine == p.line)=true:=by rfl):
  Snd X Y (.Call (.Attribute a "rpartition" pa) [b] [] p) (smE XU fa fb):= .mk fun ρ=>
 PE.imp (ZT PySem.F.plainAttrs_str PySem.F.slot_str_rpartition PySem.F.type_str_rpartition QA (ha ρ) (zj (hb ρ) zw hs) hb1 (QC hs) hz hs rfl) fun σ H Q ⟨B,I,q⟩=>step I q fun t v H1 _ s1 r1 I1 q1=>by
  cases r1 with
  | str x=>
   refine ⟨rfl,step I1 q1 fun u v' H2 _ s2 r2 I2 q2=> ?_⟩
   cases r2 with
   | str y=>
    have q2:Po Y rC _ H2 (if x.length<=bnd/\(y.length == 0)=false then .ok (.tup [.str (Txt.rpartition x y).1, .str (Txt.rpartition x y).2.1, .str (Txt.rpartition x y).2.2]) else .bad) Q:=q2
    split at q2
    ·rename_i hc
     exact ⟨x,y,rfl,rfl,hc.1,hc.2,fun z hz=>yD I2.sB q2 rfl (QE _ _ _) hz⟩
    ·exact q2.elim
   | _=>exact q2.elim
  | _=>exact q1.elim
theorem xg (ha:Snd X Y a fa) (hb:Snd X Y b fb) (hb1:attributeBase a "split" X.env (eval a X.env)=eval a X.env:=by rfl) (hs:St1 X b:=by exact st1 rfl) (hz:(pa.endLine == p.line)=true:=by rfl):
  Snd X Y (.Call (.Attribute a "split" pa) [b] [] p) (smE x8 fa fb):= .mk fun ρ=>
 PE.imp (ZT PySem.F.plainAttrs_str PySem.F.slot_str_split PySem.F.type_str_split QB (ha ρ) (zj (hb ρ) zw hs) hb1 (QC hs) hz hs rfl) fun σ H Q ⟨B,I,q⟩=>step I q fun t v H1 _ s1 r1 I1 q1=>by
  cases r1 with
  | str x=>
   refine ⟨rfl,step I1 q1 fun u v' H2 _ s2 r2 I2 q2=> ?_⟩
   cases r2 with
   | str y=>
    have q2:Po Y rC _ H2 (if x.length<=1000/\(y.length == 0)=false then .ok (.lst ((Txt.split x y).map T.str)) else .bad) Q:=q2
    split at q2
    ·rename_i hc
     exact ⟨x,y,rfl,rfl,hc.1,hc.2,fun z hz=>YG I2.sB q2 rfl (QF _) hz⟩
    ·exact q2.elim
   | _=>exact q2.elim
  | _=>exact q1.elim
end
end
def YM (fa:En->R T) (fl fh:En->R (Option Int)):En->R T:=fun ρ=>(fa ρ).bind fun t=>(fl ρ).bind fun lo=>(fh ρ).bind fun hi=>match t with
 | .str x=>if x.length<=bnd then .ok (.str (Txt.slice x lo hi)) else .bad
 | _=> .bad
def YN (i:Int):Str:=Str.ofString (toString i)
def txO:T->Option Str
 | .int i=>if i.natAbs < 1000000 then some (YN i) else none
 | .str x=>if x.length<=1000000 then some x else none
 | _=>none
def txV:V->Option Str
 | .int i=>if i.natAbs < 1000000 then some (YN i) else none
 | .str x=>if x.length<=1000000 then some x else none
 | _=>none
def vS (t:T):R T:=match txO t with
 | some x=> .ok (.str x)
 | none=> .bad
def f3T (z:Str) (t u:T):R T:=match txO t,txO u with
 | some x,some y=>if (x++z++y).length<=bnd then .ok (.str (x++z++y)) else .bad
 | _,_=> .bad
def f3E (z:Str) (fa fb:En->R T):En->R T:=fun ρ=>(fa ρ).bind fun t=>match txO t with
 | some x=>if (x++z).length<=bnd then (fb ρ).bind fun u=>f3T z t u else .bad
 | none=> .bad
def rdI (x:Str):Option Int:=((List.range 199).map fun (k:Nat)=>(k:Int) - 99).find? fun n=>YN n == x
def XV:T->R T
 | .str x=>match rdI x with
  | some n=> .ok (.int n)
  | none=> .bad
 | _=> .bad
theorem JA {i:Int} (h:i.natAbs < 1000000):i.natAbs.log2 < 1920:=by
 by_cases h0:i.natAbs=0
 ·rw [h0]; decide
 ·have:i.natAbs.log2 < 20:=(Nat.log2_lt h0).mpr (by omega)
  omega
theorem QG:∀ k < 199,PySem.intText? (YN ((k:Nat) - 99:Int))=some ((k:Nat) - 99:Int)/\(YN ((k:Nat) - 99:Int)).length<=640:=by decide+kernel
section
variable {X:Cx} {Y:Fx} {a b c:Expr} {fa fb fc:En->R T} {pos p p1 p2 p3:Pos} {kc:Nat}
theorem QH:SlR X (fun x lo hi H Q=>∃ z,x= .str z/\z.length<=bnd/\Q (.str (Txt.slice z lo hi)) H):=by
 intro pins s σ H x v vl vu lo hi sl Q I rx hs pl pu h
 obtain ⟨z,rfl,hz,q⟩:=h
 obtain ⟨t,rfl⟩:=rx
 refine ⟨"str",_,F.slot_str_getitem.lookup,typeIs_str _ _ _, ?_⟩
 have fin:∀ t' k,EP X pins σ Q (.str (Txt.slice z lo hi) t') { s with toks:=k }:=fun t' k=>⟨.str _,H,I.tok k,⟨t',rfl⟩,q⟩
 have hl:=Nat.le_trans (Txt.slice_le z lo hi) (zG hz)
 cases pl with
 | none=>
  cases pu with
  | none=>exact wpAny_getItem_str_slice (l:=none) (u:=none) (st:=none) hs rfl (post_val_or_str ⟨hl,fin⟩)
  | int j tj=>exact wpAny_getItem_str_slice (l:=none) (u:=some (j,tj)) (st:=none) hs rfl (post_val_or_str ⟨hl,fin⟩)
 | int i ti=>
  cases pu with
  | none=>exact wpAny_getItem_str_slice (l:=some (i,ti)) (u:=none) (st:=none) hs rfl (post_val_or_str ⟨hl,fin⟩)
  | int j tj=>exact wpAny_getItem_str_slice (l:=some (i,ti)) (u:=some (j,tj)) (st:=none) hs rfl (post_val_or_str ⟨hl,fin⟩)
theorem xh {lo hi:Option Expr} {fl fh:En->R (Option Int)} (ha:Snd X Y a fa) (hl:Ua X Y lo fl) (hh:Ua X Y hi fh):Snd X Y (.Subscript a (.Slice lo hi none p2) pos) (YM fa fl fh):= .mk fun ρ=>
 PE.imp (wo QH (ha ρ) (hl ρ) (hh ρ)) fun σ H Q ⟨B,I,q⟩=>step I q fun t v H1 _ s1 r1 I1 q1=>step I1 q1 fun l l' H2 _ s2 el I2 q2=>step I2 q2 fun h h' H3 _ s3 eh I3 q3=>by
  have el' :l' =l:=el
  have eh' :h' =h:=eh
  subst el' eh'
  cases r1 with
  | str x=>
   have q3:Po Y rC _ H3 (if x.length<=bnd then .ok (.str (Txt.slice x l' h')) else .bad) Q:=q3
   split at q3
   ·rename_i hb
    exact ⟨x,rfl,hb,po0 I3.sB q3 rfl (.str _)⟩
   ·exact q3.elim
  | _=>exact q3.elim
theorem Uw:Z4 X (.type "str") (fun xs H Q=>∃ v x,xs=[v]/\txV v=some x/\Q (.str x) H):=by
 intro pins s σ H xs us Q I r h
 obtain ⟨v,x,rfl,e,q⟩:=h
 obtain ⟨u,rfl,ru⟩:=zX r
 unfold txV at e
 split at e
 ·split at e
  ·rename_i i hi
   obtain ⟨t,rfl⟩:=ru
   cases e
   exact P.str_of_int (JA hi) ⟨.str _,H,I.tok _,⟨_,rfl⟩,q⟩
  ·cases e
 ·split at e
  ·obtain ⟨t,rfl⟩:=ru
   cases e
   exact P.str_of_str ⟨.str _,H,I,⟨_,rfl⟩,q⟩
  ·cases e
 ·cases e
theorem uu {H:Hp} {v:V} {t:T} {x:Str} (r:Rep H v t) (e:txO t=some x):txV v=some x:=by
 cases r with
 | int i=>exact e
 | str y=>exact e
 | _=>cases e
theorem QI (gl:Gl X "str") (mg:X.mg "str"=none) (ha:Snd X Y a fa) (hs:St1 X a:=by exact st1 rfl):Snd X Y (.Call (.Name "str" p) [a] [] pos) (ap1 vS fa):=
 ww Uw (fun v t B H Q r sB q=>by
  unfold vS at q
  split at q
  ·rename_i x e
   exact ⟨v,x,rfl,uu r e,po0 sB q rfl (.str _)⟩
  ·exact q.elim) gl mg (PyProof.Rows.Boot.«str») ha hs
theorem JB:Z4 X (.type "int") (fun xs H Q=>∃ x n,xs=[.str x]/\rdI x=some n/\Q (.int n) H):=by
 intro pins s σ H xs us Q I r h
 obtain ⟨x,n,rfl,e,q⟩:=h
 obtain ⟨u,rfl,ru⟩:=zX r
 obtain ⟨t,rfl⟩:=ru
 have hm:=List.mem_of_find?_eq_some e
 have hx:YN n=x:=by simpa using List.find?_some e
 obtain ⟨k,hk,rfl⟩:=List.mem_map.mp hm
 obtain ⟨h1,h2⟩:=QG k (List.mem_range.mp hk)
 subst hx
 exact PySem.W.KIN.call_text h1 h2 ⟨.int _,H,I.tok _,⟨_,rfl⟩,q⟩
theorem QJ (gl:Gl X "int") (mg:X.mg "int"=none) (ha:Snd X Y a fa) (hs:St1 X a:=by exact st1 rfl):Snd X Y (.Call (.Name "int" p) [a] [] pos) (ap1 XV fa):=
 ww JB (fun v t B H Q r sB q=>by
  cases r with
  | str x=>
   have q:Po Y rC _ H (match rdI x with | some n=> .ok (.int n) | none=> .bad) Q:=q
   split at q
   ·rename_i n e
    exact ⟨x,n,rfl,e,po0 sB q rfl (.int _)⟩
   ·exact q.elim
  | _=>exact q.elim) gl mg (PyProof.Rows.Boot.«int») ha hs
theorem UX {prog:Program} {w:World} {A:Around} {E:Value->Shared->Prop} {s:Shared} {v:V} {u:Value} {x:Str} {Q:Value->Shared->Prop} (r:zF v u) (e:txV v=some x) (h:∀ t k,Q (.str x t) { s with toks:=k }):wpAny (model prog w) A (formatField u Str.empty) Q E s:=by
 unfold txV at e
 split at e
 ·split at e
  ·rename_i i hi
   obtain ⟨t,rfl⟩:=r
   cases e
   exact wpAny_formatField_int (JA hi) (h _ _)
  ·cases e
 ·split at e
  ·rename_i hb
   obtain ⟨t,rfl⟩:=r
   cases e
   exact wpAny_formatField_str (h _ s.toks) (h _ _) (by rw [sizeLine_eq]; omega)
  ·cases e
 ·cases e
theorem xi {z:Str} {ta tb:TE} (ha:PE X a ta) (hb:PE X b tb):PE X (.JoinedStr [.FormattedValue a (-1) none p1, .Constant (.str z) kc p2, .FormattedValue b (-1) none p3] pos)
  (fun σ H Q=>ta σ H fun v H1=>∃ x,txV v=some x/\(x++z).length<=sizeLine/\tb σ H1 fun v' H2=>∃ y,txV v' =some y/\(x++z++y).length<=sizeLine/\Q (.str (x++z++y)) H2):=by
 intro pins s σ H Q I h
 refine wpAny_JoinedStr ?_
 refine (show wpAny _ _ (eval (.FormattedValue a (-1) none p1) X.env) _ _ _ from ?_)
 refine wpAny_FormattedValue_plain (thn (ha pins s σ H _ I h) fun u s1 ⟨v,H1,I1,r1,x,ex,hz,q1⟩=>UX r1 ex fun t k=>⟨x,t,rfl, ?_, ?_⟩)
 ·rw [Str.empty_append]
  exact Nat.le_trans (by rw [Str.length_append]; omega) hz
 rw [Str.empty_append]
 have I1:=I1.tok k
 refine (show wpAny _ _ (eval (.Constant (.str z) kc p2) X.env) _ _ _ from ?_)
 refine thn (Wq pins _ σ H1 (fun v' H' =>v' =V.str z/\H' =H1) I1 ⟨rfl,rfl⟩) fun u2 s2 ⟨v2,H2,I2,r2,e1,e2⟩=> ?_
 subst e1 e2
 obtain ⟨t2,rfl⟩:=r2
 refine ⟨z,t2,rfl,hz, ?_⟩
 refine (show wpAny _ _ (eval (.FormattedValue b (-1) none p3) X.env) _ _ _ from ?_)
 refine wpAny_FormattedValue_plain (thn (hb pins s2 σ H2 _ I2 q1) fun u3 s3 ⟨v3,H3,I3,r3,y,ey,hz3,q3⟩=>UX r3 ey fun t k=>⟨y,t,rfl,hz3,hz3, ?_⟩)
 exact ⟨.str _,H3,(I3.tok k).tok _,⟨_,rfl⟩,q3⟩
theorem gM {z:Str} (ha:Snd X Y a fa) (hb:Snd X Y b fb):Snd X Y (.JoinedStr [.FormattedValue a (-1) none p1, .Constant (.str z) kc p2, .FormattedValue b (-1) none p3] pos) (f3E z fa fb):= .mk fun ρ=>
 PE.imp (xi (ha ρ) (hb ρ)) fun σ H Q ⟨B,I,q⟩=>step I q fun t v H1 _ s1 r1 I1 q1=>by
  cases e:txO t with
  | none=>rw [e] at q1; exact q1.elim
  | some x=>
   rw [e] at q1
   have q1:Po Y rC _ H1 (if (x++z).length<=bnd then (fb ρ).bind fun u=>f3T z t u else .bad) Q:=q1
   split at q1
   ·rename_i hl
    refine ⟨x,uu r1 e,zG hl,step I1 q1 fun u v' H2 _ s2 r2 I2 q2=> ?_⟩
    unfold f3T at q2
    rw [e] at q2
    cases e2:txO u with
    | none=>rw [e2] at q2; exact q2.elim
    | some y=>
     rw [e2] at q2
     have q2:Po Y rC _ H2 (if (x++z++y).length<=bnd then .ok (.str (x++z++y)) else .bad) Q:=q2
     split at q2
     ·rename_i hl2
      exact ⟨y,uu r2 e2,zG hl2,po0 I2.sB q2 rfl (.str _)⟩
     ·exact q2.elim
   ·exact q1.elim
end
def xj (x:Str):It:=
 ⟨fun i _=>i < x.cps.size,fun i H v H' =>∃ p c,H p=none/\v= .ref p/\x.cps[i]? =some c/\H' =upd H p (.tup [.int i, .str ⟨#[c]⟩]),fun i _=>x.cps.size<=i⟩
theorem Yk (x:Str):strIterType x="str_ascii_iterator"\/strIterType x="str_iterator":=by
 unfold strIterType; split
 ·exact .inl rfl
 ·exact .inr rfl
theorem JC {prog:Program} {w:World} {A:Around} (hh:A.handled=none) (it:Addr) (x:Str) (t:Tok) {ty:String} (hty:ty="str_ascii_iterator"\/ty="str_iterator"):Draws prog w A it [it] x.cps.size (SignAt x) (fun i h=>h.IsStrIter it ty x t i):=by
 rcases hty with rfl | rfl
 ·exact Draws.strAscii hh it x t
 ·exact Draws.strWide hh it x t
theorem We {P:Program} {w:World} {K:PySem.W.Frag} {elts:List Expr} {kk:Nat} {pt:Pos} {x:Str} {tt:Tok} {ty:String} (hty:ty="str_ascii_iterator"\/ty="str_iterator") (e it:Addr) (hei:e ≠ it):
  Wh P w K (.Tuple elts kk pt) (xj x) [e,it] e (fun i h=>i<=x.cps.size/\(∃ old,IsEnum h e it i old)/\h.IsStrIter it ty x tt i) where
 mem:=by simp
 obj:=fun i h st b hb=>by
  obtain ⟨_,⟨old,he⟩,o,e1,c,d⟩:=st
  rcases List.mem_cons.mp hb with rfl | hb
  ·exact ⟨_,he,fun v z=>nomatch z⟩
  ·have z:b=it:=by simpa using hb
   subst z
   exact ⟨o,e1,fun v z=>by rw [d] at z; cases z⟩
 keep:=fun i h h' st k=>by
  obtain ⟨hn,⟨old,he⟩,o,e1,r⟩:=st
  exact ⟨hn,⟨old,k e (by simp) _ he⟩,o,k it (by simp) o e1,r⟩
 item:=by
  intro X hP hw hK hc i pins s σ H E I hf st hg
  subst hP hw hK
  obtain ⟨hin,⟨old,he⟩,hit⟩:=st
  have D:=JC (prog:=X.prog) (w:=X.w) (A:=X.A.in1) (I.ok.hd hc) it x tt hty
  have hef:e ∉ [it]:=fun z=>hei (List.mem_singleton.mp z)
  have WE:=WalksT.enumerateD D e hei hef (.head _)
  refine WE.item i s _ _ hg ⟨⟨old,he⟩,hit⟩ fun T vals h' tk hP hT hTup hM hk=> ?_
  obtain ⟨t,y,⟨c,u,hc',rfl⟩,rfl⟩:=hP
  refine ⟨.ref T,rfl, ?_⟩
  refine WE.go elts kk pt i T _ _ _ hM fun h2 hst2 hk2=> ?_
  have hTn:H T=none:=I.hok.fresh hT
  have hTne:∀ b∈[e,it],b ≠ T:=fun b hb z=>by
   obtain ⟨_,_,h3,h4⟩:=hM
   rcases List.mem_cons.mp hb with rfl | hb
   ·exact h3 z.symm
   ·have:b=it:=by simpa using hb
    subst this; exact h4 z.symm
  have tup2:IsTup h2 T #[.int i t, .str ⟨#[c]⟩ u]:=by
   obtain ⟨o,eo,r⟩:=hTup
   exact ⟨o,hk2 T o (fun hb=>hTne T hb rfl) eo,r⟩
  refine ⟨.ref T,upd H T (.tup [.int i, .str ⟨#[c]⟩]),Inv.laidT (s:=s) (h' :=h2) (ch:=[e,it]) (tk:=tk) I hf (fun b o hb e=>hk2 b o hb (hk b o hb e)) (fun b o hb _=> ?_) hT ⟨by rw [sizeLine_eq]; show 2<=16777216; decide,[.int i t, .str ⟨#[c]⟩ u], .cons ⟨t,rfl⟩ (.cons ⟨u,rfl⟩ .nil),tup2, .inl ⟨_,_,rfl⟩⟩,rfl,⟨T,c,hTn,rfl,hc',rfl⟩,⟨hg,hst2.1,hst2.2⟩,fun b hb=> ?_⟩
  ·obtain ⟨⟨old2,he2⟩,⟨o2,eo2,_⟩⟩:=hst2
   rcases List.mem_cons.mp hb with rfl | hb
   ·exact ⟨_,he2⟩
   ·have:b=it:=by simpa using hb
    subst this; exact ⟨o2,eo2⟩
  ·rw [zd (hTne b hb)]; exact (hf b hb).1
 done:=by
  intro X hP hw hK hc i pins s σ H E I hf st hg
  subst hP hw hK
  obtain ⟨hin,⟨old,he⟩,hit⟩:=st
  have D:=JC (prog:=X.prog) (w:=X.w) (A:=X.A.in1) (I.ok.hd hc) it x tt hty
  have hn:x.cps.size=i:=Nat.le_antisymm hg hin
  refine wpAny_pyNext_enum_endD D he (by rw [hn]; exact hit) fun h' hk=>⟨rfl, ?_⟩
  obtain ⟨f0,f1,f2,f3,f4,f5⟩:=hf it (by simp)
  exact I.turned (t' :=s.toks) (fun b o hb e=>hk b o hb e) f0 f1 f3 f4 f5
 self:=fun _ _ _ _ _ st h=>let ⟨_,⟨_,he⟩,_⟩:=st; wpAny_pyIter_enum he h
theorem Ux {B1 H1:Hp} {x:Str}:rI B1 H1 (xj x) (ZX (ZW x)):=fun B2 H2 s1 s2=>by
 have hl:(ZX (ZW x)).length=x.cps.size:=by rw [ZR]; unfold ZW; simp
 refine ⟨fun i hi=>by rw [hl] at hi; exact hi,fun i t v H3 e y=> ?_,fun i hi=>by rw [hl] at hi; exact hi⟩
 obtain ⟨p,c,hp,rfl,hc,rfl⟩:=y
 obtain ⟨t',et,rfl⟩:=Ju e
 have hc' :x.cps.toList[i]? =some c:=by simpa using hc
 unfold ZW at et
 rw [List.getElem?_map,hc'] at et
 cases et
 exact ⟨zg.new hp _, .tup (Zn hp _) (.cons (.int _) (.cons (.str _) .nil))⟩
def UY (fa:En->R T):En->R (List T):=fun ρ=>(fa ρ).bind fun t=>match t with
 | .str x=> .ok (ZX (ZW x))
 | _=> .bad
section
variable {X:Cx} {Y:Fx} {a:Expr} {fa:En->R T} {pos p pt:Pos} {elts:List Expr} {kk:Nat}
theorem Uy {ta:TA} (hg:Gl X "enumerate") (hm:X.mg "enumerate"=none) (ha:PA X [a] ta) (hs:St1 X a:=by exact st1 rfl):
  PI X (.Tuple elts kk pt) (.Call (.Name "enumerate" p) [a] [] pos) (fun σ H R=>ta σ H fun vs H1=>∃ x,vs=[.str x]/\R (xj x) H1):=by
 intro pins s σ H R I h
 refine Call_ (Zi I hg hm PyProof.Rows.Boot.«enumerate» (PyProof.Rows.callWith_type1 (thn (ha pos pins s σ H _ I h) fun us s1 ⟨vs,H1,I1,r1,q1⟩=> ?_) hs rfl))
 obtain ⟨x,e,q⟩:=q1
 subst e
 obtain ⟨u,rfl,ru⟩:=zX r1
 obtain ⟨tt,rfl⟩:=ru
 refine call_enumerate_str fun h' he hit hsz hk=>wpAny_pyIter_enum he ?_
 have f:∀ b∈[s1.heap.objs.size+1,s1.heap.objs.size],J9 X pins H1 b:=fun b hb=>by
  rcases List.mem_cons.mp hb with rfl | hb
  ·exact I1.fpOk (Nat.le_succ _) (I1.hok.fresh (Nat.le_succ _))
  ·have z:b=s1.heap.objs.size:=by simpa using hb
   subst z
   exact I1.fpOk (Nat.le_refl _) (I1.hok.fresh (Nat.le_refl _))
 exact ⟨s1.heap.objs.size+1,[s1.heap.objs.size+1,s1.heap.objs.size],_,_,H1,rfl,I1.kept (t' :=s1.toks) hk,We (Yk x) _ _ (Nat.succ_ne_self _),⟨Nat.zero_le _,⟨_,he⟩,hit⟩,f,q⟩
theorem Yl (hg:Gl X "enumerate") (hm:X.mg "enumerate"=none) (ha:Snd X Y a fa) (hs:St1 X a:=by exact st1 rfl):Wl X Y (.Tuple elts kk pt) (.Call (.Name "enumerate" p) [a] [] pos) (UY fa):= .mk fun ρ=>
 PI.imp (Uy hg hm (zj (ha ρ) zw hs) hs) fun σ H R ⟨B,I,q⟩=>step I q fun t v H1 _ s1 r1 I1 q1=>by
  cases r1 with
  | str x=>exact ⟨x,rfl,zT I1 (show Po Y rI _ H1 (.ok (ZX (ZW x))) R from q1) Ux⟩
  | _=>exact q1.elim
end
def xk (fb:En->RS):En->RS:=fun ρ=>match fb ρ with
 | .ex _=> .bad
 | r=>r
theorem Ym {X:Cx} {tb:TS} {body:List Stmt} {hh:ExceptHandler} {hs:List ExceptHandler} {pos:Pos}
  (hb:∀ (pn:List (Addr×Obj)) (xe:Value->Shared->Prop),PSs (X.try' pn xe) body tb):PS X (.Try body (hh :: hs) [] [] pos) tb:=by
 intro pins s σ H D I hw
 have hr:=hb (X.pn++pins) (fun e s1=>wpAny (model X.prog X.w) X.A (noteFrame e X.env) (fun _ s2=>wpAny (model X.prog X.w) X.A (setFlight e none) (fun _ s3=>wpAny (model X.prog X.w) X.A (handleBy e X.env (hh :: hs)) (SP X pins D) X.xe s3) X.xe s2) X.xe s1) [] s σ H D (I.try' _) hw
 refine wpAny_Try_except (wpAny_mono hr (fun f s1 h1=> ?_) fun _ _ z=>z)
 have h1:=h1.untry
 cases f with
 | next=>exact wpAny_execs_nil h1
 | brk=>exact h1
 | cont=>exact h1
 | ret u=>exact h1
theorem QK {X:Cx} {Y:Fx} {fb:En->RS} {body:List Stmt} {hh:ExceptHandler} {hs:List ExceptHandler} {pos:Pos}
  (hb:∀ (pn:List (Addr×Obj)) (xe:Value->Shared->Prop),Js (X.try' pn xe) Y body fb):ZQ X Y (.Try body (hh :: hs) [] [] pos) (xk fb):= .mk fun ρ=>
 PS.imp (Ym (tb:=tSS Y fb ρ) fun pn xe=>hb pn xe ρ) fun D σ H ⟨B,I,q⟩=>⟨B,I,by
  unfold xk at q
  cases e:fb ρ with
  | ex c=>rw [e] at q; exact q.elim
  | _=>rw [e] at q; exact q⟩
end PV
namespace PV
open PySem PySem.W PyProof.Rows
section
variable {α β:Type}
end
section
variable {O:KeyOrd} {n:Nat} {key:Nat->O.α}
variable (hk:∀ i j,i < n->j < n->key i=key j->i=j)
include hk
omit hk in
omit hk in
omit hk in
omit hk in
end
end PV
namespace PV
open PySem PySem.Spec PyProof.Rows L2
section
variable {P:Program} {w:World} {H:Hp} {h:Heap}
end
section
variable {X:Cx} {Y:Fx} {a:Expr} {fa:En->R T} {p pos:Pos}
end
section
open PySem.W PySem.Calls
variable {O:KeyOrd} {n:Nat} {key:Nat->O.α}
end
section
variable {prog:Program} {w:World} {A:Around} {E:Value->Shared->Prop} {s:Shared}
open PySem.W PySem.Calls
end
section
variable {X:Cx} {Y:Fx} {a:Expr} {fa:En->R T} {p pos:Pos}
end
end PV
namespace PV
open PySem PySem.Spec PyProof.Rows L2
section
variable {X:Cx} {Y:Fx} {a b:Expr} {fa:En->R T} {pos p p1 p2 p3 lp sp' :Pos}
end
section
variable {prog:Program} {w:World} {A:Around} {E:Value->Shared->Prop} {s:Shared}
open HT in
open HT in
end
section
variable {X:Cx} {Y:Fx} {a:Expr} {fa:En->R T} {pos p2 p3 p4:Pos} {kc:Nat}
end
end PV
namespace PV
open PySem PySem.Spec PyProof.Rows L2
end PV
namespace L2
open PySem PySem.Spec PyProof.Rows PySem.W
structure Lm (X:Cx) (c P:Addr) (q:Str):Prop where
 code:X.env.code= .ref c
 hd:codeHdIn X.K c P=true
 bt:X.base.BuiltinsAt X.mg P
 ql:X.env.qual++"<lambda>"=q
def jv (H:Hp) (q:Str) (c:Addr):Prop:=∃ oc vs t,H c=some (.frz oc (.own c))/\oc.data= .fields vs/\vs[1]? =some (.str q t)
theorem jv.mono {H H' :Hp} {q:Str} {c:Addr} (s:zg H H') (h:jv H q c):jv H' q c:=let ⟨oc,vs,t,e,r⟩:=h; ⟨oc,vs,t,s _ _ e,r⟩
theorem jv.rec {P:Program} {w:World} {H:Hp} {q:Str} {c:Addr} {h:Heap} (x:jv H q c) (ok:HOk P w H h):h.CodeRec (.ref c) q:=by
 obtain ⟨oc,vs,t,e,d,v⟩:=x
 exact ⟨c,oc,vs,t,rfl,(ok c _ e).1,d,v⟩
theorem jH {p p' :Pos} {c cv:Value}:∀ (l:List Value),TriplesOk l->codeAmong p (l++[rawInt p'.line,rawInt p'.col,c])=some cv->codeAmong p l=some cv\/cv=c
 | [],_,h=>by
  right
  simp only [List.nil_append,rawInt,codeAmong] at h
  split at h
  ·exact (Option.some.inj h).symm
  ·cases h
 | .int a t :: .int b u :: x :: r,ok,h=>by
  simp only [List.cons_append,codeAmong] at h ⊢
  split at h
  ·rename_i z; rw [if_pos z]; exact .inl h
  ·rename_i z
   rw [if_neg z]
   exact jH r (by simpa only [TriplesOk] using ok) h
abbrev Wf (q:Str) (params:Arguments) (body:Expr) (scope:Scope) (clos:List (Str×Addr)) (pm ctv:Value) (c:Addr):Obj:=kla_obj "<lambda>" q params body scope clos pm c ctv
theorem QL {X:Cx} {c P:Addr} {q:Str} {params:Arguments} {body:Expr} {scope:Scope} {pos:Pos} {clos:List (Str×Addr)} (L:Lm X c P q) (hdef:defaultsOf params X.env=([],[])) (hcl:closureFor scope X.env=pure clos):
  PE X (.Lambda params body scope pos) (fun σ H Q=>H P=some (.tbl #[] q)/\∀ f c' pm ctv H',zg H H' ->H' f=some (.frz (Wf q params body scope clos pm ctv c') (.own f))->jv H' q c' ->Q (.ref f) H'):=by
 intro pins s σ H Q I ⟨hP,h⟩
 obtain ⟨more,eP,tr,al⟩:=I.hok P _ hP
 have C:CodeHd s.heap c P:=codeHd_of_K I.kIn L.hd
 have hg:s.heap.Ns mainGlobals X.mg:=I.ok.mod.glob.keeps I.bk
 have hB:s.heap.BuiltinsAt X.mg P:=by
  obtain ⟨bm,o,b1,b2,b3,b4,b5,b6⟩:=L.bt
  exact ⟨bm,o,b1,b2,b3,b4,I.bk _ _ b5,b6⟩
 have hgP:mainGlobals ≠ P:=fun z=>by
  obtain ⟨o,es,ep,e,hd,_⟩:=hg
  rw [z,eP] at e; cases e; cases hd
 have fobj:∀ {H2:Hp} {f:Addr} {o:Obj} {h2:Heap},h2.get? f=some o->zK X.prog X.w H2 h2 f (.frz o (.own f)):=fun e=>⟨e,_,e⟩
 refine kla_eval hdef ?_
 rw [L.ql]
 cases hf:codeAmong pos (#[]++more).toList with
 | some cv=>
  obtain ⟨c',oc,vs,t,rfl,e2,e3,e4⟩:=al pos cv hf
  refine kla_makeFunctionHit hcl I.ok.glob hg L.code C eP tr hf hB fun ctv h' tk hk hsz=> ?_
  have hfr:H h'.objs.size=none:=I.hok.fresh hsz
  have e5:(h'.push (Wf q params body scope clos ((X.mg "__name__").getD .none) ctv c')).get? h'.objs.size=some (Wf q params body scope clos ((X.mg "__name__").getD .none) ctv c'):=Heap.get?_push_size _ rfl
  refine ⟨.ref h'.objs.size,_,I.laid (a:=h'.objs.size) (o:= .frz (Wf q params body scope clos ((X.mg "__name__").getD .none) ctv c') (.own h'.objs.size)) (fun b u e=>Heap.get?_push_of_some _ (hk b u e)) hsz (fobj e5),rfl, ?_⟩
  exact h _ c' _ ctv _ (PV.zg.new hfr _) zi (jv.mono (PV.zg.new hfr _) ⟨oc,vs,t,e2,e3,e4⟩)
 | none=>
  refine kla_makeFunction hcl I.ok.glob hg L.code C eP tr hf hgP hB fun c' ctv h' tk hx hge hlt hrec htb=> ?_
  obtain ⟨c₂,oc,vs,t,e2,hoc,hd,hv⟩:=hrec
  cases e2
  have hc0:H c' =none:=I.hok.fresh hge
  have hPlt:P < s.heap.objs.size:=Heap.lt_size eP
  have hcP:c' ≠ P:=fun z=>by rw [z] at hge; exact absurd hPlt (Nat.not_lt.mpr hge)
  have neP:∀ b,H b=none->b ≠ P:=fun b n z=>by rw [z,hP] at n; cases n
  have neC:∀ b o,s.heap.get? b=some o->b ≠ c' :=fun b o e=>Nat.ne_of_lt (Nat.lt_of_lt_of_le (Heap.lt_size e) hge)
  have sm:zg H (upd H c' (.frz oc (.own c'))):=PV.zg.new hc0 _
  have hl:(#[]++more++ #[rawInt pos.line,rawInt pos.col,Value.ref c']).toList=(#[]++more).toList++[rawInt pos.line,rawInt pos.col,Value.ref c']:=by simp
  have hok:HOk X.prog X.w (upd H c' (.frz oc (.own c'))) h' :=fun b u e=>by
   by_cases hb:b=c'
   ·subst hb
    rw [zi] at e; cases e
    exact fobj hoc
   ·rw [zd hb] at e
    by_cases hbP:b=P
    ·subst hbP
     rw [hP] at e; cases e
     refine ⟨more++ #[rawInt pos.line,rawInt pos.col,Value.ref c'],by rw [← Array.append_assoc]; exact htb,by rw [← Array.append_assoc,hl]; exact TriplesOk_snoc _ _ _ _ tr,fun p cv z=> ?_⟩
     rw [← Array.append_assoc,hl] at z
     rcases jH _ tr z with z | rfl
     ·obtain ⟨c2,oc2,vs2,t2,a1,a2,a3⟩:=al p cv z
      exact ⟨c2,oc2,vs2,t2,a1,sm _ _ a2,a3⟩
     ·exact ⟨c',oc,vs,t,rfl,zi,hd,hv⟩
    ·refine (I.hok b u e).stay (fun a v ha q' =>hx a v (fun z=> ?_) q') (fun _ q' =>sm _ _ q') (fun _ _ q' =>sm _ _ q') fun _ _ _ q' =>sm _ _ q'
     subst z
     rcases ha with z | z
     ·exact hbP z.symm
     ·rw [hP] at z; cases z
  have I1:Inv X pins σ (upd H c' (.frz oc (.own c'))) { s with heap:=h',toks:=s.toks }:=by
   refine I.step (g' :=s.gens) (d' :=s.drawn) (t' :=s.toks) (ch:=[]) (fun _ z=>nomatch z) (fun b o _ _ _ e n=>hx b o (neP b n) e) (fun b o _ _ _ e n=>⟨o.slots,hx b o (neP b n) e⟩) (fun b o _ e n=>by rw [zd (neC b o e)]; exact n) (fun b o _ e=> ?_) (fun _ _ e=>sm _ _ e) (fun _ _ _ e=>sm _ _ e) (fun _ _ _ e=>sm _ _ e) (fun m hm=>hm.extBut hx (neP _ I.free)) hok I.bare
   by_cases hb:b=P
   ·exact ⟨_,hb ▸ htb⟩
   ·exact ⟨o,hx b o hb e⟩
  have hfr:upd H c' (.frz oc (.own c')) h'.objs.size=none:=by rw [zd (Nat.ne_of_gt hlt)]; exact I1.hok.fresh (Nat.le_refl _) |> fun z=>by rw [zd (Nat.ne_of_gt hlt)] at z; exact z
  have e5:(h'.push (Wf q params body scope clos ((X.mg "__name__").getD .none) ctv c')).get? h'.objs.size=some (Wf q params body scope clos ((X.mg "__name__").getD .none) ctv c'):=Heap.get?_push_size _ rfl
  refine ⟨.ref h'.objs.size,_,I1.laid (a:=h'.objs.size) (o:= .frz (Wf q params body scope clos ((X.mg "__name__").getD .none) ctv c') (.own h'.objs.size)) (fun b u e=>Heap.get?_push_of_some _ e) (Nat.le_refl _) (fobj e5),rfl, ?_⟩
  have s2:zg (upd H c' (.frz oc (.own c'))) (upd (upd H c' (.frz oc (.own c'))) h'.objs.size (.frz (Wf q params body scope clos ((X.mg "__name__").getD .none) ctv c') (.own h'.objs.size))):=PV.zg.new hfr _
  exact h _ c' _ ctv _ (sm.trans s2) zi (jv.mono s2 ⟨oc,vs,t,zi,hd,hv⟩)
end L2
namespace L2
open PySem PySem.Spec PyProof.Rows PySem.W
def UZ (s:Shared) (H:Hp) (fr:List Addr):Heap:=hideAll s.heap (trk s.heap H++fr)
theorem wH {s:Shared} {H:Hp} {fr:List Addr} {b:Addr} {o:Obj} (e:s.heap.get? b=some o) (n:H b=none) (hb:b ∉ fr):(UZ s H fr).get? b=some o:=
 hideAll_get _ e fun hm=>by
  rcases List.mem_append.mp hm with z | z
  ·have q:(H b).isSome=true:=(List.mem_filter.mp z).2
   rw [n] at q; cases q
  ·exact hb z
theorem Yn {s:Shared} {H:Hp} {fr:List Addr} {b:Addr} {o:Obj} (e:(UZ s H fr).get? b=some o):s.heap.get? b=some o/\H b=none:=by
 have e' :s.heap.get? b=some o:=of_hideAll _ e
 refine ⟨e', ?_⟩
 cases q:H b with
 | none=>rfl
 | some x=>
  have hm:b∈trk s.heap H++fr:=List.mem_append_left _ (List.mem_filter.mpr ⟨List.mem_range.mpr (Heap.lt_size e'),by simp [q]⟩)
  have z:(UZ s H fr).get? b=none:=hideAll_none _ hm
  rw [z] at e; cases e
theorem Mod.keeps {K:Frag} {mg:Str->Option Value} {b b' :Heap} (m:Mod K mg b) (k:∀ a o,b.get? a=some o->b'.get? a=some o):Mod K mg b' :=
 ⟨m.kin.keeps k,m.glob.keeps k,let ⟨mb,h1,h2⟩:=m.blt; ⟨mb,h1.keeps k,h2⟩,m.nolimit.keeps k⟩
section
variable {X:Cx} {pins:List (Addr×Obj)} {σ:St} {H:Hp} {s:Shared}
theorem Inv.big_of (I:Inv X pins σ H s):∀ b o,X.base.get? b=some o->(UZ s H (frs X.stack)).get? b=some o:=fun b o e=>by
 refine wH (I.bs b o e).1 (I.bs b o e).2 fun hb=> ?_
 have:=(I.stack.mem hb).1
 rw [e] at this; cases this
theorem Inv.big (I:Inv X pins σ H s):wl X.prog X.w X.K X.mg (UZ s H (frs X.stack)) X.A X.stack s H:=
 ⟨I.ok.frames,I.ok.mod.keeps I.big_of,fun b o e=>Yn e,Nat.le_of_eq (hideAll_size _ _),funFrames_hide I.stack fun env he a ha=>List.mem_append_right _ (List.mem_filterMap.mpr ⟨env,he,ha⟩),I.stkFree,I.hok,I.bare⟩
theorem Yo {CX:CXT} {k:Nat} {f:Addr} {fd:FuncData} {ps:List Str} {sp:Sp} {E:XK} {Q:VK} {us:List Value} {vs:List V} (I:Inv X pins σ H s) (F:zq X.prog X.w X.K X.mg (UZ s H (frs X.stack)) CX k f fd ps sp) (hr:zQ k X.A) (hb:Binds X.K fd ps []) (hx:zz CX X E)
  (r:zv vs us) (h:sp vs H Q E):wpAny (model X.prog X.w) X.A (call (.ref f) us) (EP X pins σ Q) X.xe s:=by
 have hl:us.length=ps.length:=by rw [← r.length]; exact F.len _ _ _ _ h
 have hb' :=hb s us I.kIn (by rw [List.append_nil]; exact hl)
 rw [List.append_nil] at hb'
 refine wpAny_call (codeAny_mono (F.run X.A X.stack s H ⟨us,[]⟩ us vs Q E hr I.big hb' r h) fun r s' hq=> ?_)
 cases r with
 | error e=>exact hx pins σ H s e s' I hq
 | ok fl=>
  cases fl with
  | ret u=>exact I.after hq
  | next=>exact False.elim hq
  | brk=>exact False.elim hq
  | cont=>exact False.elim hq
end
def cxL (P:Program) (w:World) (K:Frag) (mg:Str->Option Value) (base:Heap) (N:List Str) (q:Str) (scope:Scope) (f:Addr) (cd:Value) (clos:List (Str×Addr)) (A:Around) (outer:List Env) (s:Shared) (H:Hp) (E:XK):Cx where
 prog:=P
 w:=w
 K:=K
 mg:=mg
 base:=base
 A:=A.deeper (envX q scope s.heap.objs.size f cd clos)
 N:=N
 s₀:=s
 H₀:=H
 env:=envX q scope s.heap.objs.size f cd clos
 outer:=outer
 stack:=envX q scope s.heap.objs.size f cd clos :: outer
 ex:=[]
 calm:=true
 fn:=fun _=>false
 pn:=[]
 xe:=fun e s' =>wpAny (model P w) (A.deeper (envX q scope s.heap.objs.size f cd clos)) (leaving (envX q scope s.heap.objs.size f cd clos) e) (fun _ s'' =>CX1 P w outer H s E e s'') (fun e' s'' =>CX1 P w outer H s E e' s'') s'
section
variable {P:Program} {w:World} {K:Frag} {mg:Str->Option Value} {base:Heap} {N:List Str} {q:Str} {scope:Scope} {f:Addr} {cd:Value} {clos:List (Str×Addr)} {A:Around} {outer:List Env} {s:Shared} {H:Hp} {E:XK}
theorem Uz:zz (CX1 P w) (cxL P w K mg base N q scope f cd clos A outer s H E) E:=by
 intro pins σ H1 s1 e s' I ⟨ea,cls,a0,B,H',he,L,hE⟩
 subst he
 exact wpAny_leaves_onW (base:=B) I.ok.frames rfl L.fly fun h' fl sl=>⟨ea,cls,a0,B,H',rfl,L.out I rfl rfl rfl fl sl,hE⟩
structure LSc (scope:Scope):Prop where
 kind:scope.kind= .function
 co:scope.isCoroutine=false
 gen:scope.isGenerator=false
 nocell:∀ x∈scope.names,x.2 ≠ .cell
structure uv (base:Heap) (H:Hp) (scope:Scope) (clos:List (Str×Addr)) (N:List Str) (σ:St):Prop where
 inj:∀ x y c,clos.lookup x=some c->clos.lookup y=some c->x=y
 has:∀ x∈scope.names,x.2= .free->∃ c,clos.lookup x.1=some c
 cell:∀ x c,clos.lookup x=some c->(∃ v,base.IsCell c v)/\H c=none
 loc:∀ (i:Nat) (x:Str) (v:V),N[i]? =some x->σ[i]? =some (some v)->∃ u c,zF v u/\clos.lookup x=some c/\base.IsCell c (some u)/\scope.names.lookup x=some .free
 len:σ.length=N.length
theorem jI {h h' :Heap} {c:Addr} {v:Option Value} (k:∀ a o,h.get? a=some o->h'.get? a=some o) (x:h.IsCell c v):h'.IsCell c v:=let ⟨o,e,d⟩:=x; ⟨o,k _ _ e,d⟩
theorem Yp {σ:St} {h1:Heap} {tk:Nat} (S:LSc scope) (hd:A.handled=none) (e0:wl P w K mg base A outer s H) (C:uv base H scope clos N σ) (ns:h1.Ns s.heap.objs.size (fun _=>none)) (hk:∀ b o,s.heap.get? b=some o->h1.get? b=some o):
  Inv (cxL P w K mg base N q scope f cd clos A outer s H E) [] σ H { s with heap:=h1,toks:=tk }:=by
 have bk:∀ b o,base.get? b=some o->h1.get? b=some o:=fun b o e=>hk b o (e0.bs b o e).1
 have noA:∀ b:Addr,b ∉ (cxL P w K mg base N q scope f cd clos A outer s H E).ex:=fun b z=>absurd (show b∈([]:List Addr) from z) (by simp)
 refine ⟨⟨e0.mod,S.kind,rfl,rfl,Nat.le_refl _,C.inj,fun y hy=> ?_,fun y c h _=>(Bool.false_ne_true h).elim,fun _=>hd,Around.frames_deeper e0.frames, .inr ⟨rfl,rfl⟩,fun b z=>absurd z (noA b),e0.bs,e0.bsz,fun b _ _=>noA b,fun b z=>absurd z (noA b),e0.funs,e0.frf⟩,
  rfl,e0.bare,Un.kept hk,⟨_,ns,fun i y v h1 h2 h3=> ?_⟩,fun y c h=> ?_,e0.hok.fresh (Nat.le_refl _),fun y c h=>(C.cell y c h).2,fun p hp=>absurd (show p∈([]:List (Addr×Obj)) from hp) (by simp),e0.hok.kept hk,C.len⟩
 ·have hy:scope.names.lookup y=some .cell\/scope.names.lookup y=some .free:=hy
  rcases hy with hy | hy
  ·exact absurd rfl (S.nocell _ (PySem.mem_of_lookup hy))
  ·exact C.has _ (PySem.mem_of_lookup hy) rfl
 ·obtain ⟨u,c,r,e,ic,k⟩:=C.loc i y v h1 h2
  exact ⟨u,r, .inr ⟨.inr k,c,e,jI bk ic⟩⟩
 ·obtain ⟨v,ic⟩:=(C.cell y c h).1
  exact ⟨v,jI bk ic⟩
theorem Yq {k:Nat} {params:Arguments} {body:Expr} {pm ctv:Value} {c' :Addr} {σ:St} {Q:VK} {te:TE} (S:LSc scope) (hr:zQ (k+1) A) (e0:wl P w K mg base A outer s H) (C:uv base H scope clos N σ)
  (hf:H f=some (.frz (Wf q params body scope clos pm ctv c') (.own f))) (hc:jv H q c') (hp:bindArgs (kla_fn "<lambda>" q params body scope clos pm (.ref c') ctv) ⟨[],[]⟩=pure [])
  (hb:PE (cxL P w K mg base N q scope f (.ref c') clos A outer s H E) body te) (ht:te σ H Q):
  codeAny (model P w) A (.call (.ref f) ⟨[],[]⟩) (CR (CX1 P w) outer P w H s Q E) s:=by
 have lim:s.heap.NoLimit:=e0.mod.nolimit.keeps fun b o e=>(e0.bs b o e).1
 refine kla_callFunE hr.depth (e0.hok f _ hf).1 rfl S.co S.gen rfl (hc.rec e0.hok) ?_
 rw [hp]
 refine wpAny_pure (wpAny_newFunctionEnv S.nocell (fun y hy=>by simp at hy) (fun h1 hns hsb=> ?_) S.kind)
 have hk:∀ b o,s.heap.get? b=some o->h1.get? b=some o:=fun b o e=>hsb.extBut b o (Nat.ne_of_lt (Heap.lt_size e)) (Heap.get?_push_of_some _ e)
 refine ⟨lim.keeps hk, ?_⟩
 show codeAny _ _ (.expr body (envX q scope s.heap.objs.size f (.ref c') clos)) _ _
 have I:=Yp (q:=q) (f:=f) (cd:= .ref c') (E:=E) (tk:=s.toks+([]:List (Str×Value)).length) S hr.hd e0 C hns hk
 exact kla_codeExpr (wpAny_mono (hb [] _ σ H Q I ht) (fun v s' ⟨x,H',J,r,q⟩=>⟨x,H',J.os,J.bare,J.base,J.hok,r,q⟩) fun _ _ z=>z)
end
end L2
namespace L2
open PySem PySem.Spec PyProof.Rows PySem.W
structure Z5 (k:Nat) (A:Around):Prop where
 dp:A.depth+3*k+5 < recursionLimit
 un:A.units+16*k+200 < cLine
 gd:A.guards=some []
theorem zQ.m {k:Nat} {A:Around} (r:zQ k A):Z5 k A:=⟨r.dp,r.un,r.gd⟩
theorem Z5.mono {j k:Nat} {A:Around} (r:Z5 k A) (h:j<=k):Z5 j A:=⟨by have:=r.dp; omega,by have:=r.un; omega,r.gd⟩
theorem Z5.deeper {k:Nat} {A:Around} (r:Z5 (k+1) A) (env:Env):Z5 k (A.deeper env):=
 ⟨by have:=r.dp; show A.depth+1+3*k+5 < _; omega,by have:=r.un; show A.units+3+16*k+200 < _; omega,r.gd⟩
theorem Z5.mark {k:Nat} {A:Around} (r:Z5 k A) (e:Value):Z5 k (A.mark (some e)):=⟨r.dp,r.un,r.gd⟩
theorem Z5.depth {k:Nat} {A:Around} (r:Z5 k A):A.depth < recursionLimit:=by have:=r.dp; omega
theorem Z5.units {k:Nat} {A:Around} (r:Z5 k A):A.units+64 < cLine:=by have:=r.un; omega
structure FnM (P:Program) (w:World) (K:Frag) (mg:Str->Option Value) (base:Heap) (k:Nat) (f:Addr) (fd:FuncData) (ps:List Str) (sp:Sp):Prop where
 len:∀ vs H Q E,sp vs H Q E->vs.length=ps.length
 run:∀ (A:Around) (outer:List Env) (s:Shared) (H:Hp) (args:Args) (us:List Value) (vs:List V) (Q:VK),Z5 k A->wl P w K mg base A outer s H->BindsTo s fd args (ps.zip us)->zv vs us->sp vs H Q (fun _ _ _=>False)->
  codeAny (model P w) A (.call (.ref f) args) (fun r s' =>∃ u,r= .ok (.ret u)/\CE outer P w H s Q u s') s
abbrev cxM (P:Program) (w:World) (K:Frag) (mg:Str->Option Value) (base:Heap) (N:List Str) (qual:Str) (scope:Scope) (f:Addr) (cd:Value) (A:Around) (outer:List Env) (s:Shared) (H:Hp):Cx:=
 { (Zr CX0 P w K mg base N qual scope f cd A outer s H (fun _ _ _=>False)).nox with calm:=false }
section
variable {P:Program} {w:World} {K:Frag} {mg:Str->Option Value} {base:Heap}
theorem QM {k:Nat} {x qual:Str} {st:Stmt} {f:Addr} {fd:FuncData} {N ps:List Str} {sp:Sp} (F:Fun K x qual st f fd) (S:za N ps (z9 st)) (len:∀ vs H Q E,sp vs H Q E->vs.length=ps.length)
  (hbody:∀ (cdv:Value) (A:Around) (outer:List Env) (s:Shared) (H:Hp) (vs:List V) (Q:VK),Z5 k (A.deeper (envOfC qual (z9 st) s.heap.objs.size f cdv))->sp vs H Q (fun _ _ _=>False)->
   ∃ t,PSs (cxM P w K mg base N qual (z9 st) f cdv A outer s H) (zr st) t/\t { nx:=fun _ H' =>Q .non H',rt:=Q } (start N vs) H):FnM P w K mg base (k+1) f fd ps sp:=by
 obtain ⟨oc,od,kV,doc,pm,an,cdv,ct,osl,rfl,lk,hcd⟩:=F.ex
 refine ⟨len,fun A outer s H args us vs Q hr e0 hb r hsp=> ?_⟩
 have hl:=len _ _ _ _ hsp
 have KX:K.In s.heap:=e0.mod.kin.keeps fun b o e=>(e0.bs b o e).1
 have lim:s.heap.NoLimit:=e0.mod.nolimit.keeps fun b o e=>(e0.bs b o e).1
 have hkind:∀ y∈ps.zip us,(z9 st).names.lookup y.1=some .local\/((z9 st).names.lookup y.1=some .cell/\((cellsFrom (s.heap.objs.size+1) (z9 st).names []).lookup y.1).isSome=true):=fun ⟨n,v⟩ hy=>by
  rcases S.par n (List.of_mem_zip hy).1 with q | q
  ·exact .inl q
  ·exact .inr ⟨q,cellsFrom_some _ _ _ (.inl q)⟩
 refine codeAny_call_function hr.depth (KX _ _ lk) rfl S.co S.gen rfl (codeRec_of KX hcd) (hb _ _ _ _ ?_)
 refine wpAny_newFunctionEnv_cells S.kind hkind fun env he s1 x=> ?_
 subst he
 refine ⟨lim.keeps x.toInCall.keep,codeAny_func ?_⟩
 obtain ⟨t,ht,hq⟩:=hbody cdv A outer s H vs Q (hr.deeper _) hsp
 have e1:wl P w K mg base { A with handled:=none } outer s H:=⟨e0.frames,e0.mod,e0.bs,e0.bsz,e0.funs,e0.frf,e0.hok,e0.bare⟩
 have J:Inv (Zr CX0 P w K mg base N qual (z9 st) f cdv { A with handled:=none } outer s H (fun _ _ _=>False)) [] (start N vs) H s1:=Jf S rfl e1 hl r x
 have I:Inv (cxM P w K mg base N qual (z9 st) f cdv A outer s H) [] (start N vs) H s1:=
  ⟨⟨J.ok.mod,J.ok.kind,J.ok.glob,J.ok.blt,J.ok.above,J.ok.inj,J.ok.has,J.ok.cab,fun z=>(by cases z),Around.frames_deeper e0.frames,J.ok.stk,J.ok.exf,J.ok.bs,J.ok.bsz,J.ok.noex,J.ok.exfs,J.ok.funs,J.ok.frf⟩,J.os,J.bare,J.base,J.loc,J.cell,J.free,J.freeC,J.pin,J.hok,J.len⟩
 refine wpAny_mono (ht [] s1 (start N vs) H _ I hq) (fun fl s' hs=> ?_) fun e s' hs=>hs.elim
 have fin:∀ {σ' :St} {H' :Hp} {v:V} {u:Value},Inv (cxM P w K mg base N qual (z9 st) f cdv A outer s H) [] σ' H' s' ->zF v u->Q v H' ->∃ u',(Except.ok (Flow.ret u):Result)= .ok (.ret u')/\CE outer P w H s Q u' s' :=
  fun {σ' H' v u} J rv q=>⟨u,rfl,v,H',J.os,J.bare,J.base,J.hok,rv,q⟩
 cases fl with
 | ret u=>
  obtain ⟨v,σ',H',J,rv,q⟩:=hs
  exact fin J rv q
 | next=>
  obtain ⟨σ',H',J,q⟩:=hs
  exact fin (v:=V.non) (u:=Value.none) J rfl q
 | brk=>obtain ⟨_,_,_,q⟩:=hs; exact False.elim q
 | cont=>obtain ⟨_,_,_,q⟩:=hs; exact False.elim q
theorem UA {X:Cx} {k:Nat} {f:Addr} {fd:FuncData} {ps:List Str} {sp:Sp} {x:Str} {p pos:Pos} {e:Expr} {t:TA} (F:FnM X.prog X.w X.K X.mg X.base k f fd ps sp) (hr:Z5 k X.A) (hg:Gl X x) (hm:X.mg x=some (.ref f)) (hk:keepIn X.K (.ref f)=true) (hb:Binds X.K fd ps [])
  (ha:PA X [e] t) (hdb:(x == ("__debug__":Str))=false:=by decide) (he:starEach [e] X.env=[(false,eval e X.env)]:=by rfl):
  PE X (.Call (.Name x p) [e] [] pos) (fun σ H Q=>t σ H fun vs H1=>sp vs H1 Q fun _ _ _=>False):=by
 intro pins s σ H Q I h
 refine wpAny_Call_Name_kw (Zm I hg hm ?_ hdb)
 refine callWith_K (h₀:=X.base) I.ok.mod.kin hk (thn (ha pos pins s σ H _ I h) fun us s1 ⟨vs,H1,I1,r,q⟩=>⟨I1.kIn, ?_⟩) he rfl
 have hl:us.length=ps.length:=by rw [← r.length]; exact F.len _ _ _ _ q
 have hb' :=hb s1 us I1.kIn (by rw [List.append_nil]; exact hl)
 rw [List.append_nil] at hb'
 refine wpAny_call (codeAny_mono (F.run X.A X.stack s1 H1 ⟨us,[]⟩ us vs Q hr I1.env0 hb' r q) fun r s' ⟨u,e1,hq⟩=> ?_)
 subst e1
 exact I1.after hq
end
def QN (X:Cx) (E:XK) (i:Nat) (f:Addr) (o:Obj):TE:=fun σ H Q=>σ[i]? =some (some (.ref f))/\H f=some (.frz o (.own f))/\
 ∀ s,wl X.prog X.w X.K X.mg X.base X.A X.stack s H->codeAny (model X.prog X.w) X.A (.call (.ref f) ⟨[],[]⟩) (CR (CX1 X.prog X.w) X.stack X.prog X.w H s Q E) s
theorem Yr {X:Cx} {E:XK} {i:Nat} {x:Str} {p pos:Pos} {f c' :Addr} {q:Str} {params:Arguments} {body:Expr} {scope:Scope} {clos:List (Str×Addr)} {pm ctv:Value} (hv:PE X (.Name x p) (j5 i)) (hx:zz (CX1 X.prog X.w) X E):
  PE X (.Call (.Name x p) [] [] pos) (QN X E i f (Wf q params body scope clos pm ctv c')):=by
 intro pins s σ H Q I ⟨hσ,hf,run⟩
 refine wpAny_Call_Name_kw (thn (hv pins s σ H (fun v H' =>v= .ref f/\H' =H) I ⟨_,hσ,rfl,rfl⟩) fun u s1 ⟨v,H1,I1,r,e1,e2⟩=> ?_)
 subst e1 e2
 obtain rfl:u=Value.ref f:=r
 refine callWith_F0 ⟨_,_,_,_,(I1.hok f _ hf).1⟩ ?_
 refine wpAny_call (codeAny_mono (run s1 I1.env0) fun r s' hq=> ?_)
 cases r with
 | error e=>exact hx pins σ H1 s1 e s' I1 hq
 | ok fl=>
  cases fl with
  | ret u=>exact I1.after hq
  | next=>exact False.elim hq
  | brk=>exact False.elim hq
  | cont=>exact False.elim hq
theorem Ys {X:Cx} {tb:XK->TS} {th:TE} {body:List Stmt} {c n:Str} {C:Addr} {cp hp rp pos:Pos} {i:Nat} {e2:Expr}
  (hX:X.stack=X.env :: X.outer) (hf:X.env.frame=some X.env.locals) (hN:X.N.Nodup) (hi:X.N[i]? =some n) (hl:X.env.scope.names.lookup n=some .local) (hg:Gl X c) (hm:X.mg c=some (.ref C))
  (hb:∀ (E' :XK) (pn:List (Addr×Obj)) (xe:Value->Shared->Prop),zz (CX1 X.prog X.w) (X.try' pn xe) E' ->PSs (X.try' pn xe) body (tb E'))
  (he:∀ ea,PE (X.mark' (.ref ea)) e2 th) (hdc:(c == ("__debug__":Str))=false:=by decide):
  PS X (.Try body [.ExceptHandler (some (.Name c cp)) (some n) [.Return (some e2) rp] hp] [] [] pos)
   (fun D σ H=>∃ E' :XK,(∀ (cls:Value) (d:Option Addr) (H' :Hp) (ea:Addr) (σ' :St),E' cls d H' ->exmOne X.K cls (.ref C)=some true/\(H' ea=none->σ'.length=σ.length->σ.length=X.N.length->th (σ'.set i (some (.ref ea))) (upd H' ea (.ext (wt cls ea))) D.rt))/\tb E' D σ H):=by
 intro pins s σ H D I ⟨E',hE,hw⟩
 have pass:zz (CX1 X.prog X.w) (X.try' (X.pn++pins) fun e s1=>wpAny (model X.prog X.w) X.A (noteFrame e X.env) (fun _ s2=>wpAny (model X.prog X.w) X.A (setFlight e none) (fun _ s3=>wpAny (model X.prog X.w) X.A (handleBy e X.env [.ExceptHandler (some (.Name c cp)) (some n) [.Return (some e2) rp] hp]) (SP X pins D) X.xe s3) X.xe s2) X.xe s1) E' :=by
  intro pins' σ' H1 s1 e s' I1 ⟨ea,cls,a0,B,H',he',L,hw'⟩
  subst he'
  have I0:Inv X pins σ' H1 s1:=I1.untry
  have L:JQ X.prog X.w X.stack H1 s1 s' ea cls a0 B H' :=L
  have fr:X.A.frames=some (X.env :: X.outer):=by rw [← hX]; exact I0.ok.frames
  show wpAny (model X.prog X.w) X.A (noteFrame (.ref ea) X.env) _ _ s'
  refine wpAny_looks_onW (base:=B) fr hf (hX ▸ L.fly) fun h1 held sl1=> ?_
  refine wpAny_landsW held fun h2 fl2 sl2=> ?_
  rw [← hX] at fl2
  have sl12:s'.heap.UpToSlots h2:=sl1.trans sl2
  have I2:=I0.caught L fl2 sl12
  obtain ⟨hm1,hD⟩:=hE cls none H' ea σ' hw'
  refine W3 hm1 ?_
  refine Zm (X:=X.mark' (.ref ea)) (I2.mark' (.ref ea)) hg hm ⟨rfl,I2.kIn,fl2.there, ?_⟩ hdc
  refine lands_againW fl2 fun h3 fl3 sl3=> ?_
  have I3:=I0.caughtX L fl3 (sl12.trans sl3)
  have hlen:σ'.length=X.N.length:=I0.len
  refine Zs (X:=X.mark' (.ref ea)) (I3.mark' _) hN hi (.inl hl) (v:= .ref ea) rfl (fun s4 I4=> ?_) (.inr hl)
  have hs1:=Zz (jw (X:=X.mark' (.ref ea)) (pos:=rp) (he ea))
  have hr:=hs1 pins s4 _ _ { nx:=fun _ _=>False,rt:=D.rt } I4 (hD L.fresh (hlen.trans I.len.symm) I.len)
  refine wpAny_mono hr (fun f s5 h5=> ?_) fun _ _ z=>z
  cases f with
  | next=>obtain ⟨_,_,_,z⟩:=h5; exact z.elim
  | brk=>obtain ⟨_,_,_,z⟩:=h5; exact z.elim
  | cont=>obtain ⟨_,_,_,z⟩:=h5; exact z.elim
  | ret u=>
   obtain ⟨v,σ5,H5,I5,r5,q5⟩:=h5
   refine yz (X:=X) (I5.unmark I.ok.hd) hN hi hl fun s6 I6=> ?_
   exact ⟨v,_,_,I6,r5,q5⟩
 have hr:=hb E' (X.pn++pins) _ pass [] s σ H D (I.try' _) hw
 refine wpAny_Try_except (wpAny_mono hr (fun f s1 h1=> ?_) fun _ _ z=>z)
 have h1:=h1.untry
 cases f with
 | next=>exact wpAny_execs_nil h1
 | brk=>exact h1
 | cont=>exact h1
 | ret u=>exact h1
end L2
namespace PV
open PySem PySem.Spec PyProof.Rows L2 PySem.W
def nx1 (r:R T):R T:=match r with
 | .ok t=> .ok t
 | _=> .bad
def ZD (ok:Nat->Bool) (gx:Nat->R T) (r:R T):R T:=match r with
 | .ok t=> .ok t
 | .ex c=>if ok c=true then nx1 (gx c) else .bad
 | .bad=> .bad
def ZE (js:List Nat) (ok:Nat->Bool) (gx:Nat->R T) (fe:En->R T):En->R T:=fun ρ=>ZD ok gx (fe (jD 0 js ρ))
def spT (P:Program) (w:World) (K:Frag) (mg:Str->Option Value) (base:Heap) (cl:Nat->Value) (ok:Nat->Bool) (gx:Nat->R T) (k:Nat) (f:Addr) (o:Obj) (B:Hp) (r:R T):Sp:=fun vs H Q E=>vs=[V.ref f]/\H f=some (.frz o (.own f))/\zg B H/\Po ⟨B,H,E,cl,[]⟩ rC B H (ZD ok gx r) Q/\
 ∀ (A:Around) (outer:List Env) (s:Shared) (E' :XK) (Q' :VK),zQ (k+1) A->wl P w K mg base A outer s H->Po ⟨B,H,E',cl,[]⟩ rC B H r Q' ->codeAny (model P w) A (.call (.ref f) ⟨[],[]⟩) (CR (CX1 P w) outer P w H s Q' E') s
def uw (P:Program) (w:World) (K:Frag) (mg:Str->Option Value) (cl:Nat->Value) (ok:Nat->Bool) (gx:Nat->R T) (k:Nat) (ft:Addr) (fdt:FuncData) (d:Str):Prop:=
 ∀ (base:Heap) (f c' :Addr) (q:Str) (params:Arguments) (body:Expr) (scope:Scope) (clos:List (Str×Addr)) (pm ctv:Value) (B:Hp) (r:R T),K.In base->zq P w K mg base CX0 (k+2) ft fdt [d] (spT P w K mg base cl ok gx k f (Wf q params body scope clos pm ctv c') B r)
section
variable {P:Program} {w:World} {K:Frag} {mg:Str->Option Value}
theorem Yt {cl:Nat->Value} {ok:Nat->Bool} {gx:Nat->R T} {k j i:Nat} {x qual d n cn lc y:Str} {st:Stmt} {ft C fl:Addr} {fdt fdl:FuncData} {N:List Str} {dp cp rp np hp lp ep lcp rp2 tp:Pos} (F:Fun K x qual st ft fdt) (S:za N [d] (z9 st))
  (hst:zr st=[.Try [.Return (some (.Call (.Name d dp) [] [] cp)) rp] [.ExceptHandler (some (.Name cn np)) (some n) [.Return (some (.Call (.Name lc lp) [.Name n ep] [] lcp)) rp2] hp] [] [] tp])
  (h0:N[0]? =some d) (hd:(z9 st).names.lookup d=some .local) (hi:N[i]? =some n) (hl:(z9 st).names.lookup n=some .local) (hi0:i ≠ 0)
  (hgc:(z9 st).names.lookup cn=some .globalImplicit) (hmc:mg cn=some (.ref C)) (hok:∀ c,ok c=true->exmOne K (cl c) (.ref C)=some true)
  (hgl:(z9 st).names.lookup lc=some .globalImplicit) (hml:mg lc=some (.ref fl)) (kp:keepIn K (.ref fl)=true) (bd:L2.Binds K fdl [y] []) (FL:∀ base,K.In base->FnM P w K mg base j fl fdl [y] (spC cl gx)) (hj:j<=k+1)
  (h1:(d == ("__debug__":Str))=false:=by decide) (h2:(d == ("__classdict__":Str))=false:=by decide) (h3:(n == ("__debug__":Str))=false:=by decide) (h4:(n == ("__classdict__":Str))=false:=by decide) (h5:(lc == ("__debug__":Str))=false:=by decide) (h6:(cn == ("__debug__":Str))=false:=by decide):
  uw P w K mg cl ok gx k ft fdt d:=by
 intro base f c' q params body scope clos pm ctv B r KB
 refine F.ok S (fun vs H Q E ⟨e,_⟩=>by rw [e]; rfl) fun cdv A outer s H vs Q E hr ⟨e,hf,sB,po,run⟩=> ?_
 subst e
 rw [hst]
 have he:∀ ea,PE ((Zr CX0 P w K mg base N qual (z9 st) ft cdv A outer s H E).nox.mark' (.ref ea)) (.Call (.Name lc lp) [.Name n ep] [] lcp) (fun σ H Q=>∃ v,σ[i]? =some (some v)/\spC cl gx [v] H Q fun _ _ _=>False):=fun ea=>
  PE.imp (UA (FL base KB) ((hr.m.mono hj).mark _) hgl hml kp bd (zj (Wp hi (.inl hl) h3 h4) zw (st1 rfl)) h5 (st1 rfl)) fun σ H Q ⟨v,e,z⟩=>⟨v,e,z⟩
 refine ⟨_,Zz (Ys (X:=(Zr CX0 P w K mg base N qual (z9 st) ft cdv A outer s H E).nox) (tb:=fun E' =>XD (QN (Zr CX0 P w K mg base N qual (z9 st) ft cdv A outer s H E) E' 0 f (Wf q params body scope clos pm ctv c'))) (i:=i) (C:=C) rfl rfl S.nd hi hl hgc hmc (fun E' pn xe hp=>Zz (jw (Yr (f:=f) (c' :=c') (q:=q) (params:=params) (body:=body) (scope:=scope) (clos:=clos) (pm:=pm) (ctv:=ctv) (Wp h0 (.inl hd) h1 h2) hp))) he h6), ?_⟩
 refine ⟨fun cls _ H' =>∃ c,cls=cl c/\ok c=true/\zg H H' /\zg B H' /\Po ⟨B,H,E,cl,[]⟩ rC B H (nx1 (gx c)) Q,fun cls d H' ea σ' ⟨c,e1,e2,s1,s2,q1⟩=> ?_,by unfold L2.start; rfl,hf,fun s2 e0=>run _ _ s2 _ _ hr e0 ?_⟩
 ·subst e1
  refine ⟨hok c e2,fun hea hl' hX' =>⟨.ref ea,List.getElem?_set_self (by rw [hl',hX']; exact (List.getElem?_eq_some_iff.mp hi).1),upd B ea (.ext (wt (cl c) ea)),ea,c,rfl, ?_,zi, ?_⟩⟩
  ·intro b o hb
   by_cases z:b=ea
   ·subst z; rw [zi] at hb ⊢; exact hb
   ·rw [zd z] at hb ⊢; exact s2 b o hb
  ·have s3:zg H (upd H' ea (.ext (wt (cl c) ea))):=s1.trans (zg.new hea _)
   have hHe:H ea=none:=s1.free hea
   revert q1
   cases gx c with
   | bad=>exact fun z=>z
   | ex c2=>exact fun z=>z.elim
   | ok t=>
    intro z b H3 s4 rb
    refine z b H3 (s3.trans s4) (rb.mono fun a o ha=> ?_)
    cases hH:upd H' ea (.ext (wt (cl c) ea)) a with
    | none=>
     rw [zB hH] at ha
     cases hHa:H a with
     | none=>rw [zB hHa]; exact ha
     | some u=>have:=s3 a u hHa; rw [hH] at this; cases this
    | some u=>
     rw [zC hH] at ha
     by_cases ze:a=ea
     ·subst ze
      rw [zB hHe]
      rw [zi] at ha hH
      rw [← ha,s4 _ _ zi]
     ·rw [zd ze] at ha
      rw [zC (sB a o ha)]; exact ha
 ·revert po
  unfold ZD
  cases r with
  | ok t=>exact fun po=>po
  | bad=>exact fun po=>po
  | ex c=>
   intro po
   dsimp only at po
   split at po
   ·rename_i hc
    exact fun d H' a b=>⟨c,rfl,hc,a,b,po⟩
   ·exact po.elim
end
section
variable {X:Cx} {Y:Fx}
theorem QO {pins:List (Addr×Obj)} {σ:Sg} {H:Hp} {s:Shared} {scope:Scope} {clos:List (Str×Addr)} {N' :List Str} {js:List Nat} (I:L2.Inv X pins σ H s) (hfn:∀ x,X.fn x=true) (hcl:∀ x c,clos.lookup x=some c->X.env.cells.lookup x=some c)
  (hcf:∀ x∈scope.names,x.2=NameKind.free->∃ c,clos.lookup x.1=some c) (CP:Q8 X scope N' 0 js):uv (UZ s H (frs X.stack)) H scope clos N' (JK 0 js σ):=by
 have up:∀ x c,X.env.cells.lookup x=some c->∀ v,s.heap.IsCell c v->(UZ s H (frs X.stack)).IsCell c v:=fun x c e v ⟨o,ho,hd⟩=>⟨o,wH ho (I.freeC x c e) fun hb=>by
  rcases List.mem_cons.mp (I.stkSub c hb) with z | z
  ·exact I.cne x c e z
  ·obtain ⟨_,o2,e2,_⟩:=I.ok.funs.mem z
   exact absurd (Heap.lt_size e2) (Nat.not_lt.mpr (I.ok.cab x c (hfn x) e)),hd⟩
 refine ⟨fun x y c h1 h2=>I.ok.inj x y c (hcl _ _ h1) (hcl _ _ h2),hcf,fun x c e=>⟨?_,I.freeC x c (hcl x c e)⟩,fun i x v h1 h2=> ?_,by unfold JK; simp [CP.len]⟩
 ·obtain ⟨v,ic⟩:=I.cell x c (hcl x c e)
  exact ⟨v,up x c (hcl x c e) v ic⟩
 ·unfold JK at h2
  rw [List.replicate_zero,List.nil_append,List.getElem?_map] at h2
  cases ej:js[i]? with
  | none=>rw [ej] at h2; cases h2
  | some j=>
   rw [ej] at h2
   have h2' :(σ[j]?).getD none=some v:=Option.some.inj h2
   have hσ:σ[j]? =some (some v):=by
    cases ez:σ[j]? with
    | none=>rw [ez] at h2'; cases h2'
    | some z=>rw [ez] at h2'; exact congrArg some h2'
   obtain ⟨y,e1,e2,e3,e4,e5⟩:=CP.cap i j ej
   rw [Nat.zero_add,h1] at e1
   cases e1
   obtain ⟨m,hn,hlo⟩:=I.loc
   obtain ⟨u,ru,lk⟩:=hlo j x v e2 hσ e3
   obtain ⟨c,ec⟩:=hcf (x, .free) (PySem.mem_of_lookup e4) rfl
   rcases lk with ⟨k,_⟩ | ⟨_,c2,e6,ic⟩
   ·rcases e5 with z | z <;> (rw [k] at z; cases z)
   ·have:=hcl x c ec
    rw [e6] at this; cases this
    exact ⟨u,c,ru,ec,up x c e6 _ ic,e4⟩
theorem wI {cl:Nat->Value} {ok:Nat->Bool} {gx:Nat->R T} {kE k:Nat} {x d q:Str} {c P ft:Addr} {fdt:FuncData} {params:Arguments} {body:Expr} {scope:Scope} {lp p pos:Pos} {js:List Nat} {fe:En->R T} (hy:Y.cl=cl) (L:Lm X c P q) (hT:Y.H0 P=some (.tbl #[] q)) (hfn:∀ x,X.fn x=true)
  (O:uw X.prog X.w X.K X.mg cl ok gx kE ft fdt d) (hr:zQ k X.A) (hj:kE+2<=k) (gl:Gl X x) (mg:X.mg x=some (.ref ft)) (kp:keepIn X.K (.ref ft)=true) (bd:L2.Binds X.K fdt [d] [])
  (N' N:List Str) (sc0:Scope) (hN:X.N=N) (h0:X.env.scope=sc0) (hck:(vO scope sc0 && vP N N' scope sc0 0 js)=true) (hco:scope.isCoroutine=false) (hge:scope.isGenerator=false)
  (hb:∀ (base:Heap) (A:Around) (outer:List Env) (s:Shared) (H:Hp) (E:XK) (f c' :Addr) (clos:List (Str×Addr)) (Y' :Fx),X.K.In base->Y'.cl=cl->Y'.E=E->zQ kE (A.deeper (envX q scope s.heap.objs.size f (.ref c') clos))->Snd (cxL X.prog X.w X.K X.mg base N' q scope f (.ref c') clos A outer s H E) Y' body fe)
  (hp:∀ (clos:List (Str×Addr)) (pm cd ctv:Value),bindArgs (kla_fn "<lambda>" q params body scope clos pm cd ctv) ⟨[],[]⟩=pure []:=by intros; rfl) (hdef:defaultsOf params X.env=([],[]):=by rfl) (hd:(x == ("__debug__":Str))=false:=by decide):
  Snd X Y (.Call (.Name x p) [.Lambda params body scope lp] [] pos) (ZE js ok gx fe):= .mk fun ρ=>by
 intro pins s σ H Q I ⟨B,J,po⟩
 subst hy
 rw [Bool.and_eq_true] at hck
 have CS:=US (X:=X) sc0 h0 hck.1
 have CP:Q8 X scope N' 0 js:=ud N sc0 hN h0 hck.2
 have S:LSc scope:=⟨CS.kind,hco,hge,CS.nocell⟩
 obtain ⟨clos,ecl,hcl,hcf⟩:=u8 (scope:=scope) (env:=X.env) fun x hx hf=>I.ok.has x.1 (CS.fre x hx hf)
 refine wpAny_Call_Name_kw (Zm I gl mg ?_ hd)
 have hP:H P=some (.tbl #[] q):=J.sH _ _ hT
 have hpa:=zj (QL (params:=params) (body:=body) (pos:=lp) L hdef ecl) zw (st1 rfl) pos pins s σ H (fun vs H1=>∃ f c' pm ctv,vs=[V.ref f]/\zg H H1/\H1 f=some (.frz (Wf q params body scope clos pm ctv c') (.own f))/\jv H1 q c') I ⟨hP,fun f c' pm ctv H' s1 hf hc=>⟨f,c',pm,ctv,rfl,s1,hf,hc⟩⟩
 refine callWith_K (h₀:=X.base) I.ok.mod.kin kp (thn hpa fun us s1 ⟨vs,H1,I1,r,f,c',pm,ctv,e,sm,hf,hc⟩=>⟨I1.kIn, ?_⟩) (st1 rfl) rfl
 subst e
 have J1:=J.grow sm
 refine Yo (E:=Y.E) I1 (O _ f c' q params body scope clos pm ctv (zo B H H1) (fe (jD 0 js ρ)) I1.big.mod.kin) (hr.mono hj) bd Qf r ⟨rfl,hf,J1.sB, ?_,fun A outer s2 E' Q' hrm e0 q' => ?_⟩
 ·have po:Po Y rC B H (ZD ok gx (fe (jD 0 js ρ))) Q:=po
  revert po
  cases ZD ok gx (fe (jD 0 js ρ)) with
  | bad=>exact fun z=>z
  | ex c2=>exact fun z d H' a b=>z d H' ((J.sH.trans sm).trans a) ((zo.ge J.sB sm).trans b)
  | ok t=>exact fun z b H2 s2 rb=>z b H2 (sm.trans s2) (by rw [← zo.trans sm s2]; exact rb)
 ·refine Yq (N:=N') (σ:=JK 0 js σ) (te:=tS ⟨zo B H H1,H1,E',Y.cl,[]⟩ rC fe (jD 0 js ρ)) S hrm e0 (QO I1 hfn hcl hcf CP) hf hc (hp clos pm _ ctv) ?_ ⟨_,J1.blockS 0 js E' (zg.refl _),q'⟩
  exact (hb _ A outer s2 H1 E' f c' clos ⟨zo B H H1,H1,E',Y.cl,[]⟩ e0.mod.kin rfl rfl (hrm.deeper _)) (jD 0 js ρ)
end
section
variable {P:Program} {w:World} {K:PySem.W.Frag} {mg:Str->Option Value} {base:Heap}
theorem Yu {cl:Nat->Value} {x qual q:Str} {st:Stmt} {f:Addr} {fd:FuncData} {N:List Str} {k:Nat} {fb:En->RS} {gx:Nat->R T} (F:Fun K x qual st f fd) (S:za N [q] (z9 st)) (hN:1<=N.length)
  (hb:∀ (cdv:Value) (A:Around) (outer:List Env) (s:Shared) (H:Hp) (Y:Fx),Y.cl=cl->Z5 k (A.deeper (envOfC qual (z9 st) s.heap.objs.size f cdv))->
   Js (cxM P w K mg base N qual (z9 st) f cdv A outer s H) Y (zr st) fb)
  (hg:∀ c,gx c=zn (fb (enC N.length c))):FnM P w K mg base (k+1) f fd [q] (spC cl gx):=by
 refine QM F S (fun vs H Q E ⟨_,_,_,e,_⟩=>by rw [e]; rfl) fun cdv A outer s H vs Q hr ⟨B,a,c,e,sB,r,q⟩=> ?_
 subst e
 refine ⟨_,hb cdv A outer s H ⟨B,H,fun _ _ _=>False,cl,[]⟩ rfl hr (enC N.length c),B,SI.startC (Y:=⟨B,H,fun _ _ _=>False,cl,[]⟩) sB hN r, ?_⟩
 rw [hg c] at q
 revert q
 cases fb (enC N.length c) with
 | rt t=>exact fun q v H' s r=>q v H' s r
 | rf t=>exact fun q a xs H' B' s0 n e r _ l=>q (.ref a) H' s0 (.lst (by rw [zB n]; exact e) (r.mono l))
 | nx ρ=>exact fun q σ' H' B' _ I=>q .non H' I.sH .non
 | ex c=>exact fun q=>q
 | bk ρ=>exact fun q=>q.elim
 | ct ρ=>exact fun q=>q.elim
 | bad=>exact fun q=>q
def YO (cl:Nat->Value) (n:Nat) (g:List T->R T) (Pt:Addr) (q:Str):Sp:=fun vs H Q E=>H Pt=some (.tbl #[] q)/\spP cl n g vs H Q E
end
end PV
namespace L2
open PySem PySem.Spec PyProof.Rows PySem.W
theorem ux {P:Program} {w:World} {K:Frag} {mg mb:Str->Option Value} {CX:CXT} {k:Nat} {fa a c Pt:Addr} {fd:FuncData} {x q:Str} {sp:Sp} {s₁:Shared} {vs:List Value} {ns:List Int}
  (KX:K.In s₁.heap) (hns:s₁.heap.Ns mainGlobals mg) (hb:s₁.heap.Ns builtinsNs mb) (hbb:∀ x:Str,x ≠ "__name__"->mb x=bootBuiltins x) (hlim:s₁.heap.NoLimit) (hg:s₁.gens= #[])
  (ha:s₁.heap.get? a=some { cls:= .type "list",data:= .seq vs.toArray }) (hi:IntsAre vs ns) (hl:ns.length<=sizeLine) (hr:zQ k callerA)
  (hbt:s₁.heap.BuiltinsAt mg Pt) (hPt:s₁.heap.get? Pt=some (tabObj #[])) (hKP:K.lookup Pt=none) (hC:codeHdIn K c Pt=true) (hKa:K.lookup a=none)
  (F:∀ base:Heap,K.In base->base.BuiltinsAt mg Pt->zq P w K mg base CX k fa fd [x] sp) (hbind:∀ (s:Shared) (u:Value),BindsTo s fd ⟨[u],[]⟩ [(x,u)])
  (hsp:∀ (H:Hp) (o:Obj),H a=some (.frz o (.lst (ns.map V.int)))->H Pt=some (.tbl #[] q)->sp [.ref a] H (fun v _=>v= .bl true) fun _ _ _=>False)
  (hCX:∀ H e s',CX [] H s₁ (fun _ _ _=>False) e s' ->False):
  codeAny (model P w) callerA (.call (.ref fa) ⟨[.ref a],[]⟩) (fun r s' =>r= .ok (.ret (.bool true))/\OldK s₁.heap s'.heap/\s'.os=s₁.os/\AllBare s'.gens) s₁:=by
 have rv:=Jk hi
 have hne:Pt ≠ a:=fun z=>by rw [z,ha] at hPt; cases hPt
 obtain ⟨H,hH⟩:∃ H:Hp,H=upd (upd (fun _=>none) Pt (.tbl #[] q)) a (.frz { cls:= .type "list",data:= .seq vs.toArray } (.lst (ns.map V.int))):=⟨_,rfl⟩
 have h1:H a=some (.frz { cls:= .type "list",data:= .seq vs.toArray } (.lst (ns.map V.int))):=by rw [hH,zi]
 have h2:H Pt=some (.tbl #[] q):=by rw [hH,zd hne,zi]
 have h3:∀ b,b ≠ a->b ≠ Pt->H b=none:=fun b n1 n2=>by rw [hH,zd n1,zd n2]
 have hok:HOk P w H s₁.heap:=fun b o e=>by
  by_cases b1:b=a
  ·subst b1; rw [h1] at e; cases e
   exact ⟨ha,by rw [List.length_map]; exact hl,vs,_,rv,ha⟩
  ·by_cases b2:b=Pt
   ·subst b2; rw [h2] at e; cases e
    exact ⟨#[],hPt,trivial,fun p cv z=>by cases z⟩
   ·rw [h3 b b1 b2] at e; cases e
 have free:∀ {b:Addr} {o:Obj},s₁.heap.get? b=some o->o.cls ≠ .type "list"->o.cls ≠ .none->H b=none:=fun {b o} e n1 n2=>h3 b (fun z=>by rw [z,ha] at e; cases e; exact n1 rfl) fun z=>by rw [z,hPt] at e; cases e; exact n2 rfl
 have noD:∀ {b:Addr} {o:Obj} {es:Array DictEntry} {ep:Nat},s₁.heap.get? b=some o->o.data= .dict es ep->H b=none:=fun {b o es ep} e d=>h3 b (fun z=>by rw [z,ha] at e; cases e; cases d) fun z=>by rw [z,hPt] at e; cases e; cases d
 have nsK:∀ {b:Addr} {m:Str->Option Value},s₁.heap.Ns b m->(uS s₁.heap H).Ns b m:=fun {b m} ⟨o,es,ep,e,d,r⟩=>⟨o,es,ep,jM e (noD e d),d,r⟩
 have hKb:K.In (uS s₁.heap H):=fun b o e=>jM (KX b o e) (h3 b (fun z=>by rw [z,hKa] at e; cases e) fun z=>by rw [z,hKP] at e; cases e)
 have hM:Mod K mg (uS s₁.heap H):=⟨hKb,nsK hns,⟨mb,nsK hb,hbb⟩,let ⟨mc,h1,h2⟩:=hlim; ⟨mc,nsK h1,h2⟩⟩
 have hBT:(uS s₁.heap H).BuiltinsAt mg Pt:=by
  obtain ⟨bm,o,b1,b2,b3,b4,b5,b6,b7,b8⟩:=hbt
  exact ⟨bm,o,b1,b2,b3,b4,jM b5 (h3 bm (fun z=>by rw [z,ha] at b5; cases b5; cases b8) b4),b6,b7,b8⟩
 have e0:wl P w K mg (uS s₁.heap H) callerA [] s₁ H:=⟨rfl,hM,fun b o e=>ye e,Nat.le_of_eq (Wm _ _),trivial,fun b hb=>absurd (show b∈([]:List Addr) from hb) (by simp),hok, .of_eq hg⟩
 refine codeAny_mono ((F _ hKb hBT).run callerA [] s₁ H ⟨[.ref a],[]⟩ [.ref a] [.ref a] _ _ hr e0 (hbind s₁ (.ref a)) (.cons rfl .nil) (hsp H _ h1 h2)) fun r s' h=> ?_
 cases r with
 | error e=>exact (hCX H e s' h).elim
 | ok fl=>
  cases fl with
  | next=>exact False.elim h
  | brk=>exact False.elim h
  | cont=>exact False.elim h
  | ret u=>
   obtain ⟨v,H',os,bare,un,hok',r',qv⟩:=h
   have q' :v= .bl true:=qv
   subst q'
   obtain rfl:u=Value.bool true:=r'
   refine ⟨rfl,⟨fun b o e=> ?_,fun b o e=>un.there b o e (by simp)⟩,os,bare⟩
   by_cases b1:b=a
   ·subst b1
    have z2:=un.frzs b _ _ h1
    obtain ⟨e2,_⟩:=hok' b _ z2
    rw [ha] at e; cases e
    exact .inl e2
   ·by_cases b2:b=Pt
    ·subst b2
     obtain ⟨more,e2,_⟩:=hok' b _ (un.tbls b _ _ h2)
     rw [hPt] at e; cases e
     exact .inr (.inl ⟨((codeHd_of_K KX hC).tab hPt).isCodeTable,rfl, #[],more,rfl,e2⟩)
    ·exact .inl (un.keep b o e (h3 b b1 b2) (by intro z; exact absurd (show b∈([]:List Addr) from z) (by simp)) (by simp))
theorem walk_ofT {l:OpenLaw} {n k:Nat} {q:Program} {loose:List Str} {XP:(Str->Option Value)->Heap->Prop} {YP:World->Heap->Prop} {d:DefRec} {K:Params->Frag} {ts:List Addr} {CX:World->CXT} {sp:World->Addr->Sp} {x nm:Str}
  (hn:l.most=some n) (hn2:n<=sizeLine) (hdf:d.params.defaults=[]) (hr:zQ k callerA)
  (hY:∀ (w:World) (h:Heap),YP w h->(K w.params).In h/\∀ P∈ts,h.get? P=some (tabObj #[])) (hKa:∀ (w:World) (a:Addr) (o:Obj),(K w.params).lookup a=some o->o.cls ≠ .type "list")
  (F:∀ (w:World) (mg:Str->Option Value) (fa:Addr) (h:Heap),(K w.params).In h->h.Ns mainGlobals mg->mg d.name=some (.ref fa)->(∀ P∈ts,h.get? P=some (tabObj #[]))->
   ∃ (fd:FuncData) (c Pt:Addr),(∀ (s:Shared) (u:Value),BindsTo s fd ⟨[u],[]⟩ [(x,u)])/\h.get? Pt=some (tabObj #[])/\(K w.params).lookup Pt=none/\codeHdIn (K w.params) c Pt=true/\
    ∀ base:Heap,(K w.params).In base->base.BuiltinsAt mg Pt->zq l.prog w (K w.params) mg base (CX w) k fa fd [x] (sp w Pt))
  (hsp:∀ (w:World) (H:Hp) (a Pt:Addr) (o:Obj) (ns:List Int),ns.length<=n->H a=some (.frz o (.lst (ns.map V.int)))->H Pt=some (.tbl #[] nm)->sp w Pt [.ref a] H (fun v _=>v= .bl true) fun _ _ _=>False)
  (hCX:∀ (w:World) (H:Hp) (s:Shared) (e:Value) (s' :Shared),CX w [] H s (fun _ _ _=>False) e s' ->False):
  WalkO q loose XP YP l.row.toRowW d [] (fun f vs=>PySem.call f vs):=by
 refine Att.attach_call hn hdf fun w s₀ s₁ mg mb fa o pm cd doc a vs ns G Y ho hd hcd hmg hobj hints hlen hg=> ?_
 obtain ⟨KX,hT⟩:=hY w _ Y
 obtain ⟨fd,c,Pt,hb,hPt,hKP,hC,hF⟩:=F w mg fa _ KX G.T.g hmg hT
 obtain ⟨bm,ob,b1,b2,b3,b4,b5,b6⟩:=G.T.bmain
 have hbP:bm ≠ Pt:=fun z=>by rw [z,hPt] at b3; cases b3; cases b4
 have hbG:bm ≠ mainGlobals:=fun z=>by
  obtain ⟨o,es,ep,e,hd,_⟩:=G.T.g
  rw [z,e] at b3; cases b3; rw [hd] at b6; cases b6
 refine ux (q:=nm) KX G.T.g G.T.b G.T.builtins G.T.nolimit hg hobj hints (Nat.le_trans hlen hn2) hr ⟨bm,ob,b1,b2,hbG,hbP,b3,b4,b5,b6⟩ hPt hKP hC ?_ hF hb (fun H o h1 h2=>hsp w H a Pt o ns hlen h1 h2) fun H e s' =>hCX w H s₁ e s'
 cases hk:(K w.params).lookup a with
 | none=>rfl
 | some o2=>
  have e:=KX a o2 hk
  rw [hobj] at e; cases e
  exact (hKa w a _ hk rfl).elim
end L2
namespace PV
open PySem PySem.Spec PyProof.Rows L2
section
variable {prog:Program} {w:World} {A:Around} {R:Result->Shared->Prop} {I:Addr} {fp wr:List Addr} {n:Nat} {P:Nat->Value->Prop} {St:Nat->Heap->Prop}
end
section
variable {prog:Program} {w:World} {A:Around} {E:Value->Shared->Prop} {s:Shared} {l:Addr} {xs:Array (Int×Tok)}
end
section
variable {X:Cx} {Y:Fx} {a b:Expr} {fa fb:En->R T} {pos p p' pos' pt kp:Pos} {elts:List Expr} {kk:Nat}
end
end PV
namespace PV
open PySem PySem.Spec PyProof.Rows L2 PySem.W
section
variable {X:Cx} {Y:Fx} {a b:Expr} {fa fb:En->R T} {pos p p' :Pos}
def ixO (i:Nat) (fb:En->R T):En->R T:=fun ρ=>match ρ[i]? with
 | some (.ow ts)=>(fb ρ).bind fun t=>match t with
  | .int j=>atT ts j
  | _=> .bad
 | _=> .bad
theorem xl {i:Nat} {x:Str} (hv:PE X (.Name x p) (j5 i)) (hb:Snd X Y b fb) (hs:jP b:=by exact fun _ _=>rfl):Snd X Y (.Subscript (.Name x p) b pos) (ixO i fb):= .mk fun ρ=>
 PE.imp (yu WL hv (hb ρ) hs) fun σ H Q ⟨B,I,q⟩=>by
  unfold ixO at q
  split at q
  ·rename_i ts e
   obtain ⟨a,xs,e1,_⟩:=I.ow i ts e
   refine ⟨.ref a,e1,step I q fun t' v' H2 _ s2 r2 I2 q2=> ?_⟩
   obtain ⟨a2,xs2,e2,_,_,hh,rr,_⟩:=I2.ow i ts e
   rw [e1] at e2; cases e2
   cases r2 with
   | int j=>
    have q2:Po Y rC _ H2 (atT ts j) Q:=q2
    unfold atT at q2
    split at q2
    ·rename_i t e3
     obtain ⟨w,e4,e5⟩:=Jr rr e3
     exact .inl ⟨_,xs2,j,w,rfl,rfl,SqL.of hh,e4,po0 I2.sB q2 rfl e5⟩
    ·exact q2.elim
   | _=>exact q2.elim
  ·exact q.elim
end
end PV
namespace PV
open PySem PySem.Spec PyProof.Rows L2
section
variable {X:Cx} {Y:Fx} {tg iter elt:Expr} {ifs:List Expr} {scope:Scope} {pos:Pos} {fi:En->R (List T)}
end
end PV
namespace PV
open PySem PySem.Spec PyProof.Rows L2 PySem.W
section
variable {X:Cx} {Y:Fx} {a:Expr} {pos p:Pos}
end
section
variable {P:Program} {w:World} {K:PySem.W.Frag} {mg:Str->Option Value} {base:Heap}
end
section
variable {X:Cx} {pins:List (Addr×Obj)} {σ:Sg} {H:Hp} {s:Shared}
end
section
variable {X:Cx}
end
section
variable {X:Cx} {Y:Fx}
end
section
variable {X:Cx} {Y:Fx} {tg iter elt:Expr} {ifs:List Expr} {scope:Scope} {pos pos' :Pos} {N' :List Str} {k:Nat} {js:List Nat} {fi:En->R (List T)} {tG:TG} {g:T->En->R En} {ft:En->R Bool} {fe:En->R T}
end
def gN (B H0 H:Hp) (O:Addr->Option Nat) (us:List (Str×V)) (fs:List (Str×Fd)):Prop:=(us.length=fs.length/\InC us)/\∀ (m:Nat) (f:Str) (d:Fd),fs[m]? =some (f,d)->∃ v,us[m]? =some (f,v)/\
 match d with
 | .tv t=>Rep B v t
 | .tl ts=>∃ l xs,v= .ref l/\B l=none/\H0 l=none/\H l=some (.lst xs)/\zk B xs ts/\O l=some (m+1)
def y9 (cl:Nat->Value) (k:Nat) (B H0 H:Hp) (x:Addr) (fs:List (Str×Fd)):Prop:=∃ C dx us O,cl k= .ref C/\H x=some (.ins C dx us)/\B x=none/\H0 x=none/\O x=some 0/\gN B H0 H O us fs
theorem SI.obAt {Y:Fx} {B:Hp} {ρ:En} {σ:Sg} {H:Hp} (I:SI Y B ρ σ H) {j k:Nat} {x:Addr} {fs:List (Str×Fd)} {os:List Ob} (hx:Y.as=[x]) (h:ρ[j]? =some (.st ((k,fs) :: os))):y9 Y.cl k B Y.H0 H x fs:=by
 obtain ⟨as,O,s⟩:=I.st
 obtain ⟨a,C,dx,vs,e1,e2,e3,e4,e5,e6,e7,e8⟩:=s.st j _ h 0 k fs rfl
 have ha:a=x:=by
  obtain ⟨t,et⟩:=s.pre
  rw [hx] at et
  rw [← et] at e1
  exact (Option.some.inj e1).symm
 subst ha
 refine ⟨C,dx,vs,fun b=>(O b).bind fun p=>if p.1=0 then some p.2 else none,e2,e3,e4,e5,by dsimp only; rw [e6]; rfl,e7,fun m f d z=> ?_⟩
 obtain ⟨v,z1,z2⟩:=e8 m f d z
 refine ⟨v,z1, ?_⟩
 cases d with
 | tv t=>exact z2
 | tl ts=>
  obtain ⟨l,xs,p1,p2,p3,p4,p5,_,p7⟩:=z2
  exact ⟨l,xs,p1,p2,p3,p4,p5,by dsimp only; rw [p7]; rfl⟩
def enM (k j:Nat) (fs:List (Str×Fd)) (ts:List T):En:= .ob k 0 :: (ts.map Sl.vl++(List.replicate (j - 1 - ts.length) .un++[.st [(k,fs)]]))
theorem zZ {k j:Nat} {fs:List (Str×Fd)} {ts:List T} {i:Nat} {s:Sl} (h:(enM k j fs ts)[i]? =some s):(i=0/\s= .ob k 0)\/(∃ i' t,i=i' +1/\ts[i']? =some t/\s= .vl t)\/s= .un\/(s= .st [(k,fs)]/\i=1+ts.length+(j - 1 - ts.length)):=by
 unfold enM at h
 cases i with
 | zero=>exact .inl ⟨rfl,(Option.some.inj h).symm⟩
 | succ i=>
  rw [List.getElem?_cons_succ] at h
  by_cases hi:i < ts.length
  ·rw [List.getElem?_append_left (by simpa using hi),List.getElem?_map,List.getElem?_eq_getElem hi] at h
   exact .inr (.inl ⟨i,_,rfl,List.getElem?_eq_getElem hi,(Option.some.inj h).symm⟩)
  ·rw [List.getElem?_append_right (by simpa using hi)] at h
   by_cases h2:i - (ts.map Sl.vl).length < j - 1 - ts.length
   ·rw [List.getElem?_append_left (by simpa using h2),List.getElem?_replicate,if_pos h2] at h
    exact .inr (.inr (.inl (Option.some.inj h).symm))
   ·rw [List.getElem?_append_right (by simpa using h2)] at h
    generalize hq:i - (ts.map Sl.vl).length - (List.replicate (j - 1 - ts.length) Sl.un).length=q at h
    cases q with
    | zero=>
     refine .inr (.inr (.inr ⟨(Option.some.inj h).symm, ?_⟩))
     rw [List.length_map,List.length_replicate] at hq
     rw [List.length_map] at h2
     omega
    | succ q=>cases h
theorem zk.at {B:Hp}:∀ {vs:List V} {ts:List T},zk B vs ts->∀ {i:Nat} {t:T},ts[i]? =some t->∃ v,vs[i]? =some v/\Rep B v t
 | _,_, .nil,i,t,h=>by simp at h
 | _,_, @zk.cons _ v _ _ _ r rr,0,t,h=>by cases h; exact ⟨v,rfl,r⟩
 | _,_, .cons r rr,i+1,t,h=>zk.at rr (i:=i) h
theorem SI.startM {cl:Nat->Value} {k j:Nat} {B H0 H:Hp} {x:Addr} {fs:List (Str×Fd)} {E:XK} {vs:List V} {ts:List T} {N:List Str} (hN:N.length=j+1) (hj:ts.length+1<=j) (sB:zg B H0) (sH:zg H0 H) (ob:y9 cl k B H0 H x fs) (r:zk B vs ts):
  SI ⟨B,H0,E,cl,[x]⟩ B (enM k j fs ts) (L2.start N (.ref x :: vs)) H where
 s0:=sB
 sH:=sH
 sB:=sB.trans sH
 old:=fun _ _ _=>rfl
 len:=by
  unfold enM L2.start
  have:=r.length
  simp only [List.length_cons,List.length_append,List.length_map,List.length_replicate,List.length_nil]
  omega
 vl:=fun i t h=>by
  rcases zZ h with ⟨_,e⟩ | ⟨i',t',e1,e2,e3⟩ | e | ⟨e,_⟩
  ·cases e
  ·cases e3
   subst e1
   obtain ⟨v,ev,rv⟩:=r.at e2
   refine ⟨v, ?_,rv⟩
   unfold L2.start
   have hi:i' < vs.length:=(List.getElem?_eq_some_iff.mp ev).1
   rw [List.getElem?_append_left (by simpa using hi),List.map_cons,List.getElem?_cons_succ,List.getElem?_map,ev]; rfl
  ·cases e
  ·cases e
 ow:=fun i t h=>by
  rcases zZ h with ⟨_,e⟩ | ⟨i',t',e1,e2,e3⟩ | e | ⟨e,_⟩
  ·cases e
  ·cases e3
  ·cases e
  ·cases e
 xc:=fun i t h=>by
  rcases zZ h with ⟨_,e⟩ | ⟨i',t',e1,e2,e3⟩ | e | ⟨e,_⟩
  ·cases e
  ·cases e3
  ·cases e
  ·cases e
 st:=by
  obtain ⟨C,dx,us,O,c1,c2,c3,c4,c5,c6,c7⟩:=ob
  refine ⟨[x],fun b=>(O b).map fun m=>(0,m),List.prefix_refl _,fun i os h=> ?_,fun i i' os os' h h' => ?_,fun i k' n h=> ?_,fun i k' h=> ?_,fun i os h n k' fs' e=> ?_⟩
  ·rcases zZ h with ⟨_,e⟩ | ⟨_,_,_,_,e⟩ | e | ⟨e,_⟩ <;> cases e
   rfl
  ·rcases zZ h with ⟨_,e⟩ | ⟨_,_,_,_,e⟩ | e | ⟨_,e⟩
   ·cases e
   ·cases e
   ·cases e
   ·rcases zZ h' with ⟨_,e'⟩ | ⟨_,_,_,_,e'⟩ | e' | ⟨_,e'⟩
    ·cases e'
    ·cases e'
    ·cases e'
    ·rw [e,e']
  ·rcases zZ h with ⟨e0,e⟩ | ⟨i',t',e1,e2,e3⟩ | e | ⟨e,_⟩
   ·cases e
    subst e0
    exact ⟨x,C,dx,us,rfl,rfl,c1,c2,c3,c4,c6.2⟩
   ·cases e3
   ·cases e
   ·cases e
  ·rcases zZ h with ⟨e0,e⟩ | ⟨i',t',e1,e2,e3⟩ | e | ⟨e,_⟩
   ·cases e
   ·cases e3
   ·cases e
   ·cases e
  ·rcases zZ h with ⟨e0,e'⟩ | ⟨i',t',e1,e2,e3⟩ | e' | ⟨e',_⟩
   ·cases e'
   ·cases e3
   ·cases e'
   ·cases e'
    cases n with
    | succ n=>cases e
    | zero=>
     cases e
     refine ⟨x,C,dx,us,rfl,c1,c2,c3,c4,by rw [c5]; rfl,c6,fun m f d z=> ?_⟩
     obtain ⟨v,z1,z2⟩:=c7 m f d z
     refine ⟨v,z1, ?_⟩
     cases d with
     | tv t=>exact z2
     | tl us' =>
      obtain ⟨l,xs,p1,p2,p3,p4,p5,p6⟩:=z2
      refine ⟨l,xs,p1,p2,p3,p4,p5,fun j' us2 hj' => ?_,by show Option.map _ (O l)=_; rw [p6]; rfl⟩
      rcases zZ hj' with ⟨_,e⟩ | ⟨_,_,_,_,e⟩ | e | ⟨e,_⟩ <;> cases e
def PoO (cl:Nat->Value) (k:Nat) (B H0:Hp) (x:Addr) (r:R (T×List (Str×Fd))) (Q:VK) (E:XK):Prop:=match r with
 | .ok (t,fs')=>∀ v H' B',zg H0 H' ->zg B B' ->zg B' H' ->(∀ b o,H0 b=some o->B' b=B b)->y9 cl k B' H0 H' x fs' ->Rep B' v t->Q v H'
 | .ex c=>∀ d H',zg H0 H' ->zg B H' ->E (cl c) d H'
 | .bad=>False
def spM (cl:Nat->Value) (k n:Nat) (g:List (Str×Fd)->List T->R (T×List (Str×Fd))):Sp:=fun vs H Q E=>∃ (x:Addr) (vs' :List V) (ts:List T) (B H0:Hp) (fs:List (Str×Fd)),vs= .ref x :: vs' /\ts.length=n/\zg B H0/\zg H0 H/\y9 cl k B H0 H x fs/\zk B vs' ts/\PoO cl k B H0 x (g fs ts) Q E
def PoR (Y:Fx) (B:Hp) (r:R (T×En)) (D:Wo):Prop:=match r with
 | .ok (t,ρ')=>(∀ v σ' H' B',zg B B' ->SI Y B' ρ' σ' H' ->Rep B' v t->D.rt v H')/\(t= .non->∀ σ' H' B',zg B B' ->SI Y B' ρ' σ' H' ->D.nx σ' H')
 | .ex c=>XP Y B c
 | .bad=>False
theorem XP.up {Y:Fx} {B B' :Hp} {c:Nat} (s:zg B B') (h:XP Y B c):XP Y B' c:=fun d H' a b=>h d H' a (s.trans b)
theorem PoR.up {Y:Fx} {B B' :Hp} {r:R (T×En)} {D:Wo} (s:zg B B') (h:PoR Y B r D):PoR Y B' r D:=by
 unfold PoR at h ⊢
 split
 ·exact ⟨fun v σ' H' B2 a=>h.1 v σ' H' B2 (s.trans a),fun e σ' H' B2 a=>h.2 e σ' H' B2 (s.trans a)⟩
 ·exact XP.up s h
 ·exact h
structure ya (X:Cx) (Y:Fx) (body:List Stmt) (f:En->R (T×En)):Prop where
 mk ::
 go:∀ ρ,PSs X body fun D σ H=>∃ B,SI Y B ρ σ H/\PoR Y B (f ρ) D
def PoM (Y:Fx) (B:Hp) (r:R (T×En)) (σ:Sg) (Q:VK):Prop:=match r with
 | .ok (t,ρ')=>∀ v H' B',zg B B' ->SI Y B' ρ' σ H' ->Rep B' v t->Q v H'
 | .ex c=>XP Y B c
 | .bad=>False
structure jX (X:Cx) (Y:Fx) (e:Expr) (f:En->R (T×En)):Prop where
 mk ::
 go:∀ ρ,PE X e fun σ H Q=>∃ B,SI Y B ρ σ H/\PoM Y B (f ρ) σ Q
section
variable {X:Cx} {Y:Fx} {e:Expr} {st:Stmt} {rest:List Stmt} {pos:Pos}
def uQ (f:En->R T):En->R (T×En):=fun ρ=>(f ρ).bind fun t=> .ok (t,ρ)
theorem QP {f:En->R T} (h:Snd X Y e f):jX X Y e (uQ f):= .mk fun ρ=>PE.imp (h ρ) fun σ H Q ⟨B,I,q⟩=>⟨B,I,by
 unfold uQ at q
 revert q
 cases f ρ with
 | ok t=>exact fun q v H' s r=>q v H' _ (zo.ge I.sB s) (I.grow s) r
 | ex c=>exact fun q=>q
 | bad=>exact fun q=>q⟩
theorem xm {f:En->R (T×En)} (h:jX X Y e f):ya X Y [.Return (some e) pos] f:= .mk fun ρ=>PSs.imp (Zz (jw (h.go ρ))) fun D σ H ⟨B,I,q⟩=>⟨B,I,by
 unfold PoR at q
 unfold PoM
 split at q
 ·exact fun v H' B' a b c=>q.1 v σ H' B' a b c
 ·exact q
 ·exact q⟩
def xn:En->R (T×En):=fun ρ=> .ok (.non,ρ)
theorem xo:ya X Y [] xn:= .mk fun ρ=>PSs.imp Wt fun D σ H ⟨B,I,q⟩=>q.2 rfl σ H B (zg.refl _) I
def Z0 (f:En->RS) (g:En->R (T×En)):En->R (T×En):=fun ρ=>match f ρ with
 | .nx ρ' =>g ρ'
 | .ex c=> .ex c
 | _=> .bad
theorem QQ {f:En->RS} {g:En->R (T×En)} (h1:ZQ X Y st f) (h2:ya X Y rest g):ya X Y (st :: rest) (Z0 f g):= .mk fun ρ=>by
 refine PSs.imp (wj (u:=fun D σ H=>∃ ρ' B,SI Y B ρ' σ H/\PoR Y B (g ρ') D) (h1 ρ) ?_) ?_
 ·intro pins s σ H D I ⟨ρ',q⟩
  exact h2.go ρ' pins s σ H D I q
 ·intro D σ H ⟨B,I,q⟩
  refine ⟨B,I, ?_⟩
  unfold Z0 at q
  revert q
  cases f ρ with
  | nx ρ' =>exact fun q σ' H' B' s I' =>⟨ρ',B',I',q.up s⟩
  | ex c=>exact fun q=>q
  | rt t=>exact fun q=>q.elim
  | rf t=>exact fun q=>q.elim
  | bk ρ=>exact fun q=>q.elim
  | ct ρ=>exact fun q=>q.elim
  | bad=>exact fun q=>q.elim
end
def jY (k j:Nat) (r:R (T×En)):R (T×List (Str×Fd)):=r.bind fun p=>match p.2[j]? with
 | some (.st ((k',fs) :: _))=>if k' =k then .ok (p.1,fs) else .bad
 | _=> .bad
section
variable {P:Program} {w:World} {K:PySem.W.Frag} {mg:Str->Option Value} {base:Heap}
theorem ZS {cl:Nat->Value} {x qual:Str} {st:Stmt} {f:Addr} {fd:FuncData} {N ps:List Str} {k n j kr:Nat} {fb:En->R (T×En)} (F:Fun K x qual st f fd) (S:za N ps (z9 st)) (hn:ps.length=n+1) (hN:N.length=j+1) (hj:n+1<=j)
  (hb:∀ (cdv:Value) (A:Around) (outer:List Env) (s:Shared) (H:Hp) (E:XK) (Y:Fx),Y.cl=cl->Y.E=E->zQ kr (A.deeper (envOfC qual (z9 st) s.heap.objs.size f cdv))->
   ya (Zr (CX1 P w) P w K mg base N qual (z9 st) f cdv A outer s H E) Y (zr st) fb):zq P w K mg base (CX1 P w) (kr+1) f fd ps (spM cl k n fun fs ts=>jY k j (fb (enM k j fs ts))):=by
 refine Fun.okX F S (fun vs H Q E ⟨x,vs',ts,B,H0,fs,e,hl,_,_,_,r,_⟩=>by rw [e,List.length_cons,r.length,hl,hn]) fun cdv A outer s H vs Q E hr ⟨x,vs',ts,B,H0,fs,e,hl,sB,sH,ob,r,q⟩=> ?_
 subst e
 refine ⟨_,(hb cdv A outer s H E ⟨B,H0,E,cl,[x]⟩ rfl rfl hr).go (enM k j fs ts),B,SI.startM hN (by omega) sB sH ob r, ?_⟩
 have q:PoO cl k B H0 x (jY k j (fb (enM k j fs ts))) Q E:=q
 unfold jY at q
 revert q
 cases fb (enM k j fs ts) with
 | bad=>exact fun q=>q
 | ex c=>exact fun q=>q
 | ok p=>
  obtain ⟨t,ρ'⟩:=p
  show PoO cl k B H0 x (match ρ'[j]? with | some (.st ((k',fs) :: _))=>(if k' =k then R.ok (t,fs) else R.bad) | _=>R.bad) Q E->_
  split
  ·rename_i k' fs' os ej
   split
   ·rename_i hk
    subst hk
    intro q
    have key:∀ v σ' H' B',zg B B' ->SI ⟨B,H0,E,cl,[x]⟩ B' ρ' σ' H' ->Rep B' v t->Q v H' :=fun v σ' H' B' s1 I' rv=>q v H' B' I'.sH s1 I'.sB (fun b o h=>I'.old b o h) (I'.obAt rfl ej) rv
    exact ⟨key,fun et σ' H' B' s1 I' =>key .non σ' H' B' s1 I' (by rw [et]; exact .non)⟩
   ·exact fun q=>q.elim
  ·exact fun q=>q.elim
end
def obD (k i j:Nat) (ρ:En):Option (Nat×List (Str×Fd)×List Ob):=match ρ[i]?,ρ[j]? with
 | some (.ob k' n),some (.st os)=>match os[n]? with
  | some (k2,fs)=>if k' =k/\k2=k then some (n,fs,os) else none
  | none=>none
 | _,_=>none
theorem JD {k i j:Nat} {ρ:En} {n:Nat} {fs:List (Str×Fd)} {os:List Ob} (h:obD k i j ρ=some (n,fs,os)):ρ[i]? =some (.ob k n)/\ρ[j]? =some (.st os)/\os[n]? =some (k,fs):=by
 unfold obD at h
 split at h
 ·rename_i k' n' os' e1 e2
  split at h
  ·rename_i k2 fs' e3
   split at h
   ·rename_i hk
    obtain ⟨rfl,rfl⟩:=hk
    cases h
    exact ⟨e1,e2,e3⟩
   ·cases h
  ·cases h
 ·cases h
theorem uy {f:Str} {d:Fd}:∀ {fs:List (Str×Fd)} {vs:List (Str×V)},(∀ (m:Nat) (g:Str) (e:Fd),fs[m]? =some (g,e)->∃ v,vs[m]? =some (g,v))->fs.lookup f=some d->∃ (m:Nat) (v:V),fs[m]? =some (f,d)/\vs[m]? =some (f,v)/\vs.lookup f=some v
 | [],_,_,h=>by simp at h
 | (g,e) :: fs,vs,al,h=>by
  obtain ⟨v,hv⟩:=al 0 g e rfl
  cases vs with
  | nil=>cases hv
  | cons w vs=>
   cases hv
   rw [List.lookup_cons] at h
   by_cases hx:f=g
   ·subst hx
    rw [beq_self_eq_true] at h
    cases h
    exact ⟨0,v,rfl,rfl,by rw [List.lookup_cons,beq_self_eq_true]⟩
   ·rw [beq_eq_false_iff_ne.mpr hx] at h
    obtain ⟨m,v',a,b,c⟩:=uy (fs:=fs) (vs:=vs) (fun m=>al (m+1)) h
    exact ⟨m+1,v',a,b,by rw [List.lookup_cons,beq_eq_false_iff_ne.mpr hx]; exact c⟩
theorem jZ {f:Str}:∀ {fs:List (Str×Fd)} {vs:List (Str×V)},vs.length=fs.length->(∀ (m:Nat) (g:Str) (e:Fd),fs[m]? =some (g,e)->∃ v,vs[m]? =some (g,v))->fs.lookup f=none->vs.lookup f=none
 | [],vs,l,_,h=>by
  cases vs with
  | nil=>rfl
  | cons _ _=>cases l
 | (g,e) :: fs,vs,l,al,h=>by
  obtain ⟨v,hv⟩:=al 0 g e rfl
  cases vs with
  | nil=>cases hv
  | cons w vs=>
   cases hv
   rw [List.lookup_cons] at h ⊢
   by_cases hx:f=g
   ·subst hx; rw [beq_self_eq_true] at h; cases h
   ·rw [beq_eq_false_iff_ne.mpr hx] at h ⊢
    exact jZ (by simpa using l) (fun m=>al (m+1)) h
section
variable {X:Cx} {Y:Fx} {B:Hp} {ρ:En} {σ:Sg} {H:Hp}
theorem SI.look (I:SI Y B ρ σ H) {k i j n:Nat} {fs:List (Str×Fd)} {os:List Ob} {f:Str} {d:Fd} (h:obD k i j ρ=some (n,fs,os)) (hl:fs.lookup f=some d):∃ a C dx vs v,∃ m:Nat,∃ as O,StI Y B ρ σ H as O/\σ[i]? =some (some (V.ref a))/\Y.cl k= .ref C/\H a=some (.ins C dx vs)/\vs.lookup f=some v/\fs[m]? =some (f,d)/\vs[m]? =some (f,v)/\FdR Y B ρ σ H (fun l=>O l=some (n,m+1)) v d:=by
 obtain ⟨h1,h2,h3⟩:=JD h
 obtain ⟨as,O,s⟩:=I.st
 obtain ⟨a,C,dx,vs,e1,e2,e3,e4,e5,e6,e7,e8⟩:=s.st j os h2 n k fs h3
 obtain ⟨a',C',dx',vs',g1,g2,_⟩:=s.ob i k n h1
 rw [e1] at g1
 cases g1
 obtain ⟨m,v,z1,z2,z3⟩:=uy (fun m g e he=>let ⟨v,z,_⟩:=e8 m g e he; ⟨v,z⟩) hl
 obtain ⟨v',y1,y2⟩:=e8 m f d z1
 rw [z2] at y1
 cases y1
 exact ⟨a,C,dx,vs,v,m,as,O,s,g2,e2,e3,z3,z1,z2,y2⟩
def xp (k i j:Nat) (f:Str):En->R T:=fun ρ=>match obD k i j ρ with
 | some (_,fs,_)=>match fs.lookup f with
  | some (.tv t)=> .ok t
  | _=> .bad
 | none=> .bad
def YQ (k i j:Nat) (f:Str):En->R T:=fun ρ=>match obD k i j ρ with
 | some (_,fs,_)=>match fs.lookup f with
  | some (.tl ts)=> .ok (.lst ts)
  | _=> .bad
 | none=> .bad
theorem xr {k i j:Nat} {x f:Str} {px pos:Pos} {C:Addr} (hv:PE X (.Name x px) (j5 i)) (hc:Y.cl k= .ref C) (c:L2.Cls X.K C) (n:L2.NoAttr X.K C f) (hb:attributeBase (.Name x px) f X.env (eval (.Name x px) X.env)=eval (.Name x px) X.env:=by rfl):Snd X Y (.Attribute (.Name x px) f pos) (xp k i j f):= .mk fun ρ=>PE.imp (jz hv hb) fun σ H Q ⟨B,I,q⟩=>by
 unfold xp at q
 split at q
 ·rename_i n' fs os e
  split at q
  ·rename_i t el
   obtain ⟨a,C',dx,vs,v,m,as,O,s,e1,e2,e3,e4,e5,e6,e7⟩:=I.look e el
   rw [hc] at e2; cases e2
   exact ⟨.ref a,e1,a,C,dx,vs,v,rfl,e3,c,n,e4,po0 I.sB q rfl e7⟩
  ·exact q.elim
 ·exact q.elim
theorem yb {k i j:Nat} {x f:Str} {px pos:Pos} {C:Addr} (hv:PE X (.Name x px) (j5 i)) (hc:Y.cl k= .ref C) (c:L2.Cls X.K C) (n:L2.NoAttr X.K C f) (hb:attributeBase (.Name x px) f X.env (eval (.Name x px) X.env)=eval (.Name x px) X.env:=by rfl):Zf X Y (.Attribute (.Name x px) f pos) (YQ k i j f):= .mk fun ρ=>PE.imp (jz hv hb) fun σ H Q ⟨B,I,q⟩=>by
 unfold YQ at q
 split at q
 ·rename_i n' fs os e
  split at q
  ·rename_i ts el
   obtain ⟨a,C',dx,vs,v,m,as,O,s,e1,e2,e3,e4,e5,e6,l,xs,p1,p2,p3,p4,p5,_⟩:=I.look e el
   rw [hc] at e2; cases e2
   subst p1
   exact ⟨.ref a,e1,a,C,dx,vs,_,rfl,e3,c,n,e4,q _ H (zg.refl _) (.lst p4 (p5.mono I.sB))⟩
  ·exact q.elim
 ·exact q.elim
theorem SI.chgF (I:SI Y B ρ σ H) {k i j n m:Nat} {fs:List (Str×Fd)} {os:List Ob} {f:Str} {ts us:List T} {ys:List V} {a C dx l:Addr} {vs:List (Str×V)} (h:obD k i j ρ=some (n,fs,os)) (hm:fs[m]? =some (f, .tl ts)) (ha:σ[i]? =some (some (V.ref a))) (hH:H a=some (.ins C dx vs)) (hl:vs[m]? =some (f, .ref l)) (r:zk B ys us):
  SI Y B (ρ.set j (.st (os.set n (k,fs.set m (f, .tl us))))) σ (upd H l (.lst ys)):=by
 obtain ⟨h1,h2,h3⟩:=JD h
 obtain ⟨as,O,s⟩:=I.st
 obtain ⟨a1,C1,dx1,vs1,e1,e2,e3,e4,e5,e6,e7,e8⟩:=s.st j os h2 n k fs h3
 obtain ⟨a',C',dx',vs',g1,g2,_⟩:=s.ob i k n h1
 rw [e1] at g1; cases g1
 rw [ha] at g2; cases g2
 rw [hH] at e3; cases e3
 obtain ⟨v,z1,z2⟩:=e8 m f _ hm
 rw [hl] at z1; cases z1
 obtain ⟨l',xs,p1,b0,h0,hh,p5,ok,ol⟩:=z2
 cases p1
 have nb:∀ b o,B b=some o->b ≠ l:=fun b o h z=>by subst z; rw [b0] at h; cases h
 have n0:∀ b o,Y.H0 b=some o->b ≠ l:=fun b o h z=>by subst z; rw [h0] at h; cases h
 have own:∀ (j' :Nat) (ws:List T),(ρ.set j (.st (os.set n (k,fs.set m (f, .tl us)))))[j']? =some (Sl.ow ws)->ρ[j']? =some (Sl.ow ws):=fun j' ws hw=>by
  rcases zc hw with ⟨_,z⟩ | ⟨_,z⟩
  ·cases z
  ·exact z
 have ok' :∀ b,W5 ρ σ b->W5 (ρ.set j (.st (os.set n (k,fs.set m (f, .tl us))))) σ b:=fun b hb j' ws hw=>hb j' ws (own j' ws hw)
 refine ⟨I.s0,fun b o h=>by rw [zd (n0 b o h)]; exact I.sH b o h,fun b o h=>by rw [zd (nb b o h)]; exact I.sB b o h,I.old,by rw [List.length_set]; exact I.len,fun j' u h=> ?_,fun j' ws h=> ?_,fun j' c h=> ?_,as,O,s.pre,fun i' os' h=> ?_,fun i1 i2 os1 os2 q1 q2=> ?_,fun i' k' n' h=> ?_,fun i' k' h=> ?_,fun i' os' h n' k' fs' e=> ?_⟩
 ·rcases zc h with ⟨_,z⟩ | ⟨_,z⟩
  ·cases z
  ·exact I.vl j' u z
 ·have z:=own j' ws h
  obtain ⟨b,xs',y1,y2,y3,y4,y5,y6⟩:=I.ow j' ws z
  have hne:b ≠ l:=fun w=>by subst w; exact ok j' ws z y1
  exact ⟨b,xs',y1,y2,y3,by rw [zd hne]; exact y4,y5,fun j2 vs2 hj hw=>y6 j2 vs2 hj (own j2 vs2 hw)⟩
 ·rcases zc h with ⟨_,z⟩ | ⟨_,z⟩
  ·cases z
  ·exact I.xc j' c z
 ·rcases zc h with ⟨_,z⟩ | ⟨_,z⟩
  ·cases z; rw [List.length_set]; exact s.len j os h2
  ·exact s.len _ _ z
 ·have one:∀ i1 os1,(ρ.set j (.st (os.set n (k,fs.set m (f, .tl us)))))[i1]? =some (Sl.st os1)->i1=j:=fun i1 os1 q1=>by
   rcases zc q1 with ⟨e,_⟩ | ⟨_,z⟩
   ·exact e
   ·exact s.one i1 j os1 os z h2
  rw [one i1 os1 q1,one i2 os2 q2]
 ·rcases zc h with ⟨_,z⟩ | ⟨_,z⟩
  ·cases z
  ·obtain ⟨b,C2,dx2,vs2,y1,y2,y3,y4,y5,y6⟩:=s.ob i' k' n' z
   have hne:b ≠ l:=fun w=>by subst w; rw [hh] at y4; cases y4
   exact ⟨b,C2,dx2,vs2,y1,y2,y3,by rw [zd hne]; exact y4,y5,y6⟩
 ·rcases zc h with ⟨_,z⟩ | ⟨_,z⟩
  ·cases z
  ·exact s.oc i' k' z
 ·rcases zc h with ⟨rfl,z⟩ | ⟨hne,z⟩
  ·cases z
   rcases zc e with ⟨rfl,z⟩ | ⟨hn,z⟩
   ·cases z
    have hne:a ≠ l:=fun w=>by subst w; rw [hh] at hH; cases hH
    refine ⟨a,C,dx,vs,e1,e2,by rw [zd hne]; exact hH,e4,e5,e6,⟨by rw [List.length_set]; exact e7.1,e7.2⟩,fun m' f' d' z=> ?_⟩
    rcases zc z with ⟨rfl,z'⟩ | ⟨hm',z'⟩
    ·cases z'
     exact ⟨.ref l,hl,l,ys,rfl,b0,h0,zi,r,ok' l ok,ol⟩
    ·obtain ⟨v',y1,y2⟩:=e8 m' f' d' z'
     refine ⟨v',y1, ?_⟩
     cases d' with
     | tv t=>exact y2
     | tl ws=>
      obtain ⟨l2,xs2,w1,w2,w3,w4,w5,w6,w7⟩:=y2
      have hne:l2 ≠ l:=fun w=>by
       subst w
       rw [ol] at w7
       injection w7 with w7
       injection w7 with _ w7
       exact hm' (by omega)
      exact ⟨l2,xs2,w1,w2,w3,by rw [zd hne]; exact w4,w5,ok' l2 w6,w7⟩
   ·obtain ⟨b,C2,dx2,vs2,y1,y2,y3,y4,y5,y6,y7,y8⟩:=s.st i' os h2 n' k' fs' z
    have hne:b ≠ l:=fun w=>by subst w; rw [hh] at y3; cases y3
    refine ⟨b,C2,dx2,vs2,y1,y2,by rw [zd hne]; exact y3,y4,y5,y6,y7,fun m' f' d' z=> ?_⟩
    obtain ⟨v',x1,x2⟩:=y8 m' f' d' z
    refine ⟨v',x1, ?_⟩
    cases d' with
    | tv t=>exact x2
    | tl ws=>
     obtain ⟨l2,xs2,w1,w2,w3,w4,w5,w6,w7⟩:=x2
     have hne:l2 ≠ l:=fun w=>by
      subst w
      rw [ol] at w7
      injection w7 with w7
      injection w7 with w7 _
      exact hn w7.symm
     exact ⟨l2,xs2,w1,w2,w3,by rw [zd hne]; exact w4,w5,ok' l2 w6,w7⟩
  ·exact absurd (s.one i' j os' os z h2) hne
end
def JL (f:Str) (d:Fd):List (Str×Fd)->List (Str×Fd)
 | []=>[(f,d)]
 | (g,x) :: r=>if g=f then (g,d) :: r else (g,x) :: JL f d r
def uz (f:Str):List (Str×Fd)->Nat
 | []=>0
 | (g,_) :: r=>if g=f then 0 else uz f r+1
theorem wJ {f:Str} {d:Fd} {v:V}:∀ {fs:List (Str×Fd)} {vs:List (Str×V)},vs.length=fs.length->(∀ (m:Nat) (g:Str) (e:Fd),fs[m]? =some (g,e)->∃ v,vs[m]? =some (g,v))->(L2.putF f v vs).length=(JL f d fs).length
 | [],vs,l,_=>by
  cases vs with
  | nil=>rfl
  | cons _ _=>cases l
 | (g,e) :: fs,vs,l,al=>by
  obtain ⟨w,hw⟩:=al 0 g e rfl
  cases vs with
  | nil=>cases hw
  | cons w vs=>
   cases hw
   unfold L2.putF JL
   split
   ·simpa using l
   ·rw [List.length_cons,List.length_cons,wJ (by simpa using l) (fun m=>al (m+1))]
theorem wK {f:Str} {d:Fd} {v:V}:∀ {fs:List (Str×Fd)} {vs:List (Str×V)},vs.length=fs.length->(∀ (m:Nat) (g:Str) (e:Fd),fs[m]? =some (g,e)->∃ v,vs[m]? =some (g,v))->∀ {m:Nat} {g:Str} {e:Fd},(JL f d fs)[m]? =some (g,e)->
  (m=uz f fs/\g=f/\e=d/\(L2.putF f v vs)[m]? =some (f,v))\/(m ≠ uz f fs/\fs[m]? =some (g,e)/\∀ v',vs[m]? =some (g,v')->(L2.putF f v vs)[m]? =some (g,v'))
 | [],vs,l,_,m,g,e,h=>by
  cases vs with
  | cons _ _=>cases l
  | nil=>
   cases m with
   | zero=>cases h; exact .inl ⟨rfl,rfl,rfl,rfl⟩
   | succ m=>cases h
 | (g0,e0) :: fs,vs,l,al,m,g,e,h=>by
  obtain ⟨w,hw⟩:=al 0 g0 e0 rfl
  cases vs with
  | nil=>cases hw
  | cons w vs=>
   cases hw
   unfold JL at h
   unfold uz L2.putF
   by_cases hg:g0=f
   ·rw [if_pos hg] at h ⊢
    rw [if_pos hg]
    cases m with
    | zero=>cases h; exact .inl ⟨rfl,hg,rfl,by rw [hg]; rfl⟩
    | succ m=>exact .inr ⟨Nat.succ_ne_zero _,h,fun v' hv=>hv⟩
   ·rw [if_neg hg] at h ⊢
    rw [if_neg hg]
    cases m with
    | zero=>cases h; exact .inr ⟨(Nat.succ_ne_zero _).symm,rfl,fun v' hv=>hv⟩
    | succ m=>
     rcases wK (v:=v) (fs:=fs) (vs:=vs) (by simpa using l) (fun m=>al (m+1)) h with ⟨a,b,c,d⟩ | ⟨a,b,c⟩
     ·exact .inl ⟨by rw [a],b,c,d⟩
     ·exact .inr ⟨fun z=>a (Nat.succ.inj z),b,c⟩
theorem uA {f:Str} {v:V} {vs:List (Str×V)} (hf:f∈YF) (h:InC vs):InC (L2.putF f v vs):=fun g hg=>by
 rw [L2.lookup_putF,if_neg fun z=>hg (by rw [z]; exact hf)]; exact h g hg
section
variable {X:Cx} {Y:Fx} {B:Hp} {ρ:En} {σ:Sg} {H:Hp}
def FdN (B H H1:Hp) (v:V):Fd->Prop
 | .tv t=>H1=H/\Rep B v t
 | .tl ts=>∃ p xs,v= .ref p/\H p=none/\H1=upd H p (.lst xs)/\zk B xs ts
theorem SI.putF (I:SI Y B ρ σ H) {k i j n:Nat} {fs:List (Str×Fd)} {os:List Ob} {f:Str} {d:Fd} {v:V} {a C dx:Addr} {vs:List (Str×V)} {H1:Hp} (hf:f∈YF) (h:obD k i j ρ=some (n,fs,os)) (ha:σ[i]? =some (some (V.ref a))) (hH:H a=some (.ins C dx vs)) (hd:FdN B H H1 v d):
  SI Y B (ρ.set j (.st (os.set n (k,JL f d fs)))) σ (upd H1 a (.ins C dx (L2.putF f v vs))):=by
 obtain ⟨h1,h2,h3⟩:=JD h
 obtain ⟨as,O,s⟩:=I.st
 obtain ⟨a1,C1,dx1,vs1,e1,e2,e3,e4,e5,e6,e7,e8⟩:=s.st j os h2 n k fs h3
 obtain ⟨a',C',dx',vs',g1,g2,_⟩:=s.ob i k n h1
 rw [e1] at g1; cases g1
 rw [ha] at g2; cases g2
 rw [hH] at e3; cases e3
 have al:∀ (m:Nat) (g:Str) (e:Fd),fs[m]? =some (g,e)->∃ v,vs[m]? =some (g,v):=fun m g e he=>let ⟨v,z,_⟩:=e8 m g e he; ⟨v,z⟩
 obtain ⟨pn,hpn⟩:∃ pn:Addr->Prop,∀ b,(pn b↔v= .ref b/\H b=none):=⟨_,fun _=>Iff.rfl⟩
 have sH1:zg H H1:=by
  cases d with
  | tv t=>rw [hd.1]; exact zg.refl _
  | tl ts=>obtain ⟨p,xs,_,hp,e,_⟩:=hd; rw [e]; exact zg.new hp _
 have keep:∀ b o,H b=some o->b ≠ a->(upd H1 a (.ins C dx (L2.putF f v vs))) b=some o:=fun b o hb hne=>by rw [zd hne]; exact sH1 b o hb
 have nb:∀ b o,B b=some o->b ≠ a:=fun b o h z=>by subst z; rw [e4] at h; cases h
 have n0:∀ b o,Y.H0 b=some o->b ≠ a:=fun b o h z=>by subst z; rw [e5] at h; cases h
 have own:∀ (j' :Nat) (ws:List T),(ρ.set j (.st (os.set n (k,JL f d fs))))[j']? =some (Sl.ow ws)->ρ[j']? =some (Sl.ow ws):=fun j' ws hw=>by
  rcases zc hw with ⟨_,z⟩ | ⟨_,z⟩
  ·cases z
  ·exact z
 have ok' :∀ b,W5 ρ σ b->W5 (ρ.set j (.st (os.set n (k,JL f d fs)))) σ b:=fun b hb j' ws hw=>hb j' ws (own j' ws hw)
 have lst_ne:∀ {b:Addr} {xs:List V},H b=some (.lst xs)->b ≠ a:=fun hb z=>by subst z; rw [hH] at hb; cases hb
 obtain ⟨O',hO1,hO2⟩:∃ O' :Addr->Option (Nat×Nat),(∀ b o,H b=some o->O' b=O b)/\∀ b,v= .ref b->H b=none->O' b=some (n,uz f fs+1):=by
  classical
  refine ⟨fun b=>if v= .ref b/\H b=none then some (n,uz f fs+1) else O b, ?_, ?_⟩
  ·intro b o hb
   exact if_neg fun z=>by rw [hb] at z; cases z.2
  ·intro b z1 z2
   exact if_pos ⟨z1,z2⟩
 refine ⟨I.s0,fun b o h=>keep b o (I.sH b o h) (n0 b o h),fun b o h=>keep b o (I.sB b o h) (nb b o h),I.old,by rw [List.length_set]; exact I.len,fun j' u h=> ?_,fun j' ws h=> ?_,fun j' c h=> ?_,as,O',s.pre,fun i' os' h=> ?_,fun i1 i2 os1 os2 q1 q2=> ?_,fun i' k' n' h=> ?_,fun i' k' h=> ?_,fun i' os' h n' k' fs' e=> ?_⟩
 ·rcases zc h with ⟨_,z⟩ | ⟨_,z⟩
  ·cases z
  ·exact I.vl j' u z
 ·have z:=own j' ws h
  obtain ⟨b,xs',y1,y2,y3,y4,y5,y6⟩:=I.ow j' ws z
  exact ⟨b,xs',y1,y2,y3,keep b _ y4 (lst_ne y4),y5,fun j2 vs2 hj hw=>y6 j2 vs2 hj (own j2 vs2 hw)⟩
 ·rcases zc h with ⟨_,z⟩ | ⟨_,z⟩
  ·cases z
  ·exact I.xc j' c z
 ·rcases zc h with ⟨_,z⟩ | ⟨_,z⟩
  ·cases z; rw [List.length_set]; exact s.len j os h2
  ·exact s.len _ _ z
 ·have one:∀ i1 os1,(ρ.set j (.st (os.set n (k,JL f d fs))))[i1]? =some (Sl.st os1)->i1=j:=fun i1 os1 q1=>by
   rcases zc q1 with ⟨e,_⟩ | ⟨_,z⟩
   ·exact e
   ·exact s.one i1 j os1 os z h2
  rw [one i1 os1 q1,one i2 os2 q2]
 ·rcases zc h with ⟨_,z⟩ | ⟨_,z⟩
  ·cases z
  ·obtain ⟨b,C2,dx2,vs2,y1,y2,y3,y4,y5,y6⟩:=s.ob i' k' n' z
   by_cases hb:b=a
   ·subst hb
    rw [hH] at y4; cases y4
    exact ⟨b,C,dx,_,y1,y2,y3,zi,y5,y6.1,uA hf y6.2⟩
   ·exact ⟨b,C2,dx2,vs2,y1,y2,y3,keep b _ y4 hb,y5,y6⟩
 ·rcases zc h with ⟨_,z⟩ | ⟨_,z⟩
  ·cases z
  ·exact s.oc i' k' z
 ·rcases zc h with ⟨rfl,z⟩ | ⟨hne,z⟩
  ·cases z
   have old:∀ {n' m' :Nat} {v' :V} {d' :Fd},FdR Y B ρ σ H (fun l=>O l=some (n',m' +1)) v' d' ->FdR Y B (ρ.set i' (.st (os.set n (k,JL f d fs)))) σ (upd H1 a (.ins C dx (L2.putF f v vs))) (fun l=>O' l=some (n',m' +1)) v' d' :=fun {n' m' v' d'} y2=>by
    cases d' with
    | tv t=>exact y2
    | tl ws=>
     obtain ⟨l2,xs2,w1,w2,w3,w4,w5,w6,w7⟩:=y2
     exact ⟨l2,xs2,w1,w2,w3,keep l2 _ w4 (lst_ne w4),w5,ok' l2 w6,by show O' l2=_; rw [hO1 l2 _ w4]; exact w7⟩
   rcases zc e with ⟨rfl,z⟩ | ⟨hn,z⟩
   ·cases z
    refine ⟨a,C,dx,_,e1,e2,zi,e4,e5,by rw [hO1 a _ hH]; exact e6,⟨wJ e7.1 al,uA hf e7.2⟩,fun m' f' d' z=> ?_⟩
    rcases wK (v:=v) e7.1 al z with ⟨q1,q2,q3,q4⟩ | ⟨q1,q2,q3⟩
    ·subst q2 q3
     refine ⟨v,q4, ?_⟩
     cases d' with
     | tv t=>exact hd.2
     | tl ts=>
      obtain ⟨p,xs,w1,w2,w3,w4⟩:=hd
      have hpa:p ≠ a:=fun z=>by rw [z,hH] at w2; cases w2
      refine ⟨p,xs,w1,I.sB.free w2,I.sH.free w2,by rw [zd hpa,w3]; exact zi,w4,fun j' ws hw=> ?_,by show O' p=_; rw [hO2 p w1 w2,q1]⟩
      obtain ⟨b,xs',y1,y2,y3,y4,_⟩:=I.ow j' ws (own j' ws hw)
      rw [y1]
      intro z; injection z with z; injection z with z; injection z with z
      rw [z,w2] at y4; cases y4
    ·obtain ⟨v',y1,y2⟩:=e8 m' f' d' q2
     exact ⟨v',q3 v' y1,old y2⟩
   ·obtain ⟨b,C2,dx2,vs2,y1,y2,y3,y4,y5,y6,y7,y8⟩:=s.st i' os h2 n' k' fs' z
    have hne:b ≠ a:=fun w=>by
     subst w
     rw [e6] at y6
     injection y6 with y6
     injection y6 with y6 _
     exact hn y6.symm
    refine ⟨b,C2,dx2,vs2,y1,y2,keep b _ y3 hne,y4,y5,by rw [hO1 b _ y3]; exact y6,y7,fun m' f' d' z=> ?_⟩
    obtain ⟨v',x1,x2⟩:=y8 m' f' d' z
    exact ⟨v',x1,old x2⟩
  ·exact absurd (s.one i' j os' os z h2) hne
end
theorem J0 {f:Str} {d:Fd}:∀ {fs:List (Str×Fd)},fs.lookup f=some d->fs[uz f fs]? =some (f,d)/\∀ d',JL f d' fs=fs.set (uz f fs) (f,d')
 | [],h=>by simp at h
 | (g,e) :: fs,h=>by
  rw [List.lookup_cons] at h
  unfold uz JL
  by_cases hx:g=f
  ·subst hx
   rw [beq_self_eq_true] at h
   cases h
   rw [if_pos rfl]
   exact ⟨rfl,fun d' =>by rw [if_pos rfl]; rfl⟩
  ·rw [beq_eq_false_iff_ne.mpr (Ne.symm hx)] at h
   obtain ⟨a,b⟩:=J0 h
   rw [if_neg hx]
   exact ⟨a,fun d' =>by rw [if_neg hx,b]; rfl⟩
theorem uB {f:Str} {v:V}:∀ {fs:List (Str×Fd)} {vs:List (Str×V)},(∀ (m:Nat) (g:Str) (e:Fd),fs[m]? =some (g,e)->∃ v,vs[m]? =some (g,v))->(∃ d,fs.lookup f=some d)->vs.lookup f=some v->vs[uz f fs]? =some (f,v)
 | [],_,_,h,_=>by obtain ⟨d,h⟩:=h; simp at h
 | (g,e) :: fs,vs,al,h,hv=>by
  obtain ⟨w,hw⟩:=al 0 g e rfl
  cases vs with
  | nil=>cases hw
  | cons w vs=>
   cases hw
   rw [List.lookup_cons] at hv
   obtain ⟨d,h⟩:=h
   rw [List.lookup_cons] at h
   unfold uz
   by_cases hx:g=f
   ·subst hx
    rw [beq_self_eq_true] at hv
    cases hv
    rw [if_pos rfl]; rfl
   ·rw [beq_eq_false_iff_ne.mpr (Ne.symm hx)] at hv h
    rw [if_neg hx]
    exact uB (fun m=>al (m+1)) ⟨d,h⟩ hv
section
variable {X:Cx} {Y:Fx} {B:Hp} {ρ:En} {σ:Sg} {H:Hp} {a:Expr} {fa:En->R T} {p p' pos:Pos}
theorem SI.obA (I:SI Y B ρ σ H) {k i j n:Nat} {fs:List (Str×Fd)} {os:List Ob} (h:obD k i j ρ=some (n,fs,os)):∃ a C dx vs,σ[i]? =some (some (V.ref a))/\Y.cl k= .ref C/\H a=some (.ins C dx vs)/\vs.length=fs.length/\∀ (m:Nat) (g:Str) (e:Fd),fs[m]? =some (g,e)->∃ v,vs[m]? =some (g,v):=by
 obtain ⟨h1,h2,h3⟩:=JD h
 obtain ⟨as,O,s⟩:=I.st
 obtain ⟨a,C,dx,vs,e1,e2,e3,e4,e5,e6,e7,e8⟩:=s.st j os h2 n k fs h3
 obtain ⟨a',C',dx',vs',g1,g2,_⟩:=s.ob i k n h1
 rw [e1] at g1
 cases g1
 exact ⟨a,C,dx,vs,g2,e2,e3,e7.1,fun m g e he=>let ⟨v,z,_⟩:=e8 m g e he; ⟨v,z⟩⟩
def stF (k i j:Nat) (f:Str) (fa:En->R T):En->RS:=fun ρ=>(fa ρ).s fun t=>match obD k i j ρ with
 | some (n,fs,os)=>if fs.length < 1000 then .nx (ρ.set j (.st (os.set n (k,JL f (.tv t) fs)))) else .bad
 | none=> .bad
theorem xt {k i j:Nat} {x f:Str} {px:Pos} {C:Addr} (hv:PE X (.Name x px) (j5 i)) (hc:Y.cl k= .ref C) (c:L2.Cls X.K C) (n:L2.NoAttr X.K C f) (ha:Snd X Y a fa) (hs:swapsWith a (some (.Attribute (.Name x px) f p')) pos.line X.env=pure false:=by rfl) (hf:f∈YF:=by decide):ZQ X Y (.Assign [.Attribute (.Name x px) f p'] a pos) (stF k i j f fa):= .mk fun ρ=>
 PS.imp (UG hv (ha ρ) hs) fun D σ H ⟨B,I,q⟩=>ZV I q fun t v H1 _ s1 r1 I1 q1=>by
  split at q1
  ·rename_i n' fs os e
   split at q1
   ·rename_i hl
    obtain ⟨a,C',dx,vs,e1,e2,e3,e4,e5⟩:=I1.obA e
    rw [hc] at e2; cases e2
    exact ⟨.ref a,e1,a,C,dx,vs,rfl,e3,c,n,by rw [e4]; exact hl,q1 _ _ _ (zg.refl _) (I1.putF (d:= .tv t) hf e e1 e3 ⟨rfl,r1⟩)⟩
   ·exact q1.elim
  ·exact q1.elim
def QR (k i j:Nat) (f:Str) (ga:En->R (List T)):En->RS:=fun ρ=>(ga ρ).s fun ts=>match obD k i j ρ with
 | some (n,fs,os)=>if fs.length < 1000/\ts.length<=bnd then .nx (ρ.set j (.st (os.set n (k,JL f (.tl ts) fs)))) else .bad
 | none=> .bad
theorem uC {k i j:Nat} {x f:Str} {px:Pos} {C:Addr} {es:List Expr} {ga:En->R (List T)} (hv:PE X (.Name x px) (j5 i)) (hc:Y.cl k= .ref C) (c:L2.Cls X.K C) (n:L2.NoAttr X.K C f) (ha:jp X Y es ga) (hs:swapsWith (.List es p) (some (.Attribute (.Name x px) f p')) pos.line X.env=pure false:=by rfl) (hf:f∈YF:=by decide):ZQ X Y (.Assign [.Attribute (.Name x px) f p'] (.List es p) pos) (QR k i j f ga):= .mk fun ρ=>
 PS.imp (UG hv (WF (ha ρ)) hs) fun D σ H ⟨B,I,q⟩=>ZV I q fun ts vs H1 _ s1 r1 I1 q1=>by
  split at q1
  ·rename_i n' fs os e
   split at q1
   ·rename_i hl
    obtain ⟨a,C',dx,vs',e1,e2,e3,e4,e5⟩:=I1.obA e
    rw [hc] at e2; cases e2
    refine ⟨by rw [r1.length]; exact zG hl.2,fun q hq=> ?_⟩
    have hne:a ≠ q:=fun z=>by rw [z,hq] at e3; cases e3
    exact ⟨.ref a,e1,a,C,dx,vs',rfl,by rw [zd hne]; exact e3,c,n,by rw [e4]; exact hl.1,q1 _ _ _ (zg.refl _) (I1.putF (d:= .tl ts) hf e e1 e3 ⟨q,vs,rfl,hq,rfl,r1⟩)⟩
   ·exact q1.elim
  ·exact q1.elim
def QS (k i j:Nat) (f:Str) (fa:En->R T):En->RS:=fun ρ=>match obD k i j ρ with
 | some (n,fs,os)=>match fs.lookup f with
  | some (.tl ts)=>(fa ρ).s fun t=>if ts.length < bnd then .nx (ρ.set j (.st (os.set n (k,JL f (.tl (ts++[t])) fs)))) else .bad
  | _=> .bad
 | none=> .bad
theorem uD {k i j:Nat} {x f:Str} {px pf pa:Pos} {C:Addr} (hv:PE X (.Name x px) (j5 i)) (hc:Y.cl k= .ref C) (c:L2.Cls X.K C) (n:L2.NoAttr X.K C f) (ha:Snd X Y a fa) (hbf:attributeBase (.Name x px) f X.env (eval (.Name x px) X.env)=eval (.Name x px) X.env:=by rfl)
  (hb:attributeBase (.Attribute (.Name x px) f pf) "append" X.env (eval (.Attribute (.Name x px) f pf) X.env)=eval (.Attribute (.Name x px) f pf) X.env:=by rfl) (hs:St1 X a:=by exact st1 rfl)
  (hz:(pa.endLine == p.line)=true:=by rfl) (hw:swapsWith (.Call (.Attribute (.Attribute (.Name x px) f pf) "append" pa) [a] [] p) none pos.line X.env=pure false:=by rfl):ZQ X Y (.Expr (.Call (.Attribute (.Attribute (.Name x px) f pf) "append" pa) [a] [] p) pos) (QS k i j f fa):= .mk fun ρ=>by
 have e1:(((((backTo p (starEach [a] X.env)).all fun x=> !x.fst) && (backToKw p (keywordEach [] X.env)).all fun x=>x.fst.isSome) && decide (([a].length+([]:List Keyword).length+if ([]:List Keyword).isEmpty=true then 0 else 1) < 30))=true):=by rw [hs]; rfl
 refine PS.imp (j6 (ZT PySem.F.plainAttrs_list PySem.F.slot_list_append PySem.F.type_list_append jb (jz (pos:=pf) hv hbf) (zj (ha ρ) zw hs) hb e1 hz hs rfl) hw) fun D σ H ⟨B,I,q⟩=> ?_
 unfold QS at q
 split at q
 ·rename_i n' fs os e
  split at q
  ·rename_i ts el
   obtain ⟨a',C',dx,vs,v,m,as,O,s,g1,g2,g3,g4,g5,g6,l,xs,p1,b0,h0,hh,rr,_⟩:=I.look e el
   rw [hc] at g2; cases g2
   subst p1
   obtain ⟨_,_,_,vs2,y1,_,y3,_,al⟩:=I.obA e
   rw [g1] at y1; cases y1
   rw [g3] at y3; cases y3
   have hi:=uB al ⟨_,el⟩ g4
   obtain ⟨j1,j2⟩:=J0 el
   refine ⟨.ref a',g1,a',C,dx,vs,_,rfl,g3,c,n,g4, .inl ⟨rfl,_,SqL.of hh⟩, ?_⟩
   refine ZV I q fun t w H1 _ s1 r1 I1 q1=> ?_
   split at q1
   ·rename_i hb
    refine ⟨l,xs,w,rfl,rfl,s1 _ _ hh,by rw [rr.length]; exact UN hb, ?_⟩
    have:=I1.chgF e j1 g1 (s1 _ _ g3) hi ((rr.mono (zo.ge I.sB s1)).append (.cons r1 .nil))
    rw [← j2] at this
    exact q1 _ _ _ (zg.refl _) this
   ·exact q1.elim
  ·exact q.elim
 ·exact q.elim
end
theorem PoM.up {Y:Fx} {B B' :Hp} {r:R (T×En)} {σ:Sg} {Q:VK} (s:zg B B') (h:PoM Y B r σ Q):PoM Y B' r σ Q:=by
 unfold PoM at h ⊢
 split
 ·exact fun v H' B2 a=>h v H' B2 (s.trans a)
 ·exact XP.up s h
 ·exact h
theorem QT {α β:Type} {Y:Fx} {rel:Hp->Hp->β->α->Prop} {f:En->R α} {k:α->R (T×En)} {ρ:En} {B:Hp} {σ:Sg} {H:Hp} {Q:VK} {K:β->Hp->Prop} (I:SI Y B ρ σ H) (h:PoM Y B ((f ρ).bind k) σ Q)
  (n:∀ a b H1,f ρ= .ok a->zg H H1->rel (zo B H H1) H1 b a->SI Y (zo B H H1) ρ σ H1->PoM Y (zo B H H1) (k a) σ Q->K b H1):tS Y rel f ρ σ H K:=by
 refine ⟨B,I, ?_⟩
 cases e:f ρ with
 | bad=>rw [e] at h; exact h
 | ex c=>rw [e] at h; exact h
 | ok a=>
  rw [e] at h
  exact fun b H1 s r=>n a b H1 e s r (I.grow s) (PoM.up (zo.ge I.sB s) h)
section
variable {Y:Fx} {B:Hp} {ρ:En} {σ:Sg} {H:Hp}
theorem SI.back (I:SI Y B ρ σ H) {k i j n:Nat} {fs:List (Str×Fd)} {os:List Ob} (h:obD k i j ρ=some (n,fs,os)) {a:Addr} (ha:σ[i]? =some (some (V.ref a))):
  ∃ H0,zg B H0/\zg H0 H/\y9 Y.cl k B H0 H a fs/\zg Y.H0 H0/\∀ (H' B' :Hp) (fs' :List (Str×Fd)),zg H0 H' ->zg B B' ->zg B' H' ->(∀ b o,H0 b=some o->B' b=B b)->y9 Y.cl k B' H0 H' a fs' ->SI Y B' (ρ.set j (.st (os.set n (k,fs')))) σ H' :=by
 classical
 obtain ⟨h1,h2,h3⟩:=JD h
 obtain ⟨as,O,s⟩:=I.st
 obtain ⟨a1,C,dx,vs,e1,e2,e3,e4,e5,e6,e7,e8⟩:=s.st j os h2 n k fs h3
 obtain ⟨a',C',dx',vs',g1,g2,_⟩:=s.ob i k n h1
 rw [e1] at g1; cases g1
 rw [ha] at g2; cases g2
 let P:Addr->Prop:=fun b=>b=a\/∃ (m:Nat) (f:Str) (ts:List T),fs[m]? =some (f, .tl ts)/\vs[m]? =some (f,V.ref b)
 have lP:∀ b,P b->b ≠ a->∃ m xs,H b=some (.lst xs)/\B b=none/\Y.H0 b=none/\W5 ρ σ b/\O b=some (n,m+1):=fun b hb hne=>by
  rcases hb with z | ⟨m,f,ts,z1,z2⟩
  ·exact absurd z hne
  ·obtain ⟨v,y1,l,xs,p1,p2,p3,p4,p5,p6,p7⟩:=e8 m f _ z1
   rw [z2] at y1; cases y1
   cases p1
   exact ⟨m,xs,p4,p2,p3,p6,p7⟩
 have nB:∀ b o,B b=some o->¬ P b:=fun b o hb hp=>by
  by_cases z:b=a
  ·rw [z,e4] at hb; cases hb
  ·obtain ⟨_,_,_,q,_⟩:=lP b hp z; rw [q] at hb; cases hb
 have n0:∀ b o,Y.H0 b=some o->¬ P b:=fun b o hb hp=>by
  by_cases z:b=a
  ·rw [z,e5] at hb; cases hb
  ·obtain ⟨_,_,_,_,q,_⟩:=lP b hp z; rw [q] at hb; cases hb
 let H0:Hp:=fun b=>if P b then none else H b
 have H0n:∀ {b o},H b=some o->¬ P b->H0 b=some o:=fun {b o} hb hp=>by show (if P b then none else H b)=_; rw [if_neg hp]; exact hb
 have H0p:∀ {b},P b->H0 b=none:=fun {b} hp=>if_pos hp
 refine ⟨H0,fun b o hb=>H0n (I.sB b o hb) (nB b o hb),fun b o hb=> ?_,⟨C,dx,vs,fun b=>(O b).map Prod.snd,e2,e3,e4,H0p (.inl rfl),by show Option.map _ (O a)=_; rw [e6]; rfl,e7,fun m f d z=> ?_⟩,fun b o hb=>H0n (I.sH b o hb) (n0 b o hb),fun H' B' fs' s1 s2 s3 old ob' => ?_⟩
 ·have hb:(if P b then none else H b)=some o:=hb
  split at hb
  ·cases hb
  ·exact hb
 ·obtain ⟨v,y1,y2⟩:=e8 m f d z
  refine ⟨v,y1, ?_⟩
  cases d with
  | tv t=>exact y2
  | tl ts=>
   obtain ⟨l,xs,p1,p2,p3,p4,p5,p6,p7⟩:=y2
   subst p1
   exact ⟨l,xs,rfl,p2,H0p (.inr ⟨m,f,ts,z,y1⟩),p4,p5,by show Option.map _ (O l)=_; rw [p7]; rfl⟩
 ·obtain ⟨C',dx',us,O',c1,c2,c3,c4,c5,c6,c7⟩:=ob'
  rw [e2] at c1; cases c1
  have keep:∀ {b o},H b=some o->¬ P b->H' b=some o/\B' b=B b/\H0 b ≠ none:=fun {b o} hb hp=>⟨s1 _ _ (H0n hb hp),old b o (H0n hb hp),by rw [H0n hb hp]; exact Option.some_ne_none _⟩
  have own:∀ (j' :Nat) (ws:List T),(ρ.set j (.st (os.set n (k,fs'))))[j']? =some (Sl.ow ws)->ρ[j']? =some (Sl.ow ws):=fun j' ws hw=>by
   rcases zc hw with ⟨_,z⟩ | ⟨_,z⟩
   ·cases z
   ·exact z
  have ok' :∀ b,W5 ρ σ b->W5 (ρ.set j (.st (os.set n (k,fs')))) σ b:=fun b hb j' ws hw=>hb j' ws (own j' ws hw)
  have owP:∀ {j' ws b xs},ρ[j']? =some (Sl.ow ws)->σ[j']? =some (some (V.ref b))->H b=some (.lst xs)->¬ P b:=fun {j' ws b xs} w1 w2 w3 hp=>by
   by_cases z:b=a
   ·rw [z,e3] at w3; cases w3
   ·obtain ⟨_,_,_,_,_,q,_⟩:=lP b hp z; exact q j' ws w1 w2
  obtain ⟨O2,hO1,hO2⟩:∃ O2:Addr->Option (Nat×Nat),(∀ b,H0 b ≠ none->O2 b=O b)/\∀ b m,H0 b=none->O' b=some m->O2 b=some (n,m):=by
   refine ⟨fun b=>if H0 b=none then (O' b).map fun m=>(n,m) else O b, ?_, ?_⟩
   ·intro b hb; exact if_neg hb
   ·intro b m z1 z2
    show (if H0 b=none then (O' b).map fun m=>(n,m) else O b)=_
    rw [if_pos z1,z2]; rfl
  refine ⟨I.s0,fun b o hb=>(keep (I.sH b o hb) (n0 b o hb)).1,s3,fun b o hb=> ?_,by rw [List.length_set]; exact I.len,fun j' u h=> ?_,fun j' ws h=> ?_,fun j' c h=> ?_,as,O2,s.pre,fun i' os' h=> ?_,fun i1 i2 os1 os2 q1 q2=> ?_,fun i' k' n' h=> ?_,fun i' k' h=> ?_,fun i' os' h n' k' fs2 e=> ?_⟩
  ·rw [(keep (I.sH b o hb) (n0 b o hb)).2.1]; exact I.old b o hb
  ·rcases zc h with ⟨_,z⟩ | ⟨_,z⟩
   ·cases z
   ·obtain ⟨v,y1,y2⟩:=I.vl j' u z; exact ⟨v,y1,y2.mono s2⟩
  ·have z:=own j' ws h
   obtain ⟨b,xs',y1,y2,y3,y4,y5,y6⟩:=I.ow j' ws z
   obtain ⟨w1,w2,_⟩:=keep y4 (owP z y1 y4)
   exact ⟨b,xs',y1,by rw [w2]; exact y2,y3,w1,y5.mono s2,fun j2 vs2 hj hw=>y6 j2 vs2 hj (own j2 vs2 hw)⟩
  ·rcases zc h with ⟨_,z⟩ | ⟨_,z⟩
   ·cases z
   ·obtain ⟨b,y1,y2⟩:=I.xc j' c z; exact ⟨b,y1,s2 _ _ y2⟩
  ·rcases zc h with ⟨_,z⟩ | ⟨_,z⟩
   ·cases z; rw [List.length_set]; exact s.len j os h2
   ·exact s.len _ _ z
  ·have one:∀ i1 os1,(ρ.set j (.st (os.set n (k,fs'))))[i1]? =some (Sl.st os1)->i1=j:=fun i1 os1 q1=>by
    rcases zc q1 with ⟨e,_⟩ | ⟨_,z⟩
    ·exact e
    ·exact s.one i1 j os1 os z h2
   rw [one i1 os1 q1,one i2 os2 q2]
  ·rcases zc h with ⟨_,z⟩ | ⟨_,z⟩
   ·cases z
   ·obtain ⟨b,C2,dx2,vs2,y1,y2,y3,y4,y5,y6⟩:=s.ob i' k' n' z
    by_cases hb:b=a
    ·subst hb
     rw [e3] at y4; cases y4
     exact ⟨b,_,dx',us,y1,y2,y3,c2,c3,y6.1,c6.2⟩
    ·have hp:¬ P b:=fun hp=>by obtain ⟨_,_,q,_⟩:=lP b hp hb; rw [q] at y4; cases y4
     obtain ⟨w1,w2,_⟩:=keep y4 hp
     exact ⟨b,C2,dx2,vs2,y1,y2,y3,w1,by rw [w2]; exact y5,y6⟩
  ·rcases zc h with ⟨_,z⟩ | ⟨_,z⟩
   ·cases z
   ·exact s.oc i' k' z
  ·rcases zc h with ⟨rfl,z⟩ | ⟨hne,z⟩
   ·cases z
    rcases zc e with ⟨rfl,z⟩ | ⟨hn,z⟩
    ·cases z
     refine ⟨a,_,dx',us,e1,e2,c2,c3,e5,hO2 a 0 c4 c5,c6,fun m f d z=> ?_⟩
     obtain ⟨v,y1,y2⟩:=c7 m f d z
     refine ⟨v,y1, ?_⟩
     cases d with
     | tv t=>exact y2
     | tl ts=>
      obtain ⟨l,xs,p1,p2,p3,p4,p5,p6⟩:=y2
      refine ⟨l,xs,p1,p2, ?_,p4,p5,fun j' ws hw=> ?_,hO2 l _ p3 p6⟩
      ·cases q:Y.H0 l with
       | none=>rfl
       | some o=>rw [H0n (I.sH l o q) (n0 l o q)] at p3; cases p3
      ·have w:=own j' ws hw
       obtain ⟨b,xs',q1,q2,q3,q4,_⟩:=I.ow j' ws w
       rw [q1]
       intro z; injection z with z; injection z with z; injection z with z
       exact (keep q4 (owP w q1 q4)).2.2 (by rw [z]; exact p3)
    ·obtain ⟨b,C2,dx2,vs2,y1,y2,y3,y4,y5,y6,y7,y8⟩:=s.st i' os h2 n' k' fs2 z
     have hb:b ≠ a:=fun w=>by
      rw [w,e6] at y6
      injection y6 with y6
      injection y6 with y6 _
      exact hn y6.symm
     have hp:¬ P b:=fun hp=>by obtain ⟨_,_,q,_⟩:=lP b hp hb; rw [q] at y3; cases y3
     obtain ⟨w1,w2,w3⟩:=keep y3 hp
     refine ⟨b,C2,dx2,vs2,y1,y2,w1,by rw [w2]; exact y4,y5,by rw [hO1 b w3]; exact y6,y7,fun m' f' d' z=> ?_⟩
     obtain ⟨v',x1,x2⟩:=y8 m' f' d' z
     refine ⟨v',x1, ?_⟩
     cases d' with
     | tv t=>exact Rep.mono s2 x2
     | tl ws=>
      obtain ⟨l2,xs2,q1,q2,q3,q4,q5,q6,q7⟩:=x2
      have hp:¬ P l2:=fun hp=>by
       by_cases z:l2=a
       ·rw [z,e3] at q4; cases q4
       ·obtain ⟨m2,_,_,_,_,_,q⟩:=lP l2 hp z
        rw [q] at q7
        injection q7 with q7
        injection q7 with q7 _
        exact hn q7.symm
      obtain ⟨w1,w2,w3⟩:=keep q4 hp
      exact ⟨l2,xs2,q1,by rw [w2]; exact q2,q3,w1,q5.mono s2,ok' l2 q6,by show O2 l2=_; rw [hO1 l2 w3]; exact q7⟩
   ·exact absurd (s.one i' j os' os z h2) hne
end
def jJ (k i j:Nat) (m:Str) (nn:Nat) (g:List (Str×Fd)->List T->R (T×List (Str×Fd))) (ga:En->R (List T)):En->R (T×En):=fun ρ=>match obD k i j ρ with
 | some (n,fs,os)=>if (fs.lookup m).isNone=true then (ga ρ).bind fun ts=>if ts.length=nn then (g fs ts).bind fun p=> .ok (p.1,ρ.set j (.st (os.set n (k,p.2)))) else .bad else .bad
 | none=> .bad
def PoQ (cl:Nat->Value) (B H0 H:Hp) (r:R T) (Q:VK) (E:XK):Prop:=match r with
 | .ok t=>∀ v H',zg H H' ->Rep (zo B H H') v t->Q v H'
 | .ex c=>∀ d H',zg H0 H' ->zg B H' ->E (cl c) d H'
 | .bad=>False
def spQ (cl:Nat->Value) (k n:Nat) (g:List (Str×Fd)->List T->R T):Sp:=fun vs H Q E=>∃ (x:Addr) (vs' :List V) (ts:List T) (B H0:Hp) (fs:List (Str×Fd)),vs= .ref x :: vs' /\ts.length=n/\zg B H0/\zg H0 H/\y9 cl k B H0 H x fs/\zk B vs' ts/\PoQ cl B H0 H (g fs ts) Q E
def ZF (k i j:Nat) (m:Str) (nn:Nat) (g:List (Str×Fd)->List T->R T) (ga:En->R (List T)):En->R T:=fun ρ=>match obD k i j ρ with
 | some (n,fs,os)=>if (fs.lookup m).isNone=true then (ga ρ).bind fun ts=>if ts.length=nn then g fs ts else .bad else .bad
 | none=> .bad
section
variable {X:Cx} {Y:Fx} {a e:Expr} {cl:Nat->Value} {k i j kk kj nn:Nat} {x m:Str} {px ap pos p' :Pos} {C f:Addr} {fd:FuncData} {ps:List Str} {es:List Expr} {ga:En->R (List T)} {pl:Sem Bool}
theorem wL {g:List (Str×Fd)->List T->R (T×List (Str×Fd))} (hv:PE X (.Name x px) (j5 i)) (hy:Y.cl=cl) (hc:cl k= .ref C) (c:L2.Cls X.K C) (hm:L2.Meth X.K C m f) (F:zq X.prog X.w X.K X.mg X.base (CX1 X.prog X.w) kj f fd ps (spM cl k nn g)) (hr:zQ kk X.A) (hj:kj<=kk) (bd:L2.Binds X.K fd ps []) (hp:zz (CX1 X.prog X.w) X Y.E) (ha:jp X Y (a :: es) ga)
  (hst:starEach (a :: es) X.env=(false,eval a X.env) :: starEach es X.env:=by exact zp rfl) (hpl:((backTo pos (starEach es X.env)).any fun x=>x.fst)=false:=by exact zA rfl)
  (ht:eval (.Call (.Attribute (.Name x px) m ap) (a :: es) [] pos) X.env=(do
   let ov ← eval (.Name x px) X.env
   standAt ap.atName
   let (f,first) ← holding [ov] (getMethod ov m pl)
   callWith pos f first (backTo pos (starEach (a :: es) X.env)) (backToKw pos (keywordEach [] X.env))):=by rfl):
  jX X Y (.Call (.Attribute (.Name x px) m ap) (a :: es) [] pos) (jJ k i j m nn g ga):= .mk fun ρ=>PE.imp (WI (pl:=pl) hv c hm F (hr.mono hj) bd .nil hp (ha ρ) hst hpl ht) fun σ H Q ⟨B,I,q⟩=>by
 unfold jJ at q
 split at q
 ·rename_i n fs os e
  split at q
  ·rename_i hl
   obtain ⟨a',C',dx,vs,e1,e2,e3,e4,al⟩:=I.obA e
   subst hy
   rw [hc] at e2; cases e2
   have hno:vs.lookup m=none:=jZ e4 al (by simpa using hl)
   refine ⟨.ref a',e1,a',dx,vs,rfl,e3,hno, ?_⟩
   refine QT I q fun ts us H1 _ s1 r1 I1 q1=> ?_
   split at q1
   ·rename_i hn
    rw [List.append_nil]
    obtain ⟨H0,b1,b2,b3,b4,b5⟩:=I1.back e e1
    refine ⟨a',us,ts,_,H0,fs,rfl,hn,b1,b2,b3,r1, ?_⟩
    revert q1
    cases g fs ts with
    | bad=>exact fun q1=>q1
    | ex c2=>exact fun q1 d H' z1 z2=>q1 d H' (b4.trans z1) z2
    | ok p=>
     obtain ⟨t,fs2⟩:=p
     exact fun q1 v H' B' z1 z2 z3 z4 z5 z6=>q1 v H' B' z2 (b5 H' B' fs2 z1 z2 z3 z4 z5) z6
   ·exact q1.elim
  ·exact q.elim
 ·exact q.elim
theorem uE {g:List (Str×Fd)->List T->R (T×List (Str×Fd))} (hv:PE X (.Name x px) (j5 i)) (hy:Y.cl=cl) (hc:cl k= .ref C) (c:L2.Cls X.K C) (hm:L2.Meth X.K C m f) (F:zq X.prog X.w X.K X.mg X.base (CX1 X.prog X.w) kj f fd ps (spM cl k 0 g)) (hr:zQ kk X.A) (hj:kj<=kk) (bd:L2.Binds X.K fd ps []) (hp:zz (CX1 X.prog X.w) X Y.E)
  (ht:eval (.Call (.Attribute (.Name x px) m ap) [] [] pos) X.env=(do
   let ov ← eval (.Name x px) X.env
   standAt ap.atName
   let (f,first) ← holding [ov] (getMethod ov m pl)
   callWith pos f first (backTo pos (starEach [] X.env)) (backToKw pos (keywordEach [] X.env))):=by rfl):
  jX X Y (.Call (.Attribute (.Name x px) m ap) [] [] pos) (jJ k i j m 0 g zb):= .mk fun ρ=>PE.imp (wm (pl:=pl) hv c hm F (hr.mono hj) bd .nil hp ht) fun σ H Q ⟨B,I,q⟩=>by
 unfold jJ at q
 split at q
 ·rename_i n fs os e
  split at q
  ·rename_i hl
   obtain ⟨a',C',dx,vs,e1,e2,e3,e4,al⟩:=I.obA e
   subst hy
   rw [hc] at e2; cases e2
   have hno:vs.lookup m=none:=jZ e4 al (by simpa using hl)
   refine ⟨.ref a',e1,a',dx,vs,rfl,e3,hno, ?_⟩
   have q1:PoM Y B ((g fs []).bind fun p=> .ok (p.1,ρ.set j (.st (os.set n (k,p.2))))) σ Q:=q
   obtain ⟨H0,b1,b2,b3,b4,b5⟩:=I.back e e1
   refine ⟨a',[],[],_,H0,fs,rfl,rfl,b1,b2,b3, .nil, ?_⟩
   revert q1
   cases g fs [] with
   | bad=>exact fun q1=>q1
   | ex c2=>exact fun q1 d H' z1 z2=>q1 d H' (b4.trans z1) z2
   | ok p=>
    obtain ⟨t,fs2⟩:=p
    exact fun q1 v H' B' z1 z2 z3 z4 z5 z6=>q1 v H' B' z2 (b5 H' B' fs2 z1 z2 z3 z4 z5) z6
  ·exact q.elim
 ·exact q.elim
theorem ZH {g:List (Str×Fd)->List T->R T} (hv:PE X (.Name x px) (j5 i)) (hy:Y.cl=cl) (hc:cl k= .ref C) (c:L2.Cls X.K C) (hm:L2.Meth X.K C m f) (F:zq X.prog X.w X.K X.mg X.base (CX1 X.prog X.w) kj f fd ps (spQ cl k 0 g)) (hr:zQ kk X.A) (hj:kj<=kk) (bd:L2.Binds X.K fd ps []) (hp:zz (CX1 X.prog X.w) X Y.E)
  (ht:eval (.Call (.Attribute (.Name x px) m ap) [] [] pos) X.env=(do
   let ov ← eval (.Name x px) X.env
   standAt ap.atName
   let (f,first) ← holding [ov] (getMethod ov m pl)
   callWith pos f first (backTo pos (starEach [] X.env)) (backToKw pos (keywordEach [] X.env))):=by rfl):
  Snd X Y (.Call (.Attribute (.Name x px) m ap) [] [] pos) (ZF k i j m 0 g zb):= .mk fun ρ=>PE.imp (wm (pl:=pl) hv c hm F (hr.mono hj) bd .nil hp ht) fun σ H Q ⟨B,I,q⟩=>by
 unfold ZF at q
 split at q
 ·rename_i n fs os e
  split at q
  ·rename_i hl
   obtain ⟨a',C',dx,vs,e1,e2,e3,e4,al⟩:=I.obA e
   subst hy
   rw [hc] at e2; cases e2
   have hno:vs.lookup m=none:=jZ e4 al (by simpa using hl)
   refine ⟨.ref a',e1,a',dx,vs,rfl,e3,hno, ?_⟩
   have q1:Po Y rC B H (g fs []) Q:=q
   obtain ⟨H0,b1,b2,b3,b4,b5⟩:=I.back e e1
   refine ⟨a',[],[],_,H0,fs,rfl,rfl,b1,b2,b3, .nil, ?_⟩
   revert q1
   cases g fs [] with
   | bad=>exact fun q1=>q1
   | ex c2=>exact fun q1 d H' z1 z2=>q1 d H' (b4.trans z1) z2
   | ok t=>exact fun q1 v H' z1 z2=>q1 v H' z1 z2
  ·exact q.elim
 ·exact q.elim
def drM (f:En->R (T×En)):En->RS:=fun ρ=>(f ρ).s fun p=> .nx p.2
theorem xu {f:En->R (T×En)} (h:jX X Y e f) (hs:swapsWith e none pos.line X.env=pure false:=by rfl):ZQ X Y (.Expr e pos) (drM f):= .mk fun ρ=>PS.imp (j6 (h.go ρ) hs) fun D σ H ⟨B,I,q⟩=>⟨B,I,by
 unfold drM at q
 revert q
 cases f ρ with
 | bad=>exact fun q=>q
 | ex c=>exact fun q=>q
 | ok p=>exact fun q v H' B' s I' _=>q σ H' B' s I'⟩
def seM (i:Nat) (f:En->R (T×En)):En->RS:=fun ρ=>(f ρ).s fun p=> .nx (p.2.set i (.vl p.1))
theorem xv {f:En->R (T×En)} (hN:X.N.Nodup) (hi:X.N[i]? =some x) (hx:L2.Loc X.env.scope x) (h:jX X Y e f) (hs:swapsWith e (some (.Name x p')) pos.line X.env=pure false:=by rfl)
  (hf:X.fn x=true\/X.env.scope.names.lookup x=some .local:=by first | exact .inl rfl | exact .inr rfl | assumption):ZQ X Y (.Assign [.Name x p'] e pos) (seM i f):= .mk fun ρ=>PS.imp (wk hN hi hx (h.go ρ) hs hf) fun D σ H ⟨B,I,q⟩=>⟨B,I,by
 unfold seM at q
 revert q
 cases f ρ with
 | bad=>exact fun q=>q
 | ex c=>exact fun q=>q
 | ok p=>exact fun q v H' B' s I' r=>q _ H' B' s (I'.setV i r)⟩
end
section
variable {P:Program} {w:World} {K:PySem.W.Frag} {mg:Str->Option Value} {base:Heap}
theorem JE {cl:Nat->Value} {x qual:Str} {st:Stmt} {f:Addr} {fd:FuncData} {N ps:List Str} {k n j kr:Nat} {e:Expr} {pos:Pos} {fe:En->R T} (F:Fun K x qual st f fd) (S:za N ps (z9 st)) (hn:ps.length=n+1) (hN:N.length=j+1) (hj:n+1<=j) (hbd:zr st=[.Return (some e) pos])
  (hb:∀ (cdv:Value) (A:Around) (outer:List Env) (s:Shared) (H:Hp) (E:XK) (Y:Fx),Y.cl=cl->Y.E=E->zQ kr (A.deeper (envOfC qual (z9 st) s.heap.objs.size f cdv))->
   Snd (Zr (CX1 P w) P w K mg base N qual (z9 st) f cdv A outer s H E) Y e fe):zq P w K mg base (CX1 P w) (kr+1) f fd ps (spQ cl k n fun fs ts=>fe (enM k j fs ts)):=by
 refine Fun.okX F S (fun vs H Q E ⟨x,vs',ts,B,H0,fs,e,hl,_,_,_,r,_⟩=>by rw [e,List.length_cons,r.length,hl,hn]) fun cdv A outer s H vs Q E hr ⟨x,vs',ts,B,H0,fs,e,hl,sB,sH,ob,r,q⟩=> ?_
 subst e
 rw [hbd]
 refine ⟨_,Zz (jw ((hb cdv A outer s H E ⟨B,H0,E,cl,[x]⟩ rfl rfl hr) (enM k j fs ts))),B,SI.startM hN (by omega) sB sH ob r, ?_⟩
 have q:PoQ cl B H0 H (fe (enM k j fs ts)) Q E:=q
 revert q
 cases fe (enM k j fs ts) with
 | bad=>exact fun q=>q
 | ex c=>exact fun q=>q
 | ok t=>exact fun q=>q
end
section
variable {X:Cx} {Y:Fx} {b:Expr} {fb:En->R T} {p pos:Pos}
def ixF (k i j:Nat) (f:Str) (fb:En->R T):En->R T:=fun ρ=>match obD k i j ρ with
 | some (_,fs,_)=>match fs.lookup f with
  | some (.tl ts)=>(fb ρ).bind fun t=>match t with
   | .int q=>atT ts q
   | _=> .bad
  | _=> .bad
 | none=> .bad
theorem xw {k i j:Nat} {x f:Str} {px:Pos} {C:Addr} (hv:PE X (.Name x px) (j5 i)) (hc:Y.cl k= .ref C) (c:L2.Cls X.K C) (n:L2.NoAttr X.K C f) (hb:Snd X Y b fb) (hbf:attributeBase (.Name x px) f X.env (eval (.Name x px) X.env)=eval (.Name x px) X.env:=by rfl) (hs:jP b:=by exact fun _ _=>rfl):Snd X Y (.Subscript (.Attribute (.Name x px) f p) b pos) (ixF k i j f fb):= .mk fun ρ=>
 PE.imp (yu WL (jz hv hbf) (hb ρ) hs) fun σ H Q ⟨B,I,q⟩=>by
  unfold ixF at q
  split at q
  ·rename_i n' fs os e
   split at q
   ·rename_i ts el
    obtain ⟨a,C',dx,vs,v,m,as,O,s,e1,e2,e3,e4,e5,e6,l,xs,p1,p2,p3,hh,rr,_⟩:=I.look e el
    rw [hc] at e2; cases e2
    subst p1
    refine ⟨.ref a,e1,a,C,dx,vs,_,rfl,e3,c,n,e4,step I q fun t' v' H2 _ s2 r2 I2 q2=> ?_⟩
    cases r2 with
    | int j=>
     have q2:Po Y rC _ H2 (atT ts j) Q:=q2
     unfold atT at q2
     split at q2
     ·rename_i t e8
      obtain ⟨w,e9,e10⟩:=Jr (rr.mono (zo.ge I.sB s2)) e8
      exact .inl ⟨_,xs,j,w,rfl,rfl,SqL.of (s2 _ _ hh),e9,po0 I2.sB q2 rfl e10⟩
     ·exact q2.elim
    | _=>exact q2.elim
   ·exact q.elim
  ·exact q.elim
def QU (k i j:Nat) (f:Str):En->R (T×En):=fun ρ=>match obD k i j ρ with
 | some (n,fs,os)=>match fs.lookup f with
  | some (.tl ts)=>match ts[ts.length - 1]? with
   | some t=> .ok (t,ρ.set j (.st (os.set n (k,JL f (.tl ts.dropLast) fs))))
   | none=> .bad
  | _=> .bad
 | none=> .bad
theorem zk.dropLast {B:Hp}:∀ {vs:List V} {ts:List T},zk B vs ts->zk B vs.dropLast ts.dropLast
 | _,_, .nil=> .nil
 | _,_, .cons r .nil=> .nil
 | _,_, .cons r (.cons r2 rr)=> .cons r (zk.dropLast (.cons r2 rr))
theorem uF {k i j:Nat} {x f:Str} {px pf pa:Pos} {C:Addr} (hv:PE X (.Name x px) (j5 i)) (hc:Y.cl k= .ref C) (c:L2.Cls X.K C) (n:L2.NoAttr X.K C f) (hbf:attributeBase (.Name x px) f X.env (eval (.Name x px) X.env)=eval (.Name x px) X.env:=by rfl)
  (hb:attributeBase (.Attribute (.Name x px) f pf) "pop" X.env (eval (.Attribute (.Name x px) f pf) X.env)=eval (.Attribute (.Name x px) f pf) X.env:=by rfl) (hz:(pa.endLine == p.line)=true:=by rfl):jX X Y (.Call (.Attribute (.Attribute (.Name x px) f pf) "pop" pa) [] [] p) (QU k i j f):= .mk fun ρ=>
 PE.imp (qD PySem.F.plainAttrs_list PySem.F.slot_list_pop PySem.F.type_list_pop qE (jz (pos:=pf) hv hbf) hb hz) fun σ H Q ⟨B,I,q⟩=>by
  unfold QU at q
  split at q
  ·rename_i n' fs os e
   split at q
   ·rename_i ts el
    split at q
    ·rename_i t et
     obtain ⟨a',C',dx,vs,v,m,as,O,s,g1,g2,g3,g4,g5,g6,l,xs,p1,b0,h0,hh,rr,_⟩:=I.look e el
     rw [hc] at g2; cases g2
     subst p1
     obtain ⟨_,_,_,vs2,y1,_,y3,_,al⟩:=I.obA e
     rw [g1] at y1; cases y1
     rw [g3] at y3; cases y3
     have hi:=uB al ⟨_,el⟩ g4
     obtain ⟨j1,j2⟩:=J0 el
     obtain ⟨w,hw,rw'⟩:=rr.at et
     have:=I.chgF e j1 g1 g3 hi (zk.dropLast rr)
     rw [← j2] at this
     exact ⟨.ref a',g1,a',C,dx,vs,_,rfl,g3,c,n,g4, .inl ⟨rfl,_,SqL.of hh⟩,l,xs,w,rfl,rfl,hh,by rw [rr.length]; exact hw,q w _ B (zg.refl _) this rw'⟩
    ·exact q.elim
   ·exact q.elim
  ·exact q.elim
end
section
variable {Y:Fx} {B:Hp} {ρ:En} {σ:Sg} {H:Hp}
theorem SI.made (I:SI Y B ρ σ H) {i j k:Nat} {x:Addr} {os:List Ob} {fs:List (Str×Fd)} {B' H' H0:Hp} (h2:ρ[j]? =some (.st os)) (hij:i ≠ j) (hi:i < ρ.length) (sH:zg H H0) (s1:zg H0 H') (s2:zg B B') (s3:zg B' H') (old:∀ b o,H0 b=some o->B' b=B b) (ob:y9 Y.cl k B' H0 H' x fs):
  SI Y B' ((ρ.set j (.st (os++[(k,fs)]))).set i (.ob k os.length)) (σ.set i (some (V.ref x))) H' :=by
 classical
 obtain ⟨as,O,s⟩:=I.st
 obtain ⟨C,dx,us,O',c1,c2,c3,c4,c5,c6,c7⟩:=ob
 have hlen:=s.len j os h2
 have keep:∀ {b o},H b=some o->H' b=some o/\B' b=B b/\H0 b ≠ none:=fun {b o} hb=>⟨s1 _ _ (sH _ _ hb),old b o (sH _ _ hb),by rw [sH _ _ hb]; exact Option.some_ne_none _⟩
 have get:∀ {i' :Nat} {y:Sl},((ρ.set j (.st (os++[(k,fs)]))).set i (.ob k os.length))[i']? =some y->(i' =i/\y= .ob k os.length)\/(i' ≠ i/\i' =j/\y= .st (os++[(k,fs)]))\/(i' ≠ i/\i' ≠ j/\ρ[i']? =some y):=fun {i' y} h=>by
  rcases zc h with ⟨a,b⟩ | ⟨a,b⟩
  ·exact .inl ⟨a,b⟩
  ·rcases zc b with ⟨c,d⟩ | ⟨c,d⟩
   ·exact .inr (.inl ⟨a,c,d⟩)
   ·exact .inr (.inr ⟨a,c,d⟩)
 have sg:∀ {i' :Nat},i' ≠ i->(σ.set i (some (V.ref x)))[i']? =σ[i']? :=fun {i'} h=>List.getElem?_set_ne (Ne.symm h)
 have own:∀ {j' :Nat} {ws:List T},((ρ.set j (.st (os++[(k,fs)]))).set i (.ob k os.length))[j']? =some (Sl.ow ws)->j' ≠ i/\ρ[j']? =some (Sl.ow ws):=fun {j' ws} hw=>by
  rcases get hw with ⟨_,z⟩ | ⟨_,_,z⟩ | ⟨a,_,z⟩
  ·cases z
  ·cases z
  ·exact ⟨a,z⟩
 have ok' :∀ b,W5 ρ σ b->W5 ((ρ.set j (.st (os++[(k,fs)]))).set i (.ob k os.length)) (σ.set i (some (V.ref x))) b:=fun b hb j' ws hw=>by
  obtain ⟨h1,h2⟩:=own hw
  rw [sg h1]; exact hb j' ws h2
 obtain ⟨O2,hO1,hO2⟩:∃ O2:Addr->Option (Nat×Nat),(∀ b,H0 b ≠ none->O2 b=O b)/\∀ b m,H0 b=none->O' b=some m->O2 b=some (os.length,m):=by
  refine ⟨fun b=>if H0 b=none then (O' b).map fun m=>(os.length,m) else O b, ?_, ?_⟩
  ·intro b hb; exact if_neg hb
  ·intro b m z1 z2
   show (if H0 b=none then (O' b).map fun m=>(os.length,m) else O b)=_
   rw [if_pos z1,z2]; rfl
 have H0n:zg Y.H0 H0:=I.sH.trans sH
 have asn:(as++[x])[os.length]? =some x:=by rw [List.getElem?_append_right (by omega),hlen,Nat.sub_self]; rfl
 have aso:∀ {n' :Nat} {b:Addr},as[n']? =some b->(as++[x])[n']? =some b:=fun {n' b} h=>by
  rw [List.getElem?_append_left (List.getElem?_eq_some_iff.mp h).1]; exact h
 refine ⟨I.s0,fun b o hb=>(keep (I.sH b o hb)).1,s3,fun b o hb=> ?_,by rw [List.length_set,List.length_set,List.length_set]; exact I.len,fun j' u h=> ?_,fun j' ws h=> ?_,fun j' c h=> ?_,as++[x],O2,s.pre.trans (List.prefix_append _ _),fun i' os' h=> ?_,fun i1 i2 os1 os2 q1 q2=> ?_,fun i' k' n' h=> ?_,fun i' k' h=> ?_,fun i' os' h n' k' fs2 e=> ?_⟩
 ·rw [(keep (I.sH b o hb)).2.1]; exact I.old b o hb
 ·rcases get h with ⟨_,z⟩ | ⟨_,_,z⟩ | ⟨a,_,z⟩
  ·cases z
  ·cases z
  ·obtain ⟨v,y1,y2⟩:=I.vl j' u z
   exact ⟨v,by rw [sg a]; exact y1,y2.mono s2⟩
 ·obtain ⟨a,z⟩:=own h
  obtain ⟨b,xs',y1,y2,y3,y4,y5,y6⟩:=I.ow j' ws z
  obtain ⟨w1,w2,_⟩:=keep y4
  refine ⟨b,xs',by rw [sg a]; exact y1,by rw [w2]; exact y2,y3,w1,y5.mono s2,fun j2 vs2 hj hw=> ?_⟩
  obtain ⟨q1,q2⟩:=own hw
  rw [sg q1]; exact y6 j2 vs2 hj q2
 ·rcases get h with ⟨_,z⟩ | ⟨_,_,z⟩ | ⟨a,_,z⟩
  ·cases z
  ·cases z
  ·obtain ⟨b,y1,y2⟩:=I.xc j' c z
   exact ⟨b,by rw [sg a]; exact y1,s2 _ _ y2⟩
 ·rcases get h with ⟨_,z⟩ | ⟨_,_,z⟩ | ⟨_,nj,z⟩
  ·cases z
  ·cases z; rw [List.length_append,List.length_append,hlen]; rfl
  ·exact absurd (s.one i' j os' os z h2) nj
 ·have one:∀ i1 os1,((ρ.set j (.st (os++[(k,fs)]))).set i (.ob k os.length))[i1]? =some (Sl.st os1)->i1=j:=fun i1 os1 q1=>by
   rcases get q1 with ⟨_,z⟩ | ⟨_,e,_⟩ | ⟨_,nj,z⟩
   ·cases z
   ·exact e
   ·exact s.one i1 j os1 os z h2
  rw [one i1 os1 q1,one i2 os2 q2]
 ·rcases get h with ⟨e,z⟩ | ⟨_,_,z⟩ | ⟨a,_,z⟩
  ·cases z
   subst e
   refine ⟨x,C,dx,us,asn,List.getElem?_set_self (by rw [← I.len]; exact hi),c1,c2,c3, ?_,c6.2⟩
   cases q:Y.H0 x with
   | none=>rfl
   | some o=>rw [H0n _ _ q] at c4; cases c4
  ·cases z
  ·obtain ⟨b,C2,dx2,vs2,y1,y2,y3,y4,y5,y6⟩:=s.ob i' k' n' z
   obtain ⟨w1,w2,_⟩:=keep y4
   exact ⟨b,C2,dx2,vs2,aso y1,by rw [sg a]; exact y2,y3,w1,by rw [w2]; exact y5,y6⟩
 ·rcases get h with ⟨_,z⟩ | ⟨_,_,z⟩ | ⟨a,_,z⟩
  ·cases z
  ·cases z
  ·obtain ⟨b,C2,dx2,vs2,y1,y2,y3⟩:=s.oc i' k' z
   exact ⟨b,C2,dx2,vs2,by rw [sg a]; exact y1,y2,y3⟩
 ·rcases get h with ⟨_,z⟩ | ⟨_,ej,z⟩ | ⟨_,nj,z⟩
  ·cases z
  ·cases z
   by_cases hn:n' < os.length
   ·rw [List.getElem?_append_left hn] at e
    obtain ⟨b,C2,dx2,vs2,y1,y2,y3,y4,y5,y6,y7,y8⟩:=s.st j os h2 n' k' fs2 e
    obtain ⟨w1,w2,w3⟩:=keep y3
    refine ⟨b,C2,dx2,vs2,aso y1,y2,w1,by rw [w2]; exact y4,y5,by rw [hO1 b w3]; exact y6,y7,fun m' f' d' z=> ?_⟩
    obtain ⟨v',x1,x2⟩:=y8 m' f' d' z
    refine ⟨v',x1, ?_⟩
    cases d' with
    | tv t=>exact Rep.mono s2 x2
    | tl ws=>
     obtain ⟨l2,xs2,q1,q2,q3,q4,q5,q6,q7⟩:=x2
     obtain ⟨w1,w2,w3⟩:=keep q4
     exact ⟨l2,xs2,q1,by rw [w2]; exact q2,q3,w1,q5.mono s2,ok' l2 q6,by show O2 l2=_; rw [hO1 l2 w3]; exact q7⟩
   ·rw [List.getElem?_append_right (Nat.not_lt.mp hn)] at e
    have hn' :n' =os.length:=by
     cases q:n' - os.length with
     | zero=>omega
     | succ r=>rw [q] at e; cases e
    subst hn'
    rw [Nat.sub_self] at e
    cases e
    have h0x:Y.H0 x=none:=by
     cases q:Y.H0 x with
     | none=>rfl
     | some o=>rw [H0n _ _ q] at c4; cases c4
    refine ⟨x,C,dx,us,asn,c1,c2,c3,h0x,hO2 x 0 c4 c5,c6,fun m f d z=> ?_⟩
    obtain ⟨v,y1,y2⟩:=c7 m f d z
    refine ⟨v,y1, ?_⟩
    cases d with
    | tv t=>exact y2
    | tl ts=>
     obtain ⟨l,xs,p1,p2,p3,p4,p5,p6⟩:=y2
     refine ⟨l,xs,p1,p2, ?_,p4,p5,fun j' ws hw=> ?_,hO2 l _ p3 p6⟩
     ·cases q:Y.H0 l with
      | none=>rfl
      | some o=>rw [H0n _ _ q] at p3; cases p3
     ·obtain ⟨hj',w⟩:=own hw
      obtain ⟨b,xs',q1,q2,q3,q4,_⟩:=I.ow j' ws w
      rw [sg hj',q1]
      intro z; injection z with z; injection z with z; injection z with z
      exact (keep q4).2.2 (by rw [z]; exact p3)
  ·exact absurd (s.one i' j os' os z h2) nj
end
def mkS (i j k nn:Nat) (g:List (Str×Fd)->List T->R (T×List (Str×Fd))) (ga:En->R (List T)):En->RS:=fun ρ=>(ga ρ).s fun ts=>if ts.length=nn/\i ≠ j/\i < ρ.length then (match ρ[j]? with
 | some (.st os)=>(match g [] ts with
  | .ok (.non,fs)=> .nx ((ρ.set j (.st (os++[(k,fs)]))).set i (.ob k os.length))
  | .ex c=> .ex c
  | _=> .bad)
 | _=> .bad) else .bad
section
variable {X:Cx} {Y:Fx} {a:Expr} {cl:Nat->Value} {k i j kk kj nn:Nat} {x c:Str} {pc p' pos pos' :Pos} {C f:Addr} {fd:FuncData} {ps:List Str} {es:List Expr} {ga:En->R (List T)}
theorem XW {g:List (Str×Fd)->List T->R (T×List (Str×Fd))} (hN:X.N.Nodup) (hi:X.N[i]? =some x) (hx:L2.Loc X.env.scope x) (hy:Y.cl=cl) (hc:cl k= .ref C) (M:L2.Mk X.K C f) (F:zq X.prog X.w X.K X.mg X.base (CX1 X.prog X.w) kj f fd ps (spM cl k nn g)) (hr:zQ kk X.A) (hj:kj+1<=kk) (gl:Gl X c) (mg:X.mg c=some (.ref C)) (bd:L2.Binds X.K fd ps []) (hp:zz (CX1 X.prog X.w) X Y.E) (ha:jp X Y (a :: es) ga)
  (hd:(c == ("__debug__":Str))=false:=by decide) (hst:starEach (a :: es) X.env=(false,eval a X.env) :: starEach es X.env:=by exact zp rfl) (hpl:((backTo pos' (starEach es X.env)).any fun x=>x.fst)=false:=by exact zA rfl) (hs:swapsWith (.Call (.Name c pc) (a :: es) [] pos') (some (.Name x p')) pos.line X.env=pure false:=by rfl)
  (hf:X.fn x=true\/X.env.scope.names.lookup x=some .local:=by first | exact .inl rfl | exact .inr rfl | assumption):ZQ X Y (.Assign [.Name x p'] (.Call (.Name c pc) (a :: es) [] pos') pos) (mkS i j k nn g ga):= .mk fun ρ=>
 PS.imp (wk hN hi hx (WJ M F (hr.mono hj) gl mg bd .nil hp (ha ρ) hd hst hpl) hs hf) fun D σ H ⟨B,I,q⟩=>ZV I q fun ts vs H1 _ s1 r1 I1 q1=>by
  subst hy
  split at q1
  ·rename_i hn
   intro y dx h1 h2 h3
   rw [List.append_nil]
   split at q1
   ·rename_i os ej
    have sd:zg H1 (upd H1 dx (.own y)):=zg.new h2 _
    have hy0:upd H1 dx (.own y) y=none:=by rw [zd (Ne.symm h3)]; exact h1
    refine ⟨y,vs,ts,_,upd H1 dx (.own y),[],rfl,hn.1,I1.sB.trans sd,zg.new hy0 _,⟨C,dx,[],fun _=>some 0,hc,zi,I1.sB.free h1,hy0,rfl,⟨rfl,fun _ _=>rfl⟩,fun m f d z=>by cases z⟩,r1, ?_⟩
    revert q1
    cases g [] ts with
    | bad=>exact fun q1=>q1
    | ex c2=>exact fun q1 d H' z1 z2=>q1 d H' ((I1.sH.trans sd).trans z1) z2
    | ok p=>
     obtain ⟨t,fs2⟩:=p
     cases t with
     | non=>
      intro q1 v H' B' z1 z2 z3 z4 z5 z6
      cases z6
      exact ⟨rfl,q1 _ H' B' z2 (I1.made ej hn.2.1 hn.2.2 sd z1 z2 z3 z4 z5)⟩
     | _=>exact fun q1=>q1.elim
   ·exact q1.elim
  ·exact q1.elim
end
section
variable {X:Cx} {Y:Fx} {a:Expr} {fa:En->R T} {p pf pos:Pos}
def xx (k i j:Nat) (f:Str):En->R T:=fun ρ=>match obD k i j ρ with
 | some (_,fs,_)=>match fs.lookup f with
  | some (.tl ts)=> .ok (.lst ts)
  | _=> .bad
 | none=> .bad
theorem QV {k i j:Nat} {x f:Str} {px:Pos} {C:Addr} (hv:PE X (.Name x px) (j5 i)) (hc:Y.cl k= .ref C) (c:L2.Cls X.K C) (n:L2.NoAttr X.K C f) (gl:Gl X "list") (mg:X.mg "list"=none) (hbf:attributeBase (.Name x px) f X.env (eval (.Name x px) X.env)=eval (.Name x px) X.env:=by rfl):Snd X Y (.Call (.Name "list" p) [.Attribute (.Name x px) f pf] [] pos) (xx k i j f):= .mk fun ρ=>
 PE.imp (Jg ZO gl mg (PyProof.Rows.Boot.«list») (zj (jz (pos:=pf) hv hbf) zw (st1 rfl)) (by decide) (by decide) (st1 rfl) rfl) fun σ H Q ⟨B,I,q⟩=>by
  unfold xx at q
  split at q
  ·rename_i n' fs os e
   split at q
   ·rename_i ts el
    obtain ⟨a,C',dx,vs,v,m,as,O,s,e1,e2,e3,e4,e5,e6,l,xs,p1,p2,p3,hh,rr,_⟩:=I.look e el
    rw [hc] at e2; cases e2
    subst p1
    exact ⟨.ref a,e1,a,C,dx,vs,_,rfl,e3,c,n,e4,l,xs,rfl, .inl (SqL.of hh),fun l' hl' =>q (.ref l') (upd H l' (.lst xs)) (zg.new hl' _) (.lst (by rw [zB hl']; exact zi) (rr.mono (zo.ge I.sB (zg.new hl' _))))⟩
   ·exact q.elim
  ·exact q.elim
end
def UB (r:R (T×En)):R T:=match r with
 | .ex c=> .ex c
 | _=> .bad
def spX (cl:Nat->Value) (k n:Nat) (g:List T->R T):Sp:=fun vs H Q E=>∃ (x C dx:Addr) (us:List (Str×V)) (vs' :List V) (ts:List T) (B:Hp) (c:Nat),vs= .ref x :: vs' /\ts.length=n/\cl k= .ref C/\H x=some (.ins C dx us)/\InC us/\zg B H/\zk B vs' ts/\g ts= .ex c/\∀ d H',zg H H' ->zg B H' ->E (cl c) d H'
def enX (k m:Nat) (ts:List T):En:= .oc k :: (ts.map Sl.vl++List.replicate m .un)
theorem Z7 {k m:Nat} {ts:List T} {i:Nat} {s:Sl} (h:(enX k m ts)[i]? =some s):(i=0/\s= .oc k)\/(∃ i' t,i=i' +1/\ts[i']? =some t/\s= .vl t)\/s= .un:=by
 unfold enX at h
 cases i with
 | zero=>exact .inl ⟨rfl,(Option.some.inj h).symm⟩
 | succ i=>
  rw [List.getElem?_cons_succ] at h
  by_cases hi:i < ts.length
  ·rw [List.getElem?_append_left (by simpa using hi),List.getElem?_map,List.getElem?_eq_getElem hi] at h
   exact .inr (.inl ⟨i,_,rfl,List.getElem?_eq_getElem hi,(Option.some.inj h).symm⟩)
  ·rw [List.getElem?_append_right (by simpa using hi),List.getElem?_replicate] at h
   split at h
   ·exact .inr (.inr (Option.some.inj h).symm)
   ·cases h
theorem SI.startX {cl:Nat->Value} {k m:Nat} {B H:Hp} {x C dx:Addr} {us:List (Str×V)} {E:XK} {vs:List V} {ts:List T} {N:List Str} (hN:N.length=ts.length+1+m) (sB:zg B H) (hc:cl k= .ref C) (hx:H x=some (.ins C dx us)) (hi:InC us) (r:zk B vs ts):
  SI ⟨B,H,E,cl,[]⟩ B (enX k m ts) (L2.start N (.ref x :: vs)) H where
 s0:=sB
 sH:=zg.refl _
 sB:=sB
 old:=fun _ _ _=>rfl
 len:=by
  unfold enX L2.start
  have:=r.length
  simp only [List.length_cons,List.length_append,List.length_map,List.length_replicate]
  omega
 vl:=fun i t h=>by
  rcases Z7 h with ⟨_,e⟩ | ⟨i',t',e1,e2,e3⟩ | e
  ·cases e
  ·cases e3
   subst e1
   obtain ⟨v,ev,rv⟩:=r.at e2
   refine ⟨v, ?_,rv⟩
   unfold L2.start
   have hi:i' < vs.length:=(List.getElem?_eq_some_iff.mp ev).1
   rw [List.getElem?_append_left (by simpa using hi),List.map_cons,List.getElem?_cons_succ,List.getElem?_map,ev]; rfl
  ·cases e
 ow:=fun i t h=>by
  rcases Z7 h with ⟨_,e⟩ | ⟨_,_,_,_,e⟩ | e <;> cases e
 xc:=fun i t h=>by
  rcases Z7 h with ⟨_,e⟩ | ⟨_,_,_,_,e⟩ | e <;> cases e
 st:=by
  refine ⟨[],fun _=>none,List.prefix_refl _,fun i os h=> ?_,fun i _ os _ h=> ?_,fun i k' n h=> ?_,fun i k' h=> ?_,fun i os h=> ?_⟩
  ·rcases Z7 h with ⟨_,e⟩ | ⟨_,_,_,_,e⟩ | e <;> cases e
  ·rcases Z7 h with ⟨_,e⟩ | ⟨_,_,_,_,e⟩ | e <;> cases e
  ·rcases Z7 h with ⟨_,e⟩ | ⟨_,_,_,_,e⟩ | e <;> cases e
  ·rcases Z7 h with ⟨e0,e⟩ | ⟨_,_,_,_,e⟩ | e
   ·cases e
    subst e0
    exact ⟨x,C,dx,us,rfl,hc,hx,hi⟩
   ·cases e
   ·cases e
  ·rcases Z7 h with ⟨_,e⟩ | ⟨_,_,_,_,e⟩ | e <;> cases e
def XX:En->R (T×En):=fun _=> .bad
theorem xy {X:Cx} {Y:Fx} {rest:List Stmt}:ya X Y rest XX:= .mk fun ρ pins s σ H D I ⟨_,_,z⟩=>z.elim
def Wg (Y:Fx) (B:Hp) (r:R (Bool×En)) (σ:Sg) (Q:Bool->Hp->Prop):Prop:=match r with
 | .ok (b,ρ')=>∀ H' B',zg B B' ->SI Y B' ρ' σ H' ->Q b H'
 | .ex c=>XP Y B c
 | .bad=>False
theorem Wg.up {Y:Fx} {B B' :Hp} {r:R (Bool×En)} {σ:Sg} {Q:Bool->Hp->Prop} (s:zg B B') (h:Wg Y B r σ Q):Wg Y B' r σ Q:=by
 unfold Wg at h ⊢
 split
 ·exact fun H' B2 a=>h H' B2 (s.trans a)
 ·exact XP.up s h
 ·exact h
structure wa (X:Cx) (Y:Fx) (e:Expr) (f:En->R (Bool×En)):Prop where
 mk ::
 go:∀ ρ,PT X e fun σ H Q=>∃ B,SI Y B ρ σ H/\Wg Y B (f ρ) σ Q
theorem yc {α β:Type} {Y:Fx} {rel:Hp->Hp->β->α->Prop} {f:En->R α} {k:α->R (Bool×En)} {ρ:En} {B:Hp} {σ:Sg} {H:Hp} {Q:Bool->Hp->Prop} {K:β->Hp->Prop} (I:SI Y B ρ σ H) (h:Wg Y B ((f ρ).bind k) σ Q)
  (n:∀ a b H1,f ρ= .ok a->zg H H1->rel (zo B H H1) H1 b a->SI Y (zo B H H1) ρ σ H1->Wg Y (zo B H H1) (k a) σ Q->K b H1):tS Y rel f ρ σ H K:=by
 refine ⟨B,I, ?_⟩
 cases e:f ρ with
 | bad=>rw [e] at h; exact h
 | ex c=>rw [e] at h; exact h
 | ok a=>
  rw [e] at h
  exact fun b H1 s r=>n a b H1 e s r (I.grow s) (Wg.up (zo.ge I.sB s) h)
section
variable {X:Cx} {Y:Fx} {a b c:Expr} {pos:Pos} {sts sts' :List Stmt}
def YR (g:T->T->R Bool) (fm:En->R (T×En)) (fb:En->R T):En->R (Bool×En):=fun ρ=>(fm ρ).bind fun p=>(fb p.2).bind fun t' =>(g p.1 t').bind fun b=> .ok (b,p.2)
theorem QW {op:CmpOp} {g:T->T->R Bool} {fm:En->R (T×En)} {fb:En->R T} (nx:Nx g) (ho:OpR X (compareOp op) (jT g)) (ha:jX X Y a fm) (hb:Zf X Y b fb) (hm:behindInMarks op b=false):wa X Y (.Compare a [op] [b] pos) (YR g fm fb):= .mk fun ρ=>
 PT.imp (WA (tb:=fun σ H Q=>∃ ρ',tS Y rB fb ρ' σ H Q) ho (ha.go ρ) (fun pins s σ H Q I ⟨ρ',q⟩=>hb ρ' pins s σ H Q I q) hm) fun σ H Q ⟨B,I,q⟩=>by
  refine ⟨B,I, ?_⟩
  unfold YR at q
  revert q
  cases fm ρ with
  | bad=>exact fun q=>q
  | ex c=>exact fun q=>q
  | ok p=>
   obtain ⟨t,ρ'⟩:=p
   intro q v H1 B1 s1 I1 r1
   have q:Wg Y B1 ((fb ρ').bind fun t' =>(g t t').bind fun b=> .ok (b,ρ')) σ Q:=Wg.up s1 q
   refine ⟨ρ',yc I1 q fun t' v' H2 _ s2 r2 I2 q2=> ?_⟩
   cases e:g t t' with
   | bad=>rw [e] at q2; exact q2.elim
   | ex c=>exact absurd e (nx _ _ _)
   | ok b=>
    rw [e] at q2
    exact ⟨t,t',b,(r1.mono I1.sB).mono s2,r2,e,b,rfl,q2 H2 _ (zg.refl _) I2⟩
def tmP (f:En->R Bool):En->R (Bool×En):=fun ρ=>(f ρ).bind fun b=> .ok (b,ρ)
theorem Yv {f:En->R Bool} (h:Jm X Y c f):wa X Y c (tmP f):= .mk fun ρ=>PT.imp (h ρ) fun σ H Q ⟨B,I,q⟩=>yc I q fun t v H1 _ s1 r1 I1 q1=>by
 have r1' :v=t:=r1
 subst r1'
 exact q1 H1 _ (zg.refl _) I1
def ifM (ga:En->R (Bool×En)) (f g:En->RS):En->RS:=fun ρ=>(ga ρ).s fun p=>if p.1=true then f p.2 else g p.2
theorem xz {ga:En->R (Bool×En)} {f g:En->RS} (hc:wa X Y c ga) (h1:Js X Y sts f) (h2:Js X Y sts' g):ZQ X Y (.If c sts sts' pos) (ifM ga f g):= .mk fun ρ=>
 PS.imp (qi (t:=fun D σ H=>∃ ρ',tSS Y f ρ' D σ H) (u:=fun D σ H=>∃ ρ',tSS Y g ρ' D σ H) (hc.go ρ) (fun pins s σ H D I ⟨ρ',q⟩=>h1 ρ' pins s σ H D I q) (fun pins s σ H D I ⟨ρ',q⟩=>h2 ρ' pins s σ H D I q)) fun D σ H ⟨B,I,q⟩=>by
  refine ⟨B,I, ?_⟩
  unfold ifM at q
  revert q
  cases ga ρ with
  | bad=>exact fun q=>q
  | ex c=>exact fun q=>q
  | ok p=>
   obtain ⟨b,ρ'⟩:=p
   intro q H' B' s I'
   cases b with
   | true=>exact ⟨ρ',B',I',PoS.up s q⟩
   | false=>exact ⟨ρ',B',I',PoS.up s q⟩
structure wb (X:Cx) (Y:Fx) (e:Expr) (f:En->R (Bool×En)):Prop where
 mk ::
 go:∀ ρ,PW X e fun σ H Q=>∃ B,SI Y B ρ σ H/\Wg Y B (f ρ) σ Q
theorem wb.t {e:Expr} {f:En->R (Bool×En)} (h:wb X Y e f):wa X Y e f:= .mk fun ρ=>(h.go ρ).pt
theorem QX {f:En->R (Bool×En)} (h:wa X Y a f):wb X Y (.BoolOp .Or [a] pos) f:= .mk fun ρ=>UE (h.go ρ)
def orM (fa fb:En->R (Bool×En)):En->R (Bool×En):=fun ρ=>(fa ρ).bind fun p=>if p.1=true then .ok (true,p.2) else fb p.2
theorem xA {rest:List Expr} {fa fb:En->R (Bool×En)} (ha:wa X Y a fa) (hb:wb X Y (.BoolOp .Or (b :: rest) pos) fb):wb X Y (.BoolOp .Or (a :: b :: rest) pos) (orM fa fb):= .mk fun ρ=>
 PW.imp (qd (ha.go ρ) (fun wh pins s σ H Q I (h:∃ ρ' B,SI Y B ρ' σ H/\Wg Y B (fb ρ') σ Q)=>let ⟨ρ',q⟩:=h; hb.go ρ' wh pins s σ H Q I q)) fun σ H Q ⟨B,I,q⟩=>by
  refine ⟨B,I, ?_⟩
  unfold orM at q
  revert q
  cases fa ρ with
  | bad=>exact fun q=>q
  | ex c=>exact fun q=>q
  | ok p=>
   obtain ⟨x,ρ'⟩:=p
   intro q H' B' s I'
   cases x with
   | true=>exact q H' B' s I'
   | false=>exact ⟨ρ',B',I',Wg.up s q⟩
end
section
variable {X:Cx} {Y:Fx} {a:Expr} {fa:En->R T} {p pos:Pos}
def XY:T->R T
 | .lst xs=> .ok (.lst xs)
 | .tup xs=> .ok (.lst xs)
 | _=> .bad
theorem xB (gl:Gl X "list") (mg:X.mg "list"=none) (ha:Snd X Y a fa) (hs:St1 X a:=by exact st1 rfl):Snd X Y (.Call (.Name "list" p) [a] [] pos) (ap1 XY fa):=
 ww ZO (fun v t B H Q r sB q=>by
  cases r with
  | @lst l xs ts h r=>exact ⟨l,xs,rfl, .inl (SqL.of (sB _ _ h)),fun l' hl' =>YG sB q rfl r hl'⟩
  | @tup l xs ts h r=>exact ⟨l,xs,rfl, .inr (SqT.of (sB _ _ h)),fun l' hl' =>YG sB q rfl r hl'⟩
  | _=>exact q.elim) gl mg (PyProof.Rows.Boot.«list») ha hs
end
theorem SI.st0 {Y:Fx} {B:Hp} {ρ:En} {σ:Sg} {H:Hp} (I:SI Y B ρ σ H) (hY:Y.as=[]) (hno:∀ (i:Nat) (s:Sl),s.isO=true->ρ[i]? ≠ some s) (j:Nat):SI Y B (ρ.set j (.st [])) σ H where
 s0:=I.s0
 sH:=I.sH
 sB:=I.sB
 old:=I.old
 len:=by rw [List.length_set]; exact I.len
 vl:=fun i t h=>by
  rcases zc h with ⟨_,z⟩ | ⟨_,z⟩
  ·cases z
  ·exact I.vl i t z
 ow:=fun i ts h=>by
  rcases zc h with ⟨_,z⟩ | ⟨_,z⟩
  ·cases z
  ·obtain ⟨a,xs,e1,e2,e3,e4,e5,e6⟩:=I.ow i ts z
   refine ⟨a,xs,e1,e2,e3,e4,e5,fun j' us hj hw=> ?_⟩
   rcases zc hw with ⟨_,z⟩ | ⟨_,z⟩
   ·cases z
   ·exact e6 j' us hj z
 xc:=fun i t h=>by
  rcases zc h with ⟨_,z⟩ | ⟨_,z⟩
  ·cases z
  ·exact I.xc i t z
 st:=by
  have one:∀ i os,(ρ.set j (.st []))[i]? =some (Sl.st os)->i=j/\os=[]:=fun i os h=>by
   rcases zc h with ⟨e,z⟩ | ⟨_,z⟩
   ·cases z; exact ⟨e,rfl⟩
   ·exact (hno i _ rfl z).elim
  refine ⟨[],fun _=>none,by rw [hY]; exact List.prefix_refl _,fun i os h=>by rw [(one i os h).2]; rfl,fun i i' os os' h h' =>by rw [(one i os h).1,(one i' os' h').1],fun i k n h=> ?_,fun i k h=> ?_,fun i os h n k fs e=> ?_⟩
  ·rcases zc h with ⟨_,z⟩ | ⟨_,z⟩
   ·cases z
   ·exact (hno i _ rfl z).elim
  ·rcases zc h with ⟨_,z⟩ | ⟨_,z⟩
   ·cases z
   ·exact (hno i _ rfl z).elim
  ·rw [(one i os h).2] at e; simp at e
def enS (n:Nat) (ts:List T):En:=(en0 n ts).set (n - 1) (.st [])
theorem SI.startS {Y:Fx} {N:List Str} {vs:List V} {ts:List T} (s:zg Y.B0 Y.H0) (r:zk Y.B0 vs ts) (hY:Y.as=[]):SI Y Y.B0 (enS N.length ts) (L2.start N vs) Y.H0:=
 (SI.start s r).st0 hY (fun i s hs h=>JU (fun t z=>by rw [z] at hs; cases hs) (fun z=>by rw [z] at hs; cases hs) h) _
section
variable {P:Program} {w:World} {K:PySem.W.Frag} {mg:Str->Option Value} {base:Heap}
theorem Yw {cl:Nat->Value} {x qual q:Str} {st:Stmt} {f c Pt:Addr} {fd:FuncData} {N ps:List Str} {k n:Nat} {fb:En->RS} {g:List T->R T} (F:Fun K x qual st f fd) (hc:fd.code= .ref c) (S:za N ps (z9 st)) (hn:n=ps.length)
  (hb:∀ (A:Around) (outer:List Env) (s:Shared) (H:Hp) (E:XK) (Y:Fx),Y.cl=cl->Y.E=E->Y.H0 Pt=some (.tbl #[] q)->zQ k (A.deeper (envOfC qual (z9 st) s.heap.objs.size f (.ref c)))->
   Js (Zr (CX1 P w) P w K mg base N qual (z9 st) f (.ref c) A outer s H E) Y (zr st) fb)
  (hg:∀ ts,ts.length=n->g ts=zn (fb (enS N.length ts))):zq P w K mg base (CX1 P w) (k+1) f fd ps (YO cl n g Pt q):=by
 subst hn
 obtain ⟨oc,od,kV,doc,pm,an,cdv,ct,osl,rfl,lk,hcd⟩:=F.ex
 obtain rfl:cdv= .ref c:=hc
 refine ym lk hcd S (fun vs H Q E z=>spP.len vs H Q E z.2) fun A outer s H vs Q E hr ⟨hT,B,ts,hl,sB,r,q⟩=> ?_
 refine ⟨_,hb A outer s H E ⟨B,H,E,cl,[]⟩ rfl rfl hT hr (enS N.length ts),B,SI.startS (Y:=⟨B,H,E,cl,[]⟩) sB r rfl, ?_⟩
 rw [hg ts hl] at q
 revert q
 cases fb (enS N.length ts) with
 | rt t=>exact fun q v H' s r=>q v H' s r
 | rf t=>exact fun q a xs H' B' s0 n e r _ l=>q (.ref a) H' s0 (.lst (by rw [zB n]; exact e) (r.mono l))
 | nx ρ=>exact fun q σ' H' B' _ I=>q .non H' I.sH .non
 | ex c=>exact fun q=>q
 | bk ρ=>exact fun q=>q.elim
 | ct ρ=>exact fun q=>q.elim
 | bad=>exact fun q=>q
theorem wc {cl:Nat->Value} {x qual:Str} {st:Stmt} {f:Addr} {fd:FuncData} {N ps:List Str} {k n m kr:Nat} {fb:En->R (T×En)} (F:Fun K x qual st f fd) (S:za N ps (z9 st)) (hn:ps.length=n+1) (hN:N.length=n+1+m)
  (hb:∀ (cdv:Value) (A:Around) (outer:List Env) (s:Shared) (H:Hp) (E:XK) (Y:Fx),Y.cl=cl->Y.E=E->zQ kr (A.deeper (envOfC qual (z9 st) s.heap.objs.size f cdv))->
   ya (Zr (CX1 P w) P w K mg base N qual (z9 st) f cdv A outer s H E) Y (zr st) fb):zq P w K mg base (CX1 P w) (kr+1) f fd ps (spX cl k n fun ts=>UB (fb (enX k m ts))):=by
 refine Fun.okX F S (fun vs H Q E ⟨x,C,dx,us,vs',ts,B,c,e,hl,_,_,_,_,r,_⟩=>by rw [e,List.length_cons,r.length,hl,hn]) fun cdv A outer s H vs Q E hr ⟨x,C,dx,us,vs',ts,B,c,e,hl,hc,hx,hi,sB,r,hg,q⟩=> ?_
 subst e
 refine ⟨_,(hb cdv A outer s H E ⟨B,H,E,cl,[]⟩ rfl rfl hr).go (enX k m ts),B,SI.startX (by rw [hN,hl]) sB hc hx hi r, ?_⟩
 have hg:UB (fb (enX k m ts))= .ex c:=hg
 unfold UB at hg
 split at hg
 ·rename_i c' e'
  cases hg
  rw [e']
  exact fun d H' s1 s2=>q d H' s1 s2
 ·cases hg
end
section
variable {X:Cx} {Y:Fx} {a b:Expr} {cl:Nat->Value} {k i j kk kj nn:Nat} {x m:Str} {px ap p pos p' :Pos} {C f:Addr} {fd:FuncData} {ps:List Str} {es:List Expr} {ga:En->R (List T)} {pl:Sem Bool}
def wM (k i nn:Nat) (g:List T->R T) (ga:En->R (List T)):En->R T:=fun ρ=>match ρ[i]? with
 | some (.oc k')=>if k' =k then (ga ρ).bind fun ts=>if ts.length=nn then (match g ts with | .ex c=> .ex c | _=> .bad) else .bad else .bad
 | _=> .bad
theorem wd {g:List T->R T} (hv:PE X (.Name x px) (j5 i)) (hy:Y.cl=cl) (hc:cl k= .ref C) (c:L2.Cls X.K C) (hm:L2.Meth X.K C m f) (F:zq X.prog X.w X.K X.mg X.base (CX1 X.prog X.w) kj f fd ps (spX cl k nn g)) (hr:zQ kk X.A) (hj:kj<=kk) (bd:L2.Binds X.K fd ps []) (hp:zz (CX1 X.prog X.w) X Y.E) (ha:jp X Y (a :: es) ga) (hna:m ∉ YF:=by decide)
  (hst:starEach (a :: es) X.env=(false,eval a X.env) :: starEach es X.env:=by exact zp rfl) (hpl:((backTo pos (starEach es X.env)).any fun x=>x.fst)=false:=by exact zA rfl)
  (ht:eval (.Call (.Attribute (.Name x px) m ap) (a :: es) [] pos) X.env=(do
   let ov ← eval (.Name x px) X.env
   standAt ap.atName
   let (f,first) ← holding [ov] (getMethod ov m pl)
   callWith pos f first (backTo pos (starEach (a :: es) X.env)) (backToKw pos (keywordEach [] X.env))):=by rfl):
  Snd X Y (.Call (.Attribute (.Name x px) m ap) (a :: es) [] pos) (wM k i nn g ga):= .mk fun ρ=>PE.imp (WI (pl:=pl) hv c hm F (hr.mono hj) bd .nil hp (ha ρ) hst hpl ht) fun σ H Q ⟨B,I,q⟩=>by
 unfold wM at q
 split at q
 ·rename_i k' e
  split at q
  ·rename_i hk
   subst hk
   obtain ⟨as,O,s⟩:=I.st
   obtain ⟨a',C',dx,vs,e1,e2,e3,e4⟩:=s.oc i _ e
   subst hy
   rw [hc] at e2; cases e2
   refine ⟨.ref a',e1,a',dx,vs,rfl,I.sH _ _ e3,e4 m hna, ?_⟩
   refine step I q fun ts us H1 _ s1 r1 I1 q1=> ?_
   split at q1
   ·rename_i hn
    rw [List.append_nil]
    split at q1
    ·rename_i c2 e5
     exact ⟨a',C,dx,vs,us,ts,_,c2,rfl,hn,hc,s1 _ _ (I.sH _ _ e3),e4,I1.sB,r1,e5,fun d H' z1 z2=>q1 d H' (I1.sH.trans z1) z2⟩
    ·exact q1.elim
   ·exact q1.elim
  ·exact q.elim
 ·exact q.elim
def Yx (k i j nn:Nat) (g:List (Str×Fd)->List T->R (T×List (Str×Fd))) (ga:En->R (List T)):En->R (T×En):=fun ρ=>match obD k i j ρ with
 | some (n,fs,os)=>(ga ρ).bind fun ts=>if ts.length=nn then (g fs ts).bind fun p=> .ok (p.1,ρ.set j (.st (os.set n (k,p.2)))) else .bad
 | none=> .bad
theorem QY {g:List (Str×Fd)->List T->R (T×List (Str×Fd))} (hv:PE X (.Name x px) (j5 i)) (hy:Y.cl=cl) (F:zq X.prog X.w X.K X.mg X.base (CX1 X.prog X.w) kj f fd ps (spM cl k nn g)) (hr:zQ kk X.A) (hj:kj<=kk) (gl:Gl X m) (mg:X.mg m=some (.ref f)) (kp:PySem.W.keepIn X.K (.ref f)=true) (bd:L2.Binds X.K fd ps []) (hp:zz (CX1 X.prog X.w) X Y.E) (ha:jp X Y es ga)
  (hd:(m == ("__debug__":Str))=false:=by decide) (hst:starEach (.Name x px :: es) X.env=(false,eval (.Name x px) X.env) :: starEach es X.env:=by exact zp rfl) (hpl:((backTo pos (starEach es X.env)).any fun x=>x.fst)=false:=by exact zA rfl):
  jX X Y (.Call (.Name m p) (.Name x px :: es) [] pos) (Yx k i j nn g ga):= .mk fun ρ=>PE.imp (WH F (hr.mono hj) gl mg kp bd .nil hp (zj hv (ha ρ) hst) hd hst hpl) fun σ H Q ⟨B,I,q⟩=>by
 unfold Yx at q
 split at q
 ·rename_i n fs os e
  obtain ⟨a',C',dx,vs,e1,e2,e3,e4,al⟩:=I.obA e
  subst hy
  refine ⟨.ref a',e1, ?_⟩
  refine QT I q fun ts us H1 _ s1 r1 I1 q1=> ?_
  split at q1
  ·rename_i hn
   rw [List.append_nil]
   obtain ⟨H0,b1,b2,b3,b4,b5⟩:=I1.back e e1
   refine ⟨a',us,ts,_,H0,fs,rfl,hn,b1,b2,b3,r1, ?_⟩
   revert q1
   cases g fs ts with
   | bad=>exact fun q1=>q1
   | ex c2=>exact fun q1 d H' z1 z2=>q1 d H' (b4.trans z1) z2
   | ok p=>
    obtain ⟨t,fs2⟩:=p
    exact fun q1 v H' B' z1 z2 z3 z4 z5 z6=>q1 v H' B' z2 (b5 H' B' fs2 z1 z2 z3 z4 z5) z6
  ·exact q1.elim
 ·exact q.elim
theorem wN {f:En->R (T×En)} {k:T×En->R (T×En)} {ρ:En} {B:Hp} {σ:Sg} {H:Hp} {Q:VK} {K:V->Hp->Prop} (I:SI Y B ρ σ H) (h:PoM Y B ((f ρ).bind k) σ Q)
  (n:∀ t ρ' v H1 B1,f ρ= .ok (t,ρ')->zg B B1->Rep B1 v t->SI Y B1 ρ' σ H1->PoM Y B1 (k (t,ρ')) σ Q->K v H1):∃ B,SI Y B ρ σ H/\PoM Y B (f ρ) σ K:=by
 refine ⟨B,I, ?_⟩
 cases e:f ρ with
 | bad=>rw [e] at h; exact h
 | ex c=>rw [e] at h; exact h
 | ok p=>
  obtain ⟨t,ρ'⟩:=p
  rw [e] at h
  exact fun v H1 B1 s I1 r=>n t ρ' v H1 B1 e s r I1 (PoM.up s h)
theorem gO {g:R T} {ρ:En} {B H:Hp} {σ:Sg} {Q:VK} (I:SI Y B ρ σ H) (q:PoM Y B (g.bind fun t=> .ok (t,ρ)) σ Q):Po Y rC B H g Q:=by
 cases g with
 | bad=>exact q
 | ex c=>exact q
 | ok t=>exact fun v H' s r=>q v H' _ (zo.ge I.sB s) (I.grow s) r
def gP (g:T->T->R T) (fa fb:En->R (T×En)):En->R (T×En):=fun ρ=>(fa ρ).bind fun x=>(fb x.2).bind fun y=>(g x.1 y.1).bind fun t=> .ok (t,y.2)
theorem m_bin {op:Operator} {g:T->T->R T} {fa fb:En->R (T×En)} (ho:OpR X (binaryOp op) (rG Y g)) (ha:jX X Y a fa) (hb:jX X Y b fb):jX X Y (.BinOp a op b pos) (gP g fa fb):= .mk fun ρ=>
 PE.imp (qm (tb:=fun σ H Q=>∃ ρ' B,SI Y B ρ' σ H/\PoM Y B (fb ρ') σ Q) ho (ha.go ρ) (fun pins s σ H Q I ⟨ρ',q⟩=>hb.go ρ' pins s σ H Q I q)) fun σ H Q ⟨B,I,q⟩=>wN I q fun t ρ1 v H1 B1 _ s1 r1 I1 q1=>⟨ρ1,wN I1 q1 fun t' ρ2 v' H2 B2 _ s2 r2 I2 q2=>
  ⟨_,t,t',I2.sB,r1.mono s2,r2,gO I2 q2⟩⟩
def cmM (g:T->T->R Bool) (fa fb:En->R (T×En)):En->R (T×En):=fun ρ=>(fa ρ).bind fun x=>(fb x.2).bind fun y=>(g x.1 y.1).bind fun b=> .ok (.bl b,y.2)
theorem xC {op:CmpOp} {g:T->T->R Bool} {fa fb:En->R (T×En)} (nx:Nx g) (ho:OpR X (compareOp op) (jT g)) (ha:jX X Y a fa) (hb:jX X Y b fb) (hm:behindInMarks op b=false):jX X Y (.Compare a [op] [b] pos) (cmM g fa fb):= .mk fun ρ=>
 PE.imp (Wz (tb:=fun σ H Q=>∃ ρ' B,SI Y B ρ' σ H/\PoM Y B (fb ρ') σ Q) ho (ha.go ρ) (fun pins s σ H Q I ⟨ρ',q⟩=>hb.go ρ' pins s σ H Q I q) hm) fun σ H Q ⟨B,I,q⟩=>wN I q fun t ρ1 v H1 B1 _ s1 r1 I1 q1=>⟨ρ1,wN I1 q1 fun t' ρ2 v' H2 B2 _ s2 r2 I2 q2=>by
  dsimp only at q2
  cases e:g t t' with
  | bad=>rw [e] at q2; exact q2.elim
  | ex c=>exact absurd e (nx _ _ _)
  | ok b=>
   rw [e] at q2
   exact ⟨t,t',b,(r1.mono s2).mono I2.sB,r2.mono I2.sB,e,q2 _ H2 B2 (zg.refl _) I2 (.bl b)⟩⟩
def mkX (nn:Nat) (g:List (Str×Fd)->List T->R (T×List (Str×Fd))) (ga:En->R (List T)):En->R T:=fun ρ=>(ga ρ).bind fun ts=>if ts.length=nn then (match g [] ts with
 | .ex c=> .ex c
 | _=> .bad) else .bad
theorem xD {g:List (Str×Fd)->List T->R (T×List (Str×Fd))} {c:Str} (hy:Y.cl=cl) (hc:cl k= .ref C) (M:L2.Mk X.K C f) (F:zq X.prog X.w X.K X.mg X.base (CX1 X.prog X.w) kj f fd ps (spM cl k nn g)) (hr:zQ kk X.A) (hj:kj+1<=kk) (gl:Gl X c) (mg:X.mg c=some (.ref C)) (bd:L2.Binds X.K fd ps []) (hp:zz (CX1 X.prog X.w) X Y.E) (ha:jp X Y (a :: es) ga)
  (hd:(c == ("__debug__":Str))=false:=by decide) (hst:starEach (a :: es) X.env=(false,eval a X.env) :: starEach es X.env:=by exact zp rfl) (hpl:((backTo pos (starEach es X.env)).any fun x=>x.fst)=false:=by exact zA rfl):Snd X Y (.Call (.Name c p) (a :: es) [] pos) (mkX nn g ga):= .mk fun ρ=>
 PE.imp (WJ M F (hr.mono hj) gl mg bd .nil hp (ha ρ) hd hst hpl) fun σ H Q ⟨B,I,q⟩=>step I q fun ts vs H1 _ s1 r1 I1 q1=>by
  subst hy
  split at q1
  ·rename_i hn
   intro y dx h1 h2 h3
   rw [List.append_nil]
   split at q1
   ·rename_i c2 eg
    have sd:zg H1 (upd H1 dx (.own y)):=zg.new h2 _
    have hy0:upd H1 dx (.own y) y=none:=by rw [zd (Ne.symm h3)]; exact h1
    refine ⟨y,vs,ts,_,upd H1 dx (.own y),[],rfl,hn,I1.sB.trans sd,zg.new hy0 _,⟨C,dx,[],fun _=>some 0,hc,zi,I1.sB.free h1,hy0,rfl,⟨rfl,fun _ _=>rfl⟩,fun m f d z=>by cases z⟩,r1, ?_⟩
    rw [eg]
    exact fun d H' z1 z2=>q1 d H' ((I1.sH.trans sd).trans z1) z2
   ·exact q1.elim
  ·exact q1.elim
def QZ (f:En->R (T×En)):En->RS:=fun ρ=>(f ρ).s fun p=> .rt p.1
theorem v5 {f:En->R (T×En)} (h:jX X Y a f):ZQ X Y (.Return (some a) pos) (QZ f):= .mk fun ρ=>PS.imp (jw (h.go ρ)) fun D σ H ⟨B,I,q⟩=>⟨B,I,by
 unfold QZ at q
 revert q
 cases f ρ with
 | bad=>exact fun q=>q
 | ex c=>exact fun q=>q
 | ok p=>
  obtain ⟨t,ρ'⟩:=p
  intro q v H' B' s I' r
  exact q v H' I'.sH (r.mono (by have:=UM I'.sH I'.old (zg.refl H') I'.sB; rw [zo.self _ _ I'.sB] at this; exact this))⟩
end
end PV
namespace G
open PySem PySem.Spec PyProof.Rows L2 PV
def okX (c:Nat):Bool:=[0,1,2,3,4,5,6].contains c
def ZI (c:Nat):Bool:=c == 0
def Zp (c:Nat):Bool:=c == 1
def ZJ (c:Nat):Bool:=c == 2
def Zq (c:Nat):Bool:=c == 3
def jh (c:Nat):Bool:=c == 4
def ZK (c:Nat):Bool:=c == 5
def ZL (c:Nat):Bool:=c == 6
def Z1 (_:Nat):Bool:=true
def b_a:En->RS:=
  zu (jU (ap1 (uN "int") (vB 0)) (vJ (ap1 (uN "bool") (vB 0))))
def f_a:List T->R T:=fun ts=>zn (b_a  (en0 1 ts))
def XZ (c_a:List T->R T):En->RS:=
  zu (jU (zf 1 c_a (z0 (vE 0) (zb))) (jU (zf 1 c_a (z0 (vE 1) (zb))) (XM leC leC leC (vB 2) (vB 0) (vB 1) (vB 3))))
def k6:List T->R T:=fun ts=>zn (XZ (f_a) (en0 4 ts))
def Zx:List T->R T:=fun _=> .bad
def k7:En->RS:=
  zu (jU (ap1 (uN "tuple") (vB 0)) (chE leC leC (vB 1) (ap1 Zj (vB 0)) (vB 2)))
def k8:List T->R T:=fun ts=>zn (k7  (en0 3 ts))
def b_7 (c_19:List T->R T) (c_7:List T->R T) (c_are_choices:List T->R T) (c_13:List T->R T):En->RS:=
  zm (ifS (orT (zE eqC (vB 1) (cE (.int 0))) (orT (wu (jB (ap1 (uN "tuple") (vB 0)))) (zE eqC (ap1 Zj (vB 0)) (cE (.int 0))))) (zu (cE (.bl false))) (nxS))
  (zm (ifS (zE eqC (zh ixT (vE 0) (cE (.int 0))) (cE (.str "whole"))) (zu (jU (Jp eqC (ap1 Zj (vB 0)) (cE (.int 3))) (zf 4 c_19 (z0 (zh ixT (vE 0) (cE (.int 1))) (z0 (zh ixT (vE 0) (cE (.int 2))) (z0 (Wj (cE (.int 20))) (z0 (cE (.int 20)) (zb)))))))) (nxS))
  (zm (ifS (zE eqC (zh ixT (vE 0) (cE (.int 0))) (cE (.str "pick"))) (zu (jU (Jp eqC (ap1 Zj (vB 0)) (cE (.int 2))) (zf 1 c_are_choices (z0 (zh ixT (vE 0) (cE (.int 1))) (zb))))) (nxS))
  (zm (ifS (zE eqC (zh ixT (vE 0) (cE (.int 0))) (cE (.str "row"))) (zu (jU (Jp eqC (ap1 Zj (vB 0)) (cE (.int 2))) (zf 2 c_13 (z0 (zh ixT (vE 0) (cE (.int 1))) (z0 (zh Wi (vE 1) (cE (.int 1))) (zb)))))) (nxS))
  (zm (ifS (zE eqC (zh ixT (vE 0) (cE (.int 0))) (cE (.str "many"))) (zu (jU (Jp eqC (ap1 Zj (vB 0)) (cE (.int 4))) (jU (zf 4 c_19 (z0 (zh ixT (vE 0) (cE (.int 2))) (z0 (zh ixT (vE 0) (cE (.int 3))) (z0 (cE (.int 0)) (z0 (cE (.int 3)) (zb)))))) (zf 2 c_7 (z0 (zh ixT (vE 0) (cE (.int 1))) (z0 (zh Wi (vE 1) (cE (.int 1))) (zb))))))) (nxS))
  (zu (cE (.bl false)))))))
def k9 (c_1e:List T->R T) (c_7:List T->R T):En->RS:=
  zu (jU (zf 3 c_1e (z0 (vE 0) (z0 (cE (.int 1)) (z0 (cE (.int 3)) (zb))))) (ap1 vL (Zh (JX (vE 0)) (jC 0) (wA) (zf 2 c_7 (z0 (vE 0) (z0 (vE 1) (zb)))) 1 [1])))
def S_7:Nat->Nat->List T->R T
 | 0,_=>fun _=> .bad
 | n+1,0=>fun ts=>zn (b_7 (k6) (S_7 n 0) (Zx) (S_7 n 1) (en0 2 ts))
 | n+1,_=>fun ts=>zn (k9 (k8) (S_7 n 0) (en0 2 ts))
abbrev f_7 (n:Nat):List T->R T:=S_7 n 0
abbrev gR (n:Nat):List T->R T:=S_7 n 1
def b_1 (c_7:List T->R T):En->RS:=
  zu (zf 2 c_7 (z0 (vE 0) (z0 (cE (.int 3)) (zb))))
def f_1:List T->R T:=fun ts=>zn (b_1 (f_7 20) (en0 1 ts))
def b_o (c_1:List T->R T):En->RS:=
  ifS (wu (jB (zf 1 c_1 (z0 (vE 0) (zb))))) (zW 0) (nxS)
def f_o:List T->R T:=fun ts=>zn (b_o (f_1) (en0 1 ts))
def Z8:List T->R T:=fun _=> .bad
def b_2 (c_1j:List T->R T) (c_count_shorter:List T->R T):En->RS:=
  zm (ifS (zE eqC (zh ixT (vE 0) (cE (.int 0))) (cE (.str "whole"))) (zu (zh zU (zh Wi (zh ixT (vE 0) (cE (.int 2))) (zh ixT (vE 0) (cE (.int 1)))) (cE (.int 1)))) (nxS))
  (zm (ifS (zE eqC (zh ixT (vE 0) (cE (.int 0))) (cE (.str "pick"))) (zu (ap1 Zj (zh ixT (vE 0) (cE (.int 1))))) (nxS))
  (zm (ifS (zE eqC (zh ixT (vE 0) (cE (.int 0))) (cE (.str "row"))) (zu (zf 1 c_1j (z0 (zh ixT (vE 0) (cE (.int 1))) (zb)))) (nxS))
  (zu (zf 2 c_count_shorter (z0 (vE 0) (z0 (zh zU (zh ixT (vE 0) (cE (.int 3))) (cE (.int 1))) (zb)))))))
def ka (c_2:List T->R T):En->RS:=
  zm (Zk 1 (cE (.int 1)))
  (zm (yU (JX (vE 0)) (jC 2) (Zk 1 (zh ZB (vE 1) (zf 1 c_2 (z0 (vE 2) (zb))))))
  (zu (vE 1)))
def S_2:Nat->Nat->List T->R T
 | 0,_=>fun _=> .bad
 | n+1,0=>fun ts=>zn (b_2 (S_2 n 1) (Z8) (en0 1 ts))
 | n+1,_=>fun ts=>zn (ka (S_2 n 0) (en0 3 ts))
abbrev f_2 (n:Nat):List T->R T:=S_2 n 0
abbrev gS (n:Nat):List T->R T:=S_2 n 1
def Z9:List T->R T:=fun _=> .bad
def JF:List T->R T:=fun _=> .bad
def b_d (c_words_of_pick:List T->R T) (c_many_at:List T->R T) (c_1k:List T->R T):En->RS:=
  zm (ifS (zE eqC (zh ixT (vE 0) (cE (.int 0))) (cE (.str "whole"))) (zu (zh zU (zh ixT (vE 0) (cE (.int 1))) (vE 1))) (nxS))
  (zm (ifS (zE eqC (zh ixT (vE 0) (cE (.int 0))) (cE (.str "pick"))) (zu (zh ixT (zf 1 c_words_of_pick (z0 (vE 0) (zb))) (vE 1))) (nxS))
  (zm (ifS (zE eqC (zh ixT (vE 0) (cE (.int 0))) (cE (.str "row"))) (zu (zf 2 c_1k (z0 (zh ixT (vE 0) (cE (.int 1))) (z0 (vE 1) (zb))))) (nxS))
  (zu (zf 2 c_many_at (z0 (vE 0) (z0 (vE 1) (zb)))))))
def kb (c_2:List T->R T) (c_d:List T->R T):En->RS:=
  zm (u7 2 (zb))
  (zm (Zk 3 (vE 1))
  (zm (yU (XR (vE 0)) (jC 4) (zm (Zk 5 (zf 1 c_2 (z0 (vE 4) (zb))))
  (zm (uO 2 (zf 2 c_d (z0 (vE 4) (z0 (zh jq (vE 3) (vE 5)) (zb)))))
  (Zk 3 (zh JS (vE 3) (vE 5))))))
  (zu (ap1 Qs (vE 2)))))
def S_d:Nat->Nat->List T->R T
 | 0,_=>fun _=> .bad
 | n+1,0=>fun ts=>zn (b_d (Z9) (JF) (S_d n 1) (en0 2 ts))
 | n+1,_=>fun ts=>zn (kb (f_2 20) (S_d n 0) (en0 6 ts))
abbrev f_d (n:Nat):List T->R T:=S_d n 0
abbrev gT (n:Nat):List T->R T:=S_d n 1
def b_y (c_o:List T->R T) (c_2:List T->R T) (c_d:List T->R T):En->RS:=
  zm (Jt (zf 1 c_o (z0 (vE 0) (zb))))
  (zm (Zk 1 (zf 1 c_2 (z0 (vE 0) (zb))))
  (zm (ifS (zE gtC (vB 1) (cE (.int 500))) (zW 3) (nxS))
  (zu (Zh (Ub (vE 1)) (jC 0) (wA) (zf 2 c_d (z0 (vE 1) (z0 (vE 0) (zb)))) 1 [0]))))
def f_y:List T->R T:=fun ts=>zn (b_y (f_o) (f_2 20) (f_d 20) (en0 2 ts))
def b_i (c_y:List T->R T):En->R (T×En):=
  Z0 (stF 101 0 2 "kind" (vE 1))
  (Z0 (QR 101 0 2 "remaining" (z0 (zf 1 c_y (z0 (vE 1) (zb))) (zb)))
  (Z0 (QR 101 0 2 "done" (zb))
  (Z0 (QR 101 0 2 "undone" (zb))
  (xn))))
def f_i:List (Str×Fd)->List T->R (T×List (Str×Fd)):=fun fs ts=>jY 101 2 (b_i (f_y) (enM 101 2 fs ts))
def kd (c_a:List T->R T):En->RS:=
  zu (jU (zf 1 c_a (z0 (vE 0) (zb))) (chE leC leC (Wj (cE (.int 50))) (vB 0) (cE (.int 50))))
def ke:List T->R T:=fun ts=>zn (kd (f_a) (en0 1 ts))
def kf:En->RS:=
  zm (ifS (orT (wu (jB (ap1 (uN "str") (vB 0)))) (wu (chT leC leC (cE (.int 1)) (ap1 Zj (vB 0)) (cE (.int 3))))) (zu (cE (.bl false))) (nxS))
  (zu (ap1 vL (Zh (JX (vE 0)) (jC 0) (wA) (chE leC leC (cE (.str "a")) (vB 0) (cE (.str "z"))) 1 [])))
def kg:List T->R T:=fun ts=>zn (kf  (en0 1 ts))
def b_j (c_11:List T->R T) (c_j:List T->R T) (c_17:List T->R T):En->RS:=
  zm (ifS (orT (zE eqC (vB 1) (cE (.int 0))) (orT (wu (jB (ap1 (uN "tuple") (vB 0)))) (zE eqC (ap1 Zj (vB 0)) (cE (.int 0))))) (zu (cE (.bl false))) (nxS))
  (zm (ifS (orT (zE eqC (zh ixT (vE 0) (cE (.int 0))) (cE (.str "sum"))) (zE eqC (zh ixT (vE 0) (cE (.int 0))) (cE (.str "size")))) (zu (jU (Jp eqC (ap1 Zj (vB 0)) (cE (.int 3))) (jU (zf 1 c_17 (z0 (zh ixT (vE 0) (cE (.int 1))) (zb))) (zf 1 c_17 (z0 (zh ixT (vE 0) (cE (.int 2))) (zb)))))) (nxS))
  (zm (ifS (zE eqC (zh ixT (vE 0) (cE (.int 0))) (cE (.str "word"))) (zu (jU (Jp eqC (ap1 Zj (vB 0)) (cE (.int 2))) (zf 1 c_11 (z0 (zh ixT (vE 0) (cE (.int 1))) (zb))))) (nxS))
  (zm (ifS (orT (zE eqC (zh ixT (vE 0) (cE (.int 0))) (cE (.str "rising"))) (zE eqC (zh ixT (vE 0) (cE (.int 0))) (cE (.str "unlike")))) (zu (Jp eqC (ap1 Zj (vB 0)) (cE (.int 1)))) (nxS))
  (zm (ifS (zE eqC (zh ixT (vE 0) (cE (.int 0))) (cE (.str "no"))) (zu (jU (Jp eqC (ap1 Zj (vB 0)) (cE (.int 2))) (zf 2 c_j (z0 (zh ixT (vE 0) (cE (.int 1))) (z0 (zh Wi (vE 1) (cE (.int 1))) (zb)))))) (nxS))
  (zm (ifS (orT (zE eqC (zh ixT (vE 0) (cE (.int 0))) (cE (.str "all"))) (zE eqC (zh ixT (vE 0) (cE (.int 0))) (cE (.str "some")))) (zu (jU (Jp eqC (ap1 Zj (vB 0)) (cE (.int 3))) (jU (zf 2 c_j (z0 (zh ixT (vE 0) (cE (.int 1))) (z0 (zh Wi (vE 1) (cE (.int 1))) (zb)))) (zf 2 c_j (z0 (zh ixT (vE 0) (cE (.int 2))) (z0 (zh Wi (vE 1) (cE (.int 1))) (zb))))))) (nxS))
  (zu (cE (.bl false))))))))
def S_j:Nat->Nat->List T->R T
 | 0,_=>fun _=> .bad
 | n+1,_=>fun ts=>zn (b_j (kg) (S_j n 0) (ke) (en0 2 ts))
abbrev f_j (n:Nat):List T->R T:=S_j n 0
def b_3 (c_j:List T->R T):En->RS:=
  zu (zf 2 c_j (z0 (vE 0) (z0 (cE (.int 3)) (zb))))
def f_3:List T->R T:=fun ts=>zn (b_3 (f_j 8) (en0 1 ts))
def b_h (c_3:List T->R T):En->RS:=
  ifS (wu (jB (zf 1 c_3 (z0 (vE 0) (zb))))) (zW 2) (nxS)
def f_h:List T->R T:=fun ts=>zn (b_h (f_3) (en0 1 ts))
def b_g:En->R T:=
  ap1 Zj (ixF 101 0 1 "remaining" (Wj (cE (.int 1))))
def f_g:List (Str×Fd)->List T->R T:=fun fs ts=>b_g  (enM 101 1 fs ts)
def b_8 (c_8:List T->R T):En->RS:=
  zm (ifS (wu (jB (ap1 (uN "tuple") (vB 0)))) (zu (Jn (z0 (vE 0) (zb)))) (nxS))
  (zm (u7 1 (zb))
  (zm (yU (JX (vE 0)) (jC 2) (qZ 1 (zf 1 c_8 (z0 (vE 2) (zb)))))
  (zu (vE 1))))
def S_8:Nat->Nat->List T->R T
 | 0,_=>fun _=> .bad
 | n+1,_=>fun ts=>zn (b_8 (S_8 n 0) (en0 3 ts))
abbrev f_8 (n:Nat):List T->R T:=S_8 n 0
def b_w (c_a:List T->R T) (c_8:List T->R T):En->RS:=
  zu (Zh (JX (zf 1 c_8 (z0 (vE 0) (zb)))) (jC 0) (jB (zf 1 c_a (z0 (vE 0) (zb)))) (vE 0) 1 [])
def f_w:List T->R T:=fun ts=>zn (b_w (f_a) (f_8 8) (en0 1 ts))
def kh:En->RS:=
  zu (ifE (jB (ap1 (uN "tuple") (vB 0))) (vE 0) (zD (z0 (vE 0) (zb))))
def ki:List T->R T:=fun ts=>zn (kh  (en0 1 ts))
def b_z:En->RS:=
  zu (ap1 vL (Zh (XO (vE 0) (slE (vE 0) (jd (cE (.int 1))) (noO))) (ju 0 1) (wA) (Jp leC (vB 0) (vB 1)) 2 []))
def f_z:List T->R T:=fun ts=>zn (b_z  (en0 1 ts))
def km:En->RS:=
  zu (vJ (ap1 XS (Zh (UV (vE 0)) (ju 0 1) (wA) (Jp inC (vB 1) (slE (vE 2) (noO) (jd (vE 0)))) 2 [0])))
def kn:List T->R T:=fun ts=>zn (km  (en0 1 ts))
def ko (c_18:List T->R T) (c_8:List T->R T) (c_w:List T->R T) (c_z:List T->R T) (c_10:List T->R T):En->RS:=
  zm (ifS (zE eqC (zh ixT (vE 0) (cE (.int 0))) (cE (.str "sum"))) (zu (chE leC leC (zh ixT (vE 0) (cE (.int 1))) (ap1 XQ (zf 1 c_w (z0 (vE 1) (zb)))) (zh ixT (vE 0) (cE (.int 2))))) (nxS))
  (zm (ifS (zE eqC (zh ixT (vE 0) (cE (.int 0))) (cE (.str "size"))) (zu (chE leC leC (zh ixT (vE 0) (cE (.int 1))) (ap1 Zj (zf 1 c_18 (z0 (vE 1) (zb)))) (zh ixT (vE 0) (cE (.int 2))))) (nxS))
  (zm (ifS (zE eqC (zh ixT (vE 0) (cE (.int 0))) (cE (.str "word"))) (zu (Jp inC (zh ixT (vE 0) (cE (.int 1))) (zf 1 c_8 (z0 (vE 1) (zb))))) (nxS))
  (zm (ifS (zE eqC (zh ixT (vE 0) (cE (.int 0))) (cE (.str "rising"))) (zu (zf 1 c_z (z0 (zf 1 c_w (z0 (vE 1) (zb))) (zb)))) (nxS))
  (zu (zf 1 c_10 (z0 (zf 1 c_18 (z0 (vE 1) (zb))) (zb)))))))
def kq:List T->R T:=fun ts=>zn (ko (ki) (f_8 8) (f_w) (f_z) (kn) (en0 2 ts))
def b_e (c_e:List T->R T) (c_1b:List T->R T):En->RS:=
  zm (ifS (zE eqC (zh ixT (vE 0) (cE (.int 0))) (cE (.str "no"))) (zu (vJ (zf 2 c_e (z0 (zh ixT (vE 0) (cE (.int 1))) (z0 (vE 1) (zb)))))) (nxS))
  (zm (ifS (zE eqC (zh ixT (vE 0) (cE (.int 0))) (cE (.str "all"))) (zu (jU (zf 2 c_e (z0 (zh ixT (vE 0) (cE (.int 1))) (z0 (vE 1) (zb)))) (zf 2 c_e (z0 (zh ixT (vE 0) (cE (.int 2))) (z0 (vE 1) (zb)))))) (nxS))
  (zm (ifS (zE eqC (zh ixT (vE 0) (cE (.int 0))) (cE (.str "some"))) (zu (orE (zf 2 c_e (z0 (zh ixT (vE 0) (cE (.int 1))) (z0 (vE 1) (zb)))) (zf 2 c_e (z0 (zh ixT (vE 0) (cE (.int 2))) (z0 (vE 1) (zb)))))) (nxS))
  (zu (zf 2 c_1b (z0 (vE 0) (z0 (vE 1) (zb)))))))
def S_e:Nat->Nat->List T->R T
 | 0,_=>fun _=> .bad
 | n+1,_=>fun ts=>zn (b_e (S_e n 0) (kq) (en0 2 ts))
abbrev f_e (n:Nat):List T->R T:=S_e n 0
def ku (c_e:List T->R T):En->RS:=
  zm (Zk 2 (Jp eqC (zh ixT (vE 0) (cE (.int 0))) (cE (.str "keep"))))
  (zu (Zh (JX (vE 1)) (jC 0) (zE eqC (zf 2 c_e (z0 (zh ixT (vE 1) (cE (.int 1))) (z0 (vE 0) (zb)))) (vB 2)) (vE 0) 1 [0,2]))
def kv:List T->R T:=fun ts=>zn (ku (f_e 8) (en0 3 ts))
def b_l (c_12:List T->R T):En->R (T×En):=
  Z0 (QS 101 0 2 "remaining" (zf 2 c_12 (z0 (vE 1) (z0 (ixF 101 0 2 "remaining" (Wj (cE (.int 1)))) (zb)))))
  (Z0 (QS 101 0 2 "done" (vE 1))
  (xn))
def f_l:List (Str×Fd)->List T->R (T×List (Str×Fd)):=fun fs ts=>jY 101 2 (b_l (kv) (enM 101 2 fs ts))
def b_4 (c_h:List T->R T) (c_g:List (Str×Fd)->List T->R T) (c_l:List (Str×Fd)->List T->R (T×List (Str×Fd))):En->R (T×En):=
  Z0 (Jt (zf 1 c_h (z0 (vE 2) (zb))))
  (Z0 (Zk 3 (ZF 101 0 4 "left" 0 c_g zb))
  (Z0 (drM (jJ 101 0 4 "do_step" 1 c_l (z0 (zD (z0 (vE 1) (z0 (vE 2) (zb)))) (zb))))
  (Z0 (QR 101 0 4 "undone" (zb))
  (uQ (zh Wi (vE 3) (ZF 101 0 4 "left" 0 c_g zb))))))
def f_4:List (Str×Fd)->List T->R (T×List (Str×Fd)):=fun fs ts=>jY 101 4 (b_4 (f_h) (f_g) (f_l) (enM 101 4 fs ts))
def b_5 (c_4:List (Str×Fd)->List T->R (T×List (Str×Fd))):En->R (T×En):=
  jJ 101 0 2 "new_step" 2 c_4 (z0 (cE (.str "keep")) (z0 (vE 1) (zb)))
def f_5:List (Str×Fd)->List T->R (T×List (Str×Fd)):=fun fs ts=>jY 101 2 (b_5 (f_4) (enM 101 2 fs ts))
def b_6 (c_4:List (Str×Fd)->List T->R (T×List (Str×Fd))):En->R (T×En):=
  jJ 101 0 2 "new_step" 2 c_4 (z0 (cE (.str "bar")) (z0 (vE 1) (zb)))
def f_6:List (Str×Fd)->List T->R (T×List (Str×Fd)):=fun fs ts=>jY 101 2 (b_6 (f_4) (enM 101 2 fs ts))
def b_r:En->R (T×En):=
  Z0 (ifS (zE eqC (ap1 Zj (YQ 101 0 2 "done")) (cE (.int 0))) (zW 6) (nxS))
  (Z0 (seM 1 (QU 101 0 2 "done"))
  (Z0 (drM (QU 101 0 2 "remaining"))
  (Z0 (QS 101 0 2 "undone" (vE 1))
  (uQ (zh ixT (vE 1) (cE (.int 0)))))))
def f_r:List (Str×Fd)->List T->R (T×List (Str×Fd)):=fun fs ts=>jY 101 2 (b_r  (enM 101 2 fs ts))
def b_k:En->R T:=
  ap1 XY (ixF 101 0 1 "remaining" (Wj (cE (.int 1))))
def f_k:List (Str×Fd)->List T->R T:=fun fs ts=>b_k  (enM 101 1 fs ts)
def b_m:En->R T:=
  zD (z0 (ap1 Zj (YQ 101 0 1 "done")) (z0 (ap1 Zj (YQ 101 0 1 "undone")) (zb)))
def f_m:List (Str×Fd)->List T->R T:=fun fs ts=>b_m  (enM 101 1 fs ts)
def b_x:En->RS:=
  zm (ifS (zE ltC (vB 1) (ap1 Zj (vB 0))) (zu (zh ixT (vE 0) (vE 1))) (nxS))
  (zm (ifS (zE eqC (vB 0) (Jn (zb))) (zu (cE (.int 0))) (nxS))
  (zu (zh zU (zh ZB (zh ixT (vE 0) (zh jq (vE 1) (ap1 Zj (vB 0)))) (cE (.int 31))) (vE 1))))
def f_x:List T->R T:=fun ts=>zn (b_x  (en0 2 ts))
def b_s (c_x:List T->R T):En->RS:=
  zm (Zk 3 (zh jq (zh ZB (zh zU (zf 2 c_x (z0 (vE 0) (z0 (vE 1) (zb)))) (zh ZB (cE (.int 6151)) (zh zU (vE 1) (cE (.int 1))))) (cE (.int 40692))) (cE (.int 2147483399))))
  (zu (zh jq (zh jq (zh zU (zh ZB (vE 3) (vE 3)) (zh JS (vE 3) (cE (.int 31)))) (cE (.int 2147483629))) (vE 2)))
def f_s:List T->R T:=fun ts=>zn (b_s (f_x) (en0 4 ts))
def b_f:En->RS:=
  zm (Zk 1 (Jn (z0 (ZY 0 okX jh) (z0 (ZY 0 okX ZL) (z0 (ZY 0 okX ZI) (z0 (ZY 0 okX ZJ) (zb)))))))
  (zm (Zk 1 (zh zU (vE 1) (Jn (z0 (ZY 0 okX ZK) (z0 (ZY 0 okX Zp) (z0 (ZY 0 okX Zq) (zb)))))))
  (zm (ifS (orT (zE neC (vQ VV (vB 1) (cE (.bl true))) (cE (.int 1))) (wu (jB (ZY 0 okX Z1)))) (zu (cE (.str "wrong"))) (nxS))
  (zu (zh ixT (Jn (z0 (cE (.str "ended")) (z0 (cE (.str "no back")) (z0 (cE (.str "no kind")) (z0 (cE (.str "no rule")) (z0 (cE (.str "no text")) (z0 (cE (.str "no worth")) (z0 (cE (.str "too many")) (zb))))))))) (vQ VW (vB 1) (cE (.bl true)))))))
def f_f:Nat->R T:=fun c=>zn (b_f  (enC 2 c))
def kx (c_h:List T->R T):En->R (T×En):=
  Z0 (Jt (zf 1 c_h (z0 (vE 2) (zb)))) XX
def xE:List T->R T:=fun ts=>UB (kx (f_h) (enX 101 2 ts))
def ky (c_1l:List T->R T):En->R (T×En):=
  uQ (wM 101 0 2 c_1l (z0 (cE (.str "keep")) (z0 (vE 1) (zb))))
def YS:List T->R T:=fun ts=>UB (ky (xE) (enX 101 1 ts))
def kz (c_1l:List T->R T):En->R (T×En):=
  uQ (wM 101 0 2 c_1l (z0 (cE (.str "bar")) (z0 (vE 1) (zb))))
def YT:List T->R T:=fun ts=>UB (kz (xE) (enX 101 1 ts))
def b_p:En->RS:=
  ifS (wu (jB (ap1 (uN "str") (vB 0)))) (zW 5) (nxS)
def f_p:List T->R T:=fun ts=>zn (b_p  (en0 1 ts))
def kA (c_p:List T->R T):En->RS:=
  zm (Jt (zf 1 c_p (z0 (vE 0) (zb))))
  (zm (ifS (wu (jB (smE x6 (vE 0) (cE (.str "\n"))))) (zW 5) (nxS))
  (zu (smE x8 (YM (vE 0) (noO) (jd (Wj (cE (.int 1))))) (cE (.str "\n")))))
def kB:List T->R T:=fun ts=>zn (kA (f_p) (en0 1 ts))
def ji:List T->R T:=fun _=> .bad
def kC:En->RS:=
  zm (ifS (orT (wu (jB (smE Qw (vE 0) (vE 1)))) (wu (jB (smE x6 (vE 0) (vE 2))))) (zW 5) (nxS))
  (zu (YM (vE 0) (jd (ap1 Zj (vB 1))) (jd (Wj (ap1 Zj (vB 2))))))
def kD:List T->R T:=fun ts=>zn (kC  (en0 3 ts))
def kF:En->RS:=
  zm (u7 2 (zb))
  (zm (Zk 3 (cE (.int 0)))
  (zm (Zk 4 (cE (.int 0)))
  (zm (yU (UY (vE 0)) (ju 5 6) (zm (ifS (zE YL (vB 6) (cE (.str "([{"))) (Zk 4 (zh zU (vE 4) (cE (.int 1)))) (nxS))
  (zm (ifS (zE YL (vB 6) (cE (.str ")]}"))) (Zk 4 (zh Wi (vE 4) (cE (.int 1)))) (nxS))
  (ifS (XN (zE eqC (vB 4) (cE (.int 0))) (jB (Qx (vE 0) (vE 1) (vE 5)))) (zm (uO 2 (YM (vE 0) (jd (vE 3)) (jd (vE 5))))
  (Zk 3 (zh zU (vE 5) (ap1 Zj (vB 1))))) (nxS)))))
  (zm (uO 2 (YM (vE 0) (jd (vE 3)) (noO)))
  (zu (vE 2))))))
def kG:List T->R T:=fun ts=>zn (kF  (en0 7 ts))
def kH:En->RS:=
  zm (ifS (zE gtC (ap1 Zj (vB 0)) (cE (.int 3))) (zW 5) (nxS))
  (zm (xk (Zk 1 (ap1 XV (vE 0))))
  (zm (ifS (zE neC (ap1 vS (vE 1)) (vB 0)) (zW 5) (nxS))
  (zu (vE 1))))
def kI:List T->R T:=fun ts=>zn (kH  (en0 2 ts))
def kJ (c_16:List T->R T):En->RS:=
  zm (Zk 1 (smE XT (vE 0) (cE (.str ".."))))
  (zu (zD (z0 (zf 1 c_16 (z0 (zh ixT (vE 1) (cE (.int 0))) (zb))) (z0 (zf 1 c_16 (z0 (zh ixT (vE 1) (cE (.int 2))) (zb))) (zb)))))
def kK:List T->R T:=fun ts=>zn (kJ (kI) (en0 2 ts))
def b_b (c_15:List T->R T) (c_1c:List T->R T) (c_b:List T->R T) (c_choice_in:List T->R T) (c_1a:List T->R T):En->RS:=
  zm (ifS (zE eqC (vB 1) (cE (.int 0))) (zW 5) (nxS))
  (zm (ifS (jB (smE Qw (vE 0) (cE (.str "{")))) (zu (zD (z0 (cE (.str "pick")) (z0 (ap1 vK (Zh (JX (smE x8 (zf 3 c_15 (z0 (vE 0) (z0 (cE (.str "{")) (z0 (cE (.str "}")) (zb))))) (cE (.str " ")))) (jC 0) (wA) (zf 1 (nex c_choice_in) (z0 (vE 0) (zb))) 1 [])) (zb))))) (nxS))
  (zm (ifS (jB (smE Qw (vE 0) (cE (.str "(")))) (zm (Zk 2 (zf 2 c_1c (z0 (zf 3 c_15 (z0 (vE 0) (z0 (cE (.str "(")) (z0 (cE (.str ")")) (zb))))) (z0 (cE (.str " ")) (zb)))))
  (zu (zD (z0 (cE (.str "row")) (z0 (ap1 vK (Zh (JX (vE 2)) (jC 0) (wA) (zf 2 (nex c_b) (z0 (vE 0) (z0 (zh Wi (vE 1) (cE (.int 1))) (zb)))) 1 [1])) (zb)))))) (nxS))
  (zm (ifS (jB (smE Qw (vE 0) (cE (.str "[")))) (zm (Zk 3 (smE XU (vE 0) (cE (.str "]"))))
  (zu (zh zU (zD (z0 (cE (.str "many")) (z0 (zf 2 c_b (z0 (YM (zh ixT (vE 3) (cE (.int 0))) (jd (cE (.int 1))) (noO)) (z0 (zh Wi (vE 1) (cE (.int 1))) (zb)))) (zb)))) (zf 1 c_1a (z0 (zh ixT (vE 3) (cE (.int 2))) (zb)))))) (nxS))
  (zu (zh zU (zD (z0 (cE (.str "whole")) (zb))) (zf 1 c_1a (z0 (vE 0) (zb))))))))
def S_b:Nat->Nat->List T->R T
 | 0,_=>fun _=> .bad
 | n+1,_=>fun ts=>zn (b_b (kD) (kG) (S_b n 0) (ji) (kK) (en0 4 ts))
abbrev f_b (n:Nat):List T->R T:=S_b n 0
def kL (c_1:List T->R T) (c_p:List T->R T) (c_b:List T->R T):En->RS:=
  zm (Jt (zf 1 c_p (z0 (vE 0) (zb))))
  (zm (Zk 1 (zf 2 c_b (z0 (vE 0) (z0 (cE (.int 3)) (zb)))))
  (zm (ifS (wu (jB (zf 1 c_1 (z0 (vE 1) (zb))))) (zW 5) (nxS))
  (zu (vE 1))))
def kM:List T->R T:=fun ts=>zn (kL (f_1) (f_p) (f_b 20) (en0 2 ts))
def b_v (c_2:List T->R T) (c_1g:List T->R T) (c_1i:List T->R T):En->RS:=
  zm (Zk 1 (zf 1 c_1i (z0 (vE 0) (zb))))
  (zm (Zk 2 (zf 1 c_1g (z0 (zh ixT (vE 1) (cE (.int 0))) (zb))))
  (zm (ifS (zE gtC (zf 1 c_2 (z0 (vE 2) (zb))) (cE (.int 500))) (zW 5) (nxS))
  (zm (vR)
  (zm (vR)
  (vR)))))
def f_v:List T->R T:=fun ts=>zn (b_v (f_2 20) (kM) (kB) (en0 5 ts))
def b_q (c_l:List (Str×Fd)->List T->R (T×List (Str×Fd))):En->R (T×En):=
  Z0 (ifS (zE eqC (ap1 Zj (YQ 101 0 2 "undone")) (cE (.int 0))) (zW 6) (nxS))
  (Z0 (seM 1 (QU 101 0 2 "undone"))
  (Z0 (drM (jJ 101 0 2 "do_step" 1 c_l (z0 (vE 1) (zb))))
  (uQ (zh ixT (vE 1) (cE (.int 0))))))
def f_q:List (Str×Fd)->List T->R (T×List (Str×Fd)):=fun fs ts=>jY 101 2 (b_q (f_l) (enM 101 2 fs ts))
def kN:En->RS:=
  zu (f3E ".." (vE 0) (vE 1))
def kO:List T->R T:=fun ts=>zn (kN  (en0 2 ts))
def b_9 (c_9:List T->R T) (c_14:List T->R T):En->RS:=
  zm (ifS (zE eqC (zh ixT (vE 0) (cE (.int 0))) (cE (.str "whole"))) (zu (zf 2 c_14 (z0 (zh ixT (vE 0) (cE (.int 1))) (z0 (zh ixT (vE 0) (cE (.int 2))) (zb))))) (nxS))
  (zm (ifS (zE eqC (zh ixT (vE 0) (cE (.int 0))) (cE (.str "pick"))) (zu (zh zU (zh zU (cE (.str "{")) (ap1 (W9 " ") (Zh (JX (zh ixT (vE 0) (cE (.int 1)))) (ju 0 1) (wA) (f3E ":" (vE 0) (vE 1)) 2 []))) (cE (.str "}")))) (nxS))
  (zm (ifS (zE eqC (zh ixT (vE 0) (cE (.int 0))) (cE (.str "row"))) (zu (zh zU (zh zU (cE (.str "(")) (ap1 (W9 " ") (Zh (JX (zh ixT (vE 0) (cE (.int 1)))) (jC 0) (wA) (zf 1 c_9 (z0 (vE 0) (zb))) 1 []))) (cE (.str ")")))) (nxS))
  (zu (zh zU (zh zU (zh zU (cE (.str "[")) (zf 1 c_9 (z0 (zh ixT (vE 0) (cE (.int 1))) (zb)))) (cE (.str "]"))) (zf 2 c_14 (z0 (zh ixT (vE 0) (cE (.int 2))) (z0 (zh ixT (vE 0) (cE (.int 3))) (zb))))))))
def S_9:Nat->Nat->List T->R T
 | 0,_=>fun _=> .bad
 | n+1,_=>fun ts=>zn (b_9 (S_9 n 0) (kO) (en0 1 ts))
abbrev f_9 (n:Nat):List T->R T:=S_9 n 0
def kP (c_o:List T->R T) (c_9:List T->R T):En->RS:=
  zm (Jt (zf 1 c_o (z0 (vE 0) (zb))))
  (zu (zf 1 c_9 (z0 (vE 0) (zb))))
def kQ:List T->R T:=fun ts=>zn (kP (f_o) (f_9 20) (en0 1 ts))
def b_u:En->R T:=
  xp 101 0 1 "kind"
def f_u:List (Str×Fd)->List T->R T:=fun fs ts=>b_u  (enM 101 1 fs ts)
def kR:En->RS:=
  zu (orE (Jp eqC (vB 0) (cE (.str "no"))) (orE (Jp eqC (vB 0) (cE (.str "all"))) (Jp eqC (vB 0) (cE (.str "some")))))
def kS:List T->R T:=fun ts=>zn (kR  (en0 1 ts))
def b_c (c_c:List T->R T) (c_1d:List T->R T):En->RS:=
  zm (ifS (jB (zf 1 c_1d (z0 (zh ixT (vE 0) (cE (.int 0))) (zb)))) (zu (zh zU (zh zU (zh zU (zh ixT (vE 0) (cE (.int 0))) (cE (.str "("))) (ap1 (W9 ", ") (Zh (JX (slE (vE 0) (jd (cE (.int 1))) (noO))) (jC 0) (wA) (zf 1 c_c (z0 (vE 0) (zb))) 1 []))) (cE (.str ")")))) (nxS))
  (zu (ap1 (W9 " ") (Zh (JX (vE 0)) (jC 0) (wA) (ap1 vS (vE 0)) 1 [])))
def S_c:Nat->Nat->List T->R T
 | 0,_=>fun _=> .bad
 | n+1,_=>fun ts=>zn (b_c (S_c n 0) (kS) (en0 1 ts))
abbrev f_c (n:Nat):List T->R T:=S_c n 0
def kT (c_h:List T->R T) (c_c:List T->R T):En->RS:=
  zm (Jt (zf 1 c_h (z0 (vE 0) (zb))))
  (zu (zf 1 c_c (z0 (vE 0) (zb))))
def kU:List T->R T:=fun ts=>zn (kT (f_h) (f_c 8) (en0 1 ts))
def b_t:En->R T:=
  xx 101 0 1 "done"
def f_t:List (Str×Fd)->List T->R T:=fun fs ts=>b_t  (enM 101 1 fs ts)
def b_n (c_1f:List T->R T) (c_1h:List T->R T) (c_u:List (Str×Fd)->List T->R T) (c_t:List (Str×Fd)->List T->R T):En->R (T×En):=
  Z0 (Zk 1 (zh zU (Jn (z0 (zf 1 c_1f (z0 (ZF 101 0 2 "base" 0 c_u zb) (zb))) (zb))) (Zh (JX (ZF 101 0 2 "steps" 0 c_t zb)) (ju 0 1) (wA) (zh zU (zh zU (vE 0) (cE (.str " "))) (zf 1 (nex c_1h) (z0 (vE 1) (zb)))) 2 [])))
  (uQ (ap1 (W9 "") (Zh (JX (vE 1)) (jC 0) (wA) (zh zU (vE 0) (cE (.str "\n"))) 1 [])))
def f_n:List (Str×Fd)->List T->R (T×List (Str×Fd)):=fun fs ts=>jY 101 2 (b_n (kQ) (kU) (f_u) (f_t) (enM 101 2 fs ts))
def b_0 (c_s:List T->R T) (c_f:Nat->R T) (c_n:List (Str×Fd)->List T->R (T×List (Str×Fd))) (c_v:List T->R T) (c_i:List (Str×Fd)->List T->R (T×List (Str×Fd))) (c_5:List (Str×Fd)->List T->R (T×List (Str×Fd))) (c_1m:List T->R T) (c_6:List (Str×Fd)->List T->R (T×List (Str×Fd))) (c_1n:List T->R T) (c_g:List (Str×Fd)->List T->R T) (c_k:List (Str×Fd)->List T->R T) (c_r:List (Str×Fd)->List T->R (T×List (Str×Fd))) (c_q:List (Str×Fd)->List T->R (T×List (Str×Fd))) (c_m:List (Str×Fd)->List T->R T):En->RS:=
  zm (u7 1 (z0 (cE .non) (z0 (zD (zb)) (z0 (zD (z0 (cE (.str "sum")) (z0 (cE (.int 0)) (zb)))) (z0 (zD (z0 (cE (.str "sum")) (z0 (cE (.int 0)) (z0 (cE (.int 51)) (zb))))) (z0 (zD (z0 (cE (.str "word")) (z0 (cE (.str "A")) (zb)))) (z0 (zD (z0 (cE (.str "no")) (zb))) (z0 (Jn (z0 (cE (.str "rising")) (zb))) (z0 (zD (z0 (cE (.str "never")) (zb))) (z0 (cE (.int 5)) (zb)))))))))))
  (zm (qZ 1 (Jn (z0 (zD (z0 (cE (.str "no")) (z0 (zD (z0 (cE (.str "no")) (z0 (zD (z0 (cE (.str "no")) (z0 (zD (z0 (cE (.str "rising")) (zb))) (zb)))) (zb)))) (zb)))) (zb))))
  (zm (mkS 2 10 101 1 c_i (z0 (zD (z0 (cE (.str "row")) (z0 (zD (z0 (zD (z0 (cE (.str "whole")) (z0 (cE (.int 0)) (z0 (cE (.int 2)) (zb))))) (z0 (zD (z0 (cE (.str "whole")) (z0 (cE (.int 0)) (z0 (cE (.int 2)) (zb))))) (zb)))) (zb)))) (zb)))
  (zm (drM (jJ 101 2 10 "keep" 1 c_5 (z0 (zD (z0 (cE (.str "rising")) (zb))) (zb))))
  (zm (drM (jJ 101 2 10 "bar" 1 c_6 (z0 (zD (z0 (cE (.str "unlike")) (zb))) (zb))))
  (zm (drM (jJ 101 2 10 "back" 0 c_r zb))
  (zm (vN 3 4 (z0 (ZF 101 2 10 "worths" 0 c_k zb) (z0 (ZF 101 2 10 "counts" 0 c_m zb) (zb))))
  (zm (yU (Ub (cE (.int 5))) (jC 5) (zm (Zk 6 (ixO 1 (zh jq (zh zU (zf 3 c_s (z0 (vE 0) (z0 (cE (.int 0)) (z0 (cE (.int 10)) (zb))))) (zh ZB (cE (.int 2)) (vE 5))) (cE (.int 10)))))
  (zm (u7 7 (z0 (ZE [2,6] okX c_f (wM 101 0 1 c_1m (z0 (vE 1) (zb)))) (zb)))
  (zm (uO 7 (ZE [2,6] okX c_f (wM 101 0 1 c_1n (z0 (vE 1) (zb)))))
  (ifS (zE neC (vB 7) (zh ZB (Jn (z0 (cE (.str "no rule")) (zb))) (cE (.int 2)))) (zu (cE (.bl false))) (nxS))))))
  (zm (ifS (orT (zE neC (ZF 101 2 10 "worths" 0 c_k zb) (vB 3)) (orT (zE neC (ZF 101 2 10 "counts" 0 c_m zb) (vB 4)) (orT (zE neC (vB 4) (zD (z0 (cE (.int 1)) (z0 (cE (.int 1)) (zb))))) (zE neC (ap1 Zj (vB 3)) (cE (.int 6)))))) (zu (cE (.bl false))) (nxS))
  (zm (ifM (orM (YR neC (jJ 101 2 10 "forth" 0 c_q zb) (cE (.str "bar"))) (tmP (zE neC (ZF 101 2 10 "worths" 0 c_k zb) (Jn (z0 (zD (z0 (cE (.int 0)) (z0 (cE (.int 0)) (zb)))) (z0 (zD (z0 (cE (.int 1)) (z0 (cE (.int 1)) (zb)))) (z0 (zD (z0 (cE (.int 2)) (z0 (cE (.int 2)) (zb)))) (zb)))))))) (zu (cE (.bl false))) (nxS))
  (zm (mkS 8 10 101 1 c_i (z0 (zD (z0 (cE (.str "row")) (z0 (zD (z0 (zD (z0 (cE (.str "whole")) (z0 (cE (.int 0)) (z0 (cE (.int 19)) (zb))))) (z0 (zD (z0 (cE (.str "whole")) (z0 (Wj (cE (.int 4))) (z0 (cE (.int 20)) (zb))))) (zb)))) (zb)))) (zb)))
  (zm (Zk 9 (zD (z0 (cE (.str "row")) (z0 (zD (z0 (zD (z0 (cE (.str "whole")) (z0 (cE (.int 0)) (z0 (cE (.int 20)) (zb))))) (z0 (zD (z0 (cE (.str "whole")) (z0 (Wj (cE (.int 4))) (z0 (cE (.int 20)) (zb))))) (zb)))) (zb)))))
  (zm (ifS (orT (zE neC (ZF 101 8 10 "left" 0 c_g zb) (cE (.int 500))) (zE neC (ZE [9] okX c_f (mkX 1 c_i (z0 (vE 0) (zb)))) (cE (.str "too many")))) (zu (cE (.bl false))) (nxS))
  (zm (ifS (zE neC (ZE [] okX c_f (zf 1 c_v (z0 (cE (.str "(0..20 -4..20)\n")) (zb)))) (cE (.str "no text"))) (zu (cE (.bl false))) (nxS))
  (QZ (cmM eqC (Yx 101 2 10 0 c_n (zb)) (uQ (cE (.str "(0..2 0..2)\nkeep rising\nbar unlike\n"))))))))))))))))))
def f_0:List T->R T:=fun ts=>zn (b_0 (f_s) (f_f) (f_n) (f_v) (f_i) (f_5) (YS) (f_6) (YT) (f_g) (f_k) (f_r) (f_q) (f_m) (enS 11 ts))
end G
namespace G
open PySem L2 PV
abbrev scr (ns:List Int):T:= .fz (ns.map T.int)
theorem Yy (ns:List Int) (k:Int) (h0:0<=k):∃ c,f_x [scr ns, .int k]= .ok (.int c):=by
 have e1:f_x [scr ns, .int k]=zn (if decide (k < ((ns.map T.int).length:Int))=true then (atT (ns.map T.int) k).s (fun t=> .rt t) else
   match (eqC (scr ns) (.lst [])).s (fun b=>if b=true then RS.rt (.int 0) else .nx [.vl (scr ns), .vl (.int k)]) with
   | .nx ρ' =>zu (zh zU (zh ZB (zh ixT (vE 0) (zh jq (vE 1) (ap1 Zj (vB 0)))) (cE (.int 31))) (vE 1)) ρ'
   | r=>r):=by
  show zn (match (if decide (k < ((ns.map T.int).length:Int))=true then (atT (ns.map T.int) k).s (fun t=>RS.rt t) else .nx [.vl (scr ns), .vl (.int k)]) with
   | .nx ρ' =>_
   | r=>r)=_
  cases decide (k < ((ns.map T.int).length:Int)) with
  | true=>
   rw [if_pos rfl,if_pos rfl]
   unfold atT
   cases atI (ns.map T.int) k <;> rfl
  | false=>rfl
 rw [e1,List.length_map]
 by_cases hk:k < (ns.length:Int)
 ·obtain ⟨v,hv⟩:∃ v,ns[k.toNat]? =some v:=⟨ns[k.toNat]'(by omega),List.getElem?_eq_getElem (by omega)⟩
  have ea:atI (ns.map T.int) k=some (.int v):=by
   have:k=((k.toNat:Nat):Int):=by omega
   rw [this]
   exact JO (by rw [List.getElem?_map,hv]; rfl)
  rw [decide_eq_true hk,if_pos rfl]
  exact ⟨v,by unfold atT; rw [ea]; rfl⟩
 ·rw [decide_eq_false hk,if_neg Bool.false_ne_true]
  cases ns with
  | nil=>exact ⟨0,rfl⟩
  | cons x xs=>
   have hm0:=Int.emod_nonneg k (show (((x :: xs).length:Nat):Int) ≠ 0 by simp only [List.length_cons]; omega)
   have hm1:=Int.emod_lt_of_pos k (show (0:Int) < (((x :: xs).length:Nat):Int) by simp only [List.length_cons]; omega)
   obtain ⟨v,hv⟩:∃ v,(x :: xs)[(k % (((x :: xs).length:Nat):Int)).toNat]? =some v:=⟨_,List.getElem?_eq_getElem (by omega)⟩
   have ea:atI ((x :: xs).map T.int) (k % (((x :: xs).length:Nat):Int))=some (.int v):=by
    have e:k % (((x :: xs).length:Nat):Int)=(((k % (((x :: xs).length:Nat):Int)).toNat:Nat):Int):=by omega
    rw [e]
    exact JO (by rw [List.getElem?_map,hv]; rfl)
   have cm:J6 v 31:= .inr ⟨by decide,by decide⟩
   have hp:(0:Int) < (((x :: xs).map T.int).length:Int):=by simp only [List.length_map,List.length_cons]; omega
   refine ⟨v*31+k, ?_⟩
   show zn (((((if 0 < (((x :: xs).map T.int).length:Int) then R.ok (T.int (k % (((x :: xs).map T.int).length:Int))) else .bad).bind fun y=>ixT (scr (x :: xs)) y).bind fun a=>ZB a (.int 31)).bind fun a=>zU a (.int k)).s fun t=> .rt t)=_
   rw [if_pos hp]
   show zn ((((atT ((x :: xs).map T.int) (k % (((x :: xs).map T.int).length:Int))).bind fun a=>ZB a (.int 31)).bind fun a=>zU a (.int k)).s fun t=> .rt t)=_
   rw [List.length_map]
   unfold atT
   rw [ea]
   show zn ((((if J6 v 31 then R.ok (T.int (v*31)) else .bad)).bind fun a=>zU a (.int k)).s fun t=> .rt t)=_
   rw [if_pos cm]
   rfl
theorem Yz (ns:List Int) (k m:Int) (h0:0<=k) (hm:0 < m):∃ p,f_s [scr ns, .int k, .int m]= .ok (.int p)/\0<=p/\p < m:=by
 obtain ⟨c,hc⟩:=Yy ns k h0
 have cm1:J6 6151 (k+1):= .inl ⟨by decide,by decide⟩
 have cm2:J6 (c+6151*(k+1)) 40692:= .inr ⟨by decide,by decide⟩
 generalize hd:(c+6151*(k+1))*40692 % 2147483399=d
 have hd0:0<=d:=by rw [← hd]; exact Int.emod_nonneg _ (by decide)
 have hd1:d < 2147483399:=by rw [← hd]; exact Int.emod_lt_of_pos _ (by decide)
 have cm3:J6 d d:= .inl ⟨by omega,by omega⟩
 refine ⟨(d*d+d / 31) % 2147483629 % m, ?_,Int.emod_nonneg _ (by omega),Int.emod_lt_of_pos _ hm⟩
 have e1:f_s [scr ns, .int k, .int m]=zn (match ((((((f_x [scr ns, .int k]).bind fun x=>(ZB (.int 6151) (.int (k+1))).bind fun y=>zU x y).bind fun x=>ZB x (.int 40692)).bind fun x=>jq x (.int 2147483399))).s fun t=>RS.nx [.vl (scr ns), .vl (.int k), .vl (.int m), .vl t]) with
   | .nx ρ' =>zu (zh jq (zh jq (zh zU (zh ZB (vE 3) (vE 3)) (zh JS (vE 3) (cE (.int 31)))) (cE (.int 2147483629))) (vE 2)) ρ'
   | r=>r):=rfl
 rw [e1,hc]
 show zn (match (((((if J6 6151 (k+1) then R.ok (T.int (6151*(k+1))) else .bad).bind fun y=>zU (.int c) y).bind fun x=>ZB x (.int 40692)).bind fun x=>jq x (.int 2147483399)).s fun t=>RS.nx [.vl (scr ns), .vl (.int k), .vl (.int m), .vl t]) with
   | .nx ρ' =>_
   | r=>r)=_
 rw [if_pos cm1]
 show zn (match ((((if J6 (c+6151*(k+1)) 40692 then R.ok (T.int ((c+6151*(k+1))*40692)) else .bad)).bind fun x=>jq x (.int 2147483399)).s fun t=>RS.nx [.vl (scr ns), .vl (.int k), .vl (.int m), .vl t]) with
   | .nx ρ' =>_
   | r=>r)=_
 rw [if_pos cm2]
 show zn (zu (zh jq (zh jq (zh zU (zh ZB (vE 3) (vE 3)) (zh JS (vE 3) (cE (.int 31)))) (cE (.int 2147483629))) (vE 2)) [.vl (scr ns), .vl (.int k), .vl (.int m), .vl (.int ((c+6151*(k+1))*40692 % 2147483399))])=_
 rw [hd]
 show zn (((((if J6 d d then R.ok (T.int (d*d)) else .bad).bind fun x=>zU x (.int (d / 31))).bind fun x=>jq x (.int 2147483629)).bind fun x=>jq x (.int m)).s fun t=>RS.rt t)=_
 rw [if_pos cm3]
 show zn ((if 0 < m then R.ok (T.int ((d*d+d / 31) % 2147483629 % m)) else .bad).s fun t=>RS.rt t)=_
 rw [if_pos hm]
 rfl
theorem bOk {α β:Type} (a:α) (f:α->R β):(R.ok a).bind f=f a:=rfl
theorem kW {α:Type} (a:α) (f:α->RS):(R.ok a).s f=f a:=rfl
theorem xF {g:List T->R T} {f f' f'' :En->R T} {ρ:En}:zf 3 g (z0 f (z0 f' (z0 f'' zb))) ρ=(f ρ).bind fun x=>(f' ρ).bind fun y=>(f'' ρ).bind fun z=>g [x,y,z]:=by
 unfold zf z0 zb
 cases f ρ with
 | ok a=>
  cases f' ρ with
  | ok b=>cases f'' ρ <;> rfl
  | ex c=>rfl
  | bad=>rfl
 | ex c=>rfl
 | bad=>rfl
theorem w1 {t:T} {a:Sl} {ρ:En}:vB 1 (a :: .vl t :: ρ)= .ok t:=rfl
theorem xG {t:T} {ρ:En}:cE t ρ= .ok t:=rfl
theorem uG {g:T->T->R T} {f f' :En->R T} {ρ:En}:zh g f f' ρ=(f ρ).bind fun x=>(f' ρ).bind fun y=>g x y:=rfl
theorem v6 (f g:En->RS) (ρ:En):zm f g ρ=match f ρ with | .nx ρ' =>g ρ' | r=>r:=rfl
theorem xH (g:En->R Bool) (f1 f2:En->RS) (ρ:En):ifS g f1 f2 ρ=(g ρ).s fun k=>if k=true then f1 ρ else f2 ρ:=rfl
theorem v7 (i:Nat) (f:En->R T) (ρ:En):Zk i f ρ=(f ρ).s fun t=> .nx (ρ.set i (.vl t)):=rfl
theorem ZM {g:T->T->R Bool} {f f' :En->R T} {ρ:En}:zE g f f' ρ=(f ρ).bind fun x=>(f' ρ).bind fun y=>g x y:=rfl
theorem w2 {t:T} {a b:Sl} {ρ:En}:vB 2 (a :: b :: .vl t :: ρ)= .ok t:=rfl
theorem w3 {t:T} {a b c:Sl} {ρ:En}:vB 3 (a :: b :: c :: .vl t :: ρ)= .ok t:=rfl
theorem v8 (i j:Int):zU (.int i) (.int j)= .ok (.int (i+j)):=rfl
theorem xI (c:Int) (j:Int) (hc:J6 c j):ZB (.int c) (.int j)= .ok (.int (c*j)):=by
 show (if J6 c j then R.ok (T.int (c*j)) else .bad)=_
 rw [if_pos hc]
theorem YA {xs:List T} {j:Nat} {x:T} (h:xs[j]? =some x):ixT (.lst xs) (.int (j:Int))= .ok x:=by
 show atT xs j=_
 unfold atT
 rw [JO h]
theorem zN {f g:En->RS} {ρ ρ' :En} (h:f ρ= .nx ρ'):zm f g ρ=g ρ' :=by rw [v6,h]
theorem gU {g:En->R Bool} {f1 f2:En->RS} {ρ:En} (h:g ρ= .ok false):ifS g f1 f2 ρ=f2 ρ:=by rw [xH,h,kW,if_neg Bool.false_ne_true]
theorem UC {g:En->R Bool} {f1:En->RS} {ρ:En} (h:g ρ= .ok false):ifS g f1 nxS ρ= .nx ρ:=by rw [gU h]; rfl
theorem v9 {i:Nat} {f:En->R T} {ρ:En} {t:T} (h:f ρ= .ok t):Zk i f ρ= .nx (ρ.set i (.vl t)):=by rw [v7,h,kW]
theorem JG {g:T->En->R En} {fb:En->RS} {t:T} {ts:List T} {ρ ρ1 ρ2:En} (hg:g t ρ= .ok ρ1) (hb:fb ρ1= .nx ρ2):uP g fb (t :: ts) ρ=uP g fb ts ρ2:=by
 rw [uP,hg]
 dsimp only
 rw [hb]
mutual
def tEq:T->T->Bool
 | .non, .non=>true
 | .bl a, .bl b=>a == b
 | .int a, .int b=>a == b
 | .str a, .str b=>a == b
 | .tup a, .tup b=>YB a b
 | .lst a, .lst b=>YB a b
 | _,_=>false
def YB:List T->List T->Bool
 | [],[]=>true
 | a :: as,b :: bs=>tEq a b && YB as bs
 | _,_=>false
end
mutual
theorem uH:∀ x y:T,tEq x y=true->x=y
 | .non,y,h=>by cases y <;> simp [tEq] at h ⊢
 | .bl a,y,h=>by cases y <;> simp [tEq] at h ⊢; exact h
 | .int a,y,h=>by cases y <;> simp [tEq] at h ⊢; exact h
 | .str a,y,h=>by cases y <;> simp [tEq] at h ⊢; exact h
 | .tup a,y,h=>by cases y <;> simp [tEq] at h ⊢; exact we _ _ h
 | .lst a,y,h=>by cases y <;> simp [tEq] at h ⊢; exact we _ _ h
 | .fz a,y,h=>by cases y <;> simp [tEq] at h
theorem we:∀ x y:List T,YB x y=true->x=y
 | [],y,h=>by cases y <;> simp [YB] at h ⊢
 | a :: as,y,h=>by
  cases y with
  | nil=>simp [YB] at h
  | cons b bs=>
   rw [YB,Bool.and_eq_true] at h
   rw [uH a b h.1,we as bs h.2]
end
def okB (r:R T) (t:T):Bool:=match r with
 | .ok u=>tEq u t
 | _=>false
theorem Zl {r:R T} {t:T} (h:okB r t=true):r= .ok t:=by
 unfold okB at h
 split at h
 ·rw [uH _ _ h]
 ·cases h
abbrev FS:=List (Str×Fd)
def okN (r:R (T×FS)) (t:T):Bool:=match r with
 | .ok (u,_)=>tEq u t
 | _=>false
def fsO (r:R (T×FS)):FS:=match r with
 | .ok (_,fs)=>fs
 | _=>[]
theorem jj {r:R (T×FS)} {t:T} (h:okN r t=true):r= .ok (t,fsO r):=by
 unfold okN at h
 split at h
 ·rename_i u fs
  rw [uH _ _ h]; rfl
 ·cases h
theorem va {i j k nn:Nat} {g:FS->List T->R (T×FS)} {ga:En->R (List T)} {ρ:En} {ts:List T} {os:List Ob} {fs:FS} (e:ga ρ= .ok ts) (hn:ts.length=nn/\i ≠ j/\i < ρ.length) (hj:ρ[j]? =some (.st os)) (hg:g [] ts= .ok (.non,fs)):mkS i j k nn g ga ρ= .nx ((ρ.set j (.st (os++[(k,fs)]))).set i (.ob k os.length)):=by
 unfold mkS
 rw [e]
 show (if ts.length=nn/\i ≠ j/\i < ρ.length then _ else RS.bad)=_
 rw [if_pos hn,hj]
 dsimp only
 rw [hg]
theorem wO {i j k n nn:Nat} {m:Str} {g:FS->List T->R (T×FS)} {ga:En->R (List T)} {ρ:En} {ts:List T} {os:List Ob} {fs fs' :FS} {t:T} (o:obD k i j ρ=some (n,fs,os)) (hm:(fs.lookup m).isNone=true) (e:ga ρ= .ok ts) (hn:ts.length=nn) (hg:g fs ts= .ok (t,fs')):jJ k i j m nn g ga ρ= .ok (t,ρ.set j (.st (os.set n (k,fs')))):=by
 unfold jJ
 rw [o]
 dsimp only
 rw [if_pos hm,e]
 show (if ts.length=nn then _ else R.bad)=_
 rw [if_pos hn,hg]; rfl
theorem jK {i j k n nn:Nat} {m:Str} {g:FS->List T->R T} {ga:En->R (List T)} {ρ:En} {ts:List T} {os:List Ob} {fs:FS} {t:T} (o:obD k i j ρ=some (n,fs,os)) (hm:(fs.lookup m).isNone=true) (e:ga ρ= .ok ts) (hn:ts.length=nn) (hg:g fs ts= .ok t):ZF k i j m nn g ga ρ= .ok t:=by
 unfold ZF
 rw [o]
 dsimp only
 rw [if_pos hm,e]
 show (if ts.length=nn then g fs ts else R.bad)=_
 rw [if_pos hn,hg]
theorem vb {i j k n nn:Nat} {g:FS->List T->R (T×FS)} {ga:En->R (List T)} {ρ:En} {ts:List T} {os:List Ob} {fs fs' :FS} {t:T} (o:obD k i j ρ=some (n,fs,os)) (e:ga ρ= .ok ts) (hn:ts.length=nn) (hg:g fs ts= .ok (t,fs')):Yx k i j nn g ga ρ= .ok (t,ρ.set j (.st (os.set n (k,fs')))):=by
 unfold Yx
 rw [o]
 dsimp only
 rw [e]
 show (if ts.length=nn then _ else R.bad)=_
 rw [if_pos hn,hg]; rfl
theorem YC {f:En->R (T×En)} {ρ ρ' :En} {t:T} (h:f ρ= .ok (t,ρ')):drM f ρ= .nx ρ' :=by unfold drM; rw [h]; rfl
theorem xJ {i:Nat} {f:En->R T} {ρ:En} {ts:List T} {t:T} (h:ρ[i]? =some (.ow ts)) (hl:ts.length < bnd) (e:f ρ= .ok t):uO i f ρ= .nx (ρ.set i (.ow (ts++[t]))):=by
 unfold uO
 rw [h]
 dsimp only
 rw [e]
 exact if_pos hl
theorem vc {i:Nat} {f:En->R T} {ρ:En} {t:T} (e:f ρ= .ok t):u7 i (z0 f zb) ρ= .nx (ρ.set i (.ow [t])):=by
 unfold u7 z0 zb
 rw [e]
 show (if ([t]:List T).length<=bnd then RS.nx (ρ.set i (.ow [t])) else .bad)=_
 exact if_pos (show 1<=16777216 by decide)
theorem vd {i:Nat} {f:En->R T} {ρ:En} {ts:List T} {j:Nat} {t:T} (h:ρ[i]? =some (.ow ts)) (e:f ρ= .ok (.int (j:Int))) (ht:ts[j]? =some t):ixO i f ρ= .ok t:=by
 unfold ixO
 rw [h]
 dsimp only
 rw [e]
 exact YA ht
theorem xK {fa fb:En->R Bool} {ρ:En} (h:fa ρ= .ok false):orT fa fb ρ=fb ρ:=by unfold orT; rw [h]; rfl
theorem xL {fa fb:En->R (Bool×En)} {ρ ρ' :En} (h:fa ρ= .ok (false,ρ')):PV.orM fa fb ρ=fb ρ' :=by unfold PV.orM; rw [h]; rfl
theorem xM {ga:En->R (Bool×En)} {f:En->RS} {ρ ρ' :En} (h:ga ρ= .ok (false,ρ')):ifM ga f nxS ρ= .nx ρ' :=by unfold ifM; rw [h]; rfl
abbrev xN:List T:=[.non, .tup [], .tup [.str "sum", .int 0], .tup [.str "sum", .int 0, .int 51], .tup [.str "word", .str "A"], .tup [.str "no"], .lst [.str "rising"], .tup [.str "never"], .int 5]
abbrev Za:List T:=xN++[.tup [.str "no", .tup [.str "no", .tup [.str "no", .tup [.str "rising"]]]]]
def uT (i:Nat):T:=Za.getD i .non
abbrev spT (a b c d:Int):T:= .tup [.str "row", .tup [.tup [.str "whole", .int a, .int b], .tup [.str "whole", .int c, .int d]]]
abbrev prT (a b:Int):T:= .tup [.int a, .int b]
abbrev jr:T:= .lst [prT 0 0,prT 0 1,prT 0 2,prT 1 1,prT 1 2,prT 2 2]
abbrev enT:T:= .lst [prT 0 0,prT 1 1,prT 2 2]
def r1:R (T×FS):=f_i [] [spT 0 2 0 2]
def r2:R (T×FS):=f_5 (fsO r1) [.tup [.str "rising"]]
def r3:R (T×FS):=f_6 (fsO r2) [.tup [.str "unlike"]]
def r4:R (T×FS):=f_r (fsO r3) []
def r5:R (T×FS):=f_q (fsO r4) []
def r6:R (T×FS):=f_i [] [spT 0 19 (-4) 20]
def r7:R (T×FS):=f_n (fsO r5) []
theorem q1:okN r1 .non=true:=by decide+kernel
theorem q2:okN r2 (.int 3)=true:=by decide+kernel
theorem q3:okN r3 (.int 3)=true:=by decide+kernel
theorem q4:okN r4 (.str "bar")=true:=by decide+kernel
theorem q5:okN r5 (.str "bar")=true:=by decide+kernel
theorem q6:okN r6 .non=true:=by decide+kernel
theorem q7:okN r7 (.str "(0..2 0..2)\nkeep rising\nbar unlike\n")=true:=by decide+kernel
theorem qw:okB (f_k (fsO r4) []) jr=true:=by decide+kernel
theorem qc:okB (f_m (fsO r4) []) (prT 1 1)=true:=by decide+kernel
theorem qv:okB (f_k (fsO r5) []) enT=true:=by decide+kernel
theorem ql:okB (f_g (fsO r6) []) (.int 500)=true:=by decide+kernel
theorem nk:((fsO r1).lookup ("keep":Str)).isNone=true:=by decide+kernel
theorem nb:((fsO r2).lookup ("bar":Str)).isNone=true:=by decide+kernel
theorem na:((fsO r3).lookup ("back":Str)).isNone=true:=by decide+kernel
theorem nw:((fsO r4).lookup ("worths":Str)).isNone=true:=by decide+kernel
theorem nc:((fsO r4).lookup ("counts":Str)).isNone=true:=by decide+kernel
theorem nf:((fsO r4).lookup ("forth":Str)).isNone=true:=by decide+kernel
theorem nv:((fsO r5).lookup ("worths":Str)).isNone=true:=by decide+kernel
theorem nl:((fsO r6).lookup ("left":Str)).isNone=true:=by decide+kernel
theorem tdK:∀ l:Nat,l < 10->okB (ZD okX f_f ((wM 101 0 1 YS (z0 (vE 1) (zb))) [.oc 101, .vl (uT l)])) (.str "no rule")=true:=by decide+kernel
theorem tdB:∀ l:Nat,l < 10->okB (ZD okX f_f ((wM 101 0 1 YT (z0 (vE 1) (zb))) [.oc 101, .vl (uT l)])) (.str "no rule")=true:=by decide+kernel
theorem tdW:okB (ZD okX f_f ((mkX 1 f_i (z0 (vE 0) (zb))) [.vl (spT 0 20 (-4) 20)])) (.str "too many")=true:=by decide+kernel
theorem tdR:okB (ZD okX f_f ((zf 1 f_v (z0 (cE (.str "(0..20 -4..20)\n")) (zb))) [])) (.str "no text")=true:=by decide+kernel
abbrev EV (S:T) (k r y:Sl):En:=[.vl S, .ow Za, .ob 101 0, .vl jr, .vl (prT 1 1),k,r,y, .un, .un, .st [(101,fsO r4)]]
abbrev EL (S:T) (k:Nat) (r y:Sl):En:=EV S (.vl (.int (k:Int))) r y
abbrev lpB:En->RS:=zm (Zk 6 (ixO 1 (zh jq (zh zU (zf 3 f_s (z0 (vE 0) (z0 (cE (.int 0)) (z0 (cE (.int 10)) (zb))))) (zh ZB (cE (.int 2)) (vE 5))) (cE (.int 10))))) (zm (u7 7 (z0 (ZE [2,6] okX f_f (wM 101 0 1 YS (z0 (vE 1) (zb)))) (zb))) (zm (uO 7 (ZE [2,6] okX f_f (wM 101 0 1 YT (z0 (vE 1) (zb))))) (ifS (zE neC (vB 7) (zh ZB (Jn (z0 (cE (.str "no rule")) (zb))) (cE (.int 2)))) (zu (cE (.bl false))) (nxS))))
theorem uI {ns:List Int} {p:Int} (ep:f_s [scr ns, .int 0, .int 10]= .ok (.int p)) {k:Nat} (hk:k < 5) (r y:Sl):∃ r' y',lpB (EL (scr ns) k r y)= .nx (EL (scr ns) k r' y'):=by
 obtain ⟨l,hl,el⟩:∃ i:Nat,i < 10/\(p+2*(k:Int)) % 10=(i:Int):=⟨((p+2*(k:Int)) % 10).toNat,by omega,by omega⟩
 have gu:Za[l]? =some (uT l):=by
  unfold uT
  rw [List.getD_eq_getElem?_getD,List.getElem?_eq_getElem (show l < Za.length from hl)]; rfl
 have cm:J6 2 (k:Int):= .inl ⟨by decide,by decide⟩
 have md:∀ x:Int,jq (.int x) (.int 10)= .ok (.int (x % 10)):=fun x=>rfl
 have e1:Zk 6 (ixO 1 (zh jq (zh zU (zf 3 f_s (z0 (vE 0) (z0 (cE (.int 0)) (z0 (cE (.int 10)) (zb))))) (zh ZB (cE (.int 2)) (vE 5))) (cE (.int 10)))) (EL (scr ns) k r y)= .nx (EL (scr ns) k (.vl (uT l)) y):=by
  rw [v9 (t:=uT l)]
  ·rfl
  ·refine vd (ts:=Za) (j:=l) rfl ?_ gu
   have u5:vE 5 (EL (scr ns) k r y)= .ok (.int (k:Int)):=rfl
   rw [uG,uG,xF,show vE 0 (EL (scr ns) k r y)= .ok (scr ns) from rfl,bOk,xG,bOk,xG,bOk,ep,bOk,uG,xG,bOk,u5,bOk,xI _ _ cm,bOk,v8,bOk,bOk,md,el]
 have e2:u7 7 (z0 (ZE [2,6] okX f_f (wM 101 0 1 YS (z0 (vE 1) (zb)))) (zb)) (EL (scr ns) k (.vl (uT l)) y)= .nx (EL (scr ns) k (.vl (uT l)) (.ow [.str "no rule"])):=vc (show ZD okX f_f ((wM 101 0 1 YS (z0 (vE 1) (zb))) [.oc 101, .vl (uT l)])= .ok (.str "no rule") from Zl (tdK l hl))
 have e3:uO 7 (ZE [2,6] okX f_f (wM 101 0 1 YT (z0 (vE 1) (zb)))) (EL (scr ns) k (.vl (uT l)) (.ow [.str "no rule"]))= .nx (EL (scr ns) k (.vl (uT l)) (.ow [.str "no rule", .str "no rule"])):=xJ (ts:=[.str "no rule"]) rfl (show 1 < 16777216 by decide) (show ZD okX f_f ((wM 101 0 1 YT (z0 (vE 1) (zb))) [.oc 101, .vl (uT l)])= .ok (.str "no rule") from Zl (tdB l hl))
 have e4:zE neC (vB 7) (zh ZB (Jn (z0 (cE (.str "no rule")) (zb))) (cE (.int 2))) (EL (scr ns) k (.vl (uT l)) (.ow [.str "no rule", .str "no rule"]))= .ok false:=rfl
 exact ⟨.vl (uT l),(.ow [.str "no rule", .str "no rule"]),by rw [lpB,zN e1,zN e2,zN e3,UC e4]⟩
theorem kX (ns:List Int) (h:ns.length<=63):f_0 [.fz (ns.map T.int)]= .ok (.bl true):=by
 obtain ⟨p,ep,p0,p9⟩:=Yz ns 0 10 (by omega) (by omega)
 obtain ⟨a0,y0,l0⟩:=uI ep (show 0 < 5 by omega) .un .un
 obtain ⟨a1,y1,l1⟩:=uI ep (show 1 < 5 by omega) a0 y0
 obtain ⟨a2,y2,l2⟩:=uI ep (show 2 < 5 by omega) a1 y1
 obtain ⟨a3,y3,l3⟩:=uI ep (show 3 < 5 by omega) a2 y2
 obtain ⟨a4,y4,l4⟩:=uI ep (show 4 < 5 by omega) a3 y3
 have d0:u7 1 (z0 (cE .non) (z0 (zD (zb)) (z0 (zD (z0 (cE (.str "sum")) (z0 (cE (.int 0)) (zb)))) (z0 (zD (z0 (cE (.str "sum")) (z0 (cE (.int 0)) (z0 (cE (.int 51)) (zb))))) (z0 (zD (z0 (cE (.str "word")) (z0 (cE (.str "A")) (zb)))) (z0 (zD (z0 (cE (.str "no")) (zb))) (z0 (Jn (z0 (cE (.str "rising")) (zb))) (z0 (zD (z0 (cE (.str "never")) (zb))) (z0 (cE (.int 5)) (zb)))))))))) [.vl (scr ns), .un, .un, .un, .un, .un, .un, .un, .un, .un, .st []]= .nx [.vl (scr ns), .ow xN, .un, .un, .un, .un, .un, .un, .un, .un, .st []]:=rfl
 have d1:qZ 1 (Jn (z0 (zD (z0 (cE (.str "no")) (z0 (zD (z0 (cE (.str "no")) (z0 (zD (z0 (cE (.str "no")) (z0 (zD (z0 (cE (.str "rising")) (zb))) (zb)))) (zb)))) (zb)))) (zb))) [.vl (scr ns), .ow xN, .un, .un, .un, .un, .un, .un, .un, .un, .st []]= .nx [.vl (scr ns), .ow Za, .un, .un, .un, .un, .un, .un, .un, .un, .st []]:=rfl
 have d2:mkS 2 10 101 1 f_i (z0 (zD (z0 (cE (.str "row")) (z0 (zD (z0 (zD (z0 (cE (.str "whole")) (z0 (cE (.int 0)) (z0 (cE (.int 2)) (zb))))) (z0 (zD (z0 (cE (.str "whole")) (z0 (cE (.int 0)) (z0 (cE (.int 2)) (zb))))) (zb)))) (zb)))) (zb)) [.vl (scr ns), .ow Za, .un, .un, .un, .un, .un, .un, .un, .un, .st []]= .nx [.vl (scr ns), .ow Za, .ob 101 0, .un, .un, .un, .un, .un, .un, .un, .st [(101,fsO r1)]]:=by rw [va (os:=[]) (fs:=fsO r1) (ts:=[spT 0 2 0 2]) rfl (show 1=1/\2 ≠ 10/\2 < 11 by decide) rfl (jj q1)]; rfl
 have d3:drM (jJ 101 2 10 "keep" 1 f_5 (z0 (zD (z0 (cE (.str "rising")) (zb))) (zb))) [.vl (scr ns), .ow Za, .ob 101 0, .un, .un, .un, .un, .un, .un, .un, .st [(101,fsO r1)]]= .nx [.vl (scr ns), .ow Za, .ob 101 0, .un, .un, .un, .un, .un, .un, .un, .st [(101,fsO r2)]]:=YC (wO (n:=0) (ts:=[.tup [.str "rising"]]) (fs:=fsO r1) (os:=[(101,fsO r1)]) rfl nk rfl rfl (jj q2))
 have d4:drM (jJ 101 2 10 "bar" 1 f_6 (z0 (zD (z0 (cE (.str "unlike")) (zb))) (zb))) [.vl (scr ns), .ow Za, .ob 101 0, .un, .un, .un, .un, .un, .un, .un, .st [(101,fsO r2)]]= .nx [.vl (scr ns), .ow Za, .ob 101 0, .un, .un, .un, .un, .un, .un, .un, .st [(101,fsO r3)]]:=YC (wO (n:=0) (ts:=[.tup [.str "unlike"]]) (fs:=fsO r2) (os:=[(101,fsO r2)]) rfl nb rfl rfl (jj q3))
 have d5:drM (jJ 101 2 10 "back" 0 f_r zb) [.vl (scr ns), .ow Za, .ob 101 0, .un, .un, .un, .un, .un, .un, .un, .st [(101,fsO r3)]]= .nx [.vl (scr ns), .ow Za, .ob 101 0, .un, .un, .un, .un, .un, .un, .un, .st [(101,fsO r4)]]:=YC (wO (n:=0) (ts:=[]) (fs:=fsO r3) (os:=[(101,fsO r3)]) rfl na rfl rfl (jj q4))
 have dw:(ZF 101 2 10 "worths" 0 f_k zb) [.vl (scr ns), .ow Za, .ob 101 0, .un, .un, .un, .un, .un, .un, .un, .st [(101,fsO r4)]]= .ok jr:=jK (n:=0) (ts:=[]) (fs:=fsO r4) (os:=[(101,fsO r4)]) rfl nw rfl rfl (Zl qw)
 have dc:(ZF 101 2 10 "counts" 0 f_m zb) [.vl (scr ns), .ow Za, .ob 101 0, .un, .un, .un, .un, .un, .un, .un, .st [(101,fsO r4)]]= .ok (prT 1 1):=jK (n:=0) (ts:=[]) (fs:=fsO r4) (os:=[(101,fsO r4)]) rfl nc rfl rfl (Zl qc)
 have d6:vN 3 4 (z0 (ZF 101 2 10 "worths" 0 f_k zb) (z0 (ZF 101 2 10 "counts" 0 f_m zb) (zb))) [.vl (scr ns), .ow Za, .ob 101 0, .un, .un, .un, .un, .un, .un, .un, .st [(101,fsO r4)]]= .nx (EV (scr ns) .un .un .un):=by
  unfold vN z0; rw [dw,bOk,dc]; rfl
 have dl:yU (Ub (cE (.int 5))) (jC 5) lpB (EV (scr ns) .un .un .un)= .nx (EL (scr ns) 4 a4 y4):=by
  show uP (jC 5) lpB [.int ((0:Nat):Int), .int ((1:Nat):Int), .int ((2:Nat):Int), .int ((3:Nat):Int), .int ((4:Nat):Int)] _=_
  rw [JG rfl l0,JG rfl l1,JG rfl l2,JG rfl l3,JG rfl l4]; rfl
 have ew:(ZF 101 2 10 "worths" 0 f_k zb) (EL (scr ns) 4 a4 y4)= .ok jr:=jK (n:=0) (ts:=[]) (fs:=fsO r4) (os:=[(101,fsO r4)]) rfl nw rfl rfl (Zl qw)
 have ec:(ZF 101 2 10 "counts" 0 f_m zb) (EL (scr ns) 4 a4 y4)= .ok (prT 1 1):=jK (n:=0) (ts:=[]) (fs:=fsO r4) (os:=[(101,fsO r4)]) rfl nc rfl rfl (Zl qc)
 have g1:orT (zE neC (ZF 101 2 10 "worths" 0 f_k zb) (vB 3)) (orT (zE neC (ZF 101 2 10 "counts" 0 f_m zb) (vB 4)) (orT (zE neC (vB 4) (zD (z0 (cE (.int 1)) (z0 (cE (.int 1)) (zb))))) (zE neC (ap1 Zj (vB 3)) (cE (.int 6))))) (EL (scr ns) 4 a4 y4)= .ok false:=by
  rw [xK (by rw [ZM,ew]; rfl),xK (by rw [ZM,ec]; rfl)]; rfl
 have ef:(jJ 101 2 10 "forth" 0 f_q zb) (EL (scr ns) 4 a4 y4)= .ok (.str "bar",[.vl (scr ns), .ow Za, .ob 101 0, .vl jr, .vl (prT 1 1), .vl (.int ((4:Nat):Int)),a4,y4, .un, .un, .st [(101,fsO r5)]]):=wO (n:=0) (ts:=[]) (fs:=fsO r4) (os:=[(101,fsO r4)]) rfl nf rfl rfl (jj q5)
 have ev:(ZF 101 2 10 "worths" 0 f_k zb) [.vl (scr ns), .ow Za, .ob 101 0, .vl jr, .vl (prT 1 1), .vl (.int ((4:Nat):Int)),a4,y4, .un, .un, .st [(101,fsO r5)]]= .ok enT:=jK (n:=0) (ts:=[]) (fs:=fsO r5) (os:=[(101,fsO r5)]) rfl nv rfl rfl (Zl qv)
 have em:(YR neC (jJ 101 2 10 "forth" 0 f_q zb) (cE (.str "bar"))) (EL (scr ns) 4 a4 y4)= .ok (false,[.vl (scr ns), .ow Za, .ob 101 0, .vl jr, .vl (prT 1 1), .vl (.int ((4:Nat):Int)),a4,y4, .un, .un, .st [(101,fsO r5)]]):=by unfold YR; rw [ef]; rfl
 have en:(tmP (zE neC (ZF 101 2 10 "worths" 0 f_k zb) (Jn (z0 (zD (z0 (cE (.int 0)) (z0 (cE (.int 0)) (zb)))) (z0 (zD (z0 (cE (.int 1)) (z0 (cE (.int 1)) (zb)))) (z0 (zD (z0 (cE (.int 2)) (z0 (cE (.int 2)) (zb)))) (zb))))))) [.vl (scr ns), .ow Za, .ob 101 0, .vl jr, .vl (prT 1 1), .vl (.int ((4:Nat):Int)),a4,y4, .un, .un, .st [(101,fsO r5)]]= .ok (false,[.vl (scr ns), .ow Za, .ob 101 0, .vl jr, .vl (prT 1 1), .vl (.int ((4:Nat):Int)),a4,y4, .un, .un, .st [(101,fsO r5)]]):=by unfold tmP; rw [ZM,ev]; rfl
 have g2:ifM (orM (YR neC (jJ 101 2 10 "forth" 0 f_q zb) (cE (.str "bar"))) (tmP (zE neC (ZF 101 2 10 "worths" 0 f_k zb) (Jn (z0 (zD (z0 (cE (.int 0)) (z0 (cE (.int 0)) (zb)))) (z0 (zD (z0 (cE (.int 1)) (z0 (cE (.int 1)) (zb)))) (z0 (zD (z0 (cE (.int 2)) (z0 (cE (.int 2)) (zb)))) (zb)))))))) (zu (cE (.bl false))) (nxS) (EL (scr ns) 4 a4 y4)= .nx [.vl (scr ns), .ow Za, .ob 101 0, .vl jr, .vl (prT 1 1), .vl (.int ((4:Nat):Int)),a4,y4, .un, .un, .st [(101,fsO r5)]]:=xM (by rw [xL em,en])
 have g3:mkS 8 10 101 1 f_i (z0 (zD (z0 (cE (.str "row")) (z0 (zD (z0 (zD (z0 (cE (.str "whole")) (z0 (cE (.int 0)) (z0 (cE (.int 19)) (zb))))) (z0 (zD (z0 (cE (.str "whole")) (z0 (Wj (cE (.int 4))) (z0 (cE (.int 20)) (zb))))) (zb)))) (zb)))) (zb)) [.vl (scr ns), .ow Za, .ob 101 0, .vl jr, .vl (prT 1 1), .vl (.int ((4:Nat):Int)),a4,y4, .un, .un, .st [(101,fsO r5)]]= .nx [.vl (scr ns), .ow Za, .ob 101 0, .vl jr, .vl (prT 1 1), .vl (.int ((4:Nat):Int)),a4,y4, .ob 101 1, .un, .st [(101,fsO r5),(101,fsO r6)]]:=by rw [va (os:=[(101,fsO r5)]) (fs:=fsO r6) (ts:=[spT 0 19 (-4) 20]) rfl (show 1=1/\8 ≠ 10/\8 < 11 by decide) rfl (jj q6)]; rfl
 have g4:Zk 9 (zD (z0 (cE (.str "row")) (z0 (zD (z0 (zD (z0 (cE (.str "whole")) (z0 (cE (.int 0)) (z0 (cE (.int 20)) (zb))))) (z0 (zD (z0 (cE (.str "whole")) (z0 (Wj (cE (.int 4))) (z0 (cE (.int 20)) (zb))))) (zb)))) (zb)))) [.vl (scr ns), .ow Za, .ob 101 0, .vl jr, .vl (prT 1 1), .vl (.int ((4:Nat):Int)),a4,y4, .ob 101 1, .un, .st [(101,fsO r5),(101,fsO r6)]]= .nx [.vl (scr ns), .ow Za, .ob 101 0, .vl jr, .vl (prT 1 1), .vl (.int ((4:Nat):Int)),a4,y4, .ob 101 1, .vl (spT 0 20 (-4) 20), .st [(101,fsO r5),(101,fsO r6)]]:=rfl
 have el:(ZF 101 8 10 "left" 0 f_g zb) [.vl (scr ns), .ow Za, .ob 101 0, .vl jr, .vl (prT 1 1), .vl (.int ((4:Nat):Int)),a4,y4, .ob 101 1, .vl (spT 0 20 (-4) 20), .st [(101,fsO r5),(101,fsO r6)]]= .ok (.int 500):=jK (n:=1) (ts:=[]) (fs:=fsO r6) (os:=[(101,fsO r5),(101,fsO r6)]) rfl nl rfl rfl (Zl ql)
 have et:(ZE [9] okX f_f (mkX 1 f_i (z0 (vE 0) (zb)))) [.vl (scr ns), .ow Za, .ob 101 0, .vl jr, .vl (prT 1 1), .vl (.int ((4:Nat):Int)),a4,y4, .ob 101 1, .vl (spT 0 20 (-4) 20), .st [(101,fsO r5),(101,fsO r6)]]= .ok (.str "too many"):=(show ZD okX f_f ((mkX 1 f_i (z0 (vE 0) (zb))) [.vl (spT 0 20 (-4) 20)])= .ok (.str "too many") from Zl tdW)
 have g5:orT (zE neC (ZF 101 8 10 "left" 0 f_g zb) (cE (.int 500))) (zE neC (ZE [9] okX f_f (mkX 1 f_i (z0 (vE 0) (zb)))) (cE (.str "too many"))) [.vl (scr ns), .ow Za, .ob 101 0, .vl jr, .vl (prT 1 1), .vl (.int ((4:Nat):Int)),a4,y4, .ob 101 1, .vl (spT 0 20 (-4) 20), .st [(101,fsO r5),(101,fsO r6)]]= .ok false:=by rw [xK (by rw [ZM,el]; rfl),ZM,et]; rfl
 have er:(ZE [] okX f_f (zf 1 f_v (z0 (cE (.str "(0..20 -4..20)\n")) (zb)))) [.vl (scr ns), .ow Za, .ob 101 0, .vl jr, .vl (prT 1 1), .vl (.int ((4:Nat):Int)),a4,y4, .ob 101 1, .vl (spT 0 20 (-4) 20), .st [(101,fsO r5),(101,fsO r6)]]= .ok (.str "no text"):=(show ZD okX f_f ((zf 1 f_v (z0 (cE (.str "(0..20 -4..20)\n")) (zb))) [])= .ok (.str "no text") from Zl tdR)
 have g6:zE neC (ZE [] okX f_f (zf 1 f_v (z0 (cE (.str "(0..20 -4..20)\n")) (zb)))) (cE (.str "no text")) [.vl (scr ns), .ow Za, .ob 101 0, .vl jr, .vl (prT 1 1), .vl (.int ((4:Nat):Int)),a4,y4, .ob 101 1, .vl (spT 0 20 (-4) 20), .st [(101,fsO r5),(101,fsO r6)]]= .ok false:=by rw [ZM,er]; rfl
 have g7:(Yx 101 2 10 0 f_n (zb)) [.vl (scr ns), .ow Za, .ob 101 0, .vl jr, .vl (prT 1 1), .vl (.int ((4:Nat):Int)),a4,y4, .ob 101 1, .vl (spT 0 20 (-4) 20), .st [(101,fsO r5),(101,fsO r6)]]= .ok (.str "(0..2 0..2)\nkeep rising\nbar unlike\n",[.vl (scr ns), .ow Za, .ob 101 0, .vl jr, .vl (prT 1 1), .vl (.int ((4:Nat):Int)),a4,y4, .ob 101 1, .vl (spT 0 20 (-4) 20), .st [(101,fsO r7),(101,fsO r6)]]):=vb (n:=0) (ts:=[]) (fs:=fsO r5) (os:=[(101,fsO r5),(101,fsO r6)]) rfl rfl rfl (jj q7)
 have g8:QZ (cmM eqC (Yx 101 2 10 0 f_n (zb)) (uQ (cE (.str "(0..2 0..2)\nkeep rising\nbar unlike\n")))) [.vl (scr ns), .ow Za, .ob 101 0, .vl jr, .vl (prT 1 1), .vl (.int ((4:Nat):Int)),a4,y4, .ob 101 1, .vl (spT 0 20 (-4) 20), .st [(101,fsO r5),(101,fsO r6)]]= .rt (.bl true):=by unfold QZ cmM; rw [g7]; rfl
 show zn (b_0 _ _ _ _ _ _ _ _ _ _ _ _ _ _ [.vl (scr ns), .un, .un, .un, .un, .un, .un, .un, .un, .un, .st []])=_
 rw [b_0,zN d0,zN d1,zN d2,zN d3,zN d4,zN d5,zN d6,zN dl,zN (UC g1),zN g2,zN g3,zN g4,zN (UC g5),zN (UC g6),g8]
 rfl
end G
namespace G
open PySem PySem.Spec PyProof.Rows L2 PV
def top (i:Nat):Stmt:=PySem.Challenge.pw_worthkinds_k84_sieves_refused.main.body.getD i (.Pass ⟨0,0,0,0⟩)
def ZZ (s:Stmt) (j:Nat):Stmt:=match s with
 | .ClassDef _ _ _ b _ _ _ _ _ _ _=>b.getD j (.Pass ⟨0,0,0,0⟩)
 | s=>s
abbrev s_a:Stmt:=top 14
abbrev N_a:List Str:=["thing"]
theorem kY:za N_a ["thing"] (z9 s_a):=by refine ⟨rfl,rfl,rfl, ?_,rfl, ?_, ?_⟩ <;> decide+kernel
abbrev kZ:Stmt:=top 17
abbrev gW:List Str:=["low","high","least","most"]
theorem ve:za gW ["low","high","least","most"] (z9 kZ):=by refine ⟨rfl,rfl,rfl, ?_,rfl, ?_, ?_⟩ <;> decide+kernel
abbrev J4:Stmt:=top 19
abbrev K0:Stmt:=top 15
abbrev gX:List Str:=["thing","least","most"]
theorem vf:za gX ["thing","least","most"] (z9 K0):=by refine ⟨rfl,rfl,rfl, ?_,rfl, ?_, ?_⟩ <;> decide+kernel
abbrev s_7:Stmt:=top 18
abbrev N_7:List Str:=["thing","levels"]
theorem K1:za N_7 ["thing","levels"] (z9 s_7):=by refine ⟨rfl,rfl,rfl, ?_,rfl, ?_, ?_⟩ <;> decide+kernel
abbrev xO:Stmt:=top 21
abbrev K2:List Str:=["thing","levels"]
theorem vg:za K2 ["thing","levels"] (z9 xO):=by refine ⟨rfl,rfl,rfl, ?_,rfl, ?_, ?_⟩ <;> decide+kernel
abbrev s_1:Stmt:=top 12
abbrev N_1:List Str:=["thing"]
theorem K3:za N_1 ["thing"] (z9 s_1):=by refine ⟨rfl,rfl,rfl, ?_,rfl, ?_, ?_⟩ <;> decide+kernel
abbrev s_o:Stmt:=top 13
abbrev N_o:List Str:=["kind"]
theorem K4:za N_o ["kind"] (z9 s_o):=by refine ⟨rfl,rfl,rfl, ?_,rfl, ?_, ?_⟩ <;> decide+kernel
abbrev jk:Stmt:=top 28
abbrev s_2:Stmt:=top 26
abbrev N_2:List Str:=["kind"]
theorem K5:za N_2 ["kind"] (z9 s_2):=by refine ⟨rfl,rfl,rfl, ?_,rfl, ?_, ?_⟩ <;> decide+kernel
abbrev K6:Stmt:=top 27
abbrev gY:List Str:=["kinds","count","kind"]
theorem vh:za gY ["kinds"] (z9 K6):=by refine ⟨rfl,rfl,rfl, ?_,rfl, ?_, ?_⟩ <;> decide+kernel
abbrev jl:Stmt:=top 22
abbrev uJ:Stmt:=top 30
abbrev s_d:Stmt:=top 29
abbrev N_d:List Str:=["kind","number"]
theorem K7:za N_d ["kind","number"] (z9 s_d):=by refine ⟨rfl,rfl,rfl, ?_,rfl, ?_, ?_⟩ <;> decide+kernel
abbrev K8:Stmt:=top 31
abbrev gZ:List Str:=["kinds","number","parts","rest","kind","count"]
theorem vi:za gZ ["kinds","number"] (z9 K8):=by refine ⟨rfl,rfl,rfl, ?_,rfl, ?_, ?_⟩ <;> decide+kernel
abbrev s_y:Stmt:=top 25
abbrev N_y:List Str:=["kind","count"]
theorem K9:za N_y ["kind"] (z9 s_y):=by refine ⟨rfl,rfl,rfl, ?_,rfl, ?_, ?_⟩ <;> decide+kernel
abbrev s_i:Stmt:=ZZ (top 77) 0
abbrev N_i:List Str:=["self","kind","?"]
theorem Ka:za N_i ["self","kind"] (z9 s_i):=by refine ⟨rfl,rfl,rfl, ?_,rfl, ?_, ?_⟩ <;> decide+kernel
abbrev Kb:Stmt:=top 48
abbrev G1:List Str:=["thing"]
theorem vj:za G1 ["thing"] (z9 Kb):=by refine ⟨rfl,rfl,rfl, ?_,rfl, ?_, ?_⟩ <;> decide+kernel
abbrev xP:Stmt:=top 16
abbrev Kc:List Str:=["thing"]
theorem vk:za Kc ["thing"] (z9 xP):=by refine ⟨rfl,rfl,rfl, ?_,rfl, ?_, ?_⟩ <;> decide+kernel
abbrev s_j:Stmt:=top 47
abbrev N_j:List Str:=["thing","levels"]
theorem Kd:za N_j ["thing","levels"] (z9 s_j):=by refine ⟨rfl,rfl,rfl, ?_,rfl, ?_, ?_⟩ <;> decide+kernel
abbrev s_3:Stmt:=top 45
abbrev N_3:List Str:=["thing"]
theorem Ke:za N_3 ["thing"] (z9 s_3):=by refine ⟨rfl,rfl,rfl, ?_,rfl, ?_, ?_⟩ <;> decide+kernel
abbrev s_h:Stmt:=top 46
abbrev N_h:List Str:=["rule"]
theorem Kf:za N_h ["rule"] (z9 s_h):=by refine ⟨rfl,rfl,rfl, ?_,rfl, ?_, ?_⟩ <;> decide+kernel
abbrev s_g:Stmt:=ZZ (top 77) 3
abbrev N_g:List Str:=["self","?"]
theorem Kg:za N_g ["self"] (z9 s_g):=by refine ⟨rfl,rfl,rfl, ?_,rfl, ?_, ?_⟩ <;> decide+kernel
abbrev s_8:Stmt:=top 52
abbrev N_8:List Str:=["worth","leaves","part"]
theorem Kh:za N_8 ["worth"] (z9 s_8):=by refine ⟨rfl,rfl,rfl, ?_,rfl, ?_, ?_⟩ <;> decide+kernel
abbrev s_w:Stmt:=top 53
abbrev N_w:List Str:=["worth"]
theorem Ki:za N_w ["worth"] (z9 s_w):=by refine ⟨rfl,rfl,rfl, ?_,rfl, ?_, ?_⟩ <;> decide+kernel
abbrev Kj:Stmt:=top 51
abbrev G2:List Str:=["worth"]
theorem vm:za G2 ["worth"] (z9 Kj):=by refine ⟨rfl,rfl,rfl, ?_,rfl, ?_, ?_⟩ <;> decide+kernel
abbrev s_z:Stmt:=top 54
abbrev N_z:List Str:=["numbers"]
theorem Kk:za N_z ["numbers"] (z9 s_z):=by refine ⟨rfl,rfl,rfl, ?_,rfl, ?_, ?_⟩ <;> decide+kernel
abbrev xQ:Stmt:=top 55
abbrev Kl:List Str:=["parts"]
theorem vn:za Kl ["parts"] (z9 xQ):=by refine ⟨rfl,rfl,rfl, ?_,rfl, ?_, ?_⟩ <;> decide+kernel
abbrev Km:Stmt:=top 50
abbrev G4:List Str:=["rule","worth"]
theorem vo:za G4 ["rule","worth"] (z9 Km):=by refine ⟨rfl,rfl,rfl, ?_,rfl, ?_, ?_⟩ <;> decide+kernel
abbrev s_e:Stmt:=top 49
abbrev N_e:List Str:=["rule","worth"]
theorem Kn:za N_e ["rule","worth"] (z9 s_e):=by refine ⟨rfl,rfl,rfl, ?_,rfl, ?_, ?_⟩ <;> decide+kernel
abbrev xR:Stmt:=top 80
abbrev Ko:List Str:=["step","worths","is_keep"]
theorem vp:za Ko ["step","worths"] (z9 xR):=by refine ⟨rfl,rfl,rfl, ?_,rfl, ?_, ?_⟩ <;> decide+kernel
abbrev s_l:Stmt:=ZZ (top 77) 13
abbrev N_l:List Str:=["self","step","?"]
theorem Kp:za N_l ["self","step"] (z9 s_l):=by refine ⟨rfl,rfl,rfl, ?_,rfl, ?_, ?_⟩ <;> decide+kernel
abbrev s_4:Stmt:=ZZ (top 77) 12
abbrev N_4:List Str:=["self","word","rule","before","?"]
theorem vT:za N_4 ["self","word","rule"] (z9 s_4):=by refine ⟨rfl,rfl,rfl, ?_,rfl, ?_, ?_⟩ <;> decide+kernel
abbrev s_5:Stmt:=ZZ (top 77) 1
abbrev N_5:List Str:=["self","rule","?"]
theorem vU:za N_5 ["self","rule"] (z9 s_5):=by refine ⟨rfl,rfl,rfl, ?_,rfl, ?_, ?_⟩ <;> decide+kernel
abbrev s_6:Stmt:=ZZ (top 77) 2
abbrev N_6:List Str:=["self","rule","?"]
theorem vV:za N_6 ["self","rule"] (z9 s_6):=by refine ⟨rfl,rfl,rfl, ?_,rfl, ?_, ?_⟩ <;> decide+kernel
abbrev s_r:Stmt:=ZZ (top 77) 8
abbrev N_r:List Str:=["self","step","?"]
theorem Kq:za N_r ["self"] (z9 s_r):=by refine ⟨rfl,rfl,rfl, ?_,rfl, ?_, ?_⟩ <;> decide+kernel
abbrev s_k:Stmt:=ZZ (top 77) 4
abbrev N_k:List Str:=["self","?"]
theorem Kr:za N_k ["self"] (z9 s_k):=by refine ⟨rfl,rfl,rfl, ?_,rfl, ?_, ?_⟩ <;> decide+kernel
abbrev s_m:Stmt:=ZZ (top 77) 10
abbrev N_m:List Str:=["self","?"]
theorem Ks:za N_m ["self"] (z9 s_m):=by refine ⟨rfl,rfl,rfl, ?_,rfl, ?_, ?_⟩ <;> decide+kernel
abbrev s_x:Stmt:=top 84
abbrev N_x:List Str:=["_law_script","_law_k"]
theorem Kt:za N_x ["_law_script","_law_k"] (z9 s_x):=by refine ⟨rfl,rfl,rfl, ?_,rfl, ?_, ?_⟩ <;> decide+kernel
abbrev s_s:Stmt:=top 85
abbrev N_s:List Str:=["_law_script","_law_k","_law_many","_law_drawn"]
theorem Ku:za N_s ["_law_script","_law_k","_law_many"] (z9 s_s):=by refine ⟨rfl,rfl,rfl, ?_,rfl, ?_, ?_⟩ <;> decide+kernel
abbrev s_f:Stmt:=top 86
abbrev N_f:List Str:=["_law_kept","_law_kinds"]
theorem Kv:za N_f ["_law_kept"] (z9 s_f):=by refine ⟨rfl,rfl,rfl, ?_,rfl, ?_, ?_⟩ <;> decide+kernel
abbrev s_p:Stmt:=top 57
abbrev N_p:List Str:=["thing"]
theorem Kw:za N_p ["thing"] (z9 s_p):=by refine ⟨rfl,rfl,rfl, ?_,rfl, ?_, ?_⟩ <;> decide+kernel
abbrev Kx:Stmt:=top 81
abbrev G5:List Str:=["text"]
theorem vq:za G5 ["text"] (z9 Kx):=by refine ⟨rfl,rfl,rfl, ?_,rfl, ?_, ?_⟩ <;> decide+kernel
abbrev wf:Stmt:=top 71
abbrev Ky:Stmt:=top 58
abbrev G6:List Str:=["text","opening","closing"]
theorem vt:za G6 ["text","opening","closing"] (z9 Ky):=by refine ⟨rfl,rfl,rfl, ?_,rfl, ?_, ?_⟩ <;> decide+kernel
abbrev Kz:Stmt:=top 59
abbrev G7:List Str:=["text","mark","pieces","begin","depth","place","sign"]
theorem vv:za G7 ["text","mark"] (z9 Kz):=by refine ⟨rfl,rfl,rfl, ?_,rfl, ?_, ?_⟩ <;> decide+kernel
abbrev KA:Stmt:=top 73
abbrev G8:List Str:=["text","number"]
theorem vw:za G8 ["text"] (z9 KA):=by refine ⟨rfl,rfl,rfl, ?_,rfl, ?_, ?_⟩ <;> decide+kernel
abbrev KC:Stmt:=top 72
abbrev G9:List Str:=["text","halves"]
theorem vx:za G9 ["text"] (z9 KC):=by refine ⟨rfl,rfl,rfl, ?_,rfl, ?_, ?_⟩ <;> decide+kernel
abbrev s_b:Stmt:=top 70
abbrev N_b:List Str:=["text","levels","pieces","halves"]
theorem KD:za N_b ["text","levels"] (z9 s_b):=by refine ⟨rfl,rfl,rfl, ?_,rfl, ?_, ?_⟩ <;> decide+kernel
abbrev KG:Stmt:=top 63
abbrev Ga:List Str:=["text","kind"]
theorem vy:za Ga ["text"] (z9 KG):=by refine ⟨rfl,rfl,rfl, ?_,rfl, ?_, ?_⟩ <;> decide+kernel
abbrev s_v:Stmt:=top 79
abbrev N_v:List Str:=["text","lines","kind","sieve","step"]
theorem KH:za N_v ["text"] (z9 s_v):=by refine ⟨rfl,rfl,rfl, ?_,rfl, ?_, ?_⟩ <;> decide+kernel
abbrev jm:Stmt:=top 87
abbrev wg:List Str:=["_law_deed","e"]
theorem JH:za wg ["_law_deed"] (z9 jm):=by refine ⟨rfl,rfl,rfl, ?_,rfl, ?_, ?_⟩ <;> decide+kernel
abbrev s_q:Stmt:=ZZ (top 77) 9
abbrev N_q:List Str:=["self","step","?"]
theorem KI:za N_q ["self"] (z9 s_q):=by refine ⟨rfl,rfl,rfl, ?_,rfl, ?_, ?_⟩ <;> decide+kernel
abbrev KJ:Stmt:=top 67
abbrev Gb:List Str:=["low","high"]
theorem vz:za Gb ["low","high"] (z9 KJ):=by refine ⟨rfl,rfl,rfl, ?_,rfl, ?_, ?_⟩ <;> decide+kernel
abbrev s_9:Stmt:=top 66
abbrev N_9:List Str:=["kind"]
theorem KK:za N_9 ["kind"] (z9 s_9):=by refine ⟨rfl,rfl,rfl, ?_,rfl, ?_, ?_⟩ <;> decide+kernel
abbrev KL:Stmt:=top 62
abbrev Gc:List Str:=["kind"]
theorem vA:za Gc ["kind"] (z9 KL):=by refine ⟨rfl,rfl,rfl, ?_,rfl, ?_, ?_⟩ <;> decide+kernel
abbrev s_u:Stmt:=ZZ (top 77) 6
abbrev N_u:List Str:=["self","?"]
theorem KM:za N_u ["self"] (z9 s_u):=by refine ⟨rfl,rfl,rfl, ?_,rfl, ?_, ?_⟩ <;> decide+kernel
abbrev KN:Stmt:=top 69
abbrev Gd:List Str:=["word"]
theorem vC:za Gd ["word"] (z9 KN):=by refine ⟨rfl,rfl,rfl, ?_,rfl, ?_, ?_⟩ <;> decide+kernel
abbrev s_c:Stmt:=top 68
abbrev N_c:List Str:=["rule"]
theorem KO:za N_c ["rule"] (z9 s_c):=by refine ⟨rfl,rfl,rfl, ?_,rfl, ?_, ?_⟩ <;> decide+kernel
abbrev KP:Stmt:=top 64
abbrev Ge:List Str:=["rule"]
theorem vD:za Ge ["rule"] (z9 KP):=by refine ⟨rfl,rfl,rfl, ?_,rfl, ?_, ?_⟩ <;> decide+kernel
abbrev s_t:Stmt:=ZZ (top 77) 7
abbrev N_t:List Str:=["self","?"]
theorem KQ:za N_t ["self"] (z9 s_t):=by refine ⟨rfl,rfl,rfl, ?_,rfl, ?_, ?_⟩ <;> decide+kernel
abbrev s_n:Stmt:=top 78
abbrev N_n:List Str:=["sieve","lines","?"]
theorem KR:za N_n ["sieve"] (z9 s_n):=by refine ⟨rfl,rfl,rfl, ?_,rfl, ?_, ?_⟩ <;> decide+kernel
abbrev s_0:Stmt:=top 88
abbrev N_0:List Str:=["_law_script","_law_odd","_law_sieve","_law_here","_law_steps","_law_k","_law_rule","_law_told_here","_law_full","_law_wide","?"]
theorem KS:za N_0 ["_law_script"] (z9 s_0):=by refine ⟨rfl,rfl,rfl, ?_,rfl, ?_, ?_⟩ <;> decide+kernel
structure Fn (K:PySem.W.Frag) (mg:Str->Option Value) (x:Str) (st:Stmt) (ps:List Str) (f:Addr) (fd:FuncData):Prop where
 F:Fun K x x st f fd
 b:L2.Binds K fd ps []
 m:mg x=some (.ref f)
abbrev uR:List Value:=[.type "ValueError", .type "Exception", .type "BaseException", .type "object"]
structure FnO (K:PySem.W.Frag) (x qual:Str) (st:Stmt) (ps:List Str) (f:Addr) (fd:FuncData) (C:Addr):Prop where
 F:Fun K x qual st f fd
 b:L2.Binds K fd ps []
 m:L2.Meth K C x f
structure wP (K:PySem.W.Frag) (mg:Str->Option Value) (C:Addr) (a_i:Addr) (d_i:FuncData) (a_g:Addr) (d_g:FuncData) (a_l:Addr) (d_l:FuncData) (a_4:Addr) (d_4:FuncData) (a_5:Addr) (d_5:FuncData) (a_6:Addr) (d_6:FuncData) (a_r:Addr) (d_r:FuncData) (a_k:Addr) (d_k:FuncData) (a_m:Addr) (d_m:FuncData) (a_q:Addr) (d_q:FuncData) (a_u:Addr) (d_u:FuncData) (a_t:Addr) (d_t:FuncData):Prop where
 l:PySem.W.nsIn K mainGlobals "Sieve"=some (some (.ref C))
 g:mg "Sieve"=some (.ref C)
 c:L2.Cls K C
 M:L2.Mk K C a_i
 n_kind:L2.NoAttr K C "kind"
 n_remaining:L2.NoAttr K C "remaining"
 n_done:L2.NoAttr K C "done"
 n_undone:L2.NoAttr K C "undone"
 C_init:FnO K "__init__" "Sieve.__init__" s_i ["self","kind"] a_i d_i C
 C_left:FnO K "left" "Sieve.left" s_g ["self"] a_g d_g C
 C_do_step:FnO K "do_step" "Sieve.do_step" s_l ["self","step"] a_l d_l C
 C_new_step:FnO K "new_step" "Sieve.new_step" s_4 ["self","word","rule"] a_4 d_4 C
 C_keep:FnO K "keep" "Sieve.keep" s_5 ["self","rule"] a_5 d_5 C
 C_bar:FnO K "bar" "Sieve.bar" s_6 ["self","rule"] a_6 d_6 C
 C_back:FnO K "back" "Sieve.back" s_r ["self"] a_r d_r C
 C_worths:FnO K "worths" "Sieve.worths" s_k ["self"] a_k d_k C
 C_counts:FnO K "counts" "Sieve.counts" s_m ["self"] a_m d_m C
 C_forth:FnO K "forth" "Sieve.forth" s_q ["self"] a_q d_q C
 C_base:FnO K "base" "Sieve.base" s_u ["self"] a_u d_u C
 C_steps:FnO K "steps" "Sieve.steps" s_t ["self"] a_t d_t C
set_option genInjectivity false in
set_option genSizeOf false in
structure Tx (K:PySem.W.Frag) (mg:Str->Option Value) where
 B_Sieve:Addr
 a_i:Addr
 d_i:FuncData
 a_g:Addr
 d_g:FuncData
 a_l:Addr
 d_l:FuncData
 a_4:Addr
 d_4:FuncData
 a_5:Addr
 d_5:FuncData
 a_6:Addr
 d_6:FuncData
 a_r:Addr
 d_r:FuncData
 a_k:Addr
 d_k:FuncData
 a_m:Addr
 d_m:FuncData
 a_q:Addr
 d_q:FuncData
 a_u:Addr
 d_u:FuncData
 a_t:Addr
 d_t:FuncData
 S_Sieve:wP K mg B_Sieve a_i d_i a_g d_g a_l d_l a_4 d_4 a_5 d_5 a_6 d_6 a_r d_r a_k d_k a_m d_m a_q d_q a_u d_u a_t d_t
 a_a:Addr
 d_a:FuncData
 C_a:Fn K mg "is_whole" s_a ["thing"] a_a d_a
 a_19:Addr
 d_19:FuncData
 C_19:Fn K mg "is_span" kZ ["low","high","least","most"] a_19 d_19
 a_are_choices:Addr
 d_are_choices:FuncData
 C_are_choices:Fn K mg "are_choices" J4 ["thing"] a_are_choices d_are_choices
 a_1e:Addr
 d_1e:FuncData
 C_1e:Fn K mg "is_tuple_of" K0 ["thing","least","most"] a_1e d_1e
 a_7:Addr
 d_7:FuncData
 C_7:Fn K mg "is_kind_within" s_7 ["thing","levels"] a_7 d_7
 a_13:Addr
 d_13:FuncData
 C_13:Fn K mg "are_kinds_within" xO ["thing","levels"] a_13 d_13
 a_1:Addr
 d_1:FuncData
 C_1:Fn K mg "is_kind" s_1 ["thing"] a_1 d_1
 a_o:Addr
 d_o:FuncData
 C_o:Fn K mg "need_kind" s_o ["kind"] a_o d_o
 a_count_shorter:Addr
 d_count_shorter:FuncData
 C_count_shorter:Fn K mg "count_shorter" jk ["kind","length"] a_count_shorter d_count_shorter
 a_2:Addr
 d_2:FuncData
 C_2:Fn K mg "count_of" s_2 ["kind"] a_2 d_2
 a_1j:Addr
 d_1j:FuncData
 C_1j:Fn K mg "count_of_parts" K6 ["kinds"] a_1j d_1j
 a_words_of_pick:Addr
 d_words_of_pick:FuncData
 C_words_of_pick:Fn K mg "words_of_pick" jl ["kind"] a_words_of_pick d_words_of_pick
 a_many_at:Addr
 d_many_at:FuncData
 C_many_at:Fn K mg "many_at" uJ ["kind","number"] a_many_at d_many_at
 a_d:Addr
 d_d:FuncData
 C_d:Fn K mg "worth_at" s_d ["kind","number"] a_d d_d
 a_1k:Addr
 d_1k:FuncData
 C_1k:Fn K mg "parts_at" K8 ["kinds","number"] a_1k d_1k
 a_y:Addr
 d_y:FuncData
 C_y:Fn K mg "all_worths" s_y ["kind"] a_y d_y
 a_17:Addr
 d_17:FuncData
 C_17:Fn K mg "is_bound" Kb ["thing"] a_17 d_17
 a_11:Addr
 d_11:FuncData
 C_11:Fn K mg "is_word" xP ["thing"] a_11 d_11
 a_j:Addr
 d_j:FuncData
 C_j:Fn K mg "is_rule_within" s_j ["thing","levels"] a_j d_j
 a_3:Addr
 d_3:FuncData
 C_3:Fn K mg "is_rule" s_3 ["thing"] a_3 d_3
 a_h:Addr
 d_h:FuncData
 C_h:Fn K mg "need_rule" s_h ["rule"] a_h d_h
 a_8:Addr
 d_8:FuncData
 C_8:Fn K mg "leaves_of" s_8 ["worth"] a_8 d_8
 a_w:Addr
 d_w:FuncData
 C_w:Fn K mg "numbers_in" s_w ["worth"] a_w d_w
 a_18:Addr
 d_18:FuncData
 C_18:Fn K mg "parts_of" Kj ["worth"] a_18 d_18
 a_z:Addr
 d_z:FuncData
 C_z:Fn K mg "are_rising" s_z ["numbers"] a_z d_z
 a_10:Addr
 d_10:FuncData
 C_10:Fn K mg "are_unlike" xQ ["parts"] a_10 d_10
 a_1b:Addr
 d_1b:FuncData
 C_1b:Fn K mg "is_single_kept" Km ["rule","worth"] a_1b d_1b
 a_e:Addr
 d_e:FuncData
 C_e:Fn K mg "is_kept" s_e ["rule","worth"] a_e d_e
 a_12:Addr
 d_12:FuncData
 C_12:Fn K mg "left_by" xR ["step","worths"] a_12 d_12
 a_x:Addr
 d_x:FuncData
 C_x:Fn K mg "_law_cell" s_x ["_law_script","_law_k"] a_x d_x
 a_s:Addr
 d_s:FuncData
 C_s:Fn K mg "_law_pick" s_s ["_law_script","_law_k","_law_many"] a_s d_s
 a_f:Addr
 d_f:FuncData
 C_f:Fn K mg "_law_class" s_f ["_law_kept"] a_f d_f
 a_p:Addr
 d_p:FuncData
 C_p:Fn K mg "need_text" s_p ["thing"] a_p d_p
 a_1i:Addr
 d_1i:FuncData
 C_1i:Fn K mg "lines_in" Kx ["text"] a_1i d_1i
 a_choice_in:Addr
 d_choice_in:FuncData
 C_choice_in:Fn K mg "choice_in" wf ["text"] a_choice_in d_choice_in
 a_15:Addr
 d_15:FuncData
 C_15:Fn K mg "text_inside" Ky ["text","opening","closing"] a_15 d_15
 a_1c:Addr
 d_1c:FuncData
 C_1c:Fn K mg "pieces_between" Kz ["text","mark"] a_1c d_1c
 a_16:Addr
 d_16:FuncData
 C_16:Fn K mg "number_in" KA ["text"] a_16 d_16
 a_1a:Addr
 d_1a:FuncData
 C_1a:Fn K mg "span_in" KC ["text"] a_1a d_1a
 a_b:Addr
 d_b:FuncData
 C_b:Fn K mg "kind_in" s_b ["text","levels"] a_b d_b
 a_1g:Addr
 d_1g:FuncData
 C_1g:Fn K mg "read_kind" KG ["text"] a_1g d_1g
 a_v:Addr
 d_v:FuncData
 C_v:Fn K mg "read_sieve" s_v ["text"] a_v d_v
 a__law_told:Addr
 d__law_told:FuncData
 C__law_told:Fn K mg "_law_told" jm ["_law_deed"] a__law_told d__law_told
 a_14:Addr
 d_14:FuncData
 C_14:Fn K mg "span_written" KJ ["low","high"] a_14 d_14
 a_9:Addr
 d_9:FuncData
 C_9:Fn K mg "kind_written" s_9 ["kind"] a_9 d_9
 a_1f:Addr
 d_1f:FuncData
 C_1f:Fn K mg "kind_text" KL ["kind"] a_1f d_1f
 a_1d:Addr
 d_1d:FuncData
 C_1d:Fn K mg "is_of_rules" KN ["word"] a_1d d_1d
 a_c:Addr
 d_c:FuncData
 C_c:Fn K mg "rule_written" s_c ["rule"] a_c d_c
 a_1h:Addr
 d_1h:FuncData
 C_1h:Fn K mg "rule_text" KP ["rule"] a_1h d_1h
 a_n:Addr
 d_n:FuncData
 C_n:Fn K mg "sieve_text" s_n ["sieve"] a_n d_n
 a_0:Addr
 d_0:FuncData
 C_0:Fn K mg "law" s_0 ["_law_script"] a_0 d_0
 k_law:Addr
 P_law:Addr
 e_law:d_0.code= .ref k_law
 h_law:PySem.W.codeHdIn K k_law P_law=true
 n_law:K.lookup P_law=none
 z_ValueError:mg "ValueError"=none
 z_all:mg "all"=none
 z_any:mg "any"=none
 z_bool:mg "bool"=none
 z_enumerate:mg "enumerate"=none
 z_int:mg "int"=none
 z_isinstance:mg "isinstance"=none
 z_len:mg "len"=none
 z_list:mg "list"=none
 z_range:mg "range"=none
 z_reversed:mg "reversed"=none
 z_str:mg "str"=none
 z_sum:mg "sum"=none
 z_tuple:mg "tuple"=none
 z_zip:mg "zip"=none
 c_DEEPEST:∃ u,mg "DEEPEST"=some u/\∃ t,u=Value.int 3 t
 c_DEEPEST_RULE:∃ u,mg "DEEPEST_RULE"=some u/\∃ t,u=Value.int 3 t
 c_FARTHEST_BOUND:∃ u,mg "FARTHEST_BOUND"=some u/\∃ t,u=Value.int 50 t
 c_LONGEST_NUMBER:∃ u,mg "LONGEST_NUMBER"=some u/\∃ t,u=Value.int 3 t
 c_MOST_TOLD:∃ u,mg "MOST_TOLD"=some u/\∃ t,u=Value.int 500 t
set_option genInjectivity false in
set_option genSizeOf false in
structure Tq (K:PySem.W.Frag) (mg:Str->Option Value) (base:Heap) (cl:Nat->Value) where
 q_Ended:Addr
 q_NoBack:Addr
 q_NoKind:Addr
 q_NoRule:Addr
 q_NoText:Addr
 q_NoWorth:Addr
 q_TooMany:Addr
 q_WorthError:Addr
 X_k:XK1 K cl okX
 e_WorthError:∀ c,okX c=true->PySem.W.exmOne K (cl c) (.ref q_WorthError)=some true
 l_NoBack:cl 6= .ref q_NoBack
 l_NoKind:cl 0= .ref q_NoKind
 l_NoRule:cl 2= .ref q_NoRule
 l_NoText:cl 5= .ref q_NoText
 l_TooMany:cl 3= .ref q_TooMany
 m_Ended:mg "Ended"=some (.ref q_Ended)
 m_NoBack:mg "NoBack"=some (.ref q_NoBack)
 m_NoKind:mg "NoKind"=some (.ref q_NoKind)
 m_NoRule:mg "NoRule"=some (.ref q_NoRule)
 m_NoText:mg "NoText"=some (.ref q_NoText)
 m_NoWorth:mg "NoWorth"=some (.ref q_NoWorth)
 m_TooMany:mg "TooMany"=some (.ref q_TooMany)
 m_WorthError:mg "WorthError"=some (.ref q_WorthError)
 o_NoBack:OwnCls "NoBack" q_NoBack uR "ValueError.__new__" mg base
 o_NoKind:OwnCls "NoKind" q_NoKind uR "ValueError.__new__" mg base
 o_NoRule:OwnCls "NoRule" q_NoRule uR "ValueError.__new__" mg base
 o_NoText:OwnCls "NoText" q_NoText uR "ValueError.__new__" mg base
 o_TooMany:OwnCls "TooMany" q_TooMany uR "ValueError.__new__" mg base
 t_Ended:∀ c,okX c=true->PySem.W.kitOne K (cl c) (.ref q_Ended)=some (jh c)
 t_NoBack:∀ c,okX c=true->PySem.W.kitOne K (cl c) (.ref q_NoBack)=some (ZL c)
 t_NoKind:∀ c,okX c=true->PySem.W.kitOne K (cl c) (.ref q_NoKind)=some (ZI c)
 t_NoRule:∀ c,okX c=true->PySem.W.kitOne K (cl c) (.ref q_NoRule)=some (ZJ c)
 t_NoText:∀ c,okX c=true->PySem.W.kitOne K (cl c) (.ref q_NoText)=some (ZK c)
 t_NoWorth:∀ c,okX c=true->PySem.W.kitOne K (cl c) (.ref q_NoWorth)=some (Zp c)
 t_TooMany:∀ c,okX c=true->PySem.W.kitOne K (cl c) (.ref q_TooMany)=some (Zq c)
 t_ValueError:∀ c,okX c=true->PySem.W.kitOne K (cl c) (.type "ValueError")=some (Z1 c)
section
variable (P:Program) (w:World) {K:PySem.W.Frag} {mg:Str->Option Value} (base:Heap) (cl:Nat->Value) (tx:Tx K mg) (k:Nat) (c:List T->R T)
abbrev Q_a:Prop:=zq P w K mg base CX0 k tx.a_a tx.d_a ["thing"] (spP cl 1 c)
abbrev xS:Prop:=zq P w K mg base CX0 k tx.a_19 tx.d_19 ["low","high","least","most"] (spP cl 4 c)
abbrev Zy:Prop:=zq P w K mg base CX0 k tx.a_are_choices tx.d_are_choices ["thing"] (spP cl 1 c)
abbrev xT:Prop:=zq P w K mg base CX0 k tx.a_1e tx.d_1e ["thing","least","most"] (spP cl 3 c)
abbrev Q_7:Prop:=zq P w K mg base CX0 k tx.a_7 tx.d_7 ["thing","levels"] (spP cl 2 c)
abbrev vW:Prop:=zq P w K mg base CX0 k tx.a_13 tx.d_13 ["thing","levels"] (spP cl 2 c)
abbrev Q_1:Prop:=zq P w K mg base CX0 k tx.a_1 tx.d_1 ["thing"] (spP cl 1 c)
abbrev Q_o:Prop:=zq P w K mg base (CX1 P w) k tx.a_o tx.d_o ["kind"] (spP cl 1 c)
abbrev Zb:Prop:=zq P w K mg base CX0 k tx.a_count_shorter tx.d_count_shorter ["kind","length"] (spP cl 2 c)
abbrev Q_2:Prop:=zq P w K mg base CX0 k tx.a_2 tx.d_2 ["kind"] (spP cl 1 c)
abbrev vX:Prop:=zq P w K mg base CX0 k tx.a_1j tx.d_1j ["kinds"] (spP cl 1 c)
abbrev Zc:Prop:=zq P w K mg base CX0 k tx.a_words_of_pick tx.d_words_of_pick ["kind"] (spP cl 1 c)
abbrev JI:Prop:=zq P w K mg base CX0 k tx.a_many_at tx.d_many_at ["kind","number"] (spP cl 2 c)
abbrev Q_d:Prop:=zq P w K mg base CX0 k tx.a_d tx.d_d ["kind","number"] (spP cl 2 c)
abbrev vY:Prop:=zq P w K mg base CX0 k tx.a_1k tx.d_1k ["kinds","number"] (spP cl 2 c)
abbrev Q_y:Prop:=zq P w K mg base (CX1 P w) k tx.a_y tx.d_y ["kind"] (spP cl 1 c)
abbrev Q_i (c:List (Str×Fd)->List T->R (T×List (Str×Fd))):Prop:=zq P w K mg base (CX1 P w) k tx.a_i tx.d_i ["self","kind"] (spM cl 101 1 c)
abbrev xU:Prop:=zq P w K mg base CX0 k tx.a_17 tx.d_17 ["thing"] (spP cl 1 c)
abbrev xV:Prop:=zq P w K mg base CX0 k tx.a_11 tx.d_11 ["thing"] (spP cl 1 c)
abbrev Q_j:Prop:=zq P w K mg base CX0 k tx.a_j tx.d_j ["thing","levels"] (spP cl 2 c)
abbrev Q_3:Prop:=zq P w K mg base CX0 k tx.a_3 tx.d_3 ["thing"] (spP cl 1 c)
abbrev Q_h:Prop:=zq P w K mg base (CX1 P w) k tx.a_h tx.d_h ["rule"] (spP cl 1 c)
abbrev Q_g (c:List (Str×Fd)->List T->R T):Prop:=zq P w K mg base (CX1 P w) k tx.a_g tx.d_g ["self"] (spQ cl 101 0 c)
abbrev Q_8:Prop:=zq P w K mg base CX0 k tx.a_8 tx.d_8 ["worth"] (spP cl 1 c)
abbrev Q_w:Prop:=zq P w K mg base CX0 k tx.a_w tx.d_w ["worth"] (spP cl 1 c)
abbrev xW:Prop:=zq P w K mg base CX0 k tx.a_18 tx.d_18 ["worth"] (spP cl 1 c)
abbrev Q_z:Prop:=zq P w K mg base CX0 k tx.a_z tx.d_z ["numbers"] (spP cl 1 c)
abbrev xX:Prop:=zq P w K mg base CX0 k tx.a_10 tx.d_10 ["parts"] (spP cl 1 c)
abbrev xY:Prop:=zq P w K mg base CX0 k tx.a_1b tx.d_1b ["rule","worth"] (spP cl 2 c)
abbrev Q_e:Prop:=zq P w K mg base CX0 k tx.a_e tx.d_e ["rule","worth"] (spP cl 2 c)
abbrev xZ:Prop:=zq P w K mg base CX0 k tx.a_12 tx.d_12 ["step","worths"] (spP cl 2 c)
abbrev Q_l (c:List (Str×Fd)->List T->R (T×List (Str×Fd))):Prop:=zq P w K mg base (CX1 P w) k tx.a_l tx.d_l ["self","step"] (spM cl 101 1 c)
abbrev Q_4 (c:List (Str×Fd)->List T->R (T×List (Str×Fd))):Prop:=zq P w K mg base (CX1 P w) k tx.a_4 tx.d_4 ["self","word","rule"] (spM cl 101 2 c)
abbrev Q_5 (c:List (Str×Fd)->List T->R (T×List (Str×Fd))):Prop:=zq P w K mg base (CX1 P w) k tx.a_5 tx.d_5 ["self","rule"] (spM cl 101 1 c)
abbrev Q_6 (c:List (Str×Fd)->List T->R (T×List (Str×Fd))):Prop:=zq P w K mg base (CX1 P w) k tx.a_6 tx.d_6 ["self","rule"] (spM cl 101 1 c)
abbrev Q_r (c:List (Str×Fd)->List T->R (T×List (Str×Fd))):Prop:=zq P w K mg base (CX1 P w) k tx.a_r tx.d_r ["self"] (spM cl 101 0 c)
abbrev Q_k (c:List (Str×Fd)->List T->R T):Prop:=zq P w K mg base (CX1 P w) k tx.a_k tx.d_k ["self"] (spQ cl 101 0 c)
abbrev Q_m (c:List (Str×Fd)->List T->R T):Prop:=zq P w K mg base (CX1 P w) k tx.a_m tx.d_m ["self"] (spQ cl 101 0 c)
abbrev Q_x:Prop:=zq P w K mg base CX0 k tx.a_x tx.d_x ["_law_script","_law_k"] (spP cl 2 c)
abbrev Q_s:Prop:=zq P w K mg base CX0 k tx.a_s tx.d_s ["_law_script","_law_k","_law_many"] (spP cl 3 c)
abbrev Q_f (c:Nat->R T):Prop:=FnM P w K mg base k tx.a_f tx.d_f ["_law_kept"] (spC cl c)
abbrev vZ (c:List T->R T):Prop:=zq P w K mg base (CX1 P w) k tx.a_4 tx.d_4 ["self","word","rule"] (spX cl 101 2 c)
abbrev X0 (c:List T->R T):Prop:=zq P w K mg base (CX1 P w) k tx.a_5 tx.d_5 ["self","rule"] (spX cl 101 1 c)
abbrev X1 (c:List T->R T):Prop:=zq P w K mg base (CX1 P w) k tx.a_6 tx.d_6 ["self","rule"] (spX cl 101 1 c)
abbrev Q_p:Prop:=zq P w K mg base (CX1 P w) k tx.a_p tx.d_p ["thing"] (spP cl 1 c)
abbrev X2:Prop:=zq P w K mg base (CX1 P w) k tx.a_1i tx.d_1i ["text"] (spP cl 1 c)
abbrev jn:Prop:=zq P w K mg base (CX1 P w) k tx.a_choice_in tx.d_choice_in ["text"] (spP cl 1 c)
abbrev X3:Prop:=zq P w K mg base (CX1 P w) k tx.a_15 tx.d_15 ["text","opening","closing"] (spP cl 3 c)
abbrev X4:Prop:=zq P w K mg base CX0 k tx.a_1c tx.d_1c ["text","mark"] (spP cl 2 c)
abbrev X5:Prop:=zq P w K mg base (CX1 P w) k tx.a_16 tx.d_16 ["text"] (spP cl 1 c)
abbrev X6:Prop:=zq P w K mg base (CX1 P w) k tx.a_1a tx.d_1a ["text"] (spP cl 1 c)
abbrev Q_b:Prop:=zq P w K mg base (CX1 P w) k tx.a_b tx.d_b ["text","levels"] (spP cl 2 c)
abbrev X7:Prop:=zq P w K mg base (CX1 P w) k tx.a_1g tx.d_1g ["text"] (spP cl 1 c)
abbrev Q_v:Prop:=zq P w K mg base (CX1 P w) k tx.a_v tx.d_v ["text"] (spP cl 1 c)
abbrev jo (c:Nat->R T):Prop:=uw P w K mg cl okX c k tx.a__law_told tx.d__law_told "_law_deed"
abbrev Q_q (c:List (Str×Fd)->List T->R (T×List (Str×Fd))):Prop:=zq P w K mg base (CX1 P w) k tx.a_q tx.d_q ["self"] (spM cl 101 0 c)
abbrev X8:Prop:=zq P w K mg base CX0 k tx.a_14 tx.d_14 ["low","high"] (spP cl 2 c)
abbrev Q_9:Prop:=zq P w K mg base CX0 k tx.a_9 tx.d_9 ["kind"] (spP cl 1 c)
abbrev X9:Prop:=zq P w K mg base (CX1 P w) k tx.a_1f tx.d_1f ["kind"] (spP cl 1 c)
abbrev Q_u (c:List (Str×Fd)->List T->R T):Prop:=zq P w K mg base (CX1 P w) k tx.a_u tx.d_u ["self"] (spQ cl 101 0 c)
abbrev Xa:Prop:=zq P w K mg base CX0 k tx.a_1d tx.d_1d ["word"] (spP cl 1 c)
abbrev Q_c:Prop:=zq P w K mg base CX0 k tx.a_c tx.d_c ["rule"] (spP cl 1 c)
abbrev Xb:Prop:=zq P w K mg base (CX1 P w) k tx.a_1h tx.d_1h ["rule"] (spP cl 1 c)
abbrev Q_t (c:List (Str×Fd)->List T->R T):Prop:=zq P w K mg base (CX1 P w) k tx.a_t tx.d_t ["self"] (spQ cl 101 0 c)
abbrev Q_n (c:List (Str×Fd)->List T->R (T×List (Str×Fd))):Prop:=zq P w K mg base (CX1 P w) k tx.a_n tx.d_n ["sieve"] (spM cl 101 0 c)
abbrev qL:Str:="law"++".<locals>."++"<lambda>"
abbrev Q_0:Prop:=zq P w K mg base (CX1 P w) k tx.a_0 tx.d_0 ["_law_script"] (YO cl 1 c tx.P_law qL)
end
theorem cZ {X:Cx} {Y:Fx} {cl:Nat->Value} {k j n:Nat} {f:Addr} {fd:FuncData} {ps:List Str} {g:List T->R T} {x:Str} {st:Stmt} {a:Expr} {es:List Expr} {ga:En->R (List T)} {p pos:Pos} (hy:Y.cl=cl) (F:zq X.prog X.w X.K X.mg X.base CX0 j f fd ps (spP cl n g)) (hr:zQ k X.A) (C:Fn X.K X.mg x st ps f fd) (ha:jp X Y (a :: es) ga) (hj:j<=k:=by omega) (gl:Gl X x:=by rfl) (hd:(x == ("__debug__":Str))=false:=by decide)
  (hs:starEach (a :: es) X.env=(false,eval a X.env) :: starEach es X.env:=by exact zp rfl) (hz:((backTo pos (starEach es X.env)).any fun x=>x.fst)=false:=by exact zA rfl):Snd X Y (.Call (.Name x p) (a :: es) [] pos) (zf n g ga):=yZ hy F hr hj gl C.m C.F.kp C.b ha hd hs hz
theorem cX {X:Cx} {Y:Fx} {cl:Nat->Value} {k j n:Nat} {f:Addr} {fd:FuncData} {ps:List Str} {g:List T->R T} {x:Str} {st:Stmt} {a:Expr} {es:List Expr} {ga:En->R (List T)} {p pos:Pos} (hy:Y.cl=cl) (hp:zz (CX1 X.prog X.w) X Y.E) (F:zq X.prog X.w X.K X.mg X.base (CX1 X.prog X.w) j f fd ps (spP cl n g)) (hr:zQ k X.A) (C:Fn X.K X.mg x st ps f fd) (ha:jp X Y (a :: es) ga) (hj:j<=k:=by omega) (gl:Gl X x:=by rfl) (hd:(x == ("__debug__":Str))=false:=by decide)
  (hs:starEach (a :: es) X.env=(false,eval a X.env) :: starEach es X.env:=by exact zp rfl) (hz:((backTo pos (starEach es X.env)).any fun x=>x.fst)=false:=by exact zA rfl):Snd X Y (.Call (.Name x p) (a :: es) [] pos) (zf n g ga):=Y0 hy hp F hr hj gl C.m C.F.kp C.b ha hd hs hz
section
variable {P:Program} {w:World} {K:PySem.W.Frag} {mg:Str->Option Value} {base:Heap} {cl:Nat->Value} {tx:Tx K mg}
set_option hygiene false
local macro_rules | `(tactic| gp_on)=> `(tactic| first
  | (show jp _ _ _ _; first
   | refine UK ?_ ?_
   | exact qK)
  | (show Snd _ _ (.Constant ..) _; first
   | exact Vl
   | exact qJ
   | exact gE
   | exact Vm)
  | (show Js _ _ _ _; first
   | refine qV ?_ ?_
   | exact VJ
   | refine VL ?_)
  | (show Snd _ _ (.Name ..) _; first
   | exact Vk _ (pv _)
   | exact jf (by rfl) c_DEEPEST.1 c_DEEPEST.2
   | exact jf (by rfl) c_MOST_TOLD.1 c_MOST_TOLD.2
   | exact jf (by rfl) c_FARTHEST_BOUND.1 c_FARTHEST_BOUND.2
   | exact jf (by rfl) c_DEEPEST_RULE.1 c_DEEPEST_RULE.2
   | exact jf (by rfl) c_LONGEST_NUMBER.1 c_LONGEST_NUMBER.2)
  | (show Zf _ _ _ _; first
   | exact qI _ (pv _)
   | exact yb (pv _) (by rw [hy]; exact xo_Sieve) tx.S_Sieve.c tx.S_Sieve.n_done
   | exact yb (pv _) (by rw [hy]; exact xo_Sieve) tx.S_Sieve.c tx.S_Sieve.n_undone
   | refine Snd.b ?_)
  | (show ZQ _ _ _ _; first
   | refine VM ?_
   | refine VN ?_ ?_ ?_
   | refine qW nd (by rfl) (.inl (by rfl)) ?_
   | exact jg (c:=_) xq.o_NoText PySem.F.excBase_ValueError (by decide) PySem.F.excBase_ValueError hE (by rw [hy]; exact xq.l_NoText) (by rfl)
   | refine qY ?_
   | refine xu ?_
   | refine qX nd (by rfl) (.inl (by rfl)) ?_
   | refine Q6 PassesOwn.never (by rfl) ?_ ?_ ?_
   | refine VO (pv _) ?_
   | refine qW nd (by rfl) (.inr (by rfl)) ?_
   | exact VX
   | refine uC (pv _) (by rw [hy]; exact xo_Sieve) tx.S_Sieve.c tx.S_Sieve.n_undone ?_
   | refine VP (pv _) ?_
   | exact jg (c:=_) xq.o_NoBack PySem.F.excBase_ValueError (by decide) PySem.F.excBase_ValueError hE (by rw [hy]; exact xq.l_NoBack) (by rfl)
   | refine xv nd (by rfl) (.inl (by rfl)) ?_
   | exact jg (c:=_) xq.o_NoKind PySem.F.excBase_ValueError (by decide) PySem.F.excBase_ValueError hE (by rw [hy]; exact xq.l_NoKind) (by rfl)
   | exact jg (c:=_) xq.o_TooMany PySem.F.excBase_ValueError (by decide) PySem.F.excBase_ValueError hE (by rw [hy]; exact xq.l_TooMany) (by rfl)
   | refine xt (pv _) (by rw [hy]; exact xo_Sieve) tx.S_Sieve.c tx.S_Sieve.n_kind ?_
   | refine uC (pv _) (by rw [hy]; exact xo_Sieve) tx.S_Sieve.c tx.S_Sieve.n_remaining ?_
   | refine uC (pv _) (by rw [hy]; exact xo_Sieve) tx.S_Sieve.c tx.S_Sieve.n_done ?_
   | exact jg (c:=_) xq.o_NoRule PySem.F.excBase_ValueError (by decide) PySem.F.excBase_ValueError hE (by rw [hy]; exact xq.l_NoRule) (by rfl)
   | refine uD (pv _) (by rw [hy]; exact xo_Sieve) tx.S_Sieve.c tx.S_Sieve.n_remaining ?_
   | refine uD (pv _) (by rw [hy]; exact xo_Sieve) tx.S_Sieve.c tx.S_Sieve.n_done ?_
   | refine uD (pv _) (by rw [hy]; exact xo_Sieve) tx.S_Sieve.c tx.S_Sieve.n_undone ?_
   | refine XW nd (by rfl) (.inr (by rfl)) hy xo_Sieve tx.S_Sieve.M (O_i _ KB) hr (by omega) (by rfl) tx.S_Sieve.g tx.S_Sieve.C_init.b (hE ▸ zL) ?_
   | refine VT (by rfl) nd (by rfl) (by rfl) (by decide) (by rfl) (by rfl) ?_ (by rfl)
   | refine Q6 PassesOwn.leaving (by rfl) ?_ ?_ ?_
   | refine xz ?_ ?_ ?_
   | refine XW nd (by rfl) (.inl (by rfl)) hy xo_Sieve tx.S_Sieve.M (O_i _ KB) hr (by omega) (by rfl) tx.S_Sieve.g tx.S_Sieve.C_init.b (hE ▸ zL) ?_
   | refine v5 ?_)
  | (show Snd _ _ (.Call ..) _; first
   | refine VF (by rfl) tx.z_len ?_
   | refine U9 (n:="tuple") (WZ _) (by rfl) tx.z_isinstance (by rfl) tx.z_tuple PyProof.Rows.Boot.«tuple» ?_
   | refine Qe ?_
   | refine x9 ?_ ?_
   | refine VI hr.hd (by rfl) tx.z_all ?_
   | exact ZH (pv _) hy xo_Sieve tx.S_Sieve.c tx.S_Sieve.C_worths.m (O_k _ KB) hr (by omega) tx.S_Sieve.C_worths.b (hE ▸ zL)
   | refine U9 (n:="str") (yR _) (by rfl) tx.z_isinstance (by rfl) tx.z_str PyProof.Rows.Boot.«str» ?_
   | exact ZH (pv _) hy xo_Sieve tx.S_Sieve.c tx.S_Sieve.C_left.m O_g hr (by omega) tx.S_Sieve.C_left.b (hE ▸ zL)
   | refine wd (pv _) hy xo_Sieve tx.S_Sieve.c tx.S_Sieve.C_new_step.m O_1l hr (by omega) tx.S_Sieve.C_new_step.b (hE ▸ zL) ?_
   | refine xa ?_ ?_
   | refine xg ?_ ?_
   | refine QI (by rfl) tx.z_str ?_
   | refine yP (by rfl) tx.z_tuple ?_
   | exact ZH (pv _) hy xo_Sieve tx.S_Sieve.c tx.S_Sieve.C_counts.m (O_m _ KB) hr (by omega) tx.S_Sieve.C_counts.b (hE ▸ zL)
   | refine U9 (n:="int") (yQ _) (by rfl) tx.z_isinstance (by rfl) tx.z_int PyProof.Rows.Boot.«int» ?_
   | refine U9 (n:="bool") (U8 _) (by rfl) tx.z_isinstance (by rfl) tx.z_bool PyProof.Rows.Boot.«bool» ?_
   | refine Qu hr.hd (by rfl) tx.z_tuple (by rfl) tx.z_reversed ?_
   | refine x4 hr.hd (by rfl) tx.z_any ?_
   | refine VY hr.hd (by rfl) tx.z_sum ?_
   | refine xB (by rfl) tx.z_list ?_
   | exact Zo (hy ▸ xq.X_k) (hy ▸ xq.t_Ended) (by rfl) tx.z_isinstance (pv _) (by rfl) xq.m_Ended
   | exact Zo (hy ▸ xq.X_k) (hy ▸ xq.t_NoBack) (by rfl) tx.z_isinstance (pv _) (by rfl) xq.m_NoBack
   | exact Zo (hy ▸ xq.X_k) (hy ▸ xq.t_NoKind) (by rfl) tx.z_isinstance (pv _) (by rfl) xq.m_NoKind
   | exact Zo (hy ▸ xq.X_k) (hy ▸ xq.t_NoRule) (by rfl) tx.z_isinstance (pv _) (by rfl) xq.m_NoRule
   | exact Zo (hy ▸ xq.X_k) (hy ▸ xq.t_NoText) (by rfl) tx.z_isinstance (pv _) (by rfl) xq.m_NoText
   | exact Zo (hy ▸ xq.X_k) (hy ▸ xq.t_NoWorth) (by rfl) tx.z_isinstance (pv _) (by rfl) xq.m_NoWorth
   | exact Zo (hy ▸ xq.X_k) (hy ▸ xq.t_TooMany) (by rfl) tx.z_isinstance (pv _) (by rfl) xq.m_TooMany
   | refine Yd hr.units ?_ ?_
   | exact Y3 (n:="ValueError") (hy ▸ xq.X_k) (hy ▸ xq.t_ValueError) (by rfl) tx.z_isinstance (pv _) (by rfl) tx.z_ValueError PyProof.Rows.Boot.«ValueError»
   | refine Ye hr.units ?_ ?_
   | refine QD ?_ ?_ ?_
   | refine QJ (by rfl) tx.z_int ?_
   | refine xb ?_ ?_
   | refine xf ?_ ?_
   | exact QV (pv _) (by rw [hy]; exact xo_Sieve) tx.S_Sieve.c tx.S_Sieve.n_done (by rfl) tx.z_list
   | exact ZH (pv _) hy xo_Sieve tx.S_Sieve.c tx.S_Sieve.C_base.m O_u hr (by omega) tx.S_Sieve.C_base.b (hE ▸ zL)
   | exact ZH (pv _) hy xo_Sieve tx.S_Sieve.c tx.S_Sieve.C_steps.m O_t hr (by omega) tx.S_Sieve.C_steps.b (hE ▸ zL)
   | refine wd (pv _) hy xo_Sieve tx.S_Sieve.c tx.S_Sieve.C_keep.m (O_1m _ KB) hr (by omega) tx.S_Sieve.C_keep.b (hE ▸ Uz) ?_
   | refine wd (pv _) hy xo_Sieve tx.S_Sieve.c tx.S_Sieve.C_bar.m (O_1n _ KB) hr (by omega) tx.S_Sieve.C_bar.b (hE ▸ Uz) ?_
   | exact ZH (pv _) hy xo_Sieve tx.S_Sieve.c tx.S_Sieve.C_left.m (O_g _ KB) hr (by omega) tx.S_Sieve.C_left.b (hE ▸ zL)
   | refine xD hy xo_Sieve tx.S_Sieve.M (O_i _ KB) hr (by omega) (by rfl) tx.S_Sieve.g tx.S_Sieve.C_init.b (hE ▸ Uz) ?_
   | refine cZ hy O_e hr tx.C_e ?_
   | refine cZ hy O_2 hr tx.C_2 ?_
   | refine cZ hy O_j hr tx.C_j ?_
   | refine cZ hy O_a hr tx.C_a ?_
   | refine cZ hy O_8 hr tx.C_8 ?_
   | refine cX hy (hE ▸ zL) O_h hr tx.C_h ?_
   | refine cZ hy O_19 hr tx.C_19 ?_
   | refine cZ hy O_7 hr tx.C_7 ?_
   | refine cZ hy O_1 hr tx.C_1 ?_
   | refine cX hy (hE ▸ zL) O_o hr tx.C_o ?_
   | refine cZ hy O_17 hr tx.C_17 ?_
   | refine cZ hy O_w hr tx.C_w ?_
   | refine cZ hy O_18 hr tx.C_18 ?_
   | refine cX hy (hE ▸ zL) O_p hr tx.C_p ?_
   | refine cX hy (hE ▸ zL) O_16 hr tx.C_16 ?_
   | refine cX hy (hE ▸ zL) O_15 hr tx.C_15 ?_
   | refine cX hy (hE ▸ zL) O_b hr tx.C_b ?_
   | refine cX hy (hE ▸ zL) O_1a hr tx.C_1a ?_
   | refine cZ hy O_14 hr tx.C_14 ?_
   | refine cZ hy O_9 hr tx.C_9 ?_
   | refine cZ hy O_are_choices hr tx.C_are_choices ?_
   | refine cZ hy O_13 hr tx.C_13 ?_
   | refine cZ hy O_1e hr tx.C_1e ?_
   | refine cZ (hy'.trans hy) O_7 hr tx.C_7 ?_
   | refine cZ hy O_1j hr tx.C_1j ?_
   | refine cZ hy O_count_shorter hr tx.C_count_shorter ?_
   | refine cZ hy O_words_of_pick hr tx.C_words_of_pick ?_
   | refine cZ hy O_1k hr tx.C_1k ?_
   | refine cZ hy O_many_at hr tx.C_many_at ?_
   | refine cZ hy O_d hr tx.C_d ?_
   | refine cZ (hy'.trans hy) O_d hr tx.C_d ?_
   | refine cX hy (hE ▸ zL) O_y hr tx.C_y ?_
   | refine cZ hy O_11 hr tx.C_11 ?_
   | refine cZ hy O_3 hr tx.C_3 ?_
   | refine cZ (hy'.trans hy) O_a hr tx.C_a ?_
   | refine cZ hy O_z hr tx.C_z ?_
   | refine cZ hy O_10 hr tx.C_10 ?_
   | refine cZ hy O_1b hr tx.C_1b ?_
   | refine cZ (hy'.trans hy) O_e hr tx.C_e ?_
   | refine cZ hy O_12 hr tx.C_12 ?_
   | refine cZ hy O_x hr tx.C_x ?_
   | refine cZ (hy'.trans hy) (noex O_choice_in) hr tx.C_choice_in ?_
   | refine cZ hy O_1c hr tx.C_1c ?_
   | refine cZ (hy'.trans hy) (noex O_b) hr tx.C_b ?_
   | refine cX hy (hE ▸ zL) O_1i hr tx.C_1i ?_
   | refine cX hy (hE ▸ zL) O_1g hr tx.C_1g ?_
   | refine cZ (hy'.trans hy) O_9 hr tx.C_9 ?_
   | refine cZ hy O_1d hr tx.C_1d ?_
   | refine cZ (hy'.trans hy) O_c hr tx.C_c ?_
   | refine cZ hy O_c hr tx.C_c ?_
   | refine cX hy (hE ▸ zL) O_1f hr tx.C_1f ?_
   | refine cZ (hy'.trans hy) (noex O_1h) hr tx.C_1h ?_
   | refine cZ hy (O_s _ KB) hr tx.C_s ?_
   | refine cX hy (hE ▸ Uz) (O_v _ KB) hr tx.C_v ?_)
  | (show Jm _ _ _ _; first
   | refine WV yK (WW hr.units) ?_ ?_ (ZN _)
   | refine VC ?_
   | refine WV qN (UL hr.units) ?_ ?_ (ZN _)
   | refine WV Vv qP ?_ ?_ (ZN _)
   | refine WV Qv Yj ?_ ?_ (by rfl)
   | refine yN Jq Jq ZP ZP ?_ ?_ ?_
   | refine WV Vu qO ?_ ?_ (ZN _)
   | refine VD ?_
   | refine Wk.t ?_)
  | (show Snd _ _ (.Subscript ..) _; first
   | refine gI ?_ ?_
   | refine xh ?_ ?_ ?_
   | refine xw (pv _) (by rw [hy]; exact xo_Sieve) tx.S_Sieve.c tx.S_Sieve.n_remaining ?_
   | refine yT ?_ ?_ ?_
   | refine xl (pv _) ?_)
  | (show Snd _ _ (.BinOp ..) _; first
   | refine Vp ?_ ?_
   | refine Vq ?_ ?_
   | refine Vs ?_ ?_
   | refine Vr ?_ ?_
   | refine qM ?_ ?_)
  | (show Snd _ _ (.BoolOp ..) _; first
   | refine Vy ?_ ?_
   | refine gF ?_ ?_
   | refine Vx ?_)
  | (show Snd _ _ (.Tuple ..) _; first
   | refine Vn ?_)
  | (show ya _ _ _ _; first
   | refine QQ ?_ ?_
   | refine xm ?_
   | exact xo
   | exact xy)
  | (show Wk _ _ _ _; first
   | refine gG ?_ ?_
   | refine VB ?_ ?_
   | refine VA ?_
   | refine qS ?_)
  | (show Snd _ _ (.Compare ..) _; first
   | refine yJ yK (WW hr.units) ?_ ?_ (ZN _)
   | refine yM Jq Jq ZP ZP ?_ ?_ ?_
   | refine yJ qQ (qR hr.units) ?_ ?_ (by rfl)
   | refine U6 Jq Jq Jq ZP ZP ZP ?_ ?_ ?_ ?_
   | refine yJ Jq ZP ?_ ?_ (ZN _))
  | (show Wl _ _ _ _ _; first
   | refine Q3 (by rfl) tx.z_range ?_
   | refine x3 (by rfl) tx.z_reversed ?_
   | refine VU (by rfl) tx.z_zip ?_ ?_
   | refine Yi (by rfl) tx.z_enumerate ?_
   | refine Yl (by rfl) tx.z_enumerate ?_
   | refine VS ?_)
  | (show Ua _ _ _ _; first
   | refine qU ?_
   | exact qT)
  | (show JW _ _ _ _; first
   | exact Qa
   | refine Qb ?_)
  | (show Snd _ _ (.UnaryOp ..) _; first
   | refine Vt ?_
   | refine Vz ?_)
  | (show jX _ _ (.Call ..) _; first
   | refine wL (pv _) hy xo_Sieve tx.S_Sieve.c tx.S_Sieve.C_do_step.m O_l hr (by omega) tx.S_Sieve.C_do_step.b (hE ▸ zL) ?_
   | refine wL (pv _) hy xo_Sieve tx.S_Sieve.c tx.S_Sieve.C_new_step.m O_4 hr (by omega) tx.S_Sieve.C_new_step.b (hE ▸ zL) ?_
   | exact uF (pv _) (by rw [hy]; exact xo_Sieve) tx.S_Sieve.c tx.S_Sieve.n_done
   | exact uF (pv _) (by rw [hy]; exact xo_Sieve) tx.S_Sieve.c tx.S_Sieve.n_remaining
   | exact uF (pv _) (by rw [hy]; exact xo_Sieve) tx.S_Sieve.c tx.S_Sieve.n_undone
   | refine wL (pv _) hy xo_Sieve tx.S_Sieve.c tx.S_Sieve.C_keep.m (O_5 _ KB) hr (by omega) tx.S_Sieve.C_keep.b (hE ▸ zL) ?_
   | refine wL (pv _) hy xo_Sieve tx.S_Sieve.c tx.S_Sieve.C_bar.m (O_6 _ KB) hr (by omega) tx.S_Sieve.C_bar.b (hE ▸ zL) ?_
   | exact uE (pv _) hy xo_Sieve tx.S_Sieve.c tx.S_Sieve.C_back.m (O_r _ KB) hr (by omega) tx.S_Sieve.C_back.b (hE ▸ zL)
   | exact uE (pv _) hy xo_Sieve tx.S_Sieve.c tx.S_Sieve.C_forth.m (O_q _ KB) hr (by omega) tx.S_Sieve.C_forth.b (hE ▸ zL)
   | refine QY (pv _) hy (O_n _ KB) hr (by omega) (by rfl) tx.C_n.m tx.C_n.F.kp tx.C_n.b (hE ▸ zL) ?_)
  | (show Snd _ _ (.List ..) _; first
   | refine Vo ?_)
  | (show jX _ _ _ _; first
   | refine QP ?_)
  | (show vM _ _ _ _; first
   | exact Q4 nd (by rfl) (.inl (by rfl))
   | exact Q5 (by rfl) nd (by rfl) (by rfl) (.inl (by rfl)) (.inl (by rfl)))
  | (show wa _ _ _ _; first
   | refine QW qN (UL hr.units) ?_ ?_ (ZN _)
   | refine Yv ?_
   | refine wb.t ?_)
  | (show Snd _ _ (.JoinedStr ..) _; first
   | refine gM ?_ ?_)
  | (show wb _ _ _ _; first
   | refine xA ?_ ?_
   | refine QX ?_)
  | (show Snd _ _ (.IfExp ..) _; first
   | refine gH ?_ ?_ ?_)
  | (show Snd _ _ (.Attribute ..) _; first
   | exact xr (pv _) (by rw [hy]; exact xo_Sieve) tx.S_Sieve.c tx.S_Sieve.n_kind)
  | (show jX _ _ (.Compare ..) _; first
   | refine xC yK (WW hr.units) ?_ ?_ (ZN _))
  )
theorem Gf:Q_a P w base cl tx 1 (fun ts=>zn (b_a  (en0 1 ts))):=by
 refine zH tx.C_a.F kY rfl (fun cdv A outer s H E Y hy hr=> ?_) (fun ts h=>rfl)
 have nd:=kY.nd
 repeat' gp_on
theorem Xc {c_a:List T->R T} (O_a:Q_a P w base cl tx 1 c_a):xS P w base cl tx 2 (fun ts=>zn (XZ c_a (en0 4 ts))):=by
 refine zH tx.C_19.F ve rfl (fun cdv A outer s H E Y hy hr=> ?_) (fun ts h=>rfl)
 have nd:=ve.nd
 repeat' gp_on
theorem Xd:xT P w base cl tx 1 (fun ts=>zn (k7  (en0 3 ts))):=by
 refine zH tx.C_1e.F vf rfl (fun cdv A outer s H E Y hy hr=> ?_) (fun ts h=>rfl)
 have nd:=vf.nd
 repeat' gp_on
theorem Gg {j:Nat} (hj:2<=j) {c_19 c_7 c_are_choices c_13:List T->R T} (O_19:xS P w base cl tx 2 c_19) (O_7:Q_7 P w base cl tx j c_7) (O_are_choices:Zy P w base cl tx 1 c_are_choices) (O_13:vW P w base cl tx j c_13):Q_7 P w base cl tx (j+1) (fun ts=>zn (b_7 c_19 c_7 c_are_choices c_13 (en0 2 ts))):=by
 refine zH tx.C_7.F K1 rfl (fun cdv A outer s H E Y hy hr=> ?_) (fun ts h=>rfl)
 have nd:=K1.nd
 repeat' gp_on
theorem Xe {j:Nat} (hj:2<=j) {c_1e c_7:List T->R T} (O_1e:xT P w base cl tx 1 c_1e) (O_7:Q_7 P w base cl tx j c_7):vW P w base cl tx (j+1) (fun ts=>zn (k9 c_1e c_7 (en0 2 ts))):=by
 refine zH tx.C_13.F vg rfl (fun cdv A outer s H E Y hy hr=> ?_) (fun ts h=>rfl)
 have nd:=vg.nd
 repeat' gp_on
 refine zR (zS ["part","levels"] K2 (z9 xO) (by rfl) (by rfl) (by decide+kernel) (by rfl) ?_ (fun _ _ _ _ _ _=>zt (show List.Nodup (["part","levels"]:List Str) by decide+kernel) (by rfl) (.inl (by rfl)) (.inr (by rfl))) (zI 0) (zJ 0) (fun Y' hy' _ _ _ _ _ _=> ?_) (fun Y' hy' _ _ _ _ _ _ _ hp' => ?_))
 repeat' gp_on
theorem Gh {c_7:List T->R T} (O_7:Q_7 P w base cl tx 22 c_7):Q_1 P w base cl tx 23 (fun ts=>zn (b_1 c_7 (en0 1 ts))):=by
 obtain ⟨u_DEEPEST,c_DEEPEST⟩:=tx.c_DEEPEST
 refine zH tx.C_1.F K3 rfl (fun cdv A outer s H E Y hy hr=> ?_) (fun ts h=>rfl)
 have nd:=K3.nd
 repeat' gp_on
theorem Gi {c_1:List T->R T} (xq:Tq K mg base cl) (O_1:Q_1 P w base cl tx 23 c_1):Q_o P w base cl tx 24 (fun ts=>zn (b_o c_1 (en0 1 ts))):=by
 refine Z3 tx.C_o.F K4 rfl (fun cdv A outer s H E Y hy hE hr=> ?_) (fun ts h=>rfl)
 have nd:=K4.nd
 repeat' gp_on
theorem Gj {j:Nat} (hj:1<=j) {c_1j c_count_shorter:List T->R T} (O_1j:vX P w base cl tx j c_1j) (O_count_shorter:Zb P w base cl tx 1 c_count_shorter):Q_2 P w base cl tx (j+1) (fun ts=>zn (b_2 c_1j c_count_shorter (en0 1 ts))):=by
 refine zH tx.C_2.F K5 rfl (fun cdv A outer s H E Y hy hr=> ?_) (fun ts h=>rfl)
 have nd:=K5.nd
 repeat' gp_on
theorem Xf {j:Nat} (hj:1<=j) {c_2:List T->R T} (O_2:Q_2 P w base cl tx j c_2):vX P w base cl tx (j+1) (fun ts=>zn (ka c_2 (en0 3 ts))):=by
 refine zH tx.C_1j.F vh rfl (fun cdv A outer s H E Y hy hr=> ?_) (fun ts h=>rfl)
 have nd:=vh.nd
 repeat' gp_on
theorem Gk {j:Nat} (hj:21<=j) {c_words_of_pick c_many_at c_1k:List T->R T} (O_words_of_pick:Zc P w base cl tx 1 c_words_of_pick) (O_many_at:JI P w base cl tx 1 c_many_at) (O_1k:vY P w base cl tx j c_1k):Q_d P w base cl tx (j+1) (fun ts=>zn (b_d c_words_of_pick c_many_at c_1k (en0 2 ts))):=by
 refine zH tx.C_d.F K7 rfl (fun cdv A outer s H E Y hy hr=> ?_) (fun ts h=>rfl)
 have nd:=K7.nd
 repeat' gp_on
theorem Xg {j:Nat} (hj:21<=j) {c_2 c_d:List T->R T} (O_2:Q_2 P w base cl tx 21 c_2) (O_d:Q_d P w base cl tx j c_d):vY P w base cl tx (j+1) (fun ts=>zn (kb c_2 c_d (en0 6 ts))):=by
 refine zH tx.C_1k.F vi rfl (fun cdv A outer s H E Y hy hr=> ?_) (fun ts h=>rfl)
 have nd:=vi.nd
 repeat' gp_on
theorem Gm {c_o c_2 c_d:List T->R T} (xq:Tq K mg base cl) (O_o:Q_o P w base cl tx 24 c_o) (O_2:Q_2 P w base cl tx 21 c_2) (O_d:Q_d P w base cl tx 41 c_d):Q_y P w base cl tx 42 (fun ts=>zn (b_y c_o c_2 c_d (en0 2 ts))):=by
 obtain ⟨u_MOST_TOLD,c_MOST_TOLD⟩:=tx.c_MOST_TOLD
 refine Z3 tx.C_y.F K9 rfl (fun cdv A outer s H E Y hy hE hr=> ?_) (fun ts h=>rfl)
 have nd:=K9.nd
 repeat' gp_on
 refine zR (zS ["number","kind"] N_y (z9 s_y) (by rfl) (by rfl) (by decide+kernel) (by rfl) ?_ (fun _ _ _ _ _ _=>zt (show List.Nodup (["number","kind"]:List Str) by decide+kernel) (by rfl) (.inl (by rfl)) (.inr (by rfl))) (zI 0) (zJ 0) (fun Y' hy' _ _ _ _ _ _=> ?_) (fun Y' hy' _ _ _ _ _ _ _ hp' => ?_))
 repeat' gp_on
theorem Gn {c_y:List T->R T} (xo_Sieve:cl 101= .ref tx.B_Sieve) (O_y:Q_y P w base cl tx 42 c_y):Q_i P w base cl tx 43 (fun fs ts=>jY 101 2 (b_i c_y (enM 101 2 fs ts))):=by
 refine ZS (k:=101) (n:=1) (j:=2) tx.S_Sieve.C_init.F Ka rfl rfl (by decide) (fun cdv A outer s H E Y hy hE hr=> ?_)
 have nd:=Ka.nd
 repeat' gp_on
theorem Xh {c_a:List T->R T} (O_a:Q_a P w base cl tx 1 c_a):xU P w base cl tx 2 (fun ts=>zn (kd c_a (en0 1 ts))):=by
 obtain ⟨u_FARTHEST_BOUND,c_FARTHEST_BOUND⟩:=tx.c_FARTHEST_BOUND
 refine zH tx.C_17.F vj rfl (fun cdv A outer s H E Y hy hr=> ?_) (fun ts h=>rfl)
 have nd:=vj.nd
 repeat' gp_on
theorem Xi:xV P w base cl tx 1 (fun ts=>zn (kf  (en0 1 ts))):=by
 refine zH tx.C_11.F vk rfl (fun cdv A outer s H E Y hy hr=> ?_) (fun ts h=>rfl)
 have nd:=vk.nd
 repeat' gp_on
 refine zR (zS ["sign"] Kc (z9 xP) (by rfl) (by rfl) (by decide+kernel) (by rfl) ?_ (fun _ _ _ _ _ _=>zt (show List.Nodup (["sign"]:List Str) by decide+kernel) (by rfl) (.inl (by rfl)) (.inr (by rfl))) (zI 0) (zJ 0) (fun Y' hy' _ _ _ _ _ _=> ?_) (fun Y' hy' _ _ _ _ _ _ _ hp' => ?_))
 repeat' gp_on
theorem Go {j:Nat} (hj:2<=j) {c_11 c_j c_17:List T->R T} (O_11:xV P w base cl tx 1 c_11) (O_j:Q_j P w base cl tx j c_j) (O_17:xU P w base cl tx 2 c_17):Q_j P w base cl tx (j+1) (fun ts=>zn (b_j c_11 c_j c_17 (en0 2 ts))):=by
 refine zH tx.C_j.F Kd rfl (fun cdv A outer s H E Y hy hr=> ?_) (fun ts h=>rfl)
 have nd:=Kd.nd
 repeat' gp_on
theorem Gp {c_j:List T->R T} (O_j:Q_j P w base cl tx 10 c_j):Q_3 P w base cl tx 11 (fun ts=>zn (b_3 c_j (en0 1 ts))):=by
 obtain ⟨u_DEEPEST_RULE,c_DEEPEST_RULE⟩:=tx.c_DEEPEST_RULE
 refine zH tx.C_3.F Ke rfl (fun cdv A outer s H E Y hy hr=> ?_) (fun ts h=>rfl)
 have nd:=Ke.nd
 repeat' gp_on
theorem Gq {c_3:List T->R T} (xq:Tq K mg base cl) (O_3:Q_3 P w base cl tx 11 c_3):Q_h P w base cl tx 12 (fun ts=>zn (b_h c_3 (en0 1 ts))):=by
 refine Z3 tx.C_h.F Kf rfl (fun cdv A outer s H E Y hy hE hr=> ?_) (fun ts h=>rfl)
 have nd:=Kf.nd
 repeat' gp_on
theorem Gr (xo_Sieve:cl 101= .ref tx.B_Sieve):Q_g P w base cl tx 1 (fun fs ts=>b_g  (enM 101 1 fs ts)):=by
 refine JE (k:=101) (n:=0) (j:=1) tx.S_Sieve.C_left.F Kg rfl rfl (by decide) (by rfl) (fun cdv A outer s H E Y hy hE hr=> ?_)
 have nd:=Kg.nd
 repeat' gp_on
theorem Gs {j:Nat} (hj:0<=j) {c_8:List T->R T} (O_8:Q_8 P w base cl tx j c_8):Q_8 P w base cl tx (j+1) (fun ts=>zn (b_8 c_8 (en0 3 ts))):=by
 refine zH tx.C_8.F Kh rfl (fun cdv A outer s H E Y hy hr=> ?_) (fun ts h=>rfl)
 have nd:=Kh.nd
 repeat' gp_on
theorem Gu {c_a c_8:List T->R T} (O_a:Q_a P w base cl tx 1 c_a) (O_8:Q_8 P w base cl tx 8 c_8):Q_w P w base cl tx 9 (fun ts=>zn (b_w c_a c_8 (en0 1 ts))):=by
 refine zH tx.C_w.F Ki rfl (fun cdv A outer s H E Y hy hr=> ?_) (fun ts h=>rfl)
 have nd:=Ki.nd
 repeat' gp_on
 refine zR (zS ["leaf"] N_w (z9 s_w) (by rfl) (by rfl) (by decide+kernel) (by rfl) ?_ (fun _ _ _ _ _ _=>zt (show List.Nodup (["leaf"]:List Str) by decide+kernel) (by rfl) (.inl (by rfl)) (.inr (by rfl))) (zI 0) (zJ 0) (fun Y' hy' _ _ _ _ _ _=> ?_) (fun Y' hy' _ _ _ _ _ _ _ hp' => ?_))
 repeat' gp_on
theorem Xj:xW P w base cl tx 1 (fun ts=>zn (kh  (en0 1 ts))):=by
 refine zH tx.C_18.F vm rfl (fun cdv A outer s H E Y hy hr=> ?_) (fun ts h=>rfl)
 have nd:=vm.nd
 repeat' gp_on
theorem Gv:Q_z P w base cl tx 1 (fun ts=>zn (b_z  (en0 1 ts))):=by
 refine zH tx.C_z.F Kk rfl (fun cdv A outer s H E Y hy hr=> ?_) (fun ts h=>rfl)
 have nd:=Kk.nd
 repeat' gp_on
 refine zR (zS ["ahead","number"] N_z (z9 s_z) (by rfl) (by rfl) (by decide+kernel) (by rfl) ?_ (fun _ _ _ _ _ _=>J8 (by rfl) (zM (zt (show List.Nodup (["ahead","number"]:List Str) by decide+kernel) (by rfl) (.inl (by rfl)) (.inr (by rfl))) (zM (zt (show List.Nodup (["ahead","number"]:List Str) by decide+kernel) (by rfl) (.inl (by rfl)) (.inr (by rfl))) j7))) (j3 _ 0 1) (j4 0 1) (fun Y' hy' _ _ _ _ _ _=> ?_) (fun Y' hy' _ _ _ _ _ _ _ hp' => ?_))
 repeat' gp_on
theorem Xk:xX P w base cl tx 1 (fun ts=>zn (km  (en0 1 ts))):=by
 refine zH tx.C_10.F vn rfl (fun cdv A outer s H E Y hy hr=> ?_) (fun ts h=>rfl)
 have nd:=vn.nd
 repeat' gp_on
 refine zR (zS ["place","part","parts"] Kl (z9 xQ) (by rfl) (by rfl) (by decide+kernel) (by rfl) ?_ (fun _ _ _ _ _ _=>J8 (by rfl) (zM (zt (show List.Nodup (["place","part","parts"]:List Str) by decide+kernel) (by rfl) (.inl (by rfl)) (.inr (by rfl))) (zM (zt (show List.Nodup (["place","part","parts"]:List Str) by decide+kernel) (by rfl) (.inl (by rfl)) (.inr (by rfl))) j7))) (j3 _ 0 1) (j4 0 1) (fun Y' hy' _ _ _ _ _ _=> ?_) (fun Y' hy' _ _ _ _ _ _ _ hp' => ?_))
 repeat' gp_on
theorem Xl {c_18 c_8 c_w c_z c_10:List T->R T} (O_18:xW P w base cl tx 1 c_18) (O_8:Q_8 P w base cl tx 8 c_8) (O_w:Q_w P w base cl tx 9 c_w) (O_z:Q_z P w base cl tx 1 c_z) (O_10:xX P w base cl tx 1 c_10):xY P w base cl tx 10 (fun ts=>zn (ko c_18 c_8 c_w c_z c_10 (en0 2 ts))):=by
 refine zH tx.C_1b.F vo rfl (fun cdv A outer s H E Y hy hr=> ?_) (fun ts h=>rfl)
 have nd:=vo.nd
 repeat' gp_on
theorem Gw {j:Nat} (hj:10<=j) {c_e c_1b:List T->R T} (O_e:Q_e P w base cl tx j c_e) (O_1b:xY P w base cl tx 10 c_1b):Q_e P w base cl tx (j+1) (fun ts=>zn (b_e c_e c_1b (en0 2 ts))):=by
 refine zH tx.C_e.F Kn rfl (fun cdv A outer s H E Y hy hr=> ?_) (fun ts h=>rfl)
 have nd:=Kn.nd
 repeat' gp_on
theorem Xm {c_e:List T->R T} (O_e:Q_e P w base cl tx 18 c_e):xZ P w base cl tx 19 (fun ts=>zn (ku c_e (en0 3 ts))):=by
 refine zH tx.C_12.F vp rfl (fun cdv A outer s H E Y hy hr=> ?_) (fun ts h=>rfl)
 have nd:=vp.nd
 repeat' gp_on
 refine zR (zS ["worth","step","is_keep"] Ko (z9 xR) (by rfl) (by rfl) (by decide+kernel) (by rfl) ?_ (fun _ _ _ _ _ _=>zt (show List.Nodup (["worth","step","is_keep"]:List Str) by decide+kernel) (by rfl) (.inl (by rfl)) (.inr (by rfl))) (zI 0) (zJ 0) (fun Y' hy' _ _ _ _ _ _=> ?_) (fun Y' hy' _ _ _ _ _ _ _ hp' => ?_))
 repeat' gp_on
theorem Gx {c_12:List T->R T} (xo_Sieve:cl 101= .ref tx.B_Sieve) (O_12:xZ P w base cl tx 19 c_12):Q_l P w base cl tx 20 (fun fs ts=>jY 101 2 (b_l c_12 (enM 101 2 fs ts))):=by
 refine ZS (k:=101) (n:=1) (j:=2) tx.S_Sieve.C_do_step.F Kp rfl rfl (by decide) (fun cdv A outer s H E Y hy hE hr=> ?_)
 have nd:=Kp.nd
 repeat' gp_on
theorem Gy {c_h:List T->R T} {c_l:List (Str×Fd)->List T->R (T×List (Str×Fd))} {c_g:List (Str×Fd)->List T->R T} (xo_Sieve:cl 101= .ref tx.B_Sieve) (O_h:Q_h P w base cl tx 12 c_h) (O_g:Q_g P w base cl tx 1 c_g) (O_l:Q_l P w base cl tx 20 c_l):Q_4 P w base cl tx 21 (fun fs ts=>jY 101 4 (b_4 c_h c_g c_l (enM 101 4 fs ts))):=by
 refine ZS (k:=101) (n:=2) (j:=4) tx.S_Sieve.C_new_step.F vT rfl rfl (by decide) (fun cdv A outer s H E Y hy hE hr=> ?_)
 have nd:=vT.nd
 repeat' gp_on
theorem Gz {c_4:List (Str×Fd)->List T->R (T×List (Str×Fd))} (xo_Sieve:cl 101= .ref tx.B_Sieve) (O_4:Q_4 P w base cl tx 21 c_4):Q_5 P w base cl tx 22 (fun fs ts=>jY 101 2 (b_5 c_4 (enM 101 2 fs ts))):=by
 refine ZS (k:=101) (n:=1) (j:=2) tx.S_Sieve.C_keep.F vU rfl rfl (by decide) (fun cdv A outer s H E Y hy hE hr=> ?_)
 have nd:=vU.nd
 repeat' gp_on
theorem GA {c_4:List (Str×Fd)->List T->R (T×List (Str×Fd))} (xo_Sieve:cl 101= .ref tx.B_Sieve) (O_4:Q_4 P w base cl tx 21 c_4):Q_6 P w base cl tx 22 (fun fs ts=>jY 101 2 (b_6 c_4 (enM 101 2 fs ts))):=by
 refine ZS (k:=101) (n:=1) (j:=2) tx.S_Sieve.C_bar.F vV rfl rfl (by decide) (fun cdv A outer s H E Y hy hE hr=> ?_)
 have nd:=vV.nd
 repeat' gp_on
theorem GB (xq:Tq K mg base cl) (xo_Sieve:cl 101= .ref tx.B_Sieve):Q_r P w base cl tx 1 (fun fs ts=>jY 101 2 (b_r  (enM 101 2 fs ts))):=by
 refine ZS (k:=101) (n:=0) (j:=2) tx.S_Sieve.C_back.F Kq rfl rfl (by decide) (fun cdv A outer s H E Y hy hE hr=> ?_)
 have nd:=Kq.nd
 repeat' gp_on
theorem GC (xo_Sieve:cl 101= .ref tx.B_Sieve):Q_k P w base cl tx 1 (fun fs ts=>b_k  (enM 101 1 fs ts)):=by
 refine JE (k:=101) (n:=0) (j:=1) tx.S_Sieve.C_worths.F Kr rfl rfl (by decide) (by rfl) (fun cdv A outer s H E Y hy hE hr=> ?_)
 have nd:=Kr.nd
 repeat' gp_on
theorem GD (xo_Sieve:cl 101= .ref tx.B_Sieve):Q_m P w base cl tx 1 (fun fs ts=>b_m  (enM 101 1 fs ts)):=by
 refine JE (k:=101) (n:=0) (j:=1) tx.S_Sieve.C_counts.F Ks rfl rfl (by decide) (by rfl) (fun cdv A outer s H E Y hy hE hr=> ?_)
 have nd:=Ks.nd
 repeat' gp_on
theorem GE:Q_x P w base cl tx 1 (fun ts=>zn (b_x  (en0 2 ts))):=by
 refine zH tx.C_x.F Kt rfl (fun cdv A outer s H E Y hy hr=> ?_) (fun ts h=>rfl)
 have nd:=Kt.nd
 repeat' gp_on
theorem GF {c_x:List T->R T} (O_x:Q_x P w base cl tx 1 c_x):Q_s P w base cl tx 2 (fun ts=>zn (b_s c_x (en0 4 ts))):=by
 refine zH tx.C_s.F Ku rfl (fun cdv A outer s H E Y hy hr=> ?_) (fun ts h=>rfl)
 have nd:=Ku.nd
 repeat' gp_on
theorem GG (xq:Tq K mg base cl):Q_f P w base cl tx 1 (fun c=>zn (b_f  (enC 2 c))):=by
 refine Yu tx.C_f.F Kv (by decide) (fun cdv A outer s H Y hy hr=> ?_) (fun c=>rfl)
 have nd:=Kv.nd
 repeat' gp_on
theorem Xn {c_h:List T->R T} (O_h:Q_h P w base cl tx 12 c_h):vZ P w base cl tx 13 (fun ts=>UB (kx c_h (enX 101 2 ts))):=by
 refine wc (k:=101) (n:=2) (m:=2) tx.S_Sieve.C_new_step.F vT rfl rfl (fun cdv A outer s H E Y hy hE hr=> ?_)
 have nd:=vT.nd
 repeat' gp_on
theorem Xo {c_1l:List T->R T} (xo_Sieve:cl 101= .ref tx.B_Sieve) (O_1l:vZ P w base cl tx 13 c_1l):X0 P w base cl tx 14 (fun ts=>UB (ky c_1l (enX 101 1 ts))):=by
 refine wc (k:=101) (n:=1) (m:=1) tx.S_Sieve.C_keep.F vU rfl rfl (fun cdv A outer s H E Y hy hE hr=> ?_)
 have nd:=vU.nd
 repeat' gp_on
theorem Xp {c_1l:List T->R T} (xo_Sieve:cl 101= .ref tx.B_Sieve) (O_1l:vZ P w base cl tx 13 c_1l):X1 P w base cl tx 14 (fun ts=>UB (kz c_1l (enX 101 1 ts))):=by
 refine wc (k:=101) (n:=1) (m:=1) tx.S_Sieve.C_bar.F vV rfl rfl (fun cdv A outer s H E Y hy hE hr=> ?_)
 have nd:=vV.nd
 repeat' gp_on
theorem GH (xq:Tq K mg base cl):Q_p P w base cl tx 1 (fun ts=>zn (b_p  (en0 1 ts))):=by
 refine Z3 tx.C_p.F Kw rfl (fun cdv A outer s H E Y hy hE hr=> ?_) (fun ts h=>rfl)
 have nd:=Kw.nd
 repeat' gp_on
theorem Xq {c_p:List T->R T} (xq:Tq K mg base cl) (O_p:Q_p P w base cl tx 1 c_p):X2 P w base cl tx 2 (fun ts=>zn (kA c_p (en0 1 ts))):=by
 refine Z3 tx.C_1i.F vq rfl (fun cdv A outer s H E Y hy hE hr=> ?_) (fun ts h=>rfl)
 have nd:=vq.nd
 repeat' gp_on
theorem Xr (xq:Tq K mg base cl):X3 P w base cl tx 1 (fun ts=>zn (kC  (en0 3 ts))):=by
 refine Z3 tx.C_15.F vt rfl (fun cdv A outer s H E Y hy hE hr=> ?_) (fun ts h=>rfl)
 have nd:=vt.nd
 repeat' gp_on
theorem Xs:X4 P w base cl tx 1 (fun ts=>zn (kF  (en0 7 ts))):=by
 refine zH tx.C_1c.F vv rfl (fun cdv A outer s H E Y hy hr=> ?_) (fun ts h=>rfl)
 have nd:=vv.nd
 repeat' gp_on
theorem Xt (xq:Tq K mg base cl):X5 P w base cl tx 1 (fun ts=>zn (kH  (en0 2 ts))):=by
 obtain ⟨u_LONGEST_NUMBER,c_LONGEST_NUMBER⟩:=tx.c_LONGEST_NUMBER
 refine Z3 tx.C_16.F vw rfl (fun cdv A outer s H E Y hy hE hr=> ?_) (fun ts h=>rfl)
 have nd:=vw.nd
 repeat' gp_on
 refine QK (fun pn xe=> ?_)
 repeat' gp_on
theorem Xu {c_16:List T->R T} (O_16:X5 P w base cl tx 1 c_16):X6 P w base cl tx 2 (fun ts=>zn (kJ c_16 (en0 2 ts))):=by
 refine Z3 tx.C_1a.F vx rfl (fun cdv A outer s H E Y hy hE hr=> ?_) (fun ts h=>rfl)
 have nd:=vx.nd
 repeat' gp_on
theorem GI {j:Nat} (hj:2<=j) {c_15 c_1c c_b c_choice_in c_1a:List T->R T} (xq:Tq K mg base cl) (O_15:X3 P w base cl tx 1 c_15) (O_1c:X4 P w base cl tx 1 c_1c) (O_b:Q_b P w base cl tx j c_b) (O_choice_in:jn P w base cl tx 1 c_choice_in) (O_1a:X6 P w base cl tx 2 c_1a):Q_b P w base cl tx (j+1) (fun ts=>zn (b_b c_15 c_1c c_b c_choice_in c_1a (en0 4 ts))):=by
 refine Z3 tx.C_b.F KD rfl (fun cdv A outer s H E Y hy hE hr=> ?_) (fun ts h=>rfl)
 have nd:=KD.nd
 repeat' gp_on
 refine zR (zS ["piece"] N_b (z9 s_b) (by rfl) (by rfl) (by decide+kernel) (by rfl) ?_ (fun _ _ _ _ _ _=>zt (show List.Nodup (["piece"]:List Str) by decide+kernel) (by rfl) (.inl (by rfl)) (.inr (by rfl))) (zI 0) (zJ 0) (fun Y' hy' _ _ _ _ _ _=> ?_) (fun Y' hy' _ _ _ _ _ _ _ hp' => ?_))
 repeat' gp_on
 refine zR (zS ["piece","levels"] N_b (z9 s_b) (by rfl) (by rfl) (by decide+kernel) (by rfl) ?_ (fun _ _ _ _ _ _=>zt (show List.Nodup (["piece","levels"]:List Str) by decide+kernel) (by rfl) (.inl (by rfl)) (.inr (by rfl))) (zI 0) (zJ 0) (fun Y' hy' _ _ _ _ _ _=> ?_) (fun Y' hy' _ _ _ _ _ _ _ hp' => ?_))
 repeat' gp_on
theorem Xv {c_1 c_p c_b:List T->R T} (xq:Tq K mg base cl) (O_1:Q_1 P w base cl tx 23 c_1) (O_p:Q_p P w base cl tx 1 c_p) (O_b:Q_b P w base cl tx 22 c_b):X7 P w base cl tx 24 (fun ts=>zn (kL c_1 c_p c_b (en0 2 ts))):=by
 obtain ⟨u_DEEPEST,c_DEEPEST⟩:=tx.c_DEEPEST
 refine Z3 tx.C_1g.F vy rfl (fun cdv A outer s H E Y hy hE hr=> ?_) (fun ts h=>rfl)
 have nd:=vy.nd
 repeat' gp_on
theorem GJ {c_2 c_1g c_1i:List T->R T} (xq:Tq K mg base cl) (O_2:Q_2 P w base cl tx 21 c_2) (O_1g:X7 P w base cl tx 24 c_1g) (O_1i:X2 P w base cl tx 2 c_1i):Q_v P w base cl tx 25 (fun ts=>zn (b_v c_2 c_1g c_1i (en0 5 ts))):=by
 obtain ⟨u_MOST_TOLD,c_MOST_TOLD⟩:=tx.c_MOST_TOLD
 refine Z3 tx.C_v.F KH rfl (fun cdv A outer s H E Y hy hE hr=> ?_) (fun ts h=>rfl)
 have nd:=KH.nd
 repeat' gp_on
theorem GK {c_l:List (Str×Fd)->List T->R (T×List (Str×Fd))} (xq:Tq K mg base cl) (xo_Sieve:cl 101= .ref tx.B_Sieve) (O_l:Q_l P w base cl tx 20 c_l):Q_q P w base cl tx 21 (fun fs ts=>jY 101 2 (b_q c_l (enM 101 2 fs ts))):=by
 refine ZS (k:=101) (n:=0) (j:=2) tx.S_Sieve.C_forth.F KI rfl rfl (by decide) (fun cdv A outer s H E Y hy hE hr=> ?_)
 have nd:=KI.nd
 repeat' gp_on
theorem Xw:X8 P w base cl tx 1 (fun ts=>zn (kN  (en0 2 ts))):=by
 refine zH tx.C_14.F vz rfl (fun cdv A outer s H E Y hy hr=> ?_) (fun ts h=>rfl)
 have nd:=vz.nd
 repeat' gp_on
theorem GL {j:Nat} (hj:1<=j) {c_9 c_14:List T->R T} (O_9:Q_9 P w base cl tx j c_9) (O_14:X8 P w base cl tx 1 c_14):Q_9 P w base cl tx (j+1) (fun ts=>zn (b_9 c_9 c_14 (en0 1 ts))):=by
 refine zH tx.C_9.F KK rfl (fun cdv A outer s H E Y hy hr=> ?_) (fun ts h=>rfl)
 have nd:=KK.nd
 repeat' gp_on
 refine zR (zS ["word","weight"] N_9 (z9 s_9) (by rfl) (by rfl) (by decide+kernel) (by rfl) ?_ (fun _ _ _ _ _ _=>J8 (by rfl) (zM (zt (show List.Nodup (["word","weight"]:List Str) by decide+kernel) (by rfl) (.inl (by rfl)) (.inr (by rfl))) (zM (zt (show List.Nodup (["word","weight"]:List Str) by decide+kernel) (by rfl) (.inl (by rfl)) (.inr (by rfl))) j7))) (j3 _ 0 1) (j4 0 1) (fun Y' hy' _ _ _ _ _ _=> ?_) (fun Y' hy' _ _ _ _ _ _ _ hp' => ?_))
 repeat' gp_on
 refine zR (zS ["part"] N_9 (z9 s_9) (by rfl) (by rfl) (by decide+kernel) (by rfl) ?_ (fun _ _ _ _ _ _=>zt (show List.Nodup (["part"]:List Str) by decide+kernel) (by rfl) (.inl (by rfl)) (.inr (by rfl))) (zI 0) (zJ 0) (fun Y' hy' _ _ _ _ _ _=> ?_) (fun Y' hy' _ _ _ _ _ _ _ hp' => ?_))
 repeat' gp_on
theorem Xx {c_o c_9:List T->R T} (O_o:Q_o P w base cl tx 24 c_o) (O_9:Q_9 P w base cl tx 21 c_9):X9 P w base cl tx 25 (fun ts=>zn (kP c_o c_9 (en0 1 ts))):=by
 refine Z3 tx.C_1f.F vA rfl (fun cdv A outer s H E Y hy hE hr=> ?_) (fun ts h=>rfl)
 have nd:=vA.nd
 repeat' gp_on
theorem GM (xo_Sieve:cl 101= .ref tx.B_Sieve):Q_u P w base cl tx 1 (fun fs ts=>b_u  (enM 101 1 fs ts)):=by
 refine JE (k:=101) (n:=0) (j:=1) tx.S_Sieve.C_base.F KM rfl rfl (by decide) (by rfl) (fun cdv A outer s H E Y hy hE hr=> ?_)
 have nd:=KM.nd
 repeat' gp_on
theorem Xy:Xa P w base cl tx 1 (fun ts=>zn (kR  (en0 1 ts))):=by
 refine zH tx.C_1d.F vC rfl (fun cdv A outer s H E Y hy hr=> ?_) (fun ts h=>rfl)
 have nd:=vC.nd
 repeat' gp_on
theorem GN {j:Nat} (hj:1<=j) {c_c c_1d:List T->R T} (O_c:Q_c P w base cl tx j c_c) (O_1d:Xa P w base cl tx 1 c_1d):Q_c P w base cl tx (j+1) (fun ts=>zn (b_c c_c c_1d (en0 1 ts))):=by
 refine zH tx.C_c.F KO rfl (fun cdv A outer s H E Y hy hr=> ?_) (fun ts h=>rfl)
 have nd:=KO.nd
 repeat' gp_on
 refine zR (zS ["part"] N_c (z9 s_c) (by rfl) (by rfl) (by decide+kernel) (by rfl) ?_ (fun _ _ _ _ _ _=>zt (show List.Nodup (["part"]:List Str) by decide+kernel) (by rfl) (.inl (by rfl)) (.inr (by rfl))) (zI 0) (zJ 0) (fun Y' hy' _ _ _ _ _ _=> ?_) (fun Y' hy' _ _ _ _ _ _ _ hp' => ?_))
 repeat' gp_on
 refine zR (zS ["part"] N_c (z9 s_c) (by rfl) (by rfl) (by decide+kernel) (by rfl) ?_ (fun _ _ _ _ _ _=>zt (show List.Nodup (["part"]:List Str) by decide+kernel) (by rfl) (.inl (by rfl)) (.inr (by rfl))) (zI 0) (zJ 0) (fun Y' hy' _ _ _ _ _ _=> ?_) (fun Y' hy' _ _ _ _ _ _ _ hp' => ?_))
 repeat' gp_on
theorem Xz {c_h c_c:List T->R T} (O_h:Q_h P w base cl tx 12 c_h) (O_c:Q_c P w base cl tx 9 c_c):Xb P w base cl tx 13 (fun ts=>zn (kT c_h c_c (en0 1 ts))):=by
 refine Z3 tx.C_1h.F vD rfl (fun cdv A outer s H E Y hy hE hr=> ?_) (fun ts h=>rfl)
 have nd:=vD.nd
 repeat' gp_on
theorem GO (xo_Sieve:cl 101= .ref tx.B_Sieve):Q_t P w base cl tx 1 (fun fs ts=>b_t  (enM 101 1 fs ts)):=by
 refine JE (k:=101) (n:=0) (j:=1) tx.S_Sieve.C_steps.F KQ rfl rfl (by decide) (by rfl) (fun cdv A outer s H E Y hy hE hr=> ?_)
 have nd:=KQ.nd
 repeat' gp_on
theorem GP {c_1f c_1h:List T->R T} {c_u c_t:List (Str×Fd)->List T->R T} (xo_Sieve:cl 101= .ref tx.B_Sieve) (O_1f:X9 P w base cl tx 25 c_1f) (O_1h:Xb P w base cl tx 13 c_1h) (O_u:Q_u P w base cl tx 1 c_u) (O_t:Q_t P w base cl tx 1 c_t):Q_n P w base cl tx 26 (fun fs ts=>jY 101 2 (b_n c_1f c_1h c_u c_t (enM 101 2 fs ts))):=by
 refine ZS (k:=101) (n:=0) (j:=2) tx.C_n.F KR rfl rfl (by decide) (fun cdv A outer s H E Y hy hE hr=> ?_)
 have nd:=KR.nd
 repeat' gp_on
 refine zR (zS ["word","rule"] N_n (z9 s_n) (by rfl) (by rfl) (by decide+kernel) (by rfl) ?_ (fun _ _ _ _ _ _=>J8 (by rfl) (zM (zt (show List.Nodup (["word","rule"]:List Str) by decide+kernel) (by rfl) (.inl (by rfl)) (.inr (by rfl))) (zM (zt (show List.Nodup (["word","rule"]:List Str) by decide+kernel) (by rfl) (.inl (by rfl)) (.inr (by rfl))) j7))) (j3 _ 0 1) (j4 0 1) (fun Y' hy' _ _ _ _ _ _=> ?_) (fun Y' hy' _ _ _ _ _ _ _ hp' => ?_))
 repeat' gp_on
 refine zR (zS ["line"] N_n (z9 s_n) (by rfl) (by rfl) (by decide+kernel) (by rfl) ?_ (fun _ _ _ _ _ _=>zt (show List.Nodup (["line"]:List Str) by decide+kernel) (by rfl) (.inl (by rfl)) (.inr (by rfl))) (zI 0) (zJ 0) (fun Y' hy' _ _ _ _ _ _=> ?_) (fun Y' hy' _ _ _ _ _ _ _ hp' => ?_))
 repeat' gp_on
theorem GQ {c_s c_v c_1m c_1n:List T->R T} {c_f:Nat->R T} {c_n c_i c_5 c_6 c_r c_q:List (Str×Fd)->List T->R (T×List (Str×Fd))} {c_g c_k c_m:List (Str×Fd)->List T->R T} (xo_Sieve:cl 101= .ref tx.B_Sieve) (KB:K.In base) (hBT:base.BuiltinsAt mg tx.P_law) (O_s:∀ base,K.In base->Q_s P w base cl tx 2 c_s) (O_n:∀ base,K.In base->Q_n P w base cl tx 26 c_n) (O_v:∀ base,K.In base->Q_v P w base cl tx 25 c_v) (O_i:∀ base,K.In base->Q_i P w base cl tx 43 c_i) (O_5:∀ base,K.In base->Q_5 P w base cl tx 22 c_5) (O_1m:∀ base,K.In base->X0 P w base cl tx 14 c_1m) (O_6:∀ base,K.In base->Q_6 P w base cl tx 22 c_6) (O_1n:∀ base,K.In base->X1 P w base cl tx 14 c_1n) (O_g:∀ base,K.In base->Q_g P w base cl tx 1 c_g) (O_k:∀ base,K.In base->Q_k P w base cl tx 1 c_k) (O_r:∀ base,K.In base->Q_r P w base cl tx 1 c_r) (O_q:∀ base,K.In base->Q_q P w base cl tx 21 c_q) (O_m:∀ base,K.In base->Q_m P w base cl tx 1 c_m) (O__law_told:jo P w cl tx 44 c_f):Q_0 P w base cl tx 47 (fun ts=>zn (b_0 c_s c_f c_n c_v c_i c_5 c_1m c_6 c_1n c_g c_k c_r c_q c_m (enS 11 ts))):=by
 refine Yw tx.C_0.F tx.e_law KS rfl (fun A outer s H E Y hy hE hT hr=> ?_) (fun ts h=>rfl)
 have nd:=KS.nd
 repeat' gp_on
 refine wI hy ⟨rfl,tx.h_law,hBT,rfl⟩ hT (fun _=>rfl) O__law_told hr (by omega) (by rfl) tx.C__law_told.m tx.C__law_told.F.kp tx.C__law_told.b ["_law_sieve","_law_rule"] N_0 (z9 s_0) (by rfl) (by rfl) (by decide+kernel) (by rfl) (by rfl) (fun base A outer s H E f c' clos Y' KB hy hE hr=> ?_)
 repeat' gp_on
 refine wI hy ⟨rfl,tx.h_law,hBT,rfl⟩ hT (fun _=>rfl) O__law_told hr (by omega) (by rfl) tx.C__law_told.m tx.C__law_told.F.kp tx.C__law_told.b ["_law_sieve","_law_rule"] N_0 (z9 s_0) (by rfl) (by rfl) (by decide+kernel) (by rfl) (by rfl) (fun base A outer s H E f c' clos Y' KB hy hE hr=> ?_)
 repeat' gp_on
 refine wI hy ⟨rfl,tx.h_law,hBT,rfl⟩ hT (fun _=>rfl) O__law_told hr (by omega) (by rfl) tx.C__law_told.m tx.C__law_told.F.kp tx.C__law_told.b ["_law_wide"] N_0 (z9 s_0) (by rfl) (by rfl) (by decide+kernel) (by rfl) (by rfl) (fun base A outer s H E f c' clos Y' KB hy hE hr=> ?_)
 repeat' gp_on
 refine wI hy ⟨rfl,tx.h_law,hBT,rfl⟩ hT (fun _=>rfl) O__law_told hr (by omega) (by rfl) tx.C__law_told.m tx.C__law_told.F.kp tx.C__law_told.b [] N_0 (z9 s_0) (by rfl) (by rfl) (by decide+kernel) (by rfl) (by rfl) (fun base A outer s H E f c' clos Y' KB hy hE hr=> ?_)
 repeat' gp_on
end
theorem zO {P:Program} {w:World} {K:PySem.W.Frag} {mg:Str->Option Value} {base:Heap} {CX:CXT} {cl:Nat->Value} {k n:Nat} {f:Addr} {fd:FuncData} {ps:List Str} (hn:n=ps.length):zq P w K mg base CX k f fd ps (spP cl n (fun _=> .bad)):=
 ⟨fun vs H Q E h=>by rw [← hn]; exact spP.len vs H Q E h,fun A outer s H args us vs Q E _ _ _ _ ⟨B,ts,_,_,_,q⟩=>q.elim⟩
section
variable {P:Program} {w:World} {K:PySem.W.Frag} {mg:Str->Option Value} {base:Heap} {cl:Nat->Value} {tx:Tx K mg}
theorem vF (xqA:∀ base,K.In base->Tq K mg base cl) (xo_Sieve:cl 101= .ref tx.B_Sieve) (KB:K.In base) (hBT:base.BuiltinsAt mg tx.P_law):Q_0 P w base cl tx 47 f_0:=by
 have O_a:∀ base,K.In base->Q_a P w base cl tx 1 f_a:=fun _ KB=>Gf
 have O_19:∀ base,K.In base->xS P w base cl tx 2 k6:=fun _ KB=>Xc (O_a _ KB)
 have O_are_choices:∀ base,K.In base->Zy P w base cl tx 1 Zx:=fun _ _=>zO rfl
 have O_1e:∀ base,K.In base->xT P w base cl tx 1 k8:=fun _ KB=>Xd
 have R_7:∀ base,K.In base->∀ n:Nat,Q_7 P w base cl tx (2+n) (S_7 n 0)/\vW P w base cl tx (2+n) (S_7 n 1):=by
  intro base KB n
  induction n with
  | zero=>exact ⟨zO rfl,zO rfl⟩
  | succ n ih=>
   exact ⟨Gg (j:=2+n) (by omega) (O_19 _ KB) ih.1 (O_are_choices _ KB) ih.2,Xe (j:=2+n) (by omega) (O_1e _ KB) ih.1⟩
 have O_7:∀ base,K.In base->Q_7 P w base cl tx 22 (f_7 20):=fun _ KB=>(R_7 _ KB 20).1
 have O_13:∀ base,K.In base->vW P w base cl tx 22 (gR 20):=fun _ KB=>(R_7 _ KB 20).2
 have O_1:∀ base,K.In base->Q_1 P w base cl tx 23 f_1:=fun _ KB=>Gh (O_7 _ KB)
 have O_o:∀ base,K.In base->Q_o P w base cl tx 24 f_o:=fun _ KB=>Gi (xqA _ KB) (O_1 _ KB)
 have O_count_shorter:∀ base,K.In base->Zb P w base cl tx 1 Z8:=fun _ _=>zO rfl
 have R_2:∀ base,K.In base->∀ n:Nat,Q_2 P w base cl tx (1+n) (S_2 n 0)/\vX P w base cl tx (1+n) (S_2 n 1):=by
  intro base KB n
  induction n with
  | zero=>exact ⟨zO rfl,zO rfl⟩
  | succ n ih=>
   exact ⟨Gj (j:=1+n) (by omega) ih.2 (O_count_shorter _ KB),Xf (j:=1+n) (by omega) ih.1⟩
 have O_2:∀ base,K.In base->Q_2 P w base cl tx 21 (f_2 20):=fun _ KB=>(R_2 _ KB 20).1
 have O_1j:∀ base,K.In base->vX P w base cl tx 21 (gS 20):=fun _ KB=>(R_2 _ KB 20).2
 have O_words_of_pick:∀ base,K.In base->Zc P w base cl tx 1 Z9:=fun _ _=>zO rfl
 have O_many_at:∀ base,K.In base->JI P w base cl tx 1 JF:=fun _ _=>zO rfl
 have R_d:∀ base,K.In base->∀ n:Nat,Q_d P w base cl tx (21+n) (S_d n 0)/\vY P w base cl tx (21+n) (S_d n 1):=by
  intro base KB n
  induction n with
  | zero=>exact ⟨zO rfl,zO rfl⟩
  | succ n ih=>
   exact ⟨Gk (j:=21+n) (by omega) (O_words_of_pick _ KB) (O_many_at _ KB) ih.2,Xg (j:=21+n) (by omega) (O_2 _ KB) ih.1⟩
 have O_d:∀ base,K.In base->Q_d P w base cl tx 41 (f_d 20):=fun _ KB=>(R_d _ KB 20).1
 have O_1k:∀ base,K.In base->vY P w base cl tx 41 (gT 20):=fun _ KB=>(R_d _ KB 20).2
 have O_y:∀ base,K.In base->Q_y P w base cl tx 42 f_y:=fun _ KB=>Gm (xqA _ KB) (O_o _ KB) (O_2 _ KB) (O_d _ KB)
 have O_i:∀ base,K.In base->Q_i P w base cl tx 43 f_i:=fun _ KB=>Gn xo_Sieve (O_y _ KB)
 have O_17:∀ base,K.In base->xU P w base cl tx 2 ke:=fun _ KB=>Xh (O_a _ KB)
 have O_11:∀ base,K.In base->xV P w base cl tx 1 kg:=fun _ KB=>Xi
 have R_j:∀ base,K.In base->∀ n:Nat,Q_j P w base cl tx (2+n) (S_j n 0):=by
  intro base KB n
  induction n with
  | zero=>exact zO rfl
  | succ n ih=>
   exact Go (j:=2+n) (by omega) (O_11 _ KB) ih (O_17 _ KB)
 have O_j:∀ base,K.In base->Q_j P w base cl tx 10 (f_j 8):=fun _ KB=>(R_j _ KB 8)
 have O_3:∀ base,K.In base->Q_3 P w base cl tx 11 f_3:=fun _ KB=>Gp (O_j _ KB)
 have O_h:∀ base,K.In base->Q_h P w base cl tx 12 f_h:=fun _ KB=>Gq (xqA _ KB) (O_3 _ KB)
 have O_g:∀ base,K.In base->Q_g P w base cl tx 1 f_g:=fun _ KB=>Gr xo_Sieve
 have R_8:∀ base,K.In base->∀ n:Nat,Q_8 P w base cl tx (0+n) (S_8 n 0):=by
  intro base KB n
  induction n with
  | zero=>exact zO rfl
  | succ n ih=>
   exact Gs (j:=0+n) (by omega) ih
 have O_8:∀ base,K.In base->Q_8 P w base cl tx 8 (f_8 8):=fun _ KB=>(R_8 _ KB 8)
 have O_w:∀ base,K.In base->Q_w P w base cl tx 9 f_w:=fun _ KB=>Gu (O_a _ KB) (O_8 _ KB)
 have O_18:∀ base,K.In base->xW P w base cl tx 1 ki:=fun _ KB=>Xj
 have O_z:∀ base,K.In base->Q_z P w base cl tx 1 f_z:=fun _ KB=>Gv
 have O_10:∀ base,K.In base->xX P w base cl tx 1 kn:=fun _ KB=>Xk
 have O_1b:∀ base,K.In base->xY P w base cl tx 10 kq:=fun _ KB=>Xl (O_18 _ KB) (O_8 _ KB) (O_w _ KB) (O_z _ KB) (O_10 _ KB)
 have R_e:∀ base,K.In base->∀ n:Nat,Q_e P w base cl tx (10+n) (S_e n 0):=by
  intro base KB n
  induction n with
  | zero=>exact zO rfl
  | succ n ih=>
   exact Gw (j:=10+n) (by omega) ih (O_1b _ KB)
 have O_e:∀ base,K.In base->Q_e P w base cl tx 18 (f_e 8):=fun _ KB=>(R_e _ KB 8)
 have O_12:∀ base,K.In base->xZ P w base cl tx 19 kv:=fun _ KB=>Xm (O_e _ KB)
 have O_l:∀ base,K.In base->Q_l P w base cl tx 20 f_l:=fun _ KB=>Gx xo_Sieve (O_12 _ KB)
 have O_4:∀ base,K.In base->Q_4 P w base cl tx 21 f_4:=fun _ KB=>Gy xo_Sieve (O_h _ KB) (O_g _ KB) (O_l _ KB)
 have O_5:∀ base,K.In base->Q_5 P w base cl tx 22 f_5:=fun _ KB=>Gz xo_Sieve (O_4 _ KB)
 have O_6:∀ base,K.In base->Q_6 P w base cl tx 22 f_6:=fun _ KB=>GA xo_Sieve (O_4 _ KB)
 have O_r:∀ base,K.In base->Q_r P w base cl tx 1 f_r:=fun _ KB=>GB (xqA _ KB) xo_Sieve
 have O_k:∀ base,K.In base->Q_k P w base cl tx 1 f_k:=fun _ KB=>GC xo_Sieve
 have O_m:∀ base,K.In base->Q_m P w base cl tx 1 f_m:=fun _ KB=>GD xo_Sieve
 have O_x:∀ base,K.In base->Q_x P w base cl tx 1 f_x:=fun _ KB=>GE
 have O_s:∀ base,K.In base->Q_s P w base cl tx 2 f_s:=fun _ KB=>GF (O_x _ KB)
 have O_f:∀ base,K.In base->Q_f P w base cl tx 1 f_f:=fun _ KB=>GG (xqA _ KB)
 have O_1l:∀ base,K.In base->vZ P w base cl tx 13 xE:=fun _ KB=>Xn (O_h _ KB)
 have O_1m:∀ base,K.In base->X0 P w base cl tx 14 YS:=fun _ KB=>Xo xo_Sieve (O_1l _ KB)
 have O_1n:∀ base,K.In base->X1 P w base cl tx 14 YT:=fun _ KB=>Xp xo_Sieve (O_1l _ KB)
 have O_p:∀ base,K.In base->Q_p P w base cl tx 1 f_p:=fun _ KB=>GH (xqA _ KB)
 have O_1i:∀ base,K.In base->X2 P w base cl tx 2 kB:=fun _ KB=>Xq (xqA _ KB) (O_p _ KB)
 have O_choice_in:∀ base,K.In base->jn P w base cl tx 1 ji:=fun _ _=>zO rfl
 have O_15:∀ base,K.In base->X3 P w base cl tx 1 kD:=fun _ KB=>Xr (xqA _ KB)
 have O_1c:∀ base,K.In base->X4 P w base cl tx 1 kG:=fun _ KB=>Xs
 have O_16:∀ base,K.In base->X5 P w base cl tx 1 kI:=fun _ KB=>Xt (xqA _ KB)
 have O_1a:∀ base,K.In base->X6 P w base cl tx 2 kK:=fun _ KB=>Xu (O_16 _ KB)
 have R_b:∀ base,K.In base->∀ n:Nat,Q_b P w base cl tx (2+n) (S_b n 0):=by
  intro base KB n
  induction n with
  | zero=>exact zO rfl
  | succ n ih=>
   exact GI (j:=2+n) (by omega) (xqA _ KB) (O_15 _ KB) (O_1c _ KB) ih (O_choice_in _ KB) (O_1a _ KB)
 have O_b:∀ base,K.In base->Q_b P w base cl tx 22 (f_b 20):=fun _ KB=>(R_b _ KB 20)
 have O_1g:∀ base,K.In base->X7 P w base cl tx 24 kM:=fun _ KB=>Xv (xqA _ KB) (O_1 _ KB) (O_p _ KB) (O_b _ KB)
 have O_v:∀ base,K.In base->Q_v P w base cl tx 25 f_v:=fun _ KB=>GJ (xqA _ KB) (O_2 _ KB) (O_1g _ KB) (O_1i _ KB)
 have O__law_told:jo P w cl tx 44 f_f:=Yt (i:=1) tx.C__law_told.F JH rfl rfl rfl rfl rfl (by decide) rfl (xqA _ KB).m_WorthError (xqA _ KB).e_WorthError rfl tx.C_f.m tx.C_f.F.kp tx.C_f.b O_f (by decide)
 have O_q:∀ base,K.In base->Q_q P w base cl tx 21 f_q:=fun _ KB=>GK (xqA _ KB) xo_Sieve (O_l _ KB)
 have O_14:∀ base,K.In base->X8 P w base cl tx 1 kO:=fun _ KB=>Xw
 have R_9:∀ base,K.In base->∀ n:Nat,Q_9 P w base cl tx (1+n) (S_9 n 0):=by
  intro base KB n
  induction n with
  | zero=>exact zO rfl
  | succ n ih=>
   exact GL (j:=1+n) (by omega) ih (O_14 _ KB)
 have O_9:∀ base,K.In base->Q_9 P w base cl tx 21 (f_9 20):=fun _ KB=>(R_9 _ KB 20)
 have O_1f:∀ base,K.In base->X9 P w base cl tx 25 kQ:=fun _ KB=>Xx (O_o _ KB) (O_9 _ KB)
 have O_u:∀ base,K.In base->Q_u P w base cl tx 1 f_u:=fun _ KB=>GM xo_Sieve
 have O_1d:∀ base,K.In base->Xa P w base cl tx 1 kS:=fun _ KB=>Xy
 have R_c:∀ base,K.In base->∀ n:Nat,Q_c P w base cl tx (1+n) (S_c n 0):=by
  intro base KB n
  induction n with
  | zero=>exact zO rfl
  | succ n ih=>
   exact GN (j:=1+n) (by omega) ih (O_1d _ KB)
 have O_c:∀ base,K.In base->Q_c P w base cl tx 9 (f_c 8):=fun _ KB=>(R_c _ KB 8)
 have O_1h:∀ base,K.In base->Xb P w base cl tx 13 kU:=fun _ KB=>Xz (O_h _ KB) (O_c _ KB)
 have O_t:∀ base,K.In base->Q_t P w base cl tx 1 f_t:=fun _ KB=>GO xo_Sieve
 have O_n:∀ base,K.In base->Q_n P w base cl tx 26 f_n:=fun _ KB=>GP xo_Sieve (O_1f _ KB) (O_1h _ KB) (O_u _ KB) (O_t _ KB)
 exact GQ xo_Sieve KB hBT O_s O_n O_v O_i O_5 O_1m O_6 O_1n O_g O_k O_r O_q O_m O__law_told
end
def yd:List Str:=["NoKind","NoWorth","NoRule","TooMany","Ended","NoText","NoBack"]
def clK (K:PySem.W.Frag) (c:Nat):Value:=match PySem.W.nsIn K mainGlobals (if c=101 then ("Sieve":Str) else if c=102 then "Finder" else yd.getD c "") with
 | some (some v)=>v
 | _=> .none
theorem jL {K:PySem.W.Frag} {c:Nat} {x:Str} {q:Addr} (hx:(if c=101 then ("Sieve":Str) else if c=102 then "Finder" else yd.getD c "")=x) (h:PySem.W.nsIn K mainGlobals x=some (some (.ref q))):clK K c= .ref q:=by unfold clK; rw [hx,h]
def XA:List Nat:=[0,1,2,3,4,5,6]
def uK (p:Nat->Bool):Bool:=XA.all p
theorem vG {c:Nat} (h:okX c=true):c∈XA:=by
 unfold okX at h; unfold XA; simpa using h
theorem Z2 {p:Nat->Bool} (h:uK p=true) {c:Nat} (hc:okX c=true):p c=true:=List.all_eq_true.mp h c (vG hc)
def YD (K:PySem.W.Frag) (v:Value):Bool:=match v with
 | .ref C=>PySem.W.findIn K (.ref C) "__getattribute__" == some (some (.builtin "BaseException.__getattribute__")) && (PySem.W.findIn K (.ref C) "__getattr__" == some none && (PySem.W.findIn K (.ref C) "__class__" == some (some (.builtin "object.__class__")) && (PySem.W.specialIn K (.builtin "object.__class__") "__get__" == some (some (.builtin "getset_descriptor.__get__")) && (PySem.W.takesIn K (.builtin "object.__class__") == some true && (PySem.W.mroIn K C (.type "object") == some true && (PySem.W.mroIn K C (.type "BaseException") == some true && (PySem.W.clsIn K C).isSome))))))
 | _=>false
theorem UD {K:PySem.W.Frag} {v:Value} (h:YD K v=true):∃ C,v= .ref C/\PySem.W.XCls K C:=by
 unfold YD at h
 split at h
 ·rename_i C
  simp only [Bool.and_eq_true,beq_iff_eq] at h
  obtain ⟨h1,h2,h3,h4,h5,h6,h7,h8⟩:=h
  exact ⟨C,rfl,h1,h2,h3,h4,h5,h6,h7,h8⟩
 ·cases h
theorem JJ {K:PySem.W.Frag} {base:Heap} {mg:Str->Option Value} {x:Str} {C:Addr} {bmB:List Value} {newId:String} (KB:K.In base) (hb:mg x=some (.ref C)) (h:PySem.W.excIn K C bmB newId=true):OwnCls x C bmB newId mg base:=by
 unfold PySem.W.excIn at h
 split at h
 ·rename_i dd cd sl hC
  split at h
  ·rename_i C1 bm a0 a1 a2 a3 m a5 hm hs
   simp only [Bool.and_eq_true,beq_iff_eq,Bool.not_eq_true'] at h
   obtain ⟨⟨⟨⟨⟨h1,h2⟩,h3⟩,h4⟩,h5⟩,h6⟩:=h
   subst h1 h2
   cases cd with
   | mk nm bs mro ns qn hd sn sub ab col del=>
    dsimp only at hm h3 h5 h6
    subst hm h3
    obtain rfl:sl= #[a0,a1,a2,a3,some (.builtin m),a5]:=by
     cases sl; simp only at hs; rw [hs]
    exact ⟨hb,bm,ns,nm,qn,bs,hd,sn,sub,ab,col,dd,a0,a1,a2,a3,a5,_,KB _ _ hC, .of_isNs (PySem.W.isNs_of_in KB h5),PySem.W.nsMap_none_of_in KB h5 h6,PySem.W.tail_of_in KB h4⟩
  ·cases h
 ·cases h
theorem fn1 {K:PySem.W.Frag} {h:Heap} {mg:Str->Option Value} {f:Addr} {od an:Option Addr} {sl:Array (Option Value)} {oc kV dc pm cd ct:Value} {x:Str} {st:Stmt} {ps:List Str} (X:K.In h) (G:h.Ns mainGlobals mg) (e:PySem.W.nsIn K mainGlobals x=some (some (.ref f))) (l:K.lookup f=some ⟨oc,od, .func (PySem.W.fnOf x x (zP st) (zr st) (z9 st) .none kV dc pm an cd ct),sl⟩) (g:PySem.W.codeIn K cd x=true) (k:PySem.W.keepIn K (.ref f)=true)
  (hb:∀ F:Fun K x x st f (PySem.W.fnOf x x (zP st) (zr st) (z9 st) .none kV dc pm an cd ct),L2.Binds K (PySem.W.fnOf x x (zP st) (zr st) (z9 st) .none kV dc pm an cd ct) ps []):Fn K mg x st ps f (PySem.W.fnOf x x (zP st) (zr st) (z9 st) .none kV dc pm an cd ct):=
 have F:=UJ (st:=st) l g k
 ⟨F,hb F,PySem.W.mg_of X G e⟩
theorem fo1 {K:PySem.W.Frag} {f C:Addr} {od an:Option Addr} {sl:Array (Option Value)} {oc kV dc pm cd ct:Value} {x qual:Str} {st:Stmt} {ps:List Str} (i:PySem.W.findIn K (.ref C) x=some (some (.ref f))) (l:K.lookup f=some ⟨oc,od, .func (PySem.W.fnOf x qual (zP st) (zr st) (z9 st) .none kV dc pm an cd ct),sl⟩) (g:PySem.W.codeIn K cd qual=true) (k:PySem.W.keepIn K (.ref f)=true) (fn:PySem.W.isFn K (.ref f)=true)
  (hb:∀ F:Fun K x qual st f (PySem.W.fnOf x qual (zP st) (zr st) (z9 st) .none kV dc pm an cd ct),L2.Binds K (PySem.W.fnOf x qual (zP st) (zr st) (z9 st) .none kV dc pm an cd ct) ps []):FnO K x qual st ps f (PySem.W.fnOf x qual (zP st) (zr st) (z9 st) .none kV dc pm an cd ct) C:=
 have F:=UJ (st:=st) l g k
 ⟨F,hb F,⟨i,fn,k⟩⟩
abbrev vH {K:PySem.W.Frag} {h:Heap} (_:K.In h) (mg:Str->Option Value) (C:Addr) (a_i:Addr) (d_i:FuncData) (a_g:Addr) (d_g:FuncData) (a_l:Addr) (d_l:FuncData) (a_4:Addr) (d_4:FuncData) (a_5:Addr) (d_5:FuncData) (a_6:Addr) (d_6:FuncData) (a_r:Addr) (d_r:FuncData) (a_k:Addr) (d_k:FuncData) (a_m:Addr) (d_m:FuncData) (a_q:Addr) (d_q:FuncData) (a_u:Addr) (d_u:FuncData) (a_t:Addr) (d_t:FuncData):Prop:=wP K mg C a_i d_i a_g d_g a_l d_l a_4 d_4 a_5 d_5 a_6 d_6 a_r d_r a_k d_k a_m d_m a_q d_q a_u d_u a_t d_t
theorem fin_ {l:PySem.W.OpenLaw} {w:World} {K:PySem.W.Frag} {h:Heap} {mg:Str->Option Value} {fa:Addr} (X:K.In h) (G:h.Ns mainGlobals mg) (hfa:mg "law"=some (.ref fa)) (tx:Tx K mg) (hB:∀ (s:Shared) (v:Value),BindsTo s tx.d_0 ⟨[v],[]⟩ [("_law_script",v)]) (hts:h.get? tx.P_law=some (PySem.W.tabObj #[])) {q_Ended q_NoBack q_NoKind q_NoRule q_NoText q_NoWorth q_TooMany q_WorthError:Addr} (n_Ended:PySem.W.nsIn K mainGlobals "Ended"=some (some (.ref q_Ended))) (n_NoBack:PySem.W.nsIn K mainGlobals "NoBack"=some (some (.ref q_NoBack))) (n_NoKind:PySem.W.nsIn K mainGlobals "NoKind"=some (some (.ref q_NoKind))) (n_NoRule:PySem.W.nsIn K mainGlobals "NoRule"=some (some (.ref q_NoRule))) (n_NoText:PySem.W.nsIn K mainGlobals "NoText"=some (some (.ref q_NoText))) (n_NoWorth:PySem.W.nsIn K mainGlobals "NoWorth"=some (some (.ref q_NoWorth))) (n_TooMany:PySem.W.nsIn K mainGlobals "TooMany"=some (some (.ref q_TooMany))) (n_WorthError:PySem.W.nsIn K mainGlobals "WorthError"=some (some (.ref q_WorthError))) (b_K:uK (fun c=>YD K (clK K c))=true) (b_e_WorthError:uK (fun c=>PySem.W.exmOne K (clK K c) (.ref q_WorthError) == some true)=true) (b_o_NoBack:PySem.W.excIn K q_NoBack uR "ValueError.__new__"=true) (b_o_NoKind:PySem.W.excIn K q_NoKind uR "ValueError.__new__"=true) (b_o_NoRule:PySem.W.excIn K q_NoRule uR "ValueError.__new__"=true) (b_o_NoText:PySem.W.excIn K q_NoText uR "ValueError.__new__"=true) (b_o_TooMany:PySem.W.excIn K q_TooMany uR "ValueError.__new__"=true) (b_t_Ended:uK (fun c=>PySem.W.kitOne K (clK K c) (.ref q_Ended) == some (jh c))=true) (b_t_NoBack:uK (fun c=>PySem.W.kitOne K (clK K c) (.ref q_NoBack) == some (ZL c))=true) (b_t_NoKind:uK (fun c=>PySem.W.kitOne K (clK K c) (.ref q_NoKind) == some (ZI c))=true) (b_t_NoRule:uK (fun c=>PySem.W.kitOne K (clK K c) (.ref q_NoRule) == some (ZJ c))=true) (b_t_NoText:uK (fun c=>PySem.W.kitOne K (clK K c) (.ref q_NoText) == some (ZK c))=true) (b_t_NoWorth:uK (fun c=>PySem.W.kitOne K (clK K c) (.ref q_NoWorth) == some (Zp c))=true) (b_t_TooMany:uK (fun c=>PySem.W.kitOne K (clK K c) (.ref q_TooMany) == some (Zq c))=true) (b_t_ValueError:uK (fun c=>PySem.W.kitOne K (clK K c) (.type "ValueError") == some (Z1 c))=true):∃ (fd:FuncData) (c Pt:Addr),(∀ (s:Shared) (v:Value),BindsTo s fd ⟨[v],[]⟩ [("_law_script",v)])/\h.get? Pt=some (PySem.W.tabObj #[])/\K.lookup Pt=none/\PySem.W.codeHdIn K c Pt=true/\∀ base:Heap,K.In base->base.BuiltinsAt mg Pt->zq l.prog w K mg base (CX1 l.prog w) 47 fa fd ["_law_script"] (YO (clK K) 1 f_0 Pt qL):=by
 have e:=hfa.symm.trans tx.C_0.m
 cases e
 exact ⟨tx.d_0,tx.k_law,tx.P_law,hB,hts,tx.n_law,tx.h_law,fun base KB hBT=>vF (fun base KB=>⟨q_Ended,q_NoBack,q_NoKind,q_NoRule,q_NoText,q_NoWorth,q_TooMany,q_WorthError,⟨fun c hc=>UD (Z2 b_K hc)⟩,(fun c hc=>beq_iff_eq.mp (Z2 b_e_WorthError hc)),(jL (x:="NoBack") rfl n_NoBack),(jL (x:="NoKind") rfl n_NoKind),(jL (x:="NoRule") rfl n_NoRule),(jL (x:="NoText") rfl n_NoText),(jL (x:="TooMany") rfl n_TooMany),(PySem.W.mg_of X G n_Ended),(PySem.W.mg_of X G n_NoBack),(PySem.W.mg_of X G n_NoKind),(PySem.W.mg_of X G n_NoRule),(PySem.W.mg_of X G n_NoText),(PySem.W.mg_of X G n_NoWorth),(PySem.W.mg_of X G n_TooMany),(PySem.W.mg_of X G n_WorthError),(JJ KB (PySem.W.mg_of X G n_NoBack) b_o_NoBack),(JJ KB (PySem.W.mg_of X G n_NoKind) b_o_NoKind),(JJ KB (PySem.W.mg_of X G n_NoRule) b_o_NoRule),(JJ KB (PySem.W.mg_of X G n_NoText) b_o_NoText),(JJ KB (PySem.W.mg_of X G n_TooMany) b_o_TooMany),(fun c hc=>beq_iff_eq.mp (Z2 b_t_Ended hc)),(fun c hc=>beq_iff_eq.mp (Z2 b_t_NoBack hc)),(fun c hc=>beq_iff_eq.mp (Z2 b_t_NoKind hc)),(fun c hc=>beq_iff_eq.mp (Z2 b_t_NoRule hc)),(fun c hc=>beq_iff_eq.mp (Z2 b_t_NoText hc)),(fun c hc=>beq_iff_eq.mp (Z2 b_t_NoWorth hc)),(fun c hc=>beq_iff_eq.mp (Z2 b_t_TooMany hc)),(fun c hc=>beq_iff_eq.mp (Z2 b_t_ValueError hc))⟩) (jL (x:="Sieve") rfl tx.S_Sieve.l) KB hBT⟩
def uL (K:PySem.W.Frag):Bool:=K.all fun p=> !(p.2.cls == Value.type "list")
theorem YE {K:PySem.W.Frag} (h:uL K=true) {a:Addr} {o:Obj} (e:K.lookup a=some o) (c:o.cls=Value.type "list"):False:=by
 have hm:(a,o)∈K:=by
  clear h
  induction K with
  | nil=>cases e
  | cons p r ih=>
   obtain ⟨b,u⟩:=p
   by_cases hb:a=b
   ·subst hb
    have e' :some u=some o:=by simpa [List.lookup_cons] using e
    cases e'; exact List.mem_cons_self
   ·have e' :r.lookup a=some o:=by rw [List.lookup_cons,(beq_eq_false_iff_ne.mpr hb)] at e; exact e
    exact List.mem_cons_of_mem _ (ih e')
 have:=List.all_eq_true.mp h _ hm
 rw [c] at this
 simp at this
def GR (o:Obj):Option Addr:=match o.data with
 | .fields vs=>(match (vs[11]? :Option Value) with | some (.ref P)=>some P | _=>none)
 | _=>none
structure XB (K:PySem.W.Frag) (c P:Addr) (o:Obj):Prop where
 t:K.lookup c=some o
 u:GR o=some P
 h:PySem.W.codeHdIn K c P=true
 n:K.lookup P=none
abbrev KT {K:PySem.W.Frag} {h:Heap} (_:K.In h) (c P:Addr) (o:Obj):Prop:=XB K c P o
theorem vI {cl:Nat->Value} {H:Hp} {a Pt:Addr} {o:Obj} {q:Str} {ns:List Int} (hL:f_0 [.fz (ns.map T.int)]= .ok (.bl true)) (h:H a=some (.frz o (.lst (ns.map V.int)))) (h2:H Pt=some (.tbl #[] q)):YO cl 1 f_0 Pt q [.ref a] H (fun v _=>v= .bl true) fun _ _ _=>False:=by
 have scrR:∀ ns:List Int,zk H (ns.map V.int) (ns.map T.int):=fun ns=>by
  induction ns with
  | nil=>exact .nil
  | cons n r ih=>exact .cons (.int n) ih
 refine ⟨h2,H,[.fz (ns.map T.int)],rfl,zg.refl H, .cons (.fz h (scrR ns)) .nil, ?_⟩
 rw [hL]
 intro v H' _ r
 cases r; rfl
theorem walk {l:PySem.W.OpenLaw} {q:Program} {loose:List Str} {XP:(Str->Option Value)->Heap->Prop} {YP:World->Heap->Prop} {d:DefRec} {K:Params->PySem.W.Frag} {ts:List Addr} (hn:l.most=some 63) (hdf:d.params.defaults=[])
  (hL:∀ ns:List Int,ns.length<=63->f_0 [.fz (ns.map T.int)]= .ok (.bl true)) (hK:∀ p,uL (K p)=true)
  (hY:∀ (w:World) (h:Heap),YP w h->(K w.params).In h/\∀ P∈ts,h.get? P=some (PySem.W.tabObj #[]))
  (F:∀ (w:World) (mg:Str->Option Value) (fa:Addr) (h:Heap),(K w.params).In h->h.Ns mainGlobals mg->mg d.name=some (.ref fa)->(∀ P∈ts,h.get? P=some (PySem.W.tabObj #[]))->
   ∃ (fd:FuncData) (c Pt:Addr),(∀ (s:Shared) (u:Value),BindsTo s fd ⟨[u],[]⟩ [("_law_script",u)])/\h.get? Pt=some (PySem.W.tabObj #[])/\(K w.params).lookup Pt=none/\PySem.W.codeHdIn (K w.params) c Pt=true/\∀ base:Heap,(K w.params).In base->base.BuiltinsAt mg Pt->zq l.prog w (K w.params) mg base (CX1 l.prog w) 47 fa fd ["_law_script"] (YO (clK (K w.params)) 1 f_0 Pt qL)):
  PySem.W.WalkO q loose XP YP l.row.toRowW d [] (fun f vs=>PySem.call f vs):=
 L2.walk_ofT (n:=63) (k:=47) (x:="_law_script") (nm:=qL) (CX:=fun w=>(CX1 l.prog w)) (sp:=fun w Pt=>YO (clK (K w.params)) 1 f_0 Pt qL) hn (by decide) hdf ⟨rfl,by decide,by decide,rfl⟩ hY (fun w a o e c=>YE (hK w.params) e c) F (fun w H a Pt o ns hl h1 h2=>vI (hL ns hl) h1 h2) fun _ _ _ _ _ ⟨_,_,_,_,_,_,_,z⟩=>z
end G
namespace PySem.W.Fast
def tw1799061038225785194:=0
def tw1079907644917532248:=0
def tw5433843238675722688:=0
def tw1236376730077707539:=0
def tw6426155659878035196:=0
def tw15657747781240731525:=0
def tw1988864191078275837:=0
def tw6499297036363661547:=0
def tw16306111229098803543:=0
def tw2748305540600407531:=0
def tw4533215705526278928:=0
def tw15933623006456814071:=0
def tw12645247962750760898:=0
def tw11821158562525904260:=0
def tw15905565010636945970:=0
def tw8421041296038812939:=0
def tw14213790240944140728:=0
def tw10149391292329984965:=0
def tw15731523201592437805:=0
def tw6688855200286089487:=0
def tw18446216947228881569:=0
def tw16158030039780001009:=0
def tw9372757898939300013:=0
def tw1286702107216865523:=0
def tw7044796944799103378:=0
def tw5380471752657367789:=0
def tw10248786519805088169:=0
def tw10373106766779929288:=0
def tw8907475729196590729:=0
def tw7230709676811956085:=0
def tw12242963349887926013:=0
def tw3906960970447400668:=0
def tw6295440153532229517:=0
def tw13543056090078608626:=0
def tw14768445157474798745:=0
def tw15364993589388494952:=0
def tw4584858174238024664:=0
def tw2578752265616871525:=0
def tw17748300456471178458:=0
def tw9267209260439954595:=0
def tw17657120129907177369:=0
def tw5141631118263329842:=0
def tw11208677204874277989:=0
def tw1031582851637721412:=0
def tw9194123562420067906:=0
def tw584060956582952961:=0
def tw1248320085354092620:=0
def tw11015681139494579250:=0
def tw16058824239014276069:=0
def tw8065463143029368572:=0
def tw15566655347784743418:=0
def tw12994333363385491359:=0
def tw16230613227809273448:=0
def tw9423806882536209059:=0
def tw11138714112745880989:=0
def tw8199889671145987945:=0
def tw9292754299266446954:=0
def tw10017631807422479497:=0
def tw15366832771915953176:=0
def tw2228331513810770935:=0
def tw13938192912318410989:=0
def tw6491850629775928724:=0
def tw2236853918346424440:=0
def tw7490084354191348168:=0
def tw13810102300426602488:=0
def tw15771689348789461571:=0
def tw15180328951150426896:=0
def tw703631035290214465:=0
def tw12676608400265391570:=0
def tw9127033263064775943:=0
def tw2631717154393536754:=0
def tw10504813265502380839:=0
def tw13968397075346268559:=0
def tw7941906271407667225:=0
def tw1794072103278025151:=0
def tw9315498227776169315:=0
def tw13383820449743631116:=0
def tw18191628418448390766:=0
def tw17305316782822080576:=0
def tw10821072607266004097:=0
def tw15082974641677295999:=0
def tw5221747321635566574:=0
def tw1600356647509430349:=0
def tw13948359966411751279:=0
def tw13214704376208183700:=0
def tw5470779332451450245:=0
def tw12330385726547770966:=0
def tw11269014078732788524:=0
def tw9712597806342180236:=0
def tw3527515165520039148:=0
def tw12811829718303215094:=0
def tw43101120797818221:=0
def tw7645534738363968760:=0
def tw11070351253628568548:=0
def tw11964934352529518568:=0
def tw13336058656474343148:=0
def tw14790804386524579342:=0
def tw12451412537046866069:=0
def tw10829844215983442866:=0
def tw3312194884433801229:=0
def tw1881141567455556215:=0
def tw8888185603602076022:=0
def tw18364890916723461450:=0
def tw13874569881527584045:=0
def tw2979173398322765093:=0
def tw12917857458782644213:=0
def tw15903043451721215469:=0
def tw14742003564635938666:=0
def tw14361045959358923137:=0
def tw8244128469221294323:=0
def tw14548621894526626839:=0
def tw9916276646349119820:=0
def tw7536315574776833319:=0
def tw10437297744088983324:=0
def tw18436500518800742876:=0
def tw13566986563631712224:=0
def tw14146950045453186071:=0
def tw7421662953039288251:=0
def tw1911686775939006448:=0
def tw4684878141082559543:=0
def tw3728594121462834776:=0
def tw7512656714917210884:=0
def tw16028266561213224961:=0
def tw6476546005341027163:=0
def tw9960293162926493362:=0
def tw17492291308742550913:=0
def tw5927867527488053480:=0
def tw14963693453081439733:=0
def tw7906287837434923715:=0
def tw12703992779149828816:=0
def tw13966135711390352148:=0
def tw767456304340427381:=0
def tw2276754066902802130:=0
def tw15889082488650251274:=0
def tw6856853175433785663:=0
def tw12961459108267533715:=0
def tw2603402454695074036:=0
def tw2394783467439918658:=0
def tw9729320872417236447:=0
def tw1654185829371043226:=0
def tw916873889620795468:=0
def tw13661033870480376383:=0
def tw17577730188839511110:=0
def tw8227021118376857803:=0
def tw8892190597468528086:=0
def tw14647428910058999590:=0
def tw888893716025977173:=0
def tw16198371168796049881:=0
def tw9119830573888028013:=0
def tw10135705834868025534:=0
def tw11686249208379873737:=0
def tw10256368893205656104:=0
def tw13290601393653362763:=0
def tw14733119098766328592:=0
def tw10574244361212071802:=0
def tw5912115245279154766:=0
def tw1491486002129907366:=0
def tw8526199716973623926:=0
def tw5999051423738183972:=0
def tw749157845409225260:=0
def tw13080874821765686941:=0
def tw14538010467088660372:=0
def tw11068804946771125944:=0
def tw14358091671052100775:=0
def tw9114814670812515866:=0
def tw2046546207248578212:=0
def tw11167926671191029917:=0
def tw17229231559513410172:=0
def tw9984807767721564514:=0
def tw2808168697370735503:=0
def tw9112403522222837256:=0
def tw107962659509409066:=0
def tw8459948649442518379:=0
def tw6064318051527476225:=0
def tw11095913526070395513:=0
def tw15685169483239486406:=0
def tw9854116470009402893:=0
def tw13729466508434869477:=0
def tw13051236084576738603:=0
def tw6931685919018650752:=0
def tw5089789822426838342:=0
def tw13512762022373053423:=0
def tw288274106770938859:=0
def tw2043571991578326924:=0
def tw4044122041381272756:=0
def tw17665589928351273034:=0
def tw17195250068641107220:=0
def tw5546673490875483187:=0
end PySem.W.Fast
open PySem PySem.W PyProof.Rows
set_option maxRecDepth 100000 in
set_option maxHeartbeats 0 in
theorem PySem.Challenge.cw_worthkinds_k84_sieves_refused_holds : PySem.Challenge.rw_worthkinds_k84_sieves_refused.Holds := by
 w_on; o_law; k_head; (case hw=>w_witness2)
 k_fill
 refine G.walk (l:=PySem.Challenge.rw_worthkinds_k84_sieves_refused) rfl rfl G.kX ?nl (fun w h Y=>⟨PySem.W.km_in_of Y,PySem.W.km_tabs_of Y⟩) ?F
 case nl=>intro p; kernel_rfl
 case F=>
  intro w mg fa h KX G0 hmg hT
  obtain ⟨eSieve,aSieve_init,dSieve_init,aSieve_left,dSieve_left,aSieve_do_step,dSieve_do_step,aSieve_new_step,dSieve_new_step,aSieve_keep,dSieve_keep,aSieve_bar,dSieve_bar,aSieve_back,dSieve_back,aSieve_worths,dSieve_worths,aSieve_counts,dSieve_counts,aSieve_forth,dSieve_forth,aSieve_base,dSieve_base,aSieve_steps,dSieve_steps,CSieve⟩:∃ eSieve aSieve_init dSieve_init aSieve_left dSieve_left aSieve_do_step dSieve_do_step aSieve_new_step dSieve_new_step aSieve_keep dSieve_keep aSieve_bar dSieve_bar aSieve_back dSieve_back aSieve_worths dSieve_worths aSieve_counts dSieve_counts aSieve_forth dSieve_forth aSieve_base dSieve_base aSieve_steps dSieve_steps,G.vH KX mg eSieve aSieve_init dSieve_init aSieve_left dSieve_left aSieve_do_step dSieve_do_step aSieve_new_step dSieve_new_step aSieve_keep dSieve_keep aSieve_bar dSieve_bar aSieve_back dSieve_back aSieve_worths dSieve_worths aSieve_counts dSieve_counts aSieve_forth dSieve_forth aSieve_base dSieve_base aSieve_steps dSieve_steps:=by
   refine' ⟨_,_,_,_,_,_,_,_,_,_,_,_,_,_,_,_,_,_,_,_,_,_,_,_,_,⟨?ze,PySem.W.mg_of KX G0 ?ze2,⟨?zpg, ?zhd, ?zpo, ?zsa⟩,⟨?zma, ?zi0m, ?zf0m, ?zkc⟩, ?zn0, ?zn1, ?zn2, ?zn3,G.fo1 ?zi0 ?zl0 ?zg0 ?zk0 ?zf0 (fun F=>F.binds (ps:=["self","kind"]) fun _ _ _ _ _ _ us hl=>match us,hl with | [_,_],_=>rfl),G.fo1 ?zi1 ?zl1 ?zg1 ?zk1 ?zf1 (fun F=>F.binds (ps:=["self"]) fun _ _ _ _ _ _ us hl=>match us,hl with | [_],_=>rfl),G.fo1 ?zi2 ?zl2 ?zg2 ?zk2 ?zf2 (fun F=>F.binds (ps:=["self","step"]) fun _ _ _ _ _ _ us hl=>match us,hl with | [_,_],_=>rfl),G.fo1 ?zi3 ?zl3 ?zg3 ?zk3 ?zf3 (fun F=>F.binds (ps:=["self","word","rule"]) fun _ _ _ _ _ _ us hl=>match us,hl with | [_,_,_],_=>rfl),G.fo1 ?zi4 ?zl4 ?zg4 ?zk4 ?zf4 (fun F=>F.binds (ps:=["self","rule"]) fun _ _ _ _ _ _ us hl=>match us,hl with | [_,_],_=>rfl),G.fo1 ?zi5 ?zl5 ?zg5 ?zk5 ?zf5 (fun F=>F.binds (ps:=["self","rule"]) fun _ _ _ _ _ _ us hl=>match us,hl with | [_,_],_=>rfl),G.fo1 ?zi6 ?zl6 ?zg6 ?zk6 ?zf6 (fun F=>F.binds (ps:=["self"]) fun _ _ _ _ _ _ us hl=>match us,hl with | [_],_=>rfl),G.fo1 ?zi7 ?zl7 ?zg7 ?zk7 ?zf7 (fun F=>F.binds (ps:=["self"]) fun _ _ _ _ _ _ us hl=>match us,hl with | [_],_=>rfl),G.fo1 ?zi8 ?zl8 ?zg8 ?zk8 ?zf8 (fun F=>F.binds (ps:=["self"]) fun _ _ _ _ _ _ us hl=>match us,hl with | [_],_=>rfl),G.fo1 ?zi9 ?zl9 ?zg9 ?zk9 ?zf9 (fun F=>F.binds (ps:=["self"]) fun _ _ _ _ _ _ us hl=>match us,hl with | [_],_=>rfl),G.fo1 ?zi10 ?zl10 ?zg10 ?zk10 ?zf10 (fun F=>F.binds (ps:=["self"]) fun _ _ _ _ _ _ us hl=>match us,hl with | [_],_=>rfl),G.fo1 ?zi11 ?zl11 ?zg11 ?zk11 ?zf11 (fun F=>F.binds (ps:=["self"]) fun _ _ _ _ _ _ us hl=>match us,hl with | [_],_=>rfl)⟩⟩
   (case ze=>k_is)
   (case ze2=>k_is)
   (case zi0=>k_is)
   (case zl0=>k_is)
   (case zg0=>k_is)
   (case zk0=>k_is)
   (case zf0=>kernel_rfl)
   (case zi1=>k_is)
   (case zl1=>k_is)
   (case zg1=>k_is)
   (case zk1=>k_is)
   (case zf1=>kernel_rfl)
   (case zi2=>k_is)
   (case zl2=>k_is)
   (case zg2=>k_is)
   (case zk2=>k_is)
   (case zf2=>kernel_rfl)
   (case zi3=>k_is)
   (case zl3=>k_is)
   (case zg3=>k_is)
   (case zk3=>k_is)
   (case zf3=>kernel_rfl)
   (case zi4=>k_is)
   (case zl4=>k_is)
   (case zg4=>k_is)
   (case zk4=>k_is)
   (case zf4=>kernel_rfl)
   (case zi5=>k_is)
   (case zl5=>k_is)
   (case zg5=>k_is)
   (case zk5=>k_is)
   (case zf5=>kernel_rfl)
   (case zi6=>k_is)
   (case zl6=>k_is)
   (case zg6=>k_is)
   (case zk6=>k_is)
   (case zf6=>kernel_rfl)
   (case zi7=>k_is)
   (case zl7=>k_is)
   (case zg7=>k_is)
   (case zk7=>k_is)
   (case zf7=>kernel_rfl)
   (case zi8=>k_is)
   (case zl8=>k_is)
   (case zg8=>k_is)
   (case zk8=>k_is)
   (case zf8=>kernel_rfl)
   (case zi9=>k_is)
   (case zl9=>k_is)
   (case zg9=>k_is)
   (case zk9=>k_is)
   (case zf9=>kernel_rfl)
   (case zi10=>k_is)
   (case zl10=>k_is)
   (case zg10=>k_is)
   (case zk10=>k_is)
   (case zf10=>kernel_rfl)
   (case zi11=>k_is)
   (case zl11=>k_is)
   (case zg11=>k_is)
   (case zk11=>k_is)
   (case zf11=>kernel_rfl)
   (case zi0m=>k_is)
   (case zf0m=>kernel_rfl)
   (case zkc=>k_is)
   (case zpg=>kernel_rfl)
   (case zhd=>kernel_rfl)
   (case zpo=>kernel_rfl)
   (case zsa=>kernel_rfl)
   (case zma=>kernel_rfl)
   (case zn0=>unfold L2.NoAttr; kernel_rfl)
   (case zn1=>unfold L2.NoAttr; kernel_rfl)
   (case zn2=>unfold L2.NoAttr; kernel_rfl)
   (case zn3=>unfold L2.NoAttr; kernel_rfl)
  obtain ⟨a0,d0,C0⟩:∃ a d,G.Fn _ mg "is_whole" G.s_a ["thing"] a d:=by
   refine' ⟨_,_,G.fn1 KX G0 ?e ?l ?g ?k (fun F=>F.binds (ps:=["thing"]) fun _ _ _ _ _ _ us hl=>match us,hl with | [_],_=>rfl)⟩
   (case e=>k_is)
   (case l=>k_is)
   (case g=>k_is)
   (case k=>k_is)
  obtain ⟨a1,d1,C1⟩:∃ a d,G.Fn _ mg "is_span" G.kZ ["low","high","least","most"] a d:=by
   refine' ⟨_,_,G.fn1 KX G0 ?e ?l ?g ?k (fun F=>F.binds (ps:=["low","high","least","most"]) fun _ _ _ _ _ _ us hl=>match us,hl with | [_,_,_,_],_=>rfl)⟩
   (case e=>k_is)
   (case l=>k_is)
   (case g=>k_is)
   (case k=>k_is)
  obtain ⟨a2,d2,C2⟩:∃ a d,G.Fn _ mg "are_choices" G.J4 ["thing"] a d:=by
   refine' ⟨_,_,G.fn1 KX G0 ?e ?l ?g ?k (fun F=>F.binds (ps:=["thing"]) fun _ _ _ _ _ _ us hl=>match us,hl with | [_],_=>rfl)⟩
   (case e=>k_is)
   (case l=>k_is)
   (case g=>k_is)
   (case k=>k_is)
  obtain ⟨a3,d3,C3⟩:∃ a d,G.Fn _ mg "is_tuple_of" G.K0 ["thing","least","most"] a d:=by
   refine' ⟨_,_,G.fn1 KX G0 ?e ?l ?g ?k (fun F=>F.binds (ps:=["thing","least","most"]) fun _ _ _ _ _ _ us hl=>match us,hl with | [_,_,_],_=>rfl)⟩
   (case e=>k_is)
   (case l=>k_is)
   (case g=>k_is)
   (case k=>k_is)
  obtain ⟨a4,d4,C4⟩:∃ a d,G.Fn _ mg "is_kind_within" G.s_7 ["thing","levels"] a d:=by
   refine' ⟨_,_,G.fn1 KX G0 ?e ?l ?g ?k (fun F=>F.binds (ps:=["thing","levels"]) fun _ _ _ _ _ _ us hl=>match us,hl with | [_,_],_=>rfl)⟩
   (case e=>k_is)
   (case l=>k_is)
   (case g=>k_is)
   (case k=>k_is)
  obtain ⟨a5,d5,C5⟩:∃ a d,G.Fn _ mg "are_kinds_within" G.xO ["thing","levels"] a d:=by
   refine' ⟨_,_,G.fn1 KX G0 ?e ?l ?g ?k (fun F=>F.binds (ps:=["thing","levels"]) fun _ _ _ _ _ _ us hl=>match us,hl with | [_,_],_=>rfl)⟩
   (case e=>k_is)
   (case l=>k_is)
   (case g=>k_is)
   (case k=>k_is)
  obtain ⟨a6,d6,C6⟩:∃ a d,G.Fn _ mg "is_kind" G.s_1 ["thing"] a d:=by
   refine' ⟨_,_,G.fn1 KX G0 ?e ?l ?g ?k (fun F=>F.binds (ps:=["thing"]) fun _ _ _ _ _ _ us hl=>match us,hl with | [_],_=>rfl)⟩
   (case e=>k_is)
   (case l=>k_is)
   (case g=>k_is)
   (case k=>k_is)
  obtain ⟨a7,d7,C7⟩:∃ a d,G.Fn _ mg "need_kind" G.s_o ["kind"] a d:=by
   refine' ⟨_,_,G.fn1 KX G0 ?e ?l ?g ?k (fun F=>F.binds (ps:=["kind"]) fun _ _ _ _ _ _ us hl=>match us,hl with | [_],_=>rfl)⟩
   (case e=>k_is)
   (case l=>k_is)
   (case g=>k_is)
   (case k=>k_is)
  obtain ⟨a8,d8,C8⟩:∃ a d,G.Fn _ mg "count_shorter" G.jk ["kind","length"] a d:=by
   refine' ⟨_,_,G.fn1 KX G0 ?e ?l ?g ?k (fun F=>F.binds (ps:=["kind","length"]) fun _ _ _ _ _ _ us hl=>match us,hl with | [_,_],_=>rfl)⟩
   (case e=>k_is)
   (case l=>k_is)
   (case g=>k_is)
   (case k=>k_is)
  obtain ⟨a9,d9,C9⟩:∃ a d,G.Fn _ mg "count_of" G.s_2 ["kind"] a d:=by
   refine' ⟨_,_,G.fn1 KX G0 ?e ?l ?g ?k (fun F=>F.binds (ps:=["kind"]) fun _ _ _ _ _ _ us hl=>match us,hl with | [_],_=>rfl)⟩
   (case e=>k_is)
   (case l=>k_is)
   (case g=>k_is)
   (case k=>k_is)
  obtain ⟨a10,d10,C10⟩:∃ a d,G.Fn _ mg "count_of_parts" G.K6 ["kinds"] a d:=by
   refine' ⟨_,_,G.fn1 KX G0 ?e ?l ?g ?k (fun F=>F.binds (ps:=["kinds"]) fun _ _ _ _ _ _ us hl=>match us,hl with | [_],_=>rfl)⟩
   (case e=>k_is)
   (case l=>k_is)
   (case g=>k_is)
   (case k=>k_is)
  obtain ⟨a11,d11,C11⟩:∃ a d,G.Fn _ mg "words_of_pick" G.jl ["kind"] a d:=by
   refine' ⟨_,_,G.fn1 KX G0 ?e ?l ?g ?k (fun F=>F.binds (ps:=["kind"]) fun _ _ _ _ _ _ us hl=>match us,hl with | [_],_=>rfl)⟩
   (case e=>k_is)
   (case l=>k_is)
   (case g=>k_is)
   (case k=>k_is)
  obtain ⟨a12,d12,C12⟩:∃ a d,G.Fn _ mg "many_at" G.uJ ["kind","number"] a d:=by
   refine' ⟨_,_,G.fn1 KX G0 ?e ?l ?g ?k (fun F=>F.binds (ps:=["kind","number"]) fun _ _ _ _ _ _ us hl=>match us,hl with | [_,_],_=>rfl)⟩
   (case e=>k_is)
   (case l=>k_is)
   (case g=>k_is)
   (case k=>k_is)
  obtain ⟨a13,d13,C13⟩:∃ a d,G.Fn _ mg "worth_at" G.s_d ["kind","number"] a d:=by
   refine' ⟨_,_,G.fn1 KX G0 ?e ?l ?g ?k (fun F=>F.binds (ps:=["kind","number"]) fun _ _ _ _ _ _ us hl=>match us,hl with | [_,_],_=>rfl)⟩
   (case e=>k_is)
   (case l=>k_is)
   (case g=>k_is)
   (case k=>k_is)
  obtain ⟨a14,d14,C14⟩:∃ a d,G.Fn _ mg "parts_at" G.K8 ["kinds","number"] a d:=by
   refine' ⟨_,_,G.fn1 KX G0 ?e ?l ?g ?k (fun F=>F.binds (ps:=["kinds","number"]) fun _ _ _ _ _ _ us hl=>match us,hl with | [_,_],_=>rfl)⟩
   (case e=>k_is)
   (case l=>k_is)
   (case g=>k_is)
   (case k=>k_is)
  obtain ⟨a15,d15,C15⟩:∃ a d,G.Fn _ mg "all_worths" G.s_y ["kind"] a d:=by
   refine' ⟨_,_,G.fn1 KX G0 ?e ?l ?g ?k (fun F=>F.binds (ps:=["kind"]) fun _ _ _ _ _ _ us hl=>match us,hl with | [_],_=>rfl)⟩
   (case e=>k_is)
   (case l=>k_is)
   (case g=>k_is)
   (case k=>k_is)
  obtain ⟨a16,d16,C16⟩:∃ a d,G.Fn _ mg "is_bound" G.Kb ["thing"] a d:=by
   refine' ⟨_,_,G.fn1 KX G0 ?e ?l ?g ?k (fun F=>F.binds (ps:=["thing"]) fun _ _ _ _ _ _ us hl=>match us,hl with | [_],_=>rfl)⟩
   (case e=>k_is)
   (case l=>k_is)
   (case g=>k_is)
   (case k=>k_is)
  obtain ⟨a17,d17,C17⟩:∃ a d,G.Fn _ mg "is_word" G.xP ["thing"] a d:=by
   refine' ⟨_,_,G.fn1 KX G0 ?e ?l ?g ?k (fun F=>F.binds (ps:=["thing"]) fun _ _ _ _ _ _ us hl=>match us,hl with | [_],_=>rfl)⟩
   (case e=>k_is)
   (case l=>k_is)
   (case g=>k_is)
   (case k=>k_is)
  obtain ⟨a18,d18,C18⟩:∃ a d,G.Fn _ mg "is_rule_within" G.s_j ["thing","levels"] a d:=by
   refine' ⟨_,_,G.fn1 KX G0 ?e ?l ?g ?k (fun F=>F.binds (ps:=["thing","levels"]) fun _ _ _ _ _ _ us hl=>match us,hl with | [_,_],_=>rfl)⟩
   (case e=>k_is)
   (case l=>k_is)
   (case g=>k_is)
   (case k=>k_is)
  obtain ⟨a19,d19,C19⟩:∃ a d,G.Fn _ mg "is_rule" G.s_3 ["thing"] a d:=by
   refine' ⟨_,_,G.fn1 KX G0 ?e ?l ?g ?k (fun F=>F.binds (ps:=["thing"]) fun _ _ _ _ _ _ us hl=>match us,hl with | [_],_=>rfl)⟩
   (case e=>k_is)
   (case l=>k_is)
   (case g=>k_is)
   (case k=>k_is)
  obtain ⟨a20,d20,C20⟩:∃ a d,G.Fn _ mg "need_rule" G.s_h ["rule"] a d:=by
   refine' ⟨_,_,G.fn1 KX G0 ?e ?l ?g ?k (fun F=>F.binds (ps:=["rule"]) fun _ _ _ _ _ _ us hl=>match us,hl with | [_],_=>rfl)⟩
   (case e=>k_is)
   (case l=>k_is)
   (case g=>k_is)
   (case k=>k_is)
  obtain ⟨a21,d21,C21⟩:∃ a d,G.Fn _ mg "leaves_of" G.s_8 ["worth"] a d:=by
   refine' ⟨_,_,G.fn1 KX G0 ?e ?l ?g ?k (fun F=>F.binds (ps:=["worth"]) fun _ _ _ _ _ _ us hl=>match us,hl with | [_],_=>rfl)⟩
   (case e=>k_is)
   (case l=>k_is)
   (case g=>k_is)
   (case k=>k_is)
  obtain ⟨a22,d22,C22⟩:∃ a d,G.Fn _ mg "numbers_in" G.s_w ["worth"] a d:=by
   refine' ⟨_,_,G.fn1 KX G0 ?e ?l ?g ?k (fun F=>F.binds (ps:=["worth"]) fun _ _ _ _ _ _ us hl=>match us,hl with | [_],_=>rfl)⟩
   (case e=>k_is)
   (case l=>k_is)
   (case g=>k_is)
   (case k=>k_is)
  obtain ⟨a23,d23,C23⟩:∃ a d,G.Fn _ mg "parts_of" G.Kj ["worth"] a d:=by
   refine' ⟨_,_,G.fn1 KX G0 ?e ?l ?g ?k (fun F=>F.binds (ps:=["worth"]) fun _ _ _ _ _ _ us hl=>match us,hl with | [_],_=>rfl)⟩
   (case e=>k_is)
   (case l=>k_is)
   (case g=>k_is)
   (case k=>k_is)
  obtain ⟨a24,d24,C24⟩:∃ a d,G.Fn _ mg "are_rising" G.s_z ["numbers"] a d:=by
   refine' ⟨_,_,G.fn1 KX G0 ?e ?l ?g ?k (fun F=>F.binds (ps:=["numbers"]) fun _ _ _ _ _ _ us hl=>match us,hl with | [_],_=>rfl)⟩
   (case e=>k_is)
   (case l=>k_is)
   (case g=>k_is)
   (case k=>k_is)
  obtain ⟨a25,d25,C25⟩:∃ a d,G.Fn _ mg "are_unlike" G.xQ ["parts"] a d:=by
   refine' ⟨_,_,G.fn1 KX G0 ?e ?l ?g ?k (fun F=>F.binds (ps:=["parts"]) fun _ _ _ _ _ _ us hl=>match us,hl with | [_],_=>rfl)⟩
   (case e=>k_is)
   (case l=>k_is)
   (case g=>k_is)
   (case k=>k_is)
  obtain ⟨a26,d26,C26⟩:∃ a d,G.Fn _ mg "is_single_kept" G.Km ["rule","worth"] a d:=by
   refine' ⟨_,_,G.fn1 KX G0 ?e ?l ?g ?k (fun F=>F.binds (ps:=["rule","worth"]) fun _ _ _ _ _ _ us hl=>match us,hl with | [_,_],_=>rfl)⟩
   (case e=>k_is)
   (case l=>k_is)
   (case g=>k_is)
   (case k=>k_is)
  obtain ⟨a27,d27,C27⟩:∃ a d,G.Fn _ mg "is_kept" G.s_e ["rule","worth"] a d:=by
   refine' ⟨_,_,G.fn1 KX G0 ?e ?l ?g ?k (fun F=>F.binds (ps:=["rule","worth"]) fun _ _ _ _ _ _ us hl=>match us,hl with | [_,_],_=>rfl)⟩
   (case e=>k_is)
   (case l=>k_is)
   (case g=>k_is)
   (case k=>k_is)
  obtain ⟨a28,d28,C28⟩:∃ a d,G.Fn _ mg "left_by" G.xR ["step","worths"] a d:=by
   refine' ⟨_,_,G.fn1 KX G0 ?e ?l ?g ?k (fun F=>F.binds (ps:=["step","worths"]) fun _ _ _ _ _ _ us hl=>match us,hl with | [_,_],_=>rfl)⟩
   (case e=>k_is)
   (case l=>k_is)
   (case g=>k_is)
   (case k=>k_is)
  obtain ⟨a29,d29,C29⟩:∃ a d,G.Fn _ mg "_law_cell" G.s_x ["_law_script","_law_k"] a d:=by
   refine' ⟨_,_,G.fn1 KX G0 ?e ?l ?g ?k (fun F=>F.binds (ps:=["_law_script","_law_k"]) fun _ _ _ _ _ _ us hl=>match us,hl with | [_,_],_=>rfl)⟩
   (case e=>k_is)
   (case l=>k_is)
   (case g=>k_is)
   (case k=>k_is)
  obtain ⟨a30,d30,C30⟩:∃ a d,G.Fn _ mg "_law_pick" G.s_s ["_law_script","_law_k","_law_many"] a d:=by
   refine' ⟨_,_,G.fn1 KX G0 ?e ?l ?g ?k (fun F=>F.binds (ps:=["_law_script","_law_k","_law_many"]) fun _ _ _ _ _ _ us hl=>match us,hl with | [_,_,_],_=>rfl)⟩
   (case e=>k_is)
   (case l=>k_is)
   (case g=>k_is)
   (case k=>k_is)
  obtain ⟨a31,d31,C31⟩:∃ a d,G.Fn _ mg "_law_class" G.s_f ["_law_kept"] a d:=by
   refine' ⟨_,_,G.fn1 KX G0 ?e ?l ?g ?k (fun F=>F.binds (ps:=["_law_kept"]) fun _ _ _ _ _ _ us hl=>match us,hl with | [_],_=>rfl)⟩
   (case e=>k_is)
   (case l=>k_is)
   (case g=>k_is)
   (case k=>k_is)
  obtain ⟨a32,d32,C32⟩:∃ a d,G.Fn _ mg "need_text" G.s_p ["thing"] a d:=by
   refine' ⟨_,_,G.fn1 KX G0 ?e ?l ?g ?k (fun F=>F.binds (ps:=["thing"]) fun _ _ _ _ _ _ us hl=>match us,hl with | [_],_=>rfl)⟩
   (case e=>k_is)
   (case l=>k_is)
   (case g=>k_is)
   (case k=>k_is)
  obtain ⟨a33,d33,C33⟩:∃ a d,G.Fn _ mg "lines_in" G.Kx ["text"] a d:=by
   refine' ⟨_,_,G.fn1 KX G0 ?e ?l ?g ?k (fun F=>F.binds (ps:=["text"]) fun _ _ _ _ _ _ us hl=>match us,hl with | [_],_=>rfl)⟩
   (case e=>k_is)
   (case l=>k_is)
   (case g=>k_is)
   (case k=>k_is)
  obtain ⟨a34,d34,C34⟩:∃ a d,G.Fn _ mg "choice_in" G.wf ["text"] a d:=by
   refine' ⟨_,_,G.fn1 KX G0 ?e ?l ?g ?k (fun F=>F.binds (ps:=["text"]) fun _ _ _ _ _ _ us hl=>match us,hl with | [_],_=>rfl)⟩
   (case e=>k_is)
   (case l=>k_is)
   (case g=>k_is)
   (case k=>k_is)
  obtain ⟨a35,d35,C35⟩:∃ a d,G.Fn _ mg "text_inside" G.Ky ["text","opening","closing"] a d:=by
   refine' ⟨_,_,G.fn1 KX G0 ?e ?l ?g ?k (fun F=>F.binds (ps:=["text","opening","closing"]) fun _ _ _ _ _ _ us hl=>match us,hl with | [_,_,_],_=>rfl)⟩
   (case e=>k_is)
   (case l=>k_is)
   (case g=>k_is)
   (case k=>k_is)
  obtain ⟨a36,d36,C36⟩:∃ a d,G.Fn _ mg "pieces_between" G.Kz ["text","mark"] a d:=by
   refine' ⟨_,_,G.fn1 KX G0 ?e ?l ?g ?k (fun F=>F.binds (ps:=["text","mark"]) fun _ _ _ _ _ _ us hl=>match us,hl with | [_,_],_=>rfl)⟩
   (case e=>k_is)
   (case l=>k_is)
   (case g=>k_is)
   (case k=>k_is)
  obtain ⟨a37,d37,C37⟩:∃ a d,G.Fn _ mg "number_in" G.KA ["text"] a d:=by
   refine' ⟨_,_,G.fn1 KX G0 ?e ?l ?g ?k (fun F=>F.binds (ps:=["text"]) fun _ _ _ _ _ _ us hl=>match us,hl with | [_],_=>rfl)⟩
   (case e=>k_is)
   (case l=>k_is)
   (case g=>k_is)
   (case k=>k_is)
  obtain ⟨a38,d38,C38⟩:∃ a d,G.Fn _ mg "span_in" G.KC ["text"] a d:=by
   refine' ⟨_,_,G.fn1 KX G0 ?e ?l ?g ?k (fun F=>F.binds (ps:=["text"]) fun _ _ _ _ _ _ us hl=>match us,hl with | [_],_=>rfl)⟩
   (case e=>k_is)
   (case l=>k_is)
   (case g=>k_is)
   (case k=>k_is)
  obtain ⟨a39,d39,C39⟩:∃ a d,G.Fn _ mg "kind_in" G.s_b ["text","levels"] a d:=by
   refine' ⟨_,_,G.fn1 KX G0 ?e ?l ?g ?k (fun F=>F.binds (ps:=["text","levels"]) fun _ _ _ _ _ _ us hl=>match us,hl with | [_,_],_=>rfl)⟩
   (case e=>k_is)
   (case l=>k_is)
   (case g=>k_is)
   (case k=>k_is)
  obtain ⟨a40,d40,C40⟩:∃ a d,G.Fn _ mg "read_kind" G.KG ["text"] a d:=by
   refine' ⟨_,_,G.fn1 KX G0 ?e ?l ?g ?k (fun F=>F.binds (ps:=["text"]) fun _ _ _ _ _ _ us hl=>match us,hl with | [_],_=>rfl)⟩
   (case e=>k_is)
   (case l=>k_is)
   (case g=>k_is)
   (case k=>k_is)
  obtain ⟨a41,d41,C41⟩:∃ a d,G.Fn _ mg "read_sieve" G.s_v ["text"] a d:=by
   refine' ⟨_,_,G.fn1 KX G0 ?e ?l ?g ?k (fun F=>F.binds (ps:=["text"]) fun _ _ _ _ _ _ us hl=>match us,hl with | [_],_=>rfl)⟩
   (case e=>k_is)
   (case l=>k_is)
   (case g=>k_is)
   (case k=>k_is)
  obtain ⟨a42,d42,C42⟩:∃ a d,G.Fn _ mg "_law_told" G.jm ["_law_deed"] a d:=by
   refine' ⟨_,_,G.fn1 KX G0 ?e ?l ?g ?k (fun F=>F.binds (ps:=["_law_deed"]) fun _ _ _ _ _ _ us hl=>match us,hl with | [_],_=>rfl)⟩
   (case e=>k_is)
   (case l=>k_is)
   (case g=>k_is)
   (case k=>k_is)
  obtain ⟨a43,d43,C43⟩:∃ a d,G.Fn _ mg "span_written" G.KJ ["low","high"] a d:=by
   refine' ⟨_,_,G.fn1 KX G0 ?e ?l ?g ?k (fun F=>F.binds (ps:=["low","high"]) fun _ _ _ _ _ _ us hl=>match us,hl with | [_,_],_=>rfl)⟩
   (case e=>k_is)
   (case l=>k_is)
   (case g=>k_is)
   (case k=>k_is)
  obtain ⟨a44,d44,C44⟩:∃ a d,G.Fn _ mg "kind_written" G.s_9 ["kind"] a d:=by
   refine' ⟨_,_,G.fn1 KX G0 ?e ?l ?g ?k (fun F=>F.binds (ps:=["kind"]) fun _ _ _ _ _ _ us hl=>match us,hl with | [_],_=>rfl)⟩
   (case e=>k_is)
   (case l=>k_is)
   (case g=>k_is)
   (case k=>k_is)
  obtain ⟨a45,d45,C45⟩:∃ a d,G.Fn _ mg "kind_text" G.KL ["kind"] a d:=by
   refine' ⟨_,_,G.fn1 KX G0 ?e ?l ?g ?k (fun F=>F.binds (ps:=["kind"]) fun _ _ _ _ _ _ us hl=>match us,hl with | [_],_=>rfl)⟩
   (case e=>k_is)
   (case l=>k_is)
   (case g=>k_is)
   (case k=>k_is)
  obtain ⟨a46,d46,C46⟩:∃ a d,G.Fn _ mg "is_of_rules" G.KN ["word"] a d:=by
   refine' ⟨_,_,G.fn1 KX G0 ?e ?l ?g ?k (fun F=>F.binds (ps:=["word"]) fun _ _ _ _ _ _ us hl=>match us,hl with | [_],_=>rfl)⟩
   (case e=>k_is)
   (case l=>k_is)
   (case g=>k_is)
   (case k=>k_is)
  obtain ⟨a47,d47,C47⟩:∃ a d,G.Fn _ mg "rule_written" G.s_c ["rule"] a d:=by
   refine' ⟨_,_,G.fn1 KX G0 ?e ?l ?g ?k (fun F=>F.binds (ps:=["rule"]) fun _ _ _ _ _ _ us hl=>match us,hl with | [_],_=>rfl)⟩
   (case e=>k_is)
   (case l=>k_is)
   (case g=>k_is)
   (case k=>k_is)
  obtain ⟨a48,d48,C48⟩:∃ a d,G.Fn _ mg "rule_text" G.KP ["rule"] a d:=by
   refine' ⟨_,_,G.fn1 KX G0 ?e ?l ?g ?k (fun F=>F.binds (ps:=["rule"]) fun _ _ _ _ _ _ us hl=>match us,hl with | [_],_=>rfl)⟩
   (case e=>k_is)
   (case l=>k_is)
   (case g=>k_is)
   (case k=>k_is)
  obtain ⟨a49,d49,C49⟩:∃ a d,G.Fn _ mg "sieve_text" G.s_n ["sieve"] a d:=by
   refine' ⟨_,_,G.fn1 KX G0 ?e ?l ?g ?k (fun F=>F.binds (ps:=["sieve"]) fun _ _ _ _ _ _ us hl=>match us,hl with | [_],_=>rfl)⟩
   (case e=>k_is)
   (case l=>k_is)
   (case g=>k_is)
   (case k=>k_is)
  obtain ⟨a50,d50,C50,hB,kl,Pl,el,ol,tl,gl⟩:∃ a d,G.Fn _ mg "law" G.s_0 ["_law_script"] a d/\(∀ (s:PySem.Shared) (v:PySem.Value),BindsTo s d ⟨[v],[]⟩ [("_law_script",v)])/\∃ c P,d.code= .ref c/\∃ o,G.KT KX c P o/\h.get? P=some (PySem.W.tabObj #[]):=by
   refine' ⟨_,_,G.fn1 KX G0 ?e ?l ?g ?k (fun F=>F.binds (ps:=["_law_script"]) fun _ _ _ _ _ _ us hl=>match us,hl with | [_],_=>rfl),fun s v=> .of_eq rfl,_,_,rfl,_,⟨?t, ?u, ?h, ?n⟩, ?m⟩
   (case e=>k_is)
   (case l=>k_is)
   (case g=>k_is)
   (case k=>k_is)
   (case t=>k_is)
   (case u=>exact rfl)
   (case h=>kernel_rfl)
   (case n=>kernel_rfl)
   (case m=>exact hT _ (by decide))
  refine' G.fin_ KX G0 hmg ⟨eSieve,aSieve_init,dSieve_init,aSieve_left,dSieve_left,aSieve_do_step,dSieve_do_step,aSieve_new_step,dSieve_new_step,aSieve_keep,dSieve_keep,aSieve_bar,dSieve_bar,aSieve_back,dSieve_back,aSieve_worths,dSieve_worths,aSieve_counts,dSieve_counts,aSieve_forth,dSieve_forth,aSieve_base,dSieve_base,aSieve_steps,dSieve_steps,CSieve,a0,d0,C0,a1,d1,C1,a2,d2,C2,a3,d3,C3,a4,d4,C4,a5,d5,C5,a6,d6,C6,a7,d7,C7,a8,d8,C8,a9,d9,C9,a10,d10,C10,a11,d11,C11,a12,d12,C12,a13,d13,C13,a14,d14,C14,a15,d15,C15,a16,d16,C16,a17,d17,C17,a18,d18,C18,a19,d19,C19,a20,d20,C20,a21,d21,C21,a22,d22,C22,a23,d23,C23,a24,d24,C24,a25,d25,C25,a26,d26,C26,a27,d27,C27,a28,d28,C28,a29,d29,C29,a30,d30,C30,a31,d31,C31,a32,d32,C32,a33,d33,C33,a34,d34,C34,a35,d35,C35,a36,d36,C36,a37,d37,C37,a38,d38,C38,a39,d39,C39,a40,d40,C40,a41,d41,C41,a42,d42,C42,a43,d43,C43,a44,d44,C44,a45,d45,C45,a46,d46,C46,a47,d47,C47,a48,d48,C48,a49,d49,C49,a50,d50,C50,kl,Pl,el,tl.h,tl.n,PySem.W.mg_none_of KX G0 (by k_is),PySem.W.mg_none_of KX G0 (by k_is),PySem.W.mg_none_of KX G0 (by k_is),PySem.W.mg_none_of KX G0 (by k_is),PySem.W.mg_none_of KX G0 (by k_is),PySem.W.mg_none_of KX G0 (by k_is),PySem.W.mg_none_of KX G0 (by k_is),PySem.W.mg_none_of KX G0 (by k_is),PySem.W.mg_none_of KX G0 (by k_is),PySem.W.mg_none_of KX G0 (by k_is),PySem.W.mg_none_of KX G0 (by k_is),PySem.W.mg_none_of KX G0 (by k_is),PySem.W.mg_none_of KX G0 (by k_is),PySem.W.mg_none_of KX G0 (by k_is),PySem.W.mg_none_of KX G0 (by k_is),⟨_,PySem.W.mg_of KX G0 (by k_is),_,rfl⟩,⟨_,PySem.W.mg_of KX G0 (by k_is),_,rfl⟩,⟨_,PySem.W.mg_of KX G0 (by k_is),_,rfl⟩,⟨_,PySem.W.mg_of KX G0 (by k_is),_,rfl⟩,⟨_,PySem.W.mg_of KX G0 (by k_is),_,rfl⟩⟩ hB gl ?n0 ?n1 ?n2 ?n3 ?n4 ?n5 ?n6 ?n7 ?b0 ?b1 ?b2 ?b3 ?b4 ?b5 ?b6 ?b7 ?b8 ?b9 ?b10 ?b11 ?b12 ?b13 ?b14
  (case n0=>k_is)
  (case n1=>k_is)
  (case n2=>k_is)
  (case n3=>k_is)
  (case n4=>k_is)
  (case n5=>k_is)
  (case n6=>k_is)
  (case n7=>k_is)
  (case b0=>kernel_rfl)
  (case b1=>kernel_rfl)
  (case b2=>kernel_rfl)
  (case b3=>kernel_rfl)
  (case b4=>kernel_rfl)
  (case b5=>kernel_rfl)
  (case b6=>kernel_rfl)
  (case b7=>kernel_rfl)
  (case b8=>kernel_rfl)
  (case b9=>kernel_rfl)
  (case b10=>kernel_rfl)
  (case b11=>kernel_rfl)
  (case b12=>kernel_rfl)
  (case b13=>kernel_rfl)
  (case b14=>kernel_rfl)
